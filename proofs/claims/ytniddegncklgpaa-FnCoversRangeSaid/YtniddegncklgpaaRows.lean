/-
  No cell of these rows narrows 'for every input' (looked for: loops, veiled, ifaces, maps, wideKeys, modest, calm, conditions, laid).
  DERIVED. THE GIVEN ROWS OF THIS SEAT. 8 by the template 'for every input the law returns true; each argument reads behind the call as it read before'; 0 by the template 'total and deterministic' (their statements: YtniddegncklgpaaTotals.lean).
  GIVEN WITH THE SEED: the statements are not yours to turn. If you find one false, say at which input.
  Laid BY PROGRAM, IN A SANDBOX (cutbox-rows.mjs): the forced cells as the released guide's own fill.sh prints them over the translation 51f0097bd5a8fcda… (all of the seat's roots in one cut). By AI agents, Wed Nov 11 2026. No macro, syntax, notation, axiom, sorry.
-/
import Derived.Test.YtniddegncklgpaaChecked
import GoSem.Claim
import GoSem.ClaimJoined
import GoSem.ClaimMapViews
import Derived.JoinedTies
import Derived.KernelRfl
namespace Go.Proofs.Ytniddegncklgpaa
/- THE CELL 'sum', in the pinned program and in every row, IS THE sha256 OF THE DUMP (.gsa) THAT YtniddegncklgpaaProg.lean LOADS. Nothing in Lean hashes anything: it is a label: what it is worth is what the hold of that sum in a sandbox is worth. -/
noncomputable def Try.pinned : Pinned := { name := "ytniddegncklgpaa", sum := "51f0097bd5a8fcda714cce6e0ba84a95724ad848f67f6f075634d28548e62912", checked := Try.checked }
namespace Rows
def none {H : Type} : Left H := { results := [], args := [] }

/-- 'laws.FnIndicesOf': WHATEVER THE INPUT: true; the input reads as it did. -/
def fnIndicesOfSpec : ChangeSpec := { name := "fnIndicesOf", fn := fun _ => fun
  | [d] => { results := [.lit (.bool true)], args := [d] }
  | _ => none }
def fnIndicesOfRow : OpenClaim := { program := "ytniddegncklgpaa", sum := "51f0097bd5a8fcda714cce6e0ba84a95724ad848f67f6f075634d28548e62912", func := "loop.example/strideviews/laws.FnIndicesOf", spec := "fnIndicesOf", apart := false }
def FnIndicesOfSaid : Prop := fnIndicesOfRow.holds Try.pinned (OpenSpec.ofChange fnIndicesOfSpec)

/-- ITS FALSE NEIGHBOUR: 'it returns false'. Refute it at one input. -/
def fnIndicesOfWrong : ChangeSpec := { name := "fnIndicesOf", fn := fun _ => fun
  | [d] => { results := [.lit (.bool false)], args := [d] }
  | _ => none }
def FnIndicesOfWrongFalsely : Prop := fnIndicesOfRow.holds Try.pinned (OpenSpec.ofChange fnIndicesOfWrong)

/-- 'laws.FnIndicesOfSplit': WHATEVER THE INPUT: true; the input reads as it did. -/
def fnIndicesOfSplitSpec : ChangeSpec := { name := "fnIndicesOfSplit", fn := fun _ => fun
  | [d] => { results := [.lit (.bool true)], args := [d] }
  | _ => none }
def fnIndicesOfSplitRow : OpenClaim := { program := "ytniddegncklgpaa", sum := "51f0097bd5a8fcda714cce6e0ba84a95724ad848f67f6f075634d28548e62912", func := "loop.example/strideviews/laws.FnIndicesOfSplit", spec := "fnIndicesOfSplit", apart := false }
def FnIndicesOfSplitSaid : Prop := fnIndicesOfSplitRow.holds Try.pinned (OpenSpec.ofChange fnIndicesOfSplitSpec)

/-- ITS FALSE NEIGHBOUR: 'it returns false'. Refute it at one input. -/
def fnIndicesOfSplitWrong : ChangeSpec := { name := "fnIndicesOfSplit", fn := fun _ => fun
  | [d] => { results := [.lit (.bool false)], args := [d] }
  | _ => none }
def FnIndicesOfSplitWrongFalsely : Prop := fnIndicesOfSplitRow.holds Try.pinned (OpenSpec.ofChange fnIndicesOfSplitWrong)

/-- 'laws.FnSliceRange': WHATEVER THE INPUT: true; the input reads as it did. -/
def fnSliceRangeSpec : ChangeSpec := { name := "fnSliceRange", fn := fun _ => fun
  | [d] => { results := [.lit (.bool true)], args := [d] }
  | _ => none }
def fnSliceRangeRow : OpenClaim := { program := "ytniddegncklgpaa", sum := "51f0097bd5a8fcda714cce6e0ba84a95724ad848f67f6f075634d28548e62912", func := "loop.example/strideviews/laws.FnSliceRange", spec := "fnSliceRange", apart := false }
def FnSliceRangeSaid : Prop := fnSliceRangeRow.holds Try.pinned (OpenSpec.ofChange fnSliceRangeSpec)

/-- ITS FALSE NEIGHBOUR: 'it returns false'. Refute it at one input. -/
def fnSliceRangeWrong : ChangeSpec := { name := "fnSliceRange", fn := fun _ => fun
  | [d] => { results := [.lit (.bool false)], args := [d] }
  | _ => none }
def FnSliceRangeWrongFalsely : Prop := fnSliceRangeRow.holds Try.pinned (OpenSpec.ofChange fnSliceRangeWrong)

/-- 'laws.FnMergeSlices': WHATEVER THE INPUT: true; the input reads as it did. -/
def fnMergeSlicesSpec : ChangeSpec := { name := "fnMergeSlices", fn := fun _ => fun
  | [d] => { results := [.lit (.bool true)], args := [d] }
  | _ => none }
def fnMergeSlicesRow : OpenClaim := { program := "ytniddegncklgpaa", sum := "51f0097bd5a8fcda714cce6e0ba84a95724ad848f67f6f075634d28548e62912", func := "loop.example/strideviews/laws.FnMergeSlices", spec := "fnMergeSlices", apart := false }
def FnMergeSlicesSaid : Prop := fnMergeSlicesRow.holds Try.pinned (OpenSpec.ofChange fnMergeSlicesSpec)

/-- ITS FALSE NEIGHBOUR: 'it returns false'. Refute it at one input. -/
def fnMergeSlicesWrong : ChangeSpec := { name := "fnMergeSlices", fn := fun _ => fun
  | [d] => { results := [.lit (.bool false)], args := [d] }
  | _ => none }
def FnMergeSlicesWrongFalsely : Prop := fnMergeSlicesRow.holds Try.pinned (OpenSpec.ofChange fnMergeSlicesWrong)

/-- 'laws.FnMeetRanges': WHATEVER THE INPUT: true; the input reads as it did. -/
def fnMeetRangesSpec : ChangeSpec := { name := "fnMeetRanges", fn := fun _ => fun
  | [d] => { results := [.lit (.bool true)], args := [d] }
  | _ => none }
def fnMeetRangesRow : OpenClaim := { program := "ytniddegncklgpaa", sum := "51f0097bd5a8fcda714cce6e0ba84a95724ad848f67f6f075634d28548e62912", func := "loop.example/strideviews/laws.FnMeetRanges", spec := "fnMeetRanges", apart := false }
def FnMeetRangesSaid : Prop := fnMeetRangesRow.holds Try.pinned (OpenSpec.ofChange fnMeetRangesSpec)

/-- ITS FALSE NEIGHBOUR: 'it returns false'. Refute it at one input. -/
def fnMeetRangesWrong : ChangeSpec := { name := "fnMeetRanges", fn := fun _ => fun
  | [d] => { results := [.lit (.bool false)], args := [d] }
  | _ => none }
def FnMeetRangesWrongFalsely : Prop := fnMeetRangesRow.holds Try.pinned (OpenSpec.ofChange fnMeetRangesWrong)

/-- 'laws.FnMeetRangesStep': WHATEVER THE INPUT: true; the input reads as it did. -/
def fnMeetRangesStepSpec : ChangeSpec := { name := "fnMeetRangesStep", fn := fun _ => fun
  | [d] => { results := [.lit (.bool true)], args := [d] }
  | _ => none }
def fnMeetRangesStepRow : OpenClaim := { program := "ytniddegncklgpaa", sum := "51f0097bd5a8fcda714cce6e0ba84a95724ad848f67f6f075634d28548e62912", func := "loop.example/strideviews/laws.FnMeetRangesStep", spec := "fnMeetRangesStep", apart := false }
def FnMeetRangesStepSaid : Prop := fnMeetRangesStepRow.holds Try.pinned (OpenSpec.ofChange fnMeetRangesStepSpec)

/-- ITS FALSE NEIGHBOUR: 'it returns false'. Refute it at one input. -/
def fnMeetRangesStepWrong : ChangeSpec := { name := "fnMeetRangesStep", fn := fun _ => fun
  | [d] => { results := [.lit (.bool false)], args := [d] }
  | _ => none }
def FnMeetRangesStepWrongFalsely : Prop := fnMeetRangesStepRow.holds Try.pinned (OpenSpec.ofChange fnMeetRangesStepWrong)

/-- 'laws.FnCoversRange': WHATEVER THE INPUT: true; the input reads as it did. -/
def fnCoversRangeSpec : ChangeSpec := { name := "fnCoversRange", fn := fun _ => fun
  | [d] => { results := [.lit (.bool true)], args := [d] }
  | _ => none }
def fnCoversRangeRow : OpenClaim := { program := "ytniddegncklgpaa", sum := "51f0097bd5a8fcda714cce6e0ba84a95724ad848f67f6f075634d28548e62912", func := "loop.example/strideviews/laws.FnCoversRange", spec := "fnCoversRange", apart := false }
def FnCoversRangeSaid : Prop := fnCoversRangeRow.holds Try.pinned (OpenSpec.ofChange fnCoversRangeSpec)

/-- ITS FALSE NEIGHBOUR: 'it returns false'. Refute it at one input. -/
def fnCoversRangeWrong : ChangeSpec := { name := "fnCoversRange", fn := fun _ => fun
  | [d] => { results := [.lit (.bool false)], args := [d] }
  | _ => none }
def FnCoversRangeWrongFalsely : Prop := fnCoversRangeRow.holds Try.pinned (OpenSpec.ofChange fnCoversRangeWrong)

/-- 'laws.FnSumOf': WHATEVER THE INPUT: true; the input reads as it did. -/
def fnSumOfSpec : ChangeSpec := { name := "fnSumOf", fn := fun _ => fun
  | [d] => { results := [.lit (.bool true)], args := [d] }
  | _ => none }
def fnSumOfRow : OpenClaim := { program := "ytniddegncklgpaa", sum := "51f0097bd5a8fcda714cce6e0ba84a95724ad848f67f6f075634d28548e62912", func := "loop.example/strideviews/laws.FnSumOf", spec := "fnSumOf", apart := false }
def FnSumOfSaid : Prop := fnSumOfRow.holds Try.pinned (OpenSpec.ofChange fnSumOfSpec)

/-- ITS FALSE NEIGHBOUR: 'it returns false'. Refute it at one input. -/
def fnSumOfWrong : ChangeSpec := { name := "fnSumOf", fn := fun _ => fun
  | [d] => { results := [.lit (.bool false)], args := [d] }
  | _ => none }
def FnSumOfWrongFalsely : Prop := fnSumOfRow.holds Try.pinned (OpenSpec.ofChange fnSumOfWrong)

/- THE SECOND FORM. 'bulk': how many values and letters a reading holds, each counted each time it is reached (what is shared counts as often as it is met; a slice's spare places count too). A statement '..UptoSaid' is the law's where the arguments, and the package variables that the reading takes, are together of bulk at most 1048576: NARROWER than '..Said'. Prove '..Said' where nothing that the law and all that it calls make is longer than what came in: it says more and counts as full. Else prove '..UptoSaid'. A law counts once. -/
mutual
def uptoBulk {H : Type} : DataW H → Nat
  | .lit (.string bytes) => bytes.length + 1
  | .lit _ => 1
  | .nil => 1
  | .ptr d => uptoBulk d + 1
  | .slice elems spare => uptoBulkAll elems + uptoBulkAll spare + 1
  | .agg parts => uptoBulkAll parts + 1
  | .iface _ d => uptoBulk d + 1
  | .map entries => uptoBulkEntries entries + 1
  | .held _ => 1
def uptoBulkAll {H : Type} : List (DataW H) → Nat
  | [] => 0
  | d :: r => uptoBulk d + uptoBulkAll r
def uptoBulkEntries {H : Type} : List (Lit × DataW H) → Nat
  | [] => 0
  | x :: r => uptoBulkEntry x + uptoBulkEntries r
def uptoBulkEntry {H : Type} : Lit × DataW H → Nat
  | (.string bytes, d) => bytes.length + uptoBulk d + 1
  | (_, d) => uptoBulk d + 1
 end
def uptoSmall : (H : Type) → List (DataW H) → Bool := fun _ ds => decide (uptoBulkAll ds ≤ 1048576)
def OpenSpec.upto (s : _root_.Go.ChangeSpec) : _root_.Go.OpenSpec := { _root_.Go.OpenSpec.ofChange s with cond := some uptoSmall }

/-- 'laws.FnIndicesOf', WHERE WHAT IT READS IS OF BULK AT MOST 1048576: true; the input reads as it did. -/
def fnIndicesOfUptoRow : OpenClaim := { program := "ytniddegncklgpaa", sum := "51f0097bd5a8fcda714cce6e0ba84a95724ad848f67f6f075634d28548e62912", func := "loop.example/strideviews/laws.FnIndicesOf", spec := "fnIndicesOf", apart := false, narrowed := true }
def FnIndicesOfUptoSaid : Prop := fnIndicesOfUptoRow.holds Try.pinned (OpenSpec.upto fnIndicesOfSpec)

/-- 'laws.FnIndicesOfSplit', WHERE WHAT IT READS IS OF BULK AT MOST 1048576: true; the input reads as it did. -/
def fnIndicesOfSplitUptoRow : OpenClaim := { program := "ytniddegncklgpaa", sum := "51f0097bd5a8fcda714cce6e0ba84a95724ad848f67f6f075634d28548e62912", func := "loop.example/strideviews/laws.FnIndicesOfSplit", spec := "fnIndicesOfSplit", apart := false, narrowed := true }
def FnIndicesOfSplitUptoSaid : Prop := fnIndicesOfSplitUptoRow.holds Try.pinned (OpenSpec.upto fnIndicesOfSplitSpec)

/-- 'laws.FnSliceRange', WHERE WHAT IT READS IS OF BULK AT MOST 1048576: true; the input reads as it did. -/
def fnSliceRangeUptoRow : OpenClaim := { program := "ytniddegncklgpaa", sum := "51f0097bd5a8fcda714cce6e0ba84a95724ad848f67f6f075634d28548e62912", func := "loop.example/strideviews/laws.FnSliceRange", spec := "fnSliceRange", apart := false, narrowed := true }
def FnSliceRangeUptoSaid : Prop := fnSliceRangeUptoRow.holds Try.pinned (OpenSpec.upto fnSliceRangeSpec)

/-- 'laws.FnMergeSlices', WHERE WHAT IT READS IS OF BULK AT MOST 1048576: true; the input reads as it did. -/
def fnMergeSlicesUptoRow : OpenClaim := { program := "ytniddegncklgpaa", sum := "51f0097bd5a8fcda714cce6e0ba84a95724ad848f67f6f075634d28548e62912", func := "loop.example/strideviews/laws.FnMergeSlices", spec := "fnMergeSlices", apart := false, narrowed := true }
def FnMergeSlicesUptoSaid : Prop := fnMergeSlicesUptoRow.holds Try.pinned (OpenSpec.upto fnMergeSlicesSpec)

/-- 'laws.FnMeetRanges', WHERE WHAT IT READS IS OF BULK AT MOST 1048576: true; the input reads as it did. -/
def fnMeetRangesUptoRow : OpenClaim := { program := "ytniddegncklgpaa", sum := "51f0097bd5a8fcda714cce6e0ba84a95724ad848f67f6f075634d28548e62912", func := "loop.example/strideviews/laws.FnMeetRanges", spec := "fnMeetRanges", apart := false, narrowed := true }
def FnMeetRangesUptoSaid : Prop := fnMeetRangesUptoRow.holds Try.pinned (OpenSpec.upto fnMeetRangesSpec)

/-- 'laws.FnMeetRangesStep', WHERE WHAT IT READS IS OF BULK AT MOST 1048576: true; the input reads as it did. -/
def fnMeetRangesStepUptoRow : OpenClaim := { program := "ytniddegncklgpaa", sum := "51f0097bd5a8fcda714cce6e0ba84a95724ad848f67f6f075634d28548e62912", func := "loop.example/strideviews/laws.FnMeetRangesStep", spec := "fnMeetRangesStep", apart := false, narrowed := true }
def FnMeetRangesStepUptoSaid : Prop := fnMeetRangesStepUptoRow.holds Try.pinned (OpenSpec.upto fnMeetRangesStepSpec)

/-- 'laws.FnCoversRange', WHERE WHAT IT READS IS OF BULK AT MOST 1048576: true; the input reads as it did. -/
def fnCoversRangeUptoRow : OpenClaim := { program := "ytniddegncklgpaa", sum := "51f0097bd5a8fcda714cce6e0ba84a95724ad848f67f6f075634d28548e62912", func := "loop.example/strideviews/laws.FnCoversRange", spec := "fnCoversRange", apart := false, narrowed := true }
def FnCoversRangeUptoSaid : Prop := fnCoversRangeUptoRow.holds Try.pinned (OpenSpec.upto fnCoversRangeSpec)

/-- 'laws.FnSumOf', WHERE WHAT IT READS IS OF BULK AT MOST 1048576: true; the input reads as it did. -/
def fnSumOfUptoRow : OpenClaim := { program := "ytniddegncklgpaa", sum := "51f0097bd5a8fcda714cce6e0ba84a95724ad848f67f6f075634d28548e62912", func := "loop.example/strideviews/laws.FnSumOf", spec := "fnSumOf", apart := false, narrowed := true }
def FnSumOfUptoSaid : Prop := fnSumOfUptoRow.holds Try.pinned (OpenSpec.upto fnSumOfSpec)

end Rows
end Go.Proofs.Ytniddegncklgpaa
