/-
  No cell of these rows narrows 'for every input' (looked for: loops, veiled, ifaces, maps, wideKeys, modest, calm, conditions, laid).
  DERIVED. THE GIVEN ROWS OF THIS SEAT. 7 by the template 'for every input the law returns true; each argument reads behind the call as it read before'; 0 by the template 'total and deterministic' (their statements: YtlnlppeecmnmbaaTotals.lean).
  GIVEN WITH THE SEED: the statements are not yours to turn. If you find one false, say at which input.
  Laid BY PROGRAM, IN A SANDBOX (cutbox-rows.mjs): the forced cells as the released guide's own fill.sh prints them over the translation 761b1613660b9d5e… (all of the seat's roots in one cut). By AI agents, Wed Nov 11 2026. No macro, syntax, notation, axiom, sorry.
-/
import Derived.Test.YtlnlppeecmnmbaaChecked
import GoSem.Claim
import GoSem.ClaimJoined
import GoSem.ClaimMapViews
import Derived.JoinedTies
import Derived.KernelRfl
namespace Go.Proofs.Ytlnlppeecmnmbaa
/- THE CELL 'sum', in the pinned program and in every row, IS THE sha256 OF THE DUMP (.gsa) THAT YtlnlppeecmnmbaaProg.lean LOADS. Nothing in Lean hashes anything: it is a label: what it is worth is what the hold of that sum in a sandbox is worth. -/
noncomputable def Try.pinned : Pinned := { name := "ytlnlppeecmnmbaa", sum := "761b1613660b9d5e6b9e9fec830cc3244f8d70c75da9aefa29be77ad403eca48", checked := Try.checked }
namespace Rows
def none {H : Type} : Left H := { results := [], args := [] }

/-- 'laws.FnExactNumbersOf': WHATEVER THE INPUT: true; the input reads as it did. -/
def fnExactNumbersOfSpec : ChangeSpec := { name := "fnExactNumbersOf", fn := fun _ => fun
  | [d] => { results := [.lit (.bool true)], args := [d] }
  | _ => none }
def fnExactNumbersOfRow : OpenClaim := { program := "ytlnlppeecmnmbaa", sum := "761b1613660b9d5e6b9e9fec830cc3244f8d70c75da9aefa29be77ad403eca48", func := "loop.example/strideviews/laws.FnExactNumbersOf", spec := "fnExactNumbersOf", apart := false }
def FnExactNumbersOfSaid : Prop := fnExactNumbersOfRow.holds Try.pinned (OpenSpec.ofChange fnExactNumbersOfSpec)

/-- ITS FALSE NEIGHBOUR: 'it returns false'. Refute it at one input. -/
def fnExactNumbersOfWrong : ChangeSpec := { name := "fnExactNumbersOf", fn := fun _ => fun
  | [d] => { results := [.lit (.bool false)], args := [d] }
  | _ => none }
def FnExactNumbersOfWrongFalsely : Prop := fnExactNumbersOfRow.holds Try.pinned (OpenSpec.ofChange fnExactNumbersOfWrong)

/-- 'laws.FnExactIndicesOf': WHATEVER THE INPUT: true; the input reads as it did. -/
def fnExactIndicesOfSpec : ChangeSpec := { name := "fnExactIndicesOf", fn := fun _ => fun
  | [d1, d2] => { results := [.lit (.bool true)], args := [d1, d2] }
  | _ => none }
def fnExactIndicesOfRow : OpenClaim := { program := "ytlnlppeecmnmbaa", sum := "761b1613660b9d5e6b9e9fec830cc3244f8d70c75da9aefa29be77ad403eca48", func := "loop.example/strideviews/laws.FnExactIndicesOf", spec := "fnExactIndicesOf", apart := false }
def FnExactIndicesOfSaid : Prop := fnExactIndicesOfRow.holds Try.pinned (OpenSpec.ofChange fnExactIndicesOfSpec)

/-- ITS FALSE NEIGHBOUR: 'it returns false'. Refute it at one input. -/
def fnExactIndicesOfWrong : ChangeSpec := { name := "fnExactIndicesOf", fn := fun _ => fun
  | [d1, d2] => { results := [.lit (.bool false)], args := [d1, d2] }
  | _ => none }
def FnExactIndicesOfWrongFalsely : Prop := fnExactIndicesOfRow.holds Try.pinned (OpenSpec.ofChange fnExactIndicesOfWrong)

/-- 'laws.FnExactSliceRange': WHATEVER THE INPUT: true; the input reads as it did. -/
def fnExactSliceRangeSpec : ChangeSpec := { name := "fnExactSliceRange", fn := fun _ => fun
  | [d1, d2] => { results := [.lit (.bool true)], args := [d1, d2] }
  | _ => none }
def fnExactSliceRangeRow : OpenClaim := { program := "ytlnlppeecmnmbaa", sum := "761b1613660b9d5e6b9e9fec830cc3244f8d70c75da9aefa29be77ad403eca48", func := "loop.example/strideviews/laws.FnExactSliceRange", spec := "fnExactSliceRange", apart := false }
def FnExactSliceRangeSaid : Prop := fnExactSliceRangeRow.holds Try.pinned (OpenSpec.ofChange fnExactSliceRangeSpec)

/-- ITS FALSE NEIGHBOUR: 'it returns false'. Refute it at one input. -/
def fnExactSliceRangeWrong : ChangeSpec := { name := "fnExactSliceRange", fn := fun _ => fun
  | [d1, d2] => { results := [.lit (.bool false)], args := [d1, d2] }
  | _ => none }
def FnExactSliceRangeWrongFalsely : Prop := fnExactSliceRangeRow.holds Try.pinned (OpenSpec.ofChange fnExactSliceRangeWrong)

/-- 'laws.FnExactMergeSlices': WHATEVER THE INPUT: true; the input reads as it did. -/
def fnExactMergeSlicesSpec : ChangeSpec := { name := "fnExactMergeSlices", fn := fun _ => fun
  | [d1, d2, d3] => { results := [.lit (.bool true)], args := [d1, d2, d3] }
  | _ => none }
def fnExactMergeSlicesRow : OpenClaim := { program := "ytlnlppeecmnmbaa", sum := "761b1613660b9d5e6b9e9fec830cc3244f8d70c75da9aefa29be77ad403eca48", func := "loop.example/strideviews/laws.FnExactMergeSlices", spec := "fnExactMergeSlices", apart := false }
def FnExactMergeSlicesSaid : Prop := fnExactMergeSlicesRow.holds Try.pinned (OpenSpec.ofChange fnExactMergeSlicesSpec)

/-- ITS FALSE NEIGHBOUR: 'it returns false'. Refute it at one input. -/
def fnExactMergeSlicesWrong : ChangeSpec := { name := "fnExactMergeSlices", fn := fun _ => fun
  | [d1, d2, d3] => { results := [.lit (.bool false)], args := [d1, d2, d3] }
  | _ => none }
def FnExactMergeSlicesWrongFalsely : Prop := fnExactMergeSlicesRow.holds Try.pinned (OpenSpec.ofChange fnExactMergeSlicesWrong)

/-- 'laws.FnExactMeetRanges': WHATEVER THE INPUT: true; the input reads as it did. -/
def fnExactMeetRangesSpec : ChangeSpec := { name := "fnExactMeetRanges", fn := fun _ => fun
  | [d1, d2] => { results := [.lit (.bool true)], args := [d1, d2] }
  | _ => none }
def fnExactMeetRangesRow : OpenClaim := { program := "ytlnlppeecmnmbaa", sum := "761b1613660b9d5e6b9e9fec830cc3244f8d70c75da9aefa29be77ad403eca48", func := "loop.example/strideviews/laws.FnExactMeetRanges", spec := "fnExactMeetRanges", apart := false }
def FnExactMeetRangesSaid : Prop := fnExactMeetRangesRow.holds Try.pinned (OpenSpec.ofChange fnExactMeetRangesSpec)

/-- ITS FALSE NEIGHBOUR: 'it returns false'. Refute it at one input. -/
def fnExactMeetRangesWrong : ChangeSpec := { name := "fnExactMeetRanges", fn := fun _ => fun
  | [d1, d2] => { results := [.lit (.bool false)], args := [d1, d2] }
  | _ => none }
def FnExactMeetRangesWrongFalsely : Prop := fnExactMeetRangesRow.holds Try.pinned (OpenSpec.ofChange fnExactMeetRangesWrong)

/-- 'laws.FnExactCoversRange': WHATEVER THE INPUT: true; the input reads as it did. -/
def fnExactCoversRangeSpec : ChangeSpec := { name := "fnExactCoversRange", fn := fun _ => fun
  | [d1, d2] => { results := [.lit (.bool true)], args := [d1, d2] }
  | _ => none }
def fnExactCoversRangeRow : OpenClaim := { program := "ytlnlppeecmnmbaa", sum := "761b1613660b9d5e6b9e9fec830cc3244f8d70c75da9aefa29be77ad403eca48", func := "loop.example/strideviews/laws.FnExactCoversRange", spec := "fnExactCoversRange", apart := false }
def FnExactCoversRangeSaid : Prop := fnExactCoversRangeRow.holds Try.pinned (OpenSpec.ofChange fnExactCoversRangeSpec)

/-- ITS FALSE NEIGHBOUR: 'it returns false'. Refute it at one input. -/
def fnExactCoversRangeWrong : ChangeSpec := { name := "fnExactCoversRange", fn := fun _ => fun
  | [d1, d2] => { results := [.lit (.bool false)], args := [d1, d2] }
  | _ => none }
def FnExactCoversRangeWrongFalsely : Prop := fnExactCoversRangeRow.holds Try.pinned (OpenSpec.ofChange fnExactCoversRangeWrong)

/-- 'laws.FnExactDealRange': WHATEVER THE INPUT: true; the input reads as it did. -/
def fnExactDealRangeSpec : ChangeSpec := { name := "fnExactDealRange", fn := fun _ => fun
  | [d1, d2] => { results := [.lit (.bool true)], args := [d1, d2] }
  | _ => none }
def fnExactDealRangeRow : OpenClaim := { program := "ytlnlppeecmnmbaa", sum := "761b1613660b9d5e6b9e9fec830cc3244f8d70c75da9aefa29be77ad403eca48", func := "loop.example/strideviews/laws.FnExactDealRange", spec := "fnExactDealRange", apart := false }
def FnExactDealRangeSaid : Prop := fnExactDealRangeRow.holds Try.pinned (OpenSpec.ofChange fnExactDealRangeSpec)

/-- ITS FALSE NEIGHBOUR: 'it returns false'. Refute it at one input. -/
def fnExactDealRangeWrong : ChangeSpec := { name := "fnExactDealRange", fn := fun _ => fun
  | [d1, d2] => { results := [.lit (.bool false)], args := [d1, d2] }
  | _ => none }
def FnExactDealRangeWrongFalsely : Prop := fnExactDealRangeRow.holds Try.pinned (OpenSpec.ofChange fnExactDealRangeWrong)

/- THE SECOND FORM. 'bulk': how many values and letters a reading holds, each counted each time it is reached (what is shared counts as often as it is met; a slice's spare places count too). A statement '..UptoSaid' is the law's where the arguments, and the package variables that the reading takes, are together of bulk at most 1048576: NARROWER than '..Said'. Prove '..Said' where nothing that the law and all that it calls make is longer than what came in: it says more and counts as full. Else prove '..UptoSaid'. A law counts once. -/
mutual
def uptoBulk {H : Type} : DataW H → Nat
  | .lit (.string bytes) => bytes.length + 1
  | .lit _ => 1
  | .nil => 1
  | .ptr d => uptoBulk d + 1
  | .slice elems spare => uptoBulkAll elems + uptoBulkAll spare + 1
  | .agg parts => uptoBulkAll parts + 1
  | .iface _ d => uptoBulk d + 1
  | .map entries => uptoBulkEntries entries + 1
  | .held _ => 1
def uptoBulkAll {H : Type} : List (DataW H) → Nat
  | [] => 0
  | d :: r => uptoBulk d + uptoBulkAll r
def uptoBulkEntries {H : Type} : List (Lit × DataW H) → Nat
  | [] => 0
  | x :: r => uptoBulkEntry x + uptoBulkEntries r
def uptoBulkEntry {H : Type} : Lit × DataW H → Nat
  | (.string bytes, d) => bytes.length + uptoBulk d + 1
  | (_, d) => uptoBulk d + 1
 end
def uptoSmall : (H : Type) → List (DataW H) → Bool := fun _ ds => decide (uptoBulkAll ds ≤ 1048576)
def OpenSpec.upto (s : _root_.Go.ChangeSpec) : _root_.Go.OpenSpec := { _root_.Go.OpenSpec.ofChange s with cond := some uptoSmall }

/-- 'laws.FnExactNumbersOf', WHERE WHAT IT READS IS OF BULK AT MOST 1048576: true; the input reads as it did. -/
def fnExactNumbersOfUptoRow : OpenClaim := { program := "ytlnlppeecmnmbaa", sum := "761b1613660b9d5e6b9e9fec830cc3244f8d70c75da9aefa29be77ad403eca48", func := "loop.example/strideviews/laws.FnExactNumbersOf", spec := "fnExactNumbersOf", apart := false, narrowed := true }
def FnExactNumbersOfUptoSaid : Prop := fnExactNumbersOfUptoRow.holds Try.pinned (OpenSpec.upto fnExactNumbersOfSpec)

/-- 'laws.FnExactIndicesOf', WHERE WHAT IT READS IS OF BULK AT MOST 1048576: true; the input reads as it did. -/
def fnExactIndicesOfUptoRow : OpenClaim := { program := "ytlnlppeecmnmbaa", sum := "761b1613660b9d5e6b9e9fec830cc3244f8d70c75da9aefa29be77ad403eca48", func := "loop.example/strideviews/laws.FnExactIndicesOf", spec := "fnExactIndicesOf", apart := false, narrowed := true }
def FnExactIndicesOfUptoSaid : Prop := fnExactIndicesOfUptoRow.holds Try.pinned (OpenSpec.upto fnExactIndicesOfSpec)

/-- 'laws.FnExactSliceRange', WHERE WHAT IT READS IS OF BULK AT MOST 1048576: true; the input reads as it did. -/
def fnExactSliceRangeUptoRow : OpenClaim := { program := "ytlnlppeecmnmbaa", sum := "761b1613660b9d5e6b9e9fec830cc3244f8d70c75da9aefa29be77ad403eca48", func := "loop.example/strideviews/laws.FnExactSliceRange", spec := "fnExactSliceRange", apart := false, narrowed := true }
def FnExactSliceRangeUptoSaid : Prop := fnExactSliceRangeUptoRow.holds Try.pinned (OpenSpec.upto fnExactSliceRangeSpec)

/-- 'laws.FnExactMergeSlices', WHERE WHAT IT READS IS OF BULK AT MOST 1048576: true; the input reads as it did. -/
def fnExactMergeSlicesUptoRow : OpenClaim := { program := "ytlnlppeecmnmbaa", sum := "761b1613660b9d5e6b9e9fec830cc3244f8d70c75da9aefa29be77ad403eca48", func := "loop.example/strideviews/laws.FnExactMergeSlices", spec := "fnExactMergeSlices", apart := false, narrowed := true }
def FnExactMergeSlicesUptoSaid : Prop := fnExactMergeSlicesUptoRow.holds Try.pinned (OpenSpec.upto fnExactMergeSlicesSpec)

/-- 'laws.FnExactMeetRanges', WHERE WHAT IT READS IS OF BULK AT MOST 1048576: true; the input reads as it did. -/
def fnExactMeetRangesUptoRow : OpenClaim := { program := "ytlnlppeecmnmbaa", sum := "761b1613660b9d5e6b9e9fec830cc3244f8d70c75da9aefa29be77ad403eca48", func := "loop.example/strideviews/laws.FnExactMeetRanges", spec := "fnExactMeetRanges", apart := false, narrowed := true }
def FnExactMeetRangesUptoSaid : Prop := fnExactMeetRangesUptoRow.holds Try.pinned (OpenSpec.upto fnExactMeetRangesSpec)

/-- 'laws.FnExactCoversRange', WHERE WHAT IT READS IS OF BULK AT MOST 1048576: true; the input reads as it did. -/
def fnExactCoversRangeUptoRow : OpenClaim := { program := "ytlnlppeecmnmbaa", sum := "761b1613660b9d5e6b9e9fec830cc3244f8d70c75da9aefa29be77ad403eca48", func := "loop.example/strideviews/laws.FnExactCoversRange", spec := "fnExactCoversRange", apart := false, narrowed := true }
def FnExactCoversRangeUptoSaid : Prop := fnExactCoversRangeUptoRow.holds Try.pinned (OpenSpec.upto fnExactCoversRangeSpec)

/-- 'laws.FnExactDealRange', WHERE WHAT IT READS IS OF BULK AT MOST 1048576: true; the input reads as it did. -/
def fnExactDealRangeUptoRow : OpenClaim := { program := "ytlnlppeecmnmbaa", sum := "761b1613660b9d5e6b9e9fec830cc3244f8d70c75da9aefa29be77ad403eca48", func := "loop.example/strideviews/laws.FnExactDealRange", spec := "fnExactDealRange", apart := false, narrowed := true }
def FnExactDealRangeUptoSaid : Prop := fnExactDealRangeUptoRow.holds Try.pinned (OpenSpec.upto fnExactDealRangeSpec)

end Rows
end Go.Proofs.Ytlnlppeecmnmbaa
