/-
  No cell of these rows narrows 'for every input' (looked for: loops, veiled, ifaces, maps, wideKeys, modest, calm, conditions, laid).
  DERIVED. THE GIVEN ROWS OF THIS SEAT. 8 by the template 'for every input the law returns true; each argument reads behind the call as it read before'; 0 by the template 'total and deterministic' (their statements: YtinpinebdgphgaaTotals.lean).
  GIVEN WITH THE SEED: the statements are not yours to turn. If you find one false, say at which input.
  Laid BY PROGRAM, IN A SANDBOX (cutbox-rows.mjs): the forced cells as the released guide's own fill.sh prints them over the translation 336b9ca33de2c569… (all of the seat's roots in one cut). By AI agents, Wed Nov 11 2026. No macro, syntax, notation, axiom, sorry.
-/
import Derived.Test.YtinpinebdgphgaaChecked
import GoSem.Claim
import GoSem.ClaimJoined
import GoSem.ClaimMapViews
import Derived.JoinedTies
import Derived.KernelRfl
namespace Go.Proofs.Ytinpinebdgphgaa
/- THE CELL 'sum', in the pinned program and in every row, IS THE sha256 OF THE DUMP (.gsa) THAT YtinpinebdgphgaaProg.lean LOADS. Nothing in Lean hashes anything: it is a label: what it is worth is what the hold of that sum in a sandbox is worth. -/
noncomputable def Try.pinned : Pinned := { name := "ytinpinebdgphgaa", sum := "336b9ca33de2c5690424168e693566d784868b398e39139274227c852ccbcbad", checked := Try.checked }
namespace Rows
def none {H : Type} : Left H := { results := [], args := [] }

/-- 'laws.FnValidRange': WHATEVER THE INPUT: true; the input reads as it did. -/
def fnValidRangeSpec : ChangeSpec := { name := "fnValidRange", fn := fun _ => fun
  | [d] => { results := [.lit (.bool true)], args := [d] }
  | _ => none }
def fnValidRangeRow : OpenClaim := { program := "ytinpinebdgphgaa", sum := "336b9ca33de2c5690424168e693566d784868b398e39139274227c852ccbcbad", func := "loop.example/strideviews/laws.FnValidRange", spec := "fnValidRange", apart := false }
def FnValidRangeSaid : Prop := fnValidRangeRow.holds Try.pinned (OpenSpec.ofChange fnValidRangeSpec)

/-- ITS FALSE NEIGHBOUR: 'it returns false'. Refute it at one input. -/
def fnValidRangeWrong : ChangeSpec := { name := "fnValidRange", fn := fun _ => fun
  | [d] => { results := [.lit (.bool false)], args := [d] }
  | _ => none }
def FnValidRangeWrongFalsely : Prop := fnValidRangeRow.holds Try.pinned (OpenSpec.ofChange fnValidRangeWrong)

/-- 'laws.FnLenOf': WHATEVER THE INPUT: true; the input reads as it did. -/
def fnLenOfSpec : ChangeSpec := { name := "fnLenOf", fn := fun _ => fun
  | [d] => { results := [.lit (.bool true)], args := [d] }
  | _ => none }
def fnLenOfRow : OpenClaim := { program := "ytinpinebdgphgaa", sum := "336b9ca33de2c5690424168e693566d784868b398e39139274227c852ccbcbad", func := "loop.example/strideviews/laws.FnLenOf", spec := "fnLenOf", apart := false }
def FnLenOfSaid : Prop := fnLenOfRow.holds Try.pinned (OpenSpec.ofChange fnLenOfSpec)

/-- ITS FALSE NEIGHBOUR: 'it returns false'. Refute it at one input. -/
def fnLenOfWrong : ChangeSpec := { name := "fnLenOf", fn := fun _ => fun
  | [d] => { results := [.lit (.bool false)], args := [d] }
  | _ => none }
def FnLenOfWrongFalsely : Prop := fnLenOfRow.holds Try.pinned (OpenSpec.ofChange fnLenOfWrong)

/-- 'laws.FnNumbersOf': WHATEVER THE INPUT: true; the input reads as it did. -/
def fnNumbersOfSpec : ChangeSpec := { name := "fnNumbersOf", fn := fun _ => fun
  | [d] => { results := [.lit (.bool true)], args := [d] }
  | _ => none }
def fnNumbersOfRow : OpenClaim := { program := "ytinpinebdgphgaa", sum := "336b9ca33de2c5690424168e693566d784868b398e39139274227c852ccbcbad", func := "loop.example/strideviews/laws.FnNumbersOf", spec := "fnNumbersOf", apart := false }
def FnNumbersOfSaid : Prop := fnNumbersOfRow.holds Try.pinned (OpenSpec.ofChange fnNumbersOfSpec)

/-- ITS FALSE NEIGHBOUR: 'it returns false'. Refute it at one input. -/
def fnNumbersOfWrong : ChangeSpec := { name := "fnNumbersOf", fn := fun _ => fun
  | [d] => { results := [.lit (.bool false)], args := [d] }
  | _ => none }
def FnNumbersOfWrongFalsely : Prop := fnNumbersOfRow.holds Try.pinned (OpenSpec.ofChange fnNumbersOfWrong)

/-- 'laws.FnNumberAt': WHATEVER THE INPUT: true; the input reads as it did. -/
def fnNumberAtSpec : ChangeSpec := { name := "fnNumberAt", fn := fun _ => fun
  | [d] => { results := [.lit (.bool true)], args := [d] }
  | _ => none }
def fnNumberAtRow : OpenClaim := { program := "ytinpinebdgphgaa", sum := "336b9ca33de2c5690424168e693566d784868b398e39139274227c852ccbcbad", func := "loop.example/strideviews/laws.FnNumberAt", spec := "fnNumberAt", apart := false }
def FnNumberAtSaid : Prop := fnNumberAtRow.holds Try.pinned (OpenSpec.ofChange fnNumberAtSpec)

/-- ITS FALSE NEIGHBOUR: 'it returns false'. Refute it at one input. -/
def fnNumberAtWrong : ChangeSpec := { name := "fnNumberAt", fn := fun _ => fun
  | [d] => { results := [.lit (.bool false)], args := [d] }
  | _ => none }
def FnNumberAtWrongFalsely : Prop := fnNumberAtRow.holds Try.pinned (OpenSpec.ofChange fnNumberAtWrong)

/-- 'laws.FnPlaceOf': WHATEVER THE INPUT: true; the input reads as it did. -/
def fnPlaceOfSpec : ChangeSpec := { name := "fnPlaceOf", fn := fun _ => fun
  | [d] => { results := [.lit (.bool true)], args := [d] }
  | _ => none }
def fnPlaceOfRow : OpenClaim := { program := "ytinpinebdgphgaa", sum := "336b9ca33de2c5690424168e693566d784868b398e39139274227c852ccbcbad", func := "loop.example/strideviews/laws.FnPlaceOf", spec := "fnPlaceOf", apart := false }
def FnPlaceOfSaid : Prop := fnPlaceOfRow.holds Try.pinned (OpenSpec.ofChange fnPlaceOfSpec)

/-- ITS FALSE NEIGHBOUR: 'it returns false'. Refute it at one input. -/
def fnPlaceOfWrong : ChangeSpec := { name := "fnPlaceOf", fn := fun _ => fun
  | [d] => { results := [.lit (.bool false)], args := [d] }
  | _ => none }
def FnPlaceOfWrongFalsely : Prop := fnPlaceOfRow.holds Try.pinned (OpenSpec.ofChange fnPlaceOfWrong)

/-- 'laws.FnNormalRange': WHATEVER THE INPUT: true; the input reads as it did. -/
def fnNormalRangeSpec : ChangeSpec := { name := "fnNormalRange", fn := fun _ => fun
  | [d] => { results := [.lit (.bool true)], args := [d] }
  | _ => none }
def fnNormalRangeRow : OpenClaim := { program := "ytinpinebdgphgaa", sum := "336b9ca33de2c5690424168e693566d784868b398e39139274227c852ccbcbad", func := "loop.example/strideviews/laws.FnNormalRange", spec := "fnNormalRange", apart := false }
def FnNormalRangeSaid : Prop := fnNormalRangeRow.holds Try.pinned (OpenSpec.ofChange fnNormalRangeSpec)

/-- ITS FALSE NEIGHBOUR: 'it returns false'. Refute it at one input. -/
def fnNormalRangeWrong : ChangeSpec := { name := "fnNormalRange", fn := fun _ => fun
  | [d] => { results := [.lit (.bool false)], args := [d] }
  | _ => none }
def FnNormalRangeWrongFalsely : Prop := fnNormalRangeRow.holds Try.pinned (OpenSpec.ofChange fnNormalRangeWrong)

/-- 'laws.FnReverseRange': WHATEVER THE INPUT: true; the input reads as it did. -/
def fnReverseRangeSpec : ChangeSpec := { name := "fnReverseRange", fn := fun _ => fun
  | [d] => { results := [.lit (.bool true)], args := [d] }
  | _ => none }
def fnReverseRangeRow : OpenClaim := { program := "ytinpinebdgphgaa", sum := "336b9ca33de2c5690424168e693566d784868b398e39139274227c852ccbcbad", func := "loop.example/strideviews/laws.FnReverseRange", spec := "fnReverseRange", apart := false }
def FnReverseRangeSaid : Prop := fnReverseRangeRow.holds Try.pinned (OpenSpec.ofChange fnReverseRangeSpec)

/-- ITS FALSE NEIGHBOUR: 'it returns false'. Refute it at one input. -/
def fnReverseRangeWrong : ChangeSpec := { name := "fnReverseRange", fn := fun _ => fun
  | [d] => { results := [.lit (.bool false)], args := [d] }
  | _ => none }
def FnReverseRangeWrongFalsely : Prop := fnReverseRangeRow.holds Try.pinned (OpenSpec.ofChange fnReverseRangeWrong)

/-- 'laws.FnValidSlice': WHATEVER THE INPUT: true; the input reads as it did. -/
def fnValidSliceSpec : ChangeSpec := { name := "fnValidSlice", fn := fun _ => fun
  | [d] => { results := [.lit (.bool true)], args := [d] }
  | _ => none }
def fnValidSliceRow : OpenClaim := { program := "ytinpinebdgphgaa", sum := "336b9ca33de2c5690424168e693566d784868b398e39139274227c852ccbcbad", func := "loop.example/strideviews/laws.FnValidSlice", spec := "fnValidSlice", apart := false }
def FnValidSliceSaid : Prop := fnValidSliceRow.holds Try.pinned (OpenSpec.ofChange fnValidSliceSpec)

/-- ITS FALSE NEIGHBOUR: 'it returns false'. Refute it at one input. -/
def fnValidSliceWrong : ChangeSpec := { name := "fnValidSlice", fn := fun _ => fun
  | [d] => { results := [.lit (.bool false)], args := [d] }
  | _ => none }
def FnValidSliceWrongFalsely : Prop := fnValidSliceRow.holds Try.pinned (OpenSpec.ofChange fnValidSliceWrong)

/- THE SECOND FORM. 'bulk': how many values and letters a reading holds, each counted each time it is reached (what is shared counts as often as it is met; a slice's spare places count too). A statement '..UptoSaid' is the law's where the arguments, and the package variables that the reading takes, are together of bulk at most 1048576: NARROWER than '..Said'. Prove '..Said' where nothing that the law and all that it calls make is longer than what came in: it says more and counts as full. Else prove '..UptoSaid'. A law counts once. -/
mutual
def uptoBulk {H : Type} : DataW H → Nat
  | .lit (.string bytes) => bytes.length + 1
  | .lit _ => 1
  | .nil => 1
  | .ptr d => uptoBulk d + 1
  | .slice elems spare => uptoBulkAll elems + uptoBulkAll spare + 1
  | .agg parts => uptoBulkAll parts + 1
  | .iface _ d => uptoBulk d + 1
  | .map entries => uptoBulkEntries entries + 1
  | .held _ => 1
def uptoBulkAll {H : Type} : List (DataW H) → Nat
  | [] => 0
  | d :: r => uptoBulk d + uptoBulkAll r
def uptoBulkEntries {H : Type} : List (Lit × DataW H) → Nat
  | [] => 0
  | x :: r => uptoBulkEntry x + uptoBulkEntries r
def uptoBulkEntry {H : Type} : Lit × DataW H → Nat
  | (.string bytes, d) => bytes.length + uptoBulk d + 1
  | (_, d) => uptoBulk d + 1
 end
def uptoSmall : (H : Type) → List (DataW H) → Bool := fun _ ds => decide (uptoBulkAll ds ≤ 1048576)
def OpenSpec.upto (s : _root_.Go.ChangeSpec) : _root_.Go.OpenSpec := { _root_.Go.OpenSpec.ofChange s with cond := some uptoSmall }

/-- 'laws.FnValidRange', WHERE WHAT IT READS IS OF BULK AT MOST 1048576: true; the input reads as it did. -/
def fnValidRangeUptoRow : OpenClaim := { program := "ytinpinebdgphgaa", sum := "336b9ca33de2c5690424168e693566d784868b398e39139274227c852ccbcbad", func := "loop.example/strideviews/laws.FnValidRange", spec := "fnValidRange", apart := false, narrowed := true }
def FnValidRangeUptoSaid : Prop := fnValidRangeUptoRow.holds Try.pinned (OpenSpec.upto fnValidRangeSpec)

/-- 'laws.FnLenOf', WHERE WHAT IT READS IS OF BULK AT MOST 1048576: true; the input reads as it did. -/
def fnLenOfUptoRow : OpenClaim := { program := "ytinpinebdgphgaa", sum := "336b9ca33de2c5690424168e693566d784868b398e39139274227c852ccbcbad", func := "loop.example/strideviews/laws.FnLenOf", spec := "fnLenOf", apart := false, narrowed := true }
def FnLenOfUptoSaid : Prop := fnLenOfUptoRow.holds Try.pinned (OpenSpec.upto fnLenOfSpec)

/-- 'laws.FnNumbersOf', WHERE WHAT IT READS IS OF BULK AT MOST 1048576: true; the input reads as it did. -/
def fnNumbersOfUptoRow : OpenClaim := { program := "ytinpinebdgphgaa", sum := "336b9ca33de2c5690424168e693566d784868b398e39139274227c852ccbcbad", func := "loop.example/strideviews/laws.FnNumbersOf", spec := "fnNumbersOf", apart := false, narrowed := true }
def FnNumbersOfUptoSaid : Prop := fnNumbersOfUptoRow.holds Try.pinned (OpenSpec.upto fnNumbersOfSpec)

/-- 'laws.FnNumberAt', WHERE WHAT IT READS IS OF BULK AT MOST 1048576: true; the input reads as it did. -/
def fnNumberAtUptoRow : OpenClaim := { program := "ytinpinebdgphgaa", sum := "336b9ca33de2c5690424168e693566d784868b398e39139274227c852ccbcbad", func := "loop.example/strideviews/laws.FnNumberAt", spec := "fnNumberAt", apart := false, narrowed := true }
def FnNumberAtUptoSaid : Prop := fnNumberAtUptoRow.holds Try.pinned (OpenSpec.upto fnNumberAtSpec)

/-- 'laws.FnPlaceOf', WHERE WHAT IT READS IS OF BULK AT MOST 1048576: true; the input reads as it did. -/
def fnPlaceOfUptoRow : OpenClaim := { program := "ytinpinebdgphgaa", sum := "336b9ca33de2c5690424168e693566d784868b398e39139274227c852ccbcbad", func := "loop.example/strideviews/laws.FnPlaceOf", spec := "fnPlaceOf", apart := false, narrowed := true }
def FnPlaceOfUptoSaid : Prop := fnPlaceOfUptoRow.holds Try.pinned (OpenSpec.upto fnPlaceOfSpec)

/-- 'laws.FnNormalRange', WHERE WHAT IT READS IS OF BULK AT MOST 1048576: true; the input reads as it did. -/
def fnNormalRangeUptoRow : OpenClaim := { program := "ytinpinebdgphgaa", sum := "336b9ca33de2c5690424168e693566d784868b398e39139274227c852ccbcbad", func := "loop.example/strideviews/laws.FnNormalRange", spec := "fnNormalRange", apart := false, narrowed := true }
def FnNormalRangeUptoSaid : Prop := fnNormalRangeUptoRow.holds Try.pinned (OpenSpec.upto fnNormalRangeSpec)

/-- 'laws.FnReverseRange', WHERE WHAT IT READS IS OF BULK AT MOST 1048576: true; the input reads as it did. -/
def fnReverseRangeUptoRow : OpenClaim := { program := "ytinpinebdgphgaa", sum := "336b9ca33de2c5690424168e693566d784868b398e39139274227c852ccbcbad", func := "loop.example/strideviews/laws.FnReverseRange", spec := "fnReverseRange", apart := false, narrowed := true }
def FnReverseRangeUptoSaid : Prop := fnReverseRangeUptoRow.holds Try.pinned (OpenSpec.upto fnReverseRangeSpec)

/-- 'laws.FnValidSlice', WHERE WHAT IT READS IS OF BULK AT MOST 1048576: true; the input reads as it did. -/
def fnValidSliceUptoRow : OpenClaim := { program := "ytinpinebdgphgaa", sum := "336b9ca33de2c5690424168e693566d784868b398e39139274227c852ccbcbad", func := "loop.example/strideviews/laws.FnValidSlice", spec := "fnValidSlice", apart := false, narrowed := true }
def FnValidSliceUptoSaid : Prop := fnValidSliceUptoRow.holds Try.pinned (OpenSpec.upto fnValidSliceSpec)

end Rows
end Go.Proofs.Ytinpinebdgphgaa
