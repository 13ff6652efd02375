/-
  No cell of these rows narrows 'for every input' (looked for: loops, veiled, ifaces, maps, wideKeys, modest, calm, conditions, laid).
  DERIVED. THE GIVEN ROWS OF THIS SEAT. 8 by the template 'for every input the law returns true; each argument reads behind the call as it read before'; 0 by the template 'total and deterministic' (their statements: YtigcjdblggjmjaaTotals.lean).
  GIVEN WITH THE SEED: the statements are not yours to turn. If you find one false, say at which input.
  Laid BY PROGRAM, IN A SANDBOX (cutbox-rows.mjs): the forced cells as the released guide's own fill.sh prints them over the translation 36fbad554a127f24… (all of the seat's roots in one cut). By AI agents, Wed Nov 11 2026. No macro, syntax, notation, axiom, sorry.
-/
import Derived.Test.YtigcjdblggjmjaaChecked
import GoSem.Claim
import GoSem.ClaimJoined
import GoSem.ClaimMapViews
import Derived.JoinedTies
import Derived.KernelRfl
namespace Go.Proofs.Ytigcjdblggjmjaa
/- THE CELL 'sum', in the pinned program and in every row, IS THE sha256 OF THE DUMP (.gsa) THAT YtigcjdblggjmjaaProg.lean LOADS. Nothing in Lean hashes anything: it is a label: what it is worth is what the hold of that sum in a sandbox is worth. -/
noncomputable def Try.pinned : Pinned := { name := "ytigcjdblggjmjaa", sum := "36fbad554a127f24fe02fc8f79c99577f17902e1362ac589956453c3a718ec31", checked := Try.checked }
namespace Rows
def none {H : Type} : Left H := { results := [], args := [] }

/-- 'laws.FnExactValidRange': WHATEVER THE INPUT: true; the input reads as it did. -/
def fnExactValidRangeSpec : ChangeSpec := { name := "fnExactValidRange", fn := fun _ => fun
  | [d] => { results := [.lit (.bool true)], args := [d] }
  | _ => none }
def fnExactValidRangeRow : OpenClaim := { program := "ytigcjdblggjmjaa", sum := "36fbad554a127f24fe02fc8f79c99577f17902e1362ac589956453c3a718ec31", func := "loop.example/strideviews/laws.FnExactValidRange", spec := "fnExactValidRange", apart := false }
def FnExactValidRangeSaid : Prop := fnExactValidRangeRow.holds Try.pinned (OpenSpec.ofChange fnExactValidRangeSpec)

/-- ITS FALSE NEIGHBOUR: 'it returns false'. Refute it at one input. -/
def fnExactValidRangeWrong : ChangeSpec := { name := "fnExactValidRange", fn := fun _ => fun
  | [d] => { results := [.lit (.bool false)], args := [d] }
  | _ => none }
def FnExactValidRangeWrongFalsely : Prop := fnExactValidRangeRow.holds Try.pinned (OpenSpec.ofChange fnExactValidRangeWrong)

/-- 'laws.FnExactLenOf': WHATEVER THE INPUT: true; the input reads as it did. -/
def fnExactLenOfSpec : ChangeSpec := { name := "fnExactLenOf", fn := fun _ => fun
  | [d] => { results := [.lit (.bool true)], args := [d] }
  | _ => none }
def fnExactLenOfRow : OpenClaim := { program := "ytigcjdblggjmjaa", sum := "36fbad554a127f24fe02fc8f79c99577f17902e1362ac589956453c3a718ec31", func := "loop.example/strideviews/laws.FnExactLenOf", spec := "fnExactLenOf", apart := false }
def FnExactLenOfSaid : Prop := fnExactLenOfRow.holds Try.pinned (OpenSpec.ofChange fnExactLenOfSpec)

/-- ITS FALSE NEIGHBOUR: 'it returns false'. Refute it at one input. -/
def fnExactLenOfWrong : ChangeSpec := { name := "fnExactLenOf", fn := fun _ => fun
  | [d] => { results := [.lit (.bool false)], args := [d] }
  | _ => none }
def FnExactLenOfWrongFalsely : Prop := fnExactLenOfRow.holds Try.pinned (OpenSpec.ofChange fnExactLenOfWrong)

/-- 'laws.FnExactNumbersOf': WHATEVER THE INPUT: true; the input reads as it did. -/
def fnExactNumbersOfSpec : ChangeSpec := { name := "fnExactNumbersOf", fn := fun _ => fun
  | [d] => { results := [.lit (.bool true)], args := [d] }
  | _ => none }
def fnExactNumbersOfRow : OpenClaim := { program := "ytigcjdblggjmjaa", sum := "36fbad554a127f24fe02fc8f79c99577f17902e1362ac589956453c3a718ec31", func := "loop.example/strideviews/laws.FnExactNumbersOf", spec := "fnExactNumbersOf", apart := false }
def FnExactNumbersOfSaid : Prop := fnExactNumbersOfRow.holds Try.pinned (OpenSpec.ofChange fnExactNumbersOfSpec)

/-- ITS FALSE NEIGHBOUR: 'it returns false'. Refute it at one input. -/
def fnExactNumbersOfWrong : ChangeSpec := { name := "fnExactNumbersOf", fn := fun _ => fun
  | [d] => { results := [.lit (.bool false)], args := [d] }
  | _ => none }
def FnExactNumbersOfWrongFalsely : Prop := fnExactNumbersOfRow.holds Try.pinned (OpenSpec.ofChange fnExactNumbersOfWrong)

/-- 'laws.FnExactNumberAt': WHATEVER THE INPUT: true; the input reads as it did. -/
def fnExactNumberAtSpec : ChangeSpec := { name := "fnExactNumberAt", fn := fun _ => fun
  | [d1, d2] => { results := [.lit (.bool true)], args := [d1, d2] }
  | _ => none }
def fnExactNumberAtRow : OpenClaim := { program := "ytigcjdblggjmjaa", sum := "36fbad554a127f24fe02fc8f79c99577f17902e1362ac589956453c3a718ec31", func := "loop.example/strideviews/laws.FnExactNumberAt", spec := "fnExactNumberAt", apart := false }
def FnExactNumberAtSaid : Prop := fnExactNumberAtRow.holds Try.pinned (OpenSpec.ofChange fnExactNumberAtSpec)

/-- ITS FALSE NEIGHBOUR: 'it returns false'. Refute it at one input. -/
def fnExactNumberAtWrong : ChangeSpec := { name := "fnExactNumberAt", fn := fun _ => fun
  | [d1, d2] => { results := [.lit (.bool false)], args := [d1, d2] }
  | _ => none }
def FnExactNumberAtWrongFalsely : Prop := fnExactNumberAtRow.holds Try.pinned (OpenSpec.ofChange fnExactNumberAtWrong)

/-- 'laws.FnExactPlaceOf': WHATEVER THE INPUT: true; the input reads as it did. -/
def fnExactPlaceOfSpec : ChangeSpec := { name := "fnExactPlaceOf", fn := fun _ => fun
  | [d1, d2] => { results := [.lit (.bool true)], args := [d1, d2] }
  | _ => none }
def fnExactPlaceOfRow : OpenClaim := { program := "ytigcjdblggjmjaa", sum := "36fbad554a127f24fe02fc8f79c99577f17902e1362ac589956453c3a718ec31", func := "loop.example/strideviews/laws.FnExactPlaceOf", spec := "fnExactPlaceOf", apart := false }
def FnExactPlaceOfSaid : Prop := fnExactPlaceOfRow.holds Try.pinned (OpenSpec.ofChange fnExactPlaceOfSpec)

/-- ITS FALSE NEIGHBOUR: 'it returns false'. Refute it at one input. -/
def fnExactPlaceOfWrong : ChangeSpec := { name := "fnExactPlaceOf", fn := fun _ => fun
  | [d1, d2] => { results := [.lit (.bool false)], args := [d1, d2] }
  | _ => none }
def FnExactPlaceOfWrongFalsely : Prop := fnExactPlaceOfRow.holds Try.pinned (OpenSpec.ofChange fnExactPlaceOfWrong)

/-- 'laws.FnExactNormalRange': WHATEVER THE INPUT: true; the input reads as it did. -/
def fnExactNormalRangeSpec : ChangeSpec := { name := "fnExactNormalRange", fn := fun _ => fun
  | [d] => { results := [.lit (.bool true)], args := [d] }
  | _ => none }
def fnExactNormalRangeRow : OpenClaim := { program := "ytigcjdblggjmjaa", sum := "36fbad554a127f24fe02fc8f79c99577f17902e1362ac589956453c3a718ec31", func := "loop.example/strideviews/laws.FnExactNormalRange", spec := "fnExactNormalRange", apart := false }
def FnExactNormalRangeSaid : Prop := fnExactNormalRangeRow.holds Try.pinned (OpenSpec.ofChange fnExactNormalRangeSpec)

/-- ITS FALSE NEIGHBOUR: 'it returns false'. Refute it at one input. -/
def fnExactNormalRangeWrong : ChangeSpec := { name := "fnExactNormalRange", fn := fun _ => fun
  | [d] => { results := [.lit (.bool false)], args := [d] }
  | _ => none }
def FnExactNormalRangeWrongFalsely : Prop := fnExactNormalRangeRow.holds Try.pinned (OpenSpec.ofChange fnExactNormalRangeWrong)

/-- 'laws.FnExactReverseRange': WHATEVER THE INPUT: true; the input reads as it did. -/
def fnExactReverseRangeSpec : ChangeSpec := { name := "fnExactReverseRange", fn := fun _ => fun
  | [d] => { results := [.lit (.bool true)], args := [d] }
  | _ => none }
def fnExactReverseRangeRow : OpenClaim := { program := "ytigcjdblggjmjaa", sum := "36fbad554a127f24fe02fc8f79c99577f17902e1362ac589956453c3a718ec31", func := "loop.example/strideviews/laws.FnExactReverseRange", spec := "fnExactReverseRange", apart := false }
def FnExactReverseRangeSaid : Prop := fnExactReverseRangeRow.holds Try.pinned (OpenSpec.ofChange fnExactReverseRangeSpec)

/-- ITS FALSE NEIGHBOUR: 'it returns false'. Refute it at one input. -/
def fnExactReverseRangeWrong : ChangeSpec := { name := "fnExactReverseRange", fn := fun _ => fun
  | [d] => { results := [.lit (.bool false)], args := [d] }
  | _ => none }
def FnExactReverseRangeWrongFalsely : Prop := fnExactReverseRangeRow.holds Try.pinned (OpenSpec.ofChange fnExactReverseRangeWrong)

/-- 'laws.FnExactSumOf': WHATEVER THE INPUT: true; the input reads as it did. -/
def fnExactSumOfSpec : ChangeSpec := { name := "fnExactSumOf", fn := fun _ => fun
  | [d] => { results := [.lit (.bool true)], args := [d] }
  | _ => none }
def fnExactSumOfRow : OpenClaim := { program := "ytigcjdblggjmjaa", sum := "36fbad554a127f24fe02fc8f79c99577f17902e1362ac589956453c3a718ec31", func := "loop.example/strideviews/laws.FnExactSumOf", spec := "fnExactSumOf", apart := false }
def FnExactSumOfSaid : Prop := fnExactSumOfRow.holds Try.pinned (OpenSpec.ofChange fnExactSumOfSpec)

/-- ITS FALSE NEIGHBOUR: 'it returns false'. Refute it at one input. -/
def fnExactSumOfWrong : ChangeSpec := { name := "fnExactSumOf", fn := fun _ => fun
  | [d] => { results := [.lit (.bool false)], args := [d] }
  | _ => none }
def FnExactSumOfWrongFalsely : Prop := fnExactSumOfRow.holds Try.pinned (OpenSpec.ofChange fnExactSumOfWrong)

/- THE SECOND FORM. 'bulk': how many values and letters a reading holds, each counted each time it is reached (what is shared counts as often as it is met; a slice's spare places count too). A statement '..UptoSaid' is the law's where the arguments, and the package variables that the reading takes, are together of bulk at most 1048576: NARROWER than '..Said'. Prove '..Said' where nothing that the law and all that it calls make is longer than what came in: it says more and counts as full. Else prove '..UptoSaid'. A law counts once. -/
mutual
def uptoBulk {H : Type} : DataW H → Nat
  | .lit (.string bytes) => bytes.length + 1
  | .lit _ => 1
  | .nil => 1
  | .ptr d => uptoBulk d + 1
  | .slice elems spare => uptoBulkAll elems + uptoBulkAll spare + 1
  | .agg parts => uptoBulkAll parts + 1
  | .iface _ d => uptoBulk d + 1
  | .map entries => uptoBulkEntries entries + 1
  | .held _ => 1
def uptoBulkAll {H : Type} : List (DataW H) → Nat
  | [] => 0
  | d :: r => uptoBulk d + uptoBulkAll r
def uptoBulkEntries {H : Type} : List (Lit × DataW H) → Nat
  | [] => 0
  | x :: r => uptoBulkEntry x + uptoBulkEntries r
def uptoBulkEntry {H : Type} : Lit × DataW H → Nat
  | (.string bytes, d) => bytes.length + uptoBulk d + 1
  | (_, d) => uptoBulk d + 1
 end
def uptoSmall : (H : Type) → List (DataW H) → Bool := fun _ ds => decide (uptoBulkAll ds ≤ 1048576)
def OpenSpec.upto (s : _root_.Go.ChangeSpec) : _root_.Go.OpenSpec := { _root_.Go.OpenSpec.ofChange s with cond := some uptoSmall }

/-- 'laws.FnExactValidRange', WHERE WHAT IT READS IS OF BULK AT MOST 1048576: true; the input reads as it did. -/
def fnExactValidRangeUptoRow : OpenClaim := { program := "ytigcjdblggjmjaa", sum := "36fbad554a127f24fe02fc8f79c99577f17902e1362ac589956453c3a718ec31", func := "loop.example/strideviews/laws.FnExactValidRange", spec := "fnExactValidRange", apart := false, narrowed := true }
def FnExactValidRangeUptoSaid : Prop := fnExactValidRangeUptoRow.holds Try.pinned (OpenSpec.upto fnExactValidRangeSpec)

/-- 'laws.FnExactLenOf', WHERE WHAT IT READS IS OF BULK AT MOST 1048576: true; the input reads as it did. -/
def fnExactLenOfUptoRow : OpenClaim := { program := "ytigcjdblggjmjaa", sum := "36fbad554a127f24fe02fc8f79c99577f17902e1362ac589956453c3a718ec31", func := "loop.example/strideviews/laws.FnExactLenOf", spec := "fnExactLenOf", apart := false, narrowed := true }
def FnExactLenOfUptoSaid : Prop := fnExactLenOfUptoRow.holds Try.pinned (OpenSpec.upto fnExactLenOfSpec)

/-- 'laws.FnExactNumbersOf', WHERE WHAT IT READS IS OF BULK AT MOST 1048576: true; the input reads as it did. -/
def fnExactNumbersOfUptoRow : OpenClaim := { program := "ytigcjdblggjmjaa", sum := "36fbad554a127f24fe02fc8f79c99577f17902e1362ac589956453c3a718ec31", func := "loop.example/strideviews/laws.FnExactNumbersOf", spec := "fnExactNumbersOf", apart := false, narrowed := true }
def FnExactNumbersOfUptoSaid : Prop := fnExactNumbersOfUptoRow.holds Try.pinned (OpenSpec.upto fnExactNumbersOfSpec)

/-- 'laws.FnExactNumberAt', WHERE WHAT IT READS IS OF BULK AT MOST 1048576: true; the input reads as it did. -/
def fnExactNumberAtUptoRow : OpenClaim := { program := "ytigcjdblggjmjaa", sum := "36fbad554a127f24fe02fc8f79c99577f17902e1362ac589956453c3a718ec31", func := "loop.example/strideviews/laws.FnExactNumberAt", spec := "fnExactNumberAt", apart := false, narrowed := true }
def FnExactNumberAtUptoSaid : Prop := fnExactNumberAtUptoRow.holds Try.pinned (OpenSpec.upto fnExactNumberAtSpec)

/-- 'laws.FnExactPlaceOf', WHERE WHAT IT READS IS OF BULK AT MOST 1048576: true; the input reads as it did. -/
def fnExactPlaceOfUptoRow : OpenClaim := { program := "ytigcjdblggjmjaa", sum := "36fbad554a127f24fe02fc8f79c99577f17902e1362ac589956453c3a718ec31", func := "loop.example/strideviews/laws.FnExactPlaceOf", spec := "fnExactPlaceOf", apart := false, narrowed := true }
def FnExactPlaceOfUptoSaid : Prop := fnExactPlaceOfUptoRow.holds Try.pinned (OpenSpec.upto fnExactPlaceOfSpec)

/-- 'laws.FnExactNormalRange', WHERE WHAT IT READS IS OF BULK AT MOST 1048576: true; the input reads as it did. -/
def fnExactNormalRangeUptoRow : OpenClaim := { program := "ytigcjdblggjmjaa", sum := "36fbad554a127f24fe02fc8f79c99577f17902e1362ac589956453c3a718ec31", func := "loop.example/strideviews/laws.FnExactNormalRange", spec := "fnExactNormalRange", apart := false, narrowed := true }
def FnExactNormalRangeUptoSaid : Prop := fnExactNormalRangeUptoRow.holds Try.pinned (OpenSpec.upto fnExactNormalRangeSpec)

/-- 'laws.FnExactReverseRange', WHERE WHAT IT READS IS OF BULK AT MOST 1048576: true; the input reads as it did. -/
def fnExactReverseRangeUptoRow : OpenClaim := { program := "ytigcjdblggjmjaa", sum := "36fbad554a127f24fe02fc8f79c99577f17902e1362ac589956453c3a718ec31", func := "loop.example/strideviews/laws.FnExactReverseRange", spec := "fnExactReverseRange", apart := false, narrowed := true }
def FnExactReverseRangeUptoSaid : Prop := fnExactReverseRangeUptoRow.holds Try.pinned (OpenSpec.upto fnExactReverseRangeSpec)

/-- 'laws.FnExactSumOf', WHERE WHAT IT READS IS OF BULK AT MOST 1048576: true; the input reads as it did. -/
def fnExactSumOfUptoRow : OpenClaim := { program := "ytigcjdblggjmjaa", sum := "36fbad554a127f24fe02fc8f79c99577f17902e1362ac589956453c3a718ec31", func := "loop.example/strideviews/laws.FnExactSumOf", spec := "fnExactSumOf", apart := false, narrowed := true }
def FnExactSumOfUptoSaid : Prop := fnExactSumOfUptoRow.holds Try.pinned (OpenSpec.upto fnExactSumOfSpec)

end Rows
end Go.Proofs.Ytigcjdblggjmjaa
