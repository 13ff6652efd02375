/-
  No cell of these rows narrows 'for every input' (looked for: loops, veiled, ifaces, maps, wideKeys, modest, calm, conditions, laid).
  DERIVED. THE GIVEN ROWS OF THIS SEAT. 8 by the template 'for every input the law returns true; each argument reads behind the call as it read before'; 0 by the template 'total and deterministic' (their statements: YtjnlcbjehhpjiaaTotals.lean).
  GIVEN WITH THE SEED: the statements are not yours to turn. If you find one false, say at which input.
  Laid BY PROGRAM, IN A SANDBOX (cutbox-rows.mjs): the forced cells as the released guide's own fill.sh prints them over the translation ddf18d34314b10a3… (all of the seat's roots in one cut). By AI agents, Wed Nov 11 2026. No macro, syntax, notation, axiom, sorry.
-/
import Derived.Test.YtjnlcbjehhpjiaaChecked
import GoSem.Claim
import GoSem.ClaimJoined
import GoSem.ClaimMapViews
import Derived.JoinedTies
import Derived.KernelRfl
namespace Go.Proofs.Ytjnlcbjehhpjiaa
/- THE CELL 'sum', in the pinned program and in every row, IS THE sha256 OF THE DUMP (.gsa) THAT YtjnlcbjehhpjiaaProg.lean LOADS. Nothing in Lean hashes anything: it is a label: what it is worth is what the hold of that sum in a sandbox is worth. -/
noncomputable def Try.pinned : Pinned := { name := "ytjnlcbjehhpjiaa", sum := "ddf18d34314b10a3eb29180e779fa03468129f0319e45698b8fc89715c69c083", checked := Try.checked }
namespace Rows
def none {H : Type} : Left H := { results := [], args := [] }

/-- 'laws.FnExactMeetRanges': WHATEVER THE INPUT: true; the input reads as it did. -/
def fnExactMeetRangesSpec : ChangeSpec := { name := "fnExactMeetRanges", fn := fun _ => fun
  | [d1, d2] => { results := [.lit (.bool true)], args := [d1, d2] }
  | _ => none }
def fnExactMeetRangesRow : OpenClaim := { program := "ytjnlcbjehhpjiaa", sum := "ddf18d34314b10a3eb29180e779fa03468129f0319e45698b8fc89715c69c083", func := "loop.example/strideviews/laws.FnExactMeetRanges", spec := "fnExactMeetRanges", apart := false }
def FnExactMeetRangesSaid : Prop := fnExactMeetRangesRow.holds Try.pinned (OpenSpec.ofChange fnExactMeetRangesSpec)

/-- ITS FALSE NEIGHBOUR: 'it returns false'. Refute it at one input. -/
def fnExactMeetRangesWrong : ChangeSpec := { name := "fnExactMeetRanges", fn := fun _ => fun
  | [d1, d2] => { results := [.lit (.bool false)], args := [d1, d2] }
  | _ => none }
def FnExactMeetRangesWrongFalsely : Prop := fnExactMeetRangesRow.holds Try.pinned (OpenSpec.ofChange fnExactMeetRangesWrong)

/-- 'laws.FnExactCoversRange': WHATEVER THE INPUT: true; the input reads as it did. -/
def fnExactCoversRangeSpec : ChangeSpec := { name := "fnExactCoversRange", fn := fun _ => fun
  | [d1, d2] => { results := [.lit (.bool true)], args := [d1, d2] }
  | _ => none }
def fnExactCoversRangeRow : OpenClaim := { program := "ytjnlcbjehhpjiaa", sum := "ddf18d34314b10a3eb29180e779fa03468129f0319e45698b8fc89715c69c083", func := "loop.example/strideviews/laws.FnExactCoversRange", spec := "fnExactCoversRange", apart := false }
def FnExactCoversRangeSaid : Prop := fnExactCoversRangeRow.holds Try.pinned (OpenSpec.ofChange fnExactCoversRangeSpec)

/-- ITS FALSE NEIGHBOUR: 'it returns false'. Refute it at one input. -/
def fnExactCoversRangeWrong : ChangeSpec := { name := "fnExactCoversRange", fn := fun _ => fun
  | [d1, d2] => { results := [.lit (.bool false)], args := [d1, d2] }
  | _ => none }
def FnExactCoversRangeWrongFalsely : Prop := fnExactCoversRangeRow.holds Try.pinned (OpenSpec.ofChange fnExactCoversRangeWrong)

/-- 'laws.FnExactDealRange': WHATEVER THE INPUT: true; the input reads as it did. -/
def fnExactDealRangeSpec : ChangeSpec := { name := "fnExactDealRange", fn := fun _ => fun
  | [d1, d2] => { results := [.lit (.bool true)], args := [d1, d2] }
  | _ => none }
def fnExactDealRangeRow : OpenClaim := { program := "ytjnlcbjehhpjiaa", sum := "ddf18d34314b10a3eb29180e779fa03468129f0319e45698b8fc89715c69c083", func := "loop.example/strideviews/laws.FnExactDealRange", spec := "fnExactDealRange", apart := false }
def FnExactDealRangeSaid : Prop := fnExactDealRangeRow.holds Try.pinned (OpenSpec.ofChange fnExactDealRangeSpec)

/-- ITS FALSE NEIGHBOUR: 'it returns false'. Refute it at one input. -/
def fnExactDealRangeWrong : ChangeSpec := { name := "fnExactDealRange", fn := fun _ => fun
  | [d1, d2] => { results := [.lit (.bool false)], args := [d1, d2] }
  | _ => none }
def FnExactDealRangeWrongFalsely : Prop := fnExactDealRangeRow.holds Try.pinned (OpenSpec.ofChange fnExactDealRangeWrong)

/-- 'laws.FnExactValidView': WHATEVER THE INPUT: true; the input reads as it did. -/
def fnExactValidViewSpec : ChangeSpec := { name := "fnExactValidView", fn := fun _ => fun
  | [d] => { results := [.lit (.bool true)], args := [d] }
  | _ => none }
def fnExactValidViewRow : OpenClaim := { program := "ytjnlcbjehhpjiaa", sum := "ddf18d34314b10a3eb29180e779fa03468129f0319e45698b8fc89715c69c083", func := "loop.example/strideviews/laws.FnExactValidView", spec := "fnExactValidView", apart := false }
def FnExactValidViewSaid : Prop := fnExactValidViewRow.holds Try.pinned (OpenSpec.ofChange fnExactValidViewSpec)

/-- ITS FALSE NEIGHBOUR: 'it returns false'. Refute it at one input. -/
def fnExactValidViewWrong : ChangeSpec := { name := "fnExactValidView", fn := fun _ => fun
  | [d] => { results := [.lit (.bool false)], args := [d] }
  | _ => none }
def FnExactValidViewWrongFalsely : Prop := fnExactValidViewRow.holds Try.pinned (OpenSpec.ofChange fnExactValidViewWrong)

/-- 'laws.FnExactOffsetAt': WHATEVER THE INPUT: true; the input reads as it did. -/
def fnExactOffsetAtSpec : ChangeSpec := { name := "fnExactOffsetAt", fn := fun _ => fun
  | [d1, d2] => { results := [.lit (.bool true)], args := [d1, d2] }
  | _ => none }
def fnExactOffsetAtRow : OpenClaim := { program := "ytjnlcbjehhpjiaa", sum := "ddf18d34314b10a3eb29180e779fa03468129f0319e45698b8fc89715c69c083", func := "loop.example/strideviews/laws.FnExactOffsetAt", spec := "fnExactOffsetAt", apart := false }
def FnExactOffsetAtSaid : Prop := fnExactOffsetAtRow.holds Try.pinned (OpenSpec.ofChange fnExactOffsetAtSpec)

/-- ITS FALSE NEIGHBOUR: 'it returns false'. Refute it at one input. -/
def fnExactOffsetAtWrong : ChangeSpec := { name := "fnExactOffsetAt", fn := fun _ => fun
  | [d1, d2] => { results := [.lit (.bool false)], args := [d1, d2] }
  | _ => none }
def FnExactOffsetAtWrongFalsely : Prop := fnExactOffsetAtRow.holds Try.pinned (OpenSpec.ofChange fnExactOffsetAtWrong)

/-- 'laws.FnExactOffsetsOf': WHATEVER THE INPUT: true; the input reads as it did. -/
def fnExactOffsetsOfSpec : ChangeSpec := { name := "fnExactOffsetsOf", fn := fun _ => fun
  | [d] => { results := [.lit (.bool true)], args := [d] }
  | _ => none }
def fnExactOffsetsOfRow : OpenClaim := { program := "ytjnlcbjehhpjiaa", sum := "ddf18d34314b10a3eb29180e779fa03468129f0319e45698b8fc89715c69c083", func := "loop.example/strideviews/laws.FnExactOffsetsOf", spec := "fnExactOffsetsOf", apart := false }
def FnExactOffsetsOfSaid : Prop := fnExactOffsetsOfRow.holds Try.pinned (OpenSpec.ofChange fnExactOffsetsOfSpec)

/-- ITS FALSE NEIGHBOUR: 'it returns false'. Refute it at one input. -/
def fnExactOffsetsOfWrong : ChangeSpec := { name := "fnExactOffsetsOf", fn := fun _ => fun
  | [d] => { results := [.lit (.bool false)], args := [d] }
  | _ => none }
def FnExactOffsetsOfWrongFalsely : Prop := fnExactOffsetsOfRow.holds Try.pinned (OpenSpec.ofChange fnExactOffsetsOfWrong)

/-- 'laws.FnExactBoundsOf': WHATEVER THE INPUT: true; the input reads as it did. -/
def fnExactBoundsOfSpec : ChangeSpec := { name := "fnExactBoundsOf", fn := fun _ => fun
  | [d] => { results := [.lit (.bool true)], args := [d] }
  | _ => none }
def fnExactBoundsOfRow : OpenClaim := { program := "ytjnlcbjehhpjiaa", sum := "ddf18d34314b10a3eb29180e779fa03468129f0319e45698b8fc89715c69c083", func := "loop.example/strideviews/laws.FnExactBoundsOf", spec := "fnExactBoundsOf", apart := false }
def FnExactBoundsOfSaid : Prop := fnExactBoundsOfRow.holds Try.pinned (OpenSpec.ofChange fnExactBoundsOfSpec)

/-- ITS FALSE NEIGHBOUR: 'it returns false'. Refute it at one input. -/
def fnExactBoundsOfWrong : ChangeSpec := { name := "fnExactBoundsOf", fn := fun _ => fun
  | [d] => { results := [.lit (.bool false)], args := [d] }
  | _ => none }
def FnExactBoundsOfWrongFalsely : Prop := fnExactBoundsOfRow.holds Try.pinned (OpenSpec.ofChange fnExactBoundsOfWrong)

/-- 'laws.FnExactFitsIn': WHATEVER THE INPUT: true; the input reads as it did. -/
def fnExactFitsInSpec : ChangeSpec := { name := "fnExactFitsIn", fn := fun _ => fun
  | [d1, d2] => { results := [.lit (.bool true)], args := [d1, d2] }
  | _ => none }
def fnExactFitsInRow : OpenClaim := { program := "ytjnlcbjehhpjiaa", sum := "ddf18d34314b10a3eb29180e779fa03468129f0319e45698b8fc89715c69c083", func := "loop.example/strideviews/laws.FnExactFitsIn", spec := "fnExactFitsIn", apart := false }
def FnExactFitsInSaid : Prop := fnExactFitsInRow.holds Try.pinned (OpenSpec.ofChange fnExactFitsInSpec)

/-- ITS FALSE NEIGHBOUR: 'it returns false'. Refute it at one input. -/
def fnExactFitsInWrong : ChangeSpec := { name := "fnExactFitsIn", fn := fun _ => fun
  | [d1, d2] => { results := [.lit (.bool false)], args := [d1, d2] }
  | _ => none }
def FnExactFitsInWrongFalsely : Prop := fnExactFitsInRow.holds Try.pinned (OpenSpec.ofChange fnExactFitsInWrong)

/- THE SECOND FORM. 'bulk': how many values and letters a reading holds, each counted each time it is reached (what is shared counts as often as it is met; a slice's spare places count too). A statement '..UptoSaid' is the law's where the arguments, and the package variables that the reading takes, are together of bulk at most 1048576: NARROWER than '..Said'. Prove '..Said' where nothing that the law and all that it calls make is longer than what came in: it says more and counts as full. Else prove '..UptoSaid'. A law counts once. -/
mutual
def uptoBulk {H : Type} : DataW H → Nat
  | .lit (.string bytes) => bytes.length + 1
  | .lit _ => 1
  | .nil => 1
  | .ptr d => uptoBulk d + 1
  | .slice elems spare => uptoBulkAll elems + uptoBulkAll spare + 1
  | .agg parts => uptoBulkAll parts + 1
  | .iface _ d => uptoBulk d + 1
  | .map entries => uptoBulkEntries entries + 1
  | .held _ => 1
def uptoBulkAll {H : Type} : List (DataW H) → Nat
  | [] => 0
  | d :: r => uptoBulk d + uptoBulkAll r
def uptoBulkEntries {H : Type} : List (Lit × DataW H) → Nat
  | [] => 0
  | x :: r => uptoBulkEntry x + uptoBulkEntries r
def uptoBulkEntry {H : Type} : Lit × DataW H → Nat
  | (.string bytes, d) => bytes.length + uptoBulk d + 1
  | (_, d) => uptoBulk d + 1
 end
def uptoSmall : (H : Type) → List (DataW H) → Bool := fun _ ds => decide (uptoBulkAll ds ≤ 1048576)
def OpenSpec.upto (s : _root_.Go.ChangeSpec) : _root_.Go.OpenSpec := { _root_.Go.OpenSpec.ofChange s with cond := some uptoSmall }

/-- 'laws.FnExactMeetRanges', WHERE WHAT IT READS IS OF BULK AT MOST 1048576: true; the input reads as it did. -/
def fnExactMeetRangesUptoRow : OpenClaim := { program := "ytjnlcbjehhpjiaa", sum := "ddf18d34314b10a3eb29180e779fa03468129f0319e45698b8fc89715c69c083", func := "loop.example/strideviews/laws.FnExactMeetRanges", spec := "fnExactMeetRanges", apart := false, narrowed := true }
def FnExactMeetRangesUptoSaid : Prop := fnExactMeetRangesUptoRow.holds Try.pinned (OpenSpec.upto fnExactMeetRangesSpec)

/-- 'laws.FnExactCoversRange', WHERE WHAT IT READS IS OF BULK AT MOST 1048576: true; the input reads as it did. -/
def fnExactCoversRangeUptoRow : OpenClaim := { program := "ytjnlcbjehhpjiaa", sum := "ddf18d34314b10a3eb29180e779fa03468129f0319e45698b8fc89715c69c083", func := "loop.example/strideviews/laws.FnExactCoversRange", spec := "fnExactCoversRange", apart := false, narrowed := true }
def FnExactCoversRangeUptoSaid : Prop := fnExactCoversRangeUptoRow.holds Try.pinned (OpenSpec.upto fnExactCoversRangeSpec)

/-- 'laws.FnExactDealRange', WHERE WHAT IT READS IS OF BULK AT MOST 1048576: true; the input reads as it did. -/
def fnExactDealRangeUptoRow : OpenClaim := { program := "ytjnlcbjehhpjiaa", sum := "ddf18d34314b10a3eb29180e779fa03468129f0319e45698b8fc89715c69c083", func := "loop.example/strideviews/laws.FnExactDealRange", spec := "fnExactDealRange", apart := false, narrowed := true }
def FnExactDealRangeUptoSaid : Prop := fnExactDealRangeUptoRow.holds Try.pinned (OpenSpec.upto fnExactDealRangeSpec)

/-- 'laws.FnExactValidView', WHERE WHAT IT READS IS OF BULK AT MOST 1048576: true; the input reads as it did. -/
def fnExactValidViewUptoRow : OpenClaim := { program := "ytjnlcbjehhpjiaa", sum := "ddf18d34314b10a3eb29180e779fa03468129f0319e45698b8fc89715c69c083", func := "loop.example/strideviews/laws.FnExactValidView", spec := "fnExactValidView", apart := false, narrowed := true }
def FnExactValidViewUptoSaid : Prop := fnExactValidViewUptoRow.holds Try.pinned (OpenSpec.upto fnExactValidViewSpec)

/-- 'laws.FnExactOffsetAt', WHERE WHAT IT READS IS OF BULK AT MOST 1048576: true; the input reads as it did. -/
def fnExactOffsetAtUptoRow : OpenClaim := { program := "ytjnlcbjehhpjiaa", sum := "ddf18d34314b10a3eb29180e779fa03468129f0319e45698b8fc89715c69c083", func := "loop.example/strideviews/laws.FnExactOffsetAt", spec := "fnExactOffsetAt", apart := false, narrowed := true }
def FnExactOffsetAtUptoSaid : Prop := fnExactOffsetAtUptoRow.holds Try.pinned (OpenSpec.upto fnExactOffsetAtSpec)

/-- 'laws.FnExactOffsetsOf', WHERE WHAT IT READS IS OF BULK AT MOST 1048576: true; the input reads as it did. -/
def fnExactOffsetsOfUptoRow : OpenClaim := { program := "ytjnlcbjehhpjiaa", sum := "ddf18d34314b10a3eb29180e779fa03468129f0319e45698b8fc89715c69c083", func := "loop.example/strideviews/laws.FnExactOffsetsOf", spec := "fnExactOffsetsOf", apart := false, narrowed := true }
def FnExactOffsetsOfUptoSaid : Prop := fnExactOffsetsOfUptoRow.holds Try.pinned (OpenSpec.upto fnExactOffsetsOfSpec)

/-- 'laws.FnExactBoundsOf', WHERE WHAT IT READS IS OF BULK AT MOST 1048576: true; the input reads as it did. -/
def fnExactBoundsOfUptoRow : OpenClaim := { program := "ytjnlcbjehhpjiaa", sum := "ddf18d34314b10a3eb29180e779fa03468129f0319e45698b8fc89715c69c083", func := "loop.example/strideviews/laws.FnExactBoundsOf", spec := "fnExactBoundsOf", apart := false, narrowed := true }
def FnExactBoundsOfUptoSaid : Prop := fnExactBoundsOfUptoRow.holds Try.pinned (OpenSpec.upto fnExactBoundsOfSpec)

/-- 'laws.FnExactFitsIn', WHERE WHAT IT READS IS OF BULK AT MOST 1048576: true; the input reads as it did. -/
def fnExactFitsInUptoRow : OpenClaim := { program := "ytjnlcbjehhpjiaa", sum := "ddf18d34314b10a3eb29180e779fa03468129f0319e45698b8fc89715c69c083", func := "loop.example/strideviews/laws.FnExactFitsIn", spec := "fnExactFitsIn", apart := false, narrowed := true }
def FnExactFitsInUptoSaid : Prop := fnExactFitsInUptoRow.holds Try.pinned (OpenSpec.upto fnExactFitsInSpec)

end Rows
end Go.Proofs.Ytjnlcbjehhpjiaa
