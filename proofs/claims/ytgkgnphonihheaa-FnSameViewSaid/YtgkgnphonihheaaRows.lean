/-
  No cell of these rows narrows 'for every input' (looked for: loops, veiled, ifaces, maps, wideKeys, modest, calm, conditions, laid).
  DERIVED. THE GIVEN ROWS OF THIS SEAT. 8 by the template 'for every input the law returns true; each argument reads behind the call as it read before'; 0 by the template 'total and deterministic' (their statements: YtgkgnphonihheaaTotals.lean).
  GIVEN WITH THE SEED: the statements are not yours to turn. If you find one false, say at which input.
  Laid BY PROGRAM, IN A SANDBOX (cutbox-rows.mjs): the forced cells as the released guide's own fill.sh prints them over the translation 9c401f7ab4918b9e… (all of the seat's roots in one cut). By AI agents, Wed Nov 11 2026. No macro, syntax, notation, axiom, sorry.
-/
import Derived.Test.YtgkgnphonihheaaChecked
import GoSem.Claim
import GoSem.ClaimJoined
import GoSem.ClaimMapViews
import Derived.JoinedTies
import Derived.KernelRfl
namespace Go.Proofs.Ytgkgnphonihheaa
/- THE CELL 'sum', in the pinned program and in every row, IS THE sha256 OF THE DUMP (.gsa) THAT YtgkgnphonihheaaProg.lean LOADS. Nothing in Lean hashes anything: it is a label: what it is worth is what the hold of that sum in a sandbox is worth. -/
noncomputable def Try.pinned : Pinned := { name := "ytgkgnphonihheaa", sum := "9c401f7ab4918b9e1831f9b7bfe5ee858b1c2069d027366078a4294a937ca362", checked := Try.checked }
namespace Rows
def none {H : Type} : Left H := { results := [], args := [] }

/-- 'laws.FnOverlapOf': WHATEVER THE INPUT: true; the input reads as it did. -/
def fnOverlapOfSpec : ChangeSpec := { name := "fnOverlapOf", fn := fun _ => fun
  | [d] => { results := [.lit (.bool true)], args := [d] }
  | _ => none }
def fnOverlapOfRow : OpenClaim := { program := "ytgkgnphonihheaa", sum := "9c401f7ab4918b9e1831f9b7bfe5ee858b1c2069d027366078a4294a937ca362", func := "loop.example/strideviews/laws.FnOverlapOf", spec := "fnOverlapOf", recurses := true, apart := false }
def FnOverlapOfSaid : Prop := fnOverlapOfRow.holds Try.pinned (OpenSpec.ofChange fnOverlapOfSpec)

/-- ITS FALSE NEIGHBOUR: 'it returns false'. Refute it at one input. -/
def fnOverlapOfWrong : ChangeSpec := { name := "fnOverlapOf", fn := fun _ => fun
  | [d] => { results := [.lit (.bool false)], args := [d] }
  | _ => none }
def FnOverlapOfWrongFalsely : Prop := fnOverlapOfRow.holds Try.pinned (OpenSpec.ofChange fnOverlapOfWrong)

/-- 'laws.FnDoOverlap': WHATEVER THE INPUT: true; the input reads as it did. -/
def fnDoOverlapSpec : ChangeSpec := { name := "fnDoOverlap", fn := fun _ => fun
  | [d] => { results := [.lit (.bool true)], args := [d] }
  | _ => none }
def fnDoOverlapRow : OpenClaim := { program := "ytgkgnphonihheaa", sum := "9c401f7ab4918b9e1831f9b7bfe5ee858b1c2069d027366078a4294a937ca362", func := "loop.example/strideviews/laws.FnDoOverlap", spec := "fnDoOverlap", recurses := true, apart := false }
def FnDoOverlapSaid : Prop := fnDoOverlapRow.holds Try.pinned (OpenSpec.ofChange fnDoOverlapSpec)

/-- ITS FALSE NEIGHBOUR: 'it returns false'. Refute it at one input. -/
def fnDoOverlapWrong : ChangeSpec := { name := "fnDoOverlap", fn := fun _ => fun
  | [d] => { results := [.lit (.bool false)], args := [d] }
  | _ => none }
def FnDoOverlapWrongFalsely : Prop := fnDoOverlapRow.holds Try.pinned (OpenSpec.ofChange fnDoOverlapWrong)

/-- 'laws.FnCoversView': WHATEVER THE INPUT: true; the input reads as it did. -/
def fnCoversViewSpec : ChangeSpec := { name := "fnCoversView", fn := fun _ => fun
  | [d] => { results := [.lit (.bool true)], args := [d] }
  | _ => none }
def fnCoversViewRow : OpenClaim := { program := "ytgkgnphonihheaa", sum := "9c401f7ab4918b9e1831f9b7bfe5ee858b1c2069d027366078a4294a937ca362", func := "loop.example/strideviews/laws.FnCoversView", spec := "fnCoversView", recurses := true, apart := false }
def FnCoversViewSaid : Prop := fnCoversViewRow.holds Try.pinned (OpenSpec.ofChange fnCoversViewSpec)

/-- ITS FALSE NEIGHBOUR: 'it returns false'. Refute it at one input. -/
def fnCoversViewWrong : ChangeSpec := { name := "fnCoversView", fn := fun _ => fun
  | [d] => { results := [.lit (.bool false)], args := [d] }
  | _ => none }
def FnCoversViewWrongFalsely : Prop := fnCoversViewRow.holds Try.pinned (OpenSpec.ofChange fnCoversViewWrong)

/-- 'laws.FnWitnessOf': WHATEVER THE INPUT: true; the input reads as it did. -/
def fnWitnessOfSpec : ChangeSpec := { name := "fnWitnessOf", fn := fun _ => fun
  | [d] => { results := [.lit (.bool true)], args := [d] }
  | _ => none }
def fnWitnessOfRow : OpenClaim := { program := "ytgkgnphonihheaa", sum := "9c401f7ab4918b9e1831f9b7bfe5ee858b1c2069d027366078a4294a937ca362", func := "loop.example/strideviews/laws.FnWitnessOf", spec := "fnWitnessOf", recurses := true, apart := false }
def FnWitnessOfSaid : Prop := fnWitnessOfRow.holds Try.pinned (OpenSpec.ofChange fnWitnessOfSpec)

/-- ITS FALSE NEIGHBOUR: 'it returns false'. Refute it at one input. -/
def fnWitnessOfWrong : ChangeSpec := { name := "fnWitnessOf", fn := fun _ => fun
  | [d] => { results := [.lit (.bool false)], args := [d] }
  | _ => none }
def FnWitnessOfWrongFalsely : Prop := fnWitnessOfRow.holds Try.pinned (OpenSpec.ofChange fnWitnessOfWrong)

/-- 'laws.FnCellsOf': WHATEVER THE INPUT: true; the input reads as it did. -/
def fnCellsOfSpec : ChangeSpec := { name := "fnCellsOf", fn := fun _ => fun
  | [d] => { results := [.lit (.bool true)], args := [d] }
  | _ => none }
def fnCellsOfRow : OpenClaim := { program := "ytgkgnphonihheaa", sum := "9c401f7ab4918b9e1831f9b7bfe5ee858b1c2069d027366078a4294a937ca362", func := "loop.example/strideviews/laws.FnCellsOf", spec := "fnCellsOf", recurses := true, apart := false }
def FnCellsOfSaid : Prop := fnCellsOfRow.holds Try.pinned (OpenSpec.ofChange fnCellsOfSpec)

/-- ITS FALSE NEIGHBOUR: 'it returns false'. Refute it at one input. -/
def fnCellsOfWrong : ChangeSpec := { name := "fnCellsOf", fn := fun _ => fun
  | [d] => { results := [.lit (.bool false)], args := [d] }
  | _ => none }
def FnCellsOfWrongFalsely : Prop := fnCellsOfRow.holds Try.pinned (OpenSpec.ofChange fnCellsOfWrong)

/-- 'laws.FnRepeatsOf': WHATEVER THE INPUT: true; the input reads as it did. -/
def fnRepeatsOfSpec : ChangeSpec := { name := "fnRepeatsOf", fn := fun _ => fun
  | [d] => { results := [.lit (.bool true)], args := [d] }
  | _ => none }
def fnRepeatsOfRow : OpenClaim := { program := "ytgkgnphonihheaa", sum := "9c401f7ab4918b9e1831f9b7bfe5ee858b1c2069d027366078a4294a937ca362", func := "loop.example/strideviews/laws.FnRepeatsOf", spec := "fnRepeatsOf", recurses := true, apart := false }
def FnRepeatsOfSaid : Prop := fnRepeatsOfRow.holds Try.pinned (OpenSpec.ofChange fnRepeatsOfSpec)

/-- ITS FALSE NEIGHBOUR: 'it returns false'. Refute it at one input. -/
def fnRepeatsOfWrong : ChangeSpec := { name := "fnRepeatsOf", fn := fun _ => fun
  | [d] => { results := [.lit (.bool false)], args := [d] }
  | _ => none }
def FnRepeatsOfWrongFalsely : Prop := fnRepeatsOfRow.holds Try.pinned (OpenSpec.ofChange fnRepeatsOfWrong)

/-- 'laws.FnIsOneToOne': WHATEVER THE INPUT: true; the input reads as it did. -/
def fnIsOneToOneSpec : ChangeSpec := { name := "fnIsOneToOne", fn := fun _ => fun
  | [d] => { results := [.lit (.bool true)], args := [d] }
  | _ => none }
def fnIsOneToOneRow : OpenClaim := { program := "ytgkgnphonihheaa", sum := "9c401f7ab4918b9e1831f9b7bfe5ee858b1c2069d027366078a4294a937ca362", func := "loop.example/strideviews/laws.FnIsOneToOne", spec := "fnIsOneToOne", recurses := true, apart := false }
def FnIsOneToOneSaid : Prop := fnIsOneToOneRow.holds Try.pinned (OpenSpec.ofChange fnIsOneToOneSpec)

/-- ITS FALSE NEIGHBOUR: 'it returns false'. Refute it at one input. -/
def fnIsOneToOneWrong : ChangeSpec := { name := "fnIsOneToOne", fn := fun _ => fun
  | [d] => { results := [.lit (.bool false)], args := [d] }
  | _ => none }
def FnIsOneToOneWrongFalsely : Prop := fnIsOneToOneRow.holds Try.pinned (OpenSpec.ofChange fnIsOneToOneWrong)

/-- 'laws.FnSameView': WHATEVER THE INPUT: true; the input reads as it did. -/
def fnSameViewSpec : ChangeSpec := { name := "fnSameView", fn := fun _ => fun
  | [d] => { results := [.lit (.bool true)], args := [d] }
  | _ => none }
def fnSameViewRow : OpenClaim := { program := "ytgkgnphonihheaa", sum := "9c401f7ab4918b9e1831f9b7bfe5ee858b1c2069d027366078a4294a937ca362", func := "loop.example/strideviews/laws.FnSameView", spec := "fnSameView", recurses := true, apart := false }
def FnSameViewSaid : Prop := fnSameViewRow.holds Try.pinned (OpenSpec.ofChange fnSameViewSpec)

/-- ITS FALSE NEIGHBOUR: 'it returns false'. Refute it at one input. -/
def fnSameViewWrong : ChangeSpec := { name := "fnSameView", fn := fun _ => fun
  | [d] => { results := [.lit (.bool false)], args := [d] }
  | _ => none }
def FnSameViewWrongFalsely : Prop := fnSameViewRow.holds Try.pinned (OpenSpec.ofChange fnSameViewWrong)

/- THE SECOND FORM. 'bulk': how many values and letters a reading holds, each counted each time it is reached (what is shared counts as often as it is met; a slice's spare places count too). A statement '..UptoSaid' is the law's where the arguments, and the package variables that the reading takes, are together of bulk at most 1048576: NARROWER than '..Said'. Prove '..Said' where nothing that the law and all that it calls make is longer than what came in: it says more and counts as full. Else prove '..UptoSaid'. A law counts once. -/
mutual
def uptoBulk {H : Type} : DataW H → Nat
  | .lit (.string bytes) => bytes.length + 1
  | .lit _ => 1
  | .nil => 1
  | .ptr d => uptoBulk d + 1
  | .slice elems spare => uptoBulkAll elems + uptoBulkAll spare + 1
  | .agg parts => uptoBulkAll parts + 1
  | .iface _ d => uptoBulk d + 1
  | .map entries => uptoBulkEntries entries + 1
  | .held _ => 1
def uptoBulkAll {H : Type} : List (DataW H) → Nat
  | [] => 0
  | d :: r => uptoBulk d + uptoBulkAll r
def uptoBulkEntries {H : Type} : List (Lit × DataW H) → Nat
  | [] => 0
  | x :: r => uptoBulkEntry x + uptoBulkEntries r
def uptoBulkEntry {H : Type} : Lit × DataW H → Nat
  | (.string bytes, d) => bytes.length + uptoBulk d + 1
  | (_, d) => uptoBulk d + 1
 end
def uptoSmall : (H : Type) → List (DataW H) → Bool := fun _ ds => decide (uptoBulkAll ds ≤ 1048576)
def OpenSpec.upto (s : _root_.Go.ChangeSpec) : _root_.Go.OpenSpec := { _root_.Go.OpenSpec.ofChange s with cond := some uptoSmall }

/-- 'laws.FnOverlapOf', WHERE WHAT IT READS IS OF BULK AT MOST 1048576: true; the input reads as it did. -/
def fnOverlapOfUptoRow : OpenClaim := { program := "ytgkgnphonihheaa", sum := "9c401f7ab4918b9e1831f9b7bfe5ee858b1c2069d027366078a4294a937ca362", func := "loop.example/strideviews/laws.FnOverlapOf", spec := "fnOverlapOf", recurses := true, apart := false, narrowed := true }
def FnOverlapOfUptoSaid : Prop := fnOverlapOfUptoRow.holds Try.pinned (OpenSpec.upto fnOverlapOfSpec)

/-- 'laws.FnDoOverlap', WHERE WHAT IT READS IS OF BULK AT MOST 1048576: true; the input reads as it did. -/
def fnDoOverlapUptoRow : OpenClaim := { program := "ytgkgnphonihheaa", sum := "9c401f7ab4918b9e1831f9b7bfe5ee858b1c2069d027366078a4294a937ca362", func := "loop.example/strideviews/laws.FnDoOverlap", spec := "fnDoOverlap", recurses := true, apart := false, narrowed := true }
def FnDoOverlapUptoSaid : Prop := fnDoOverlapUptoRow.holds Try.pinned (OpenSpec.upto fnDoOverlapSpec)

/-- 'laws.FnCoversView', WHERE WHAT IT READS IS OF BULK AT MOST 1048576: true; the input reads as it did. -/
def fnCoversViewUptoRow : OpenClaim := { program := "ytgkgnphonihheaa", sum := "9c401f7ab4918b9e1831f9b7bfe5ee858b1c2069d027366078a4294a937ca362", func := "loop.example/strideviews/laws.FnCoversView", spec := "fnCoversView", recurses := true, apart := false, narrowed := true }
def FnCoversViewUptoSaid : Prop := fnCoversViewUptoRow.holds Try.pinned (OpenSpec.upto fnCoversViewSpec)

/-- 'laws.FnWitnessOf', WHERE WHAT IT READS IS OF BULK AT MOST 1048576: true; the input reads as it did. -/
def fnWitnessOfUptoRow : OpenClaim := { program := "ytgkgnphonihheaa", sum := "9c401f7ab4918b9e1831f9b7bfe5ee858b1c2069d027366078a4294a937ca362", func := "loop.example/strideviews/laws.FnWitnessOf", spec := "fnWitnessOf", recurses := true, apart := false, narrowed := true }
def FnWitnessOfUptoSaid : Prop := fnWitnessOfUptoRow.holds Try.pinned (OpenSpec.upto fnWitnessOfSpec)

/-- 'laws.FnCellsOf', WHERE WHAT IT READS IS OF BULK AT MOST 1048576: true; the input reads as it did. -/
def fnCellsOfUptoRow : OpenClaim := { program := "ytgkgnphonihheaa", sum := "9c401f7ab4918b9e1831f9b7bfe5ee858b1c2069d027366078a4294a937ca362", func := "loop.example/strideviews/laws.FnCellsOf", spec := "fnCellsOf", recurses := true, apart := false, narrowed := true }
def FnCellsOfUptoSaid : Prop := fnCellsOfUptoRow.holds Try.pinned (OpenSpec.upto fnCellsOfSpec)

/-- 'laws.FnRepeatsOf', WHERE WHAT IT READS IS OF BULK AT MOST 1048576: true; the input reads as it did. -/
def fnRepeatsOfUptoRow : OpenClaim := { program := "ytgkgnphonihheaa", sum := "9c401f7ab4918b9e1831f9b7bfe5ee858b1c2069d027366078a4294a937ca362", func := "loop.example/strideviews/laws.FnRepeatsOf", spec := "fnRepeatsOf", recurses := true, apart := false, narrowed := true }
def FnRepeatsOfUptoSaid : Prop := fnRepeatsOfUptoRow.holds Try.pinned (OpenSpec.upto fnRepeatsOfSpec)

/-- 'laws.FnIsOneToOne', WHERE WHAT IT READS IS OF BULK AT MOST 1048576: true; the input reads as it did. -/
def fnIsOneToOneUptoRow : OpenClaim := { program := "ytgkgnphonihheaa", sum := "9c401f7ab4918b9e1831f9b7bfe5ee858b1c2069d027366078a4294a937ca362", func := "loop.example/strideviews/laws.FnIsOneToOne", spec := "fnIsOneToOne", recurses := true, apart := false, narrowed := true }
def FnIsOneToOneUptoSaid : Prop := fnIsOneToOneUptoRow.holds Try.pinned (OpenSpec.upto fnIsOneToOneSpec)

/-- 'laws.FnSameView', WHERE WHAT IT READS IS OF BULK AT MOST 1048576: true; the input reads as it did. -/
def fnSameViewUptoRow : OpenClaim := { program := "ytgkgnphonihheaa", sum := "9c401f7ab4918b9e1831f9b7bfe5ee858b1c2069d027366078a4294a937ca362", func := "loop.example/strideviews/laws.FnSameView", spec := "fnSameView", recurses := true, apart := false, narrowed := true }
def FnSameViewUptoSaid : Prop := fnSameViewUptoRow.holds Try.pinned (OpenSpec.upto fnSameViewSpec)

end Rows
end Go.Proofs.Ytgkgnphonihheaa
