/-
  No cell of these rows narrows 'for every input' (looked for: loops, veiled, ifaces, maps, wideKeys, modest, calm, conditions, laid).
  DERIVED. THE GIVEN ROWS OF THIS SEAT. 3 by the template 'for every input the law returns true; each argument reads behind the call as it read before'; 0 by the template 'total and deterministic' (their statements: YtceopplkfomalaaGreatTotals.lean).
  GIVEN WITH THE SEED: the statements are not yours to turn. If you find one false, say at which input.
  Laid BY PROGRAM, IN A SANDBOX (cutbox-rows.mjs): the forced cells as the released guide's own fill.sh prints them over the translation d6f42a6e26eb75f0… (all of the seat's roots in one cut). By AI agents, Wed Nov 11 2026. No macro, syntax, notation, axiom, sorry.
-/
import Derived.Test.YtceopplkfomalaaGreatChecked
import GoSem.Claim
import GoSem.ClaimJoined
import GoSem.ClaimMapViews
import Derived.JoinedTies
import Derived.KernelRfl
namespace Go.Proofs.YtceopplkfomalaaGreat
/- THE CELL 'sum', in the pinned program and in every row, IS THE sha256 OF THE DUMP (.gsa) THAT YtceopplkfomalaaGreatProg.lean LOADS. Nothing in Lean hashes anything: it is a label: what it is worth is what the hold of that sum in a sandbox is worth. -/
noncomputable def Tryz.pinned : Pinned := { name := "ytceopplkfomalaagreat", sum := "d6f42a6e26eb75f0a71b7745e619c40d0cdae29f253795cfdb4026a9bb4b7a50", checked := Tryz.checked }
namespace Rows
def none {H : Type} : Left H := { results := [], args := [] }

/-- 'laws.FnStoreView': WHATEVER THE INPUT: true; the input reads as it did. -/
def fnStoreViewSpec : ChangeSpec := { name := "fnStoreView", fn := fun _ => fun
  | [d] => { results := [.lit (.bool true)], args := [d] }
  | _ => none }
def fnStoreViewRow : OpenClaim := { program := "ytceopplkfomalaagreat", sum := "d6f42a6e26eb75f0a71b7745e619c40d0cdae29f253795cfdb4026a9bb4b7a50", func := "loop.example/strideviews/laws.FnStoreView", spec := "fnStoreView", recurses := true, apart := false }
def FnStoreViewSaid : Prop := fnStoreViewRow.holds Tryz.pinned (OpenSpec.ofChange fnStoreViewSpec)

/-- ITS FALSE NEIGHBOUR: 'it returns false'. Refute it at one input. -/
def fnStoreViewWrong : ChangeSpec := { name := "fnStoreView", fn := fun _ => fun
  | [d] => { results := [.lit (.bool false)], args := [d] }
  | _ => none }
def FnStoreViewWrongFalsely : Prop := fnStoreViewRow.holds Tryz.pinned (OpenSpec.ofChange fnStoreViewWrong)

/-- 'laws.FnFillView': WHATEVER THE INPUT: true; the input reads as it did. -/
def fnFillViewSpec : ChangeSpec := { name := "fnFillView", fn := fun _ => fun
  | [d] => { results := [.lit (.bool true)], args := [d] }
  | _ => none }
def fnFillViewRow : OpenClaim := { program := "ytceopplkfomalaagreat", sum := "d6f42a6e26eb75f0a71b7745e619c40d0cdae29f253795cfdb4026a9bb4b7a50", func := "loop.example/strideviews/laws.FnFillView", spec := "fnFillView", recurses := true, apart := false }
def FnFillViewSaid : Prop := fnFillViewRow.holds Tryz.pinned (OpenSpec.ofChange fnFillViewSpec)

/-- ITS FALSE NEIGHBOUR: 'it returns false'. Refute it at one input. -/
def fnFillViewWrong : ChangeSpec := { name := "fnFillView", fn := fun _ => fun
  | [d] => { results := [.lit (.bool false)], args := [d] }
  | _ => none }
def FnFillViewWrongFalsely : Prop := fnFillViewRow.holds Tryz.pinned (OpenSpec.ofChange fnFillViewWrong)

/-- 'laws.FnSwapViews': WHATEVER THE INPUT: true; the input reads as it did. -/
def fnSwapViewsSpec : ChangeSpec := { name := "fnSwapViews", fn := fun _ => fun
  | [d] => { results := [.lit (.bool true)], args := [d] }
  | _ => none }
def fnSwapViewsRow : OpenClaim := { program := "ytceopplkfomalaagreat", sum := "d6f42a6e26eb75f0a71b7745e619c40d0cdae29f253795cfdb4026a9bb4b7a50", func := "loop.example/strideviews/laws.FnSwapViews", spec := "fnSwapViews", recurses := true, apart := false }
def FnSwapViewsSaid : Prop := fnSwapViewsRow.holds Tryz.pinned (OpenSpec.ofChange fnSwapViewsSpec)

/-- ITS FALSE NEIGHBOUR: 'it returns false'. Refute it at one input. -/
def fnSwapViewsWrong : ChangeSpec := { name := "fnSwapViews", fn := fun _ => fun
  | [d] => { results := [.lit (.bool false)], args := [d] }
  | _ => none }
def FnSwapViewsWrongFalsely : Prop := fnSwapViewsRow.holds Tryz.pinned (OpenSpec.ofChange fnSwapViewsWrong)

/- THE SECOND FORM. 'bulk': how many values and letters a reading holds, each counted each time it is reached (what is shared counts as often as it is met; a slice's spare places count too). A statement '..UptoSaid' is the law's where the arguments, and the package variables that the reading takes, are together of bulk at most 1048576: NARROWER than '..Said'. Prove '..Said' where nothing that the law and all that it calls make is longer than what came in: it says more and counts as full. Else prove '..UptoSaid'. A law counts once. -/
mutual
def uptoBulk {H : Type} : DataW H → Nat
  | .lit (.string bytes) => bytes.length + 1
  | .lit _ => 1
  | .nil => 1
  | .ptr d => uptoBulk d + 1
  | .slice elems spare => uptoBulkAll elems + uptoBulkAll spare + 1
  | .agg parts => uptoBulkAll parts + 1
  | .iface _ d => uptoBulk d + 1
  | .map entries => uptoBulkEntries entries + 1
  | .held _ => 1
def uptoBulkAll {H : Type} : List (DataW H) → Nat
  | [] => 0
  | d :: r => uptoBulk d + uptoBulkAll r
def uptoBulkEntries {H : Type} : List (Lit × DataW H) → Nat
  | [] => 0
  | x :: r => uptoBulkEntry x + uptoBulkEntries r
def uptoBulkEntry {H : Type} : Lit × DataW H → Nat
  | (.string bytes, d) => bytes.length + uptoBulk d + 1
  | (_, d) => uptoBulk d + 1
 end
def uptoSmall : (H : Type) → List (DataW H) → Bool := fun _ ds => decide (uptoBulkAll ds ≤ 1048576)
def OpenSpec.upto (s : _root_.Go.ChangeSpec) : _root_.Go.OpenSpec := { _root_.Go.OpenSpec.ofChange s with cond := some uptoSmall }

/-- 'laws.FnStoreView', WHERE WHAT IT READS IS OF BULK AT MOST 1048576: true; the input reads as it did. -/
def fnStoreViewUptoRow : OpenClaim := { program := "ytceopplkfomalaagreat", sum := "d6f42a6e26eb75f0a71b7745e619c40d0cdae29f253795cfdb4026a9bb4b7a50", func := "loop.example/strideviews/laws.FnStoreView", spec := "fnStoreView", recurses := true, apart := false, narrowed := true }
def FnStoreViewUptoSaid : Prop := fnStoreViewUptoRow.holds Tryz.pinned (OpenSpec.upto fnStoreViewSpec)

/-- 'laws.FnFillView', WHERE WHAT IT READS IS OF BULK AT MOST 1048576: true; the input reads as it did. -/
def fnFillViewUptoRow : OpenClaim := { program := "ytceopplkfomalaagreat", sum := "d6f42a6e26eb75f0a71b7745e619c40d0cdae29f253795cfdb4026a9bb4b7a50", func := "loop.example/strideviews/laws.FnFillView", spec := "fnFillView", recurses := true, apart := false, narrowed := true }
def FnFillViewUptoSaid : Prop := fnFillViewUptoRow.holds Tryz.pinned (OpenSpec.upto fnFillViewSpec)

/-- 'laws.FnSwapViews', WHERE WHAT IT READS IS OF BULK AT MOST 1048576: true; the input reads as it did. -/
def fnSwapViewsUptoRow : OpenClaim := { program := "ytceopplkfomalaagreat", sum := "d6f42a6e26eb75f0a71b7745e619c40d0cdae29f253795cfdb4026a9bb4b7a50", func := "loop.example/strideviews/laws.FnSwapViews", spec := "fnSwapViews", recurses := true, apart := false, narrowed := true }
def FnSwapViewsUptoSaid : Prop := fnSwapViewsUptoRow.holds Tryz.pinned (OpenSpec.upto fnSwapViewsSpec)

end Rows
end Go.Proofs.YtceopplkfomalaaGreat
