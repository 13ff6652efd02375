/-
  No cell of these rows narrows 'for every input' (looked for: loops, veiled, ifaces, maps, wideKeys, modest, calm, conditions, laid).
  DERIVED. THE GIVEN ROWS OF THIS SEAT. 7 by the template 'for every input the law returns true; each argument reads behind the call as it read before'; 0 by the template 'total and deterministic' (their statements: YtcfjemmoajdcoaaTotals.lean).
  GIVEN WITH THE SEED: the statements are not yours to turn. If you find one false, say at which input.
  Laid BY PROGRAM, IN A SANDBOX (cutbox-rows.mjs): the forced cells as the released guide's own fill.sh prints them over the translation ceb569bb587d31fc… (all of the seat's roots in one cut). By AI agents, Wed Nov 11 2026. No macro, syntax, notation, axiom, sorry.
-/
import Derived.Test.YtcfjemmoajdcoaaChecked
import GoSem.Claim
import GoSem.ClaimJoined
import GoSem.ClaimMapViews
import Derived.JoinedTies
import Derived.KernelRfl
namespace Go.Proofs.Ytcfjemmoajdcoaa
/- THE CELL 'sum', in the pinned program and in every row, IS THE sha256 OF THE DUMP (.gsa) THAT YtcfjemmoajdcoaaProg.lean LOADS. Nothing in Lean hashes anything: it is a label: what it is worth is what the hold of that sum in a sandbox is worth. -/
noncomputable def Try.pinned : Pinned := { name := "ytcfjemmoajdcoaa", sum := "ceb569bb587d31fc447deec9e7dbe782ed772368d081320c109b649d0955ba7a", checked := Try.checked }
namespace Rows
def none {H : Type} : Left H := { results := [], args := [] }

/-- 'laws.FnLoadView': WHATEVER THE INPUT: true; the input reads as it did. -/
def fnLoadViewSpec : ChangeSpec := { name := "fnLoadView", fn := fun _ => fun
  | [d] => { results := [.lit (.bool true)], args := [d] }
  | _ => none }
def fnLoadViewRow : OpenClaim := { program := "ytcfjemmoajdcoaa", sum := "ceb569bb587d31fc447deec9e7dbe782ed772368d081320c109b649d0955ba7a", func := "loop.example/strideviews/laws.FnLoadView", spec := "fnLoadView", apart := false }
def FnLoadViewSaid : Prop := fnLoadViewRow.holds Try.pinned (OpenSpec.ofChange fnLoadViewSpec)

/-- ITS FALSE NEIGHBOUR: 'it returns false'. Refute it at one input. -/
def fnLoadViewWrong : ChangeSpec := { name := "fnLoadView", fn := fun _ => fun
  | [d] => { results := [.lit (.bool false)], args := [d] }
  | _ => none }
def FnLoadViewWrongFalsely : Prop := fnLoadViewRow.holds Try.pinned (OpenSpec.ofChange fnLoadViewWrong)

/-- 'laws.FnStoreViewLast': WHATEVER THE INPUT: true; the input reads as it did. -/
def fnStoreViewLastSpec : ChangeSpec := { name := "fnStoreViewLast", fn := fun _ => fun
  | [d] => { results := [.lit (.bool true)], args := [d] }
  | _ => none }
def fnStoreViewLastRow : OpenClaim := { program := "ytcfjemmoajdcoaa", sum := "ceb569bb587d31fc447deec9e7dbe782ed772368d081320c109b649d0955ba7a", func := "loop.example/strideviews/laws.FnStoreViewLast", spec := "fnStoreViewLast", apart := false }
def FnStoreViewLastSaid : Prop := fnStoreViewLastRow.holds Try.pinned (OpenSpec.ofChange fnStoreViewLastSpec)

/-- ITS FALSE NEIGHBOUR: 'it returns false'. Refute it at one input. -/
def fnStoreViewLastWrong : ChangeSpec := { name := "fnStoreViewLast", fn := fun _ => fun
  | [d] => { results := [.lit (.bool false)], args := [d] }
  | _ => none }
def FnStoreViewLastWrongFalsely : Prop := fnStoreViewLastRow.holds Try.pinned (OpenSpec.ofChange fnStoreViewLastWrong)

/-- 'laws.FnCopyView': WHATEVER THE INPUT: true; the input reads as it did. -/
def fnCopyViewSpec : ChangeSpec := { name := "fnCopyView", fn := fun _ => fun
  | [d] => { results := [.lit (.bool true)], args := [d] }
  | _ => none }
def fnCopyViewRow : OpenClaim := { program := "ytcfjemmoajdcoaa", sum := "ceb569bb587d31fc447deec9e7dbe782ed772368d081320c109b649d0955ba7a", func := "loop.example/strideviews/laws.FnCopyView", spec := "fnCopyView", apart := false }
def FnCopyViewSaid : Prop := fnCopyViewRow.holds Try.pinned (OpenSpec.ofChange fnCopyViewSpec)

/-- ITS FALSE NEIGHBOUR: 'it returns false'. Refute it at one input. -/
def fnCopyViewWrong : ChangeSpec := { name := "fnCopyView", fn := fun _ => fun
  | [d] => { results := [.lit (.bool false)], args := [d] }
  | _ => none }
def FnCopyViewWrongFalsely : Prop := fnCopyViewRow.holds Try.pinned (OpenSpec.ofChange fnCopyViewWrong)

/-- 'laws.FnCopyForwardWrong': WHATEVER THE INPUT: true; the input reads as it did. -/
def fnCopyForwardWrongSpec : ChangeSpec := { name := "fnCopyForwardWrong", fn := fun _ => fun
  | [d] => { results := [.lit (.bool true)], args := [d] }
  | _ => none }
def fnCopyForwardWrongRow : OpenClaim := { program := "ytcfjemmoajdcoaa", sum := "ceb569bb587d31fc447deec9e7dbe782ed772368d081320c109b649d0955ba7a", func := "loop.example/strideviews/laws.FnCopyForwardWrong", spec := "fnCopyForwardWrong", apart := false }
def FnCopyForwardWrongSaid : Prop := fnCopyForwardWrongRow.holds Try.pinned (OpenSpec.ofChange fnCopyForwardWrongSpec)

/-- ITS FALSE NEIGHBOUR: 'it returns false'. Refute it at one input. -/
def fnCopyForwardWrongWrong : ChangeSpec := { name := "fnCopyForwardWrong", fn := fun _ => fun
  | [d] => { results := [.lit (.bool false)], args := [d] }
  | _ => none }
def FnCopyForwardWrongWrongFalsely : Prop := fnCopyForwardWrongRow.holds Try.pinned (OpenSpec.ofChange fnCopyForwardWrongWrong)

/-- 'laws.FnAddView': WHATEVER THE INPUT: true; the input reads as it did. -/
def fnAddViewSpec : ChangeSpec := { name := "fnAddView", fn := fun _ => fun
  | [d] => { results := [.lit (.bool true)], args := [d] }
  | _ => none }
def fnAddViewRow : OpenClaim := { program := "ytcfjemmoajdcoaa", sum := "ceb569bb587d31fc447deec9e7dbe782ed772368d081320c109b649d0955ba7a", func := "loop.example/strideviews/laws.FnAddView", spec := "fnAddView", apart := false }
def FnAddViewSaid : Prop := fnAddViewRow.holds Try.pinned (OpenSpec.ofChange fnAddViewSpec)

/-- ITS FALSE NEIGHBOUR: 'it returns false'. Refute it at one input. -/
def fnAddViewWrong : ChangeSpec := { name := "fnAddView", fn := fun _ => fun
  | [d] => { results := [.lit (.bool false)], args := [d] }
  | _ => none }
def FnAddViewWrongFalsely : Prop := fnAddViewRow.holds Try.pinned (OpenSpec.ofChange fnAddViewWrong)

/-- 'laws.FnChangedBy': WHATEVER THE INPUT: true; the input reads as it did. -/
def fnChangedBySpec : ChangeSpec := { name := "fnChangedBy", fn := fun _ => fun
  | [d] => { results := [.lit (.bool true)], args := [d] }
  | _ => none }
def fnChangedByRow : OpenClaim := { program := "ytcfjemmoajdcoaa", sum := "ceb569bb587d31fc447deec9e7dbe782ed772368d081320c109b649d0955ba7a", func := "loop.example/strideviews/laws.FnChangedBy", spec := "fnChangedBy", apart := false }
def FnChangedBySaid : Prop := fnChangedByRow.holds Try.pinned (OpenSpec.ofChange fnChangedBySpec)

/-- ITS FALSE NEIGHBOUR: 'it returns false'. Refute it at one input. -/
def fnChangedByWrong : ChangeSpec := { name := "fnChangedBy", fn := fun _ => fun
  | [d] => { results := [.lit (.bool false)], args := [d] }
  | _ => none }
def FnChangedByWrongFalsely : Prop := fnChangedByRow.holds Try.pinned (OpenSpec.ofChange fnChangedByWrong)

/-- 'laws.FnSumView': WHATEVER THE INPUT: true; the input reads as it did. -/
def fnSumViewSpec : ChangeSpec := { name := "fnSumView", fn := fun _ => fun
  | [d] => { results := [.lit (.bool true)], args := [d] }
  | _ => none }
def fnSumViewRow : OpenClaim := { program := "ytcfjemmoajdcoaa", sum := "ceb569bb587d31fc447deec9e7dbe782ed772368d081320c109b649d0955ba7a", func := "loop.example/strideviews/laws.FnSumView", spec := "fnSumView", apart := false }
def FnSumViewSaid : Prop := fnSumViewRow.holds Try.pinned (OpenSpec.ofChange fnSumViewSpec)

/-- ITS FALSE NEIGHBOUR: 'it returns false'. Refute it at one input. -/
def fnSumViewWrong : ChangeSpec := { name := "fnSumView", fn := fun _ => fun
  | [d] => { results := [.lit (.bool false)], args := [d] }
  | _ => none }
def FnSumViewWrongFalsely : Prop := fnSumViewRow.holds Try.pinned (OpenSpec.ofChange fnSumViewWrong)

/- THE SECOND FORM. 'bulk': how many values and letters a reading holds, each counted each time it is reached (what is shared counts as often as it is met; a slice's spare places count too). A statement '..UptoSaid' is the law's where the arguments, and the package variables that the reading takes, are together of bulk at most 1048576: NARROWER than '..Said'. Prove '..Said' where nothing that the law and all that it calls make is longer than what came in: it says more and counts as full. Else prove '..UptoSaid'. A law counts once. -/
mutual
def uptoBulk {H : Type} : DataW H → Nat
  | .lit (.string bytes) => bytes.length + 1
  | .lit _ => 1
  | .nil => 1
  | .ptr d => uptoBulk d + 1
  | .slice elems spare => uptoBulkAll elems + uptoBulkAll spare + 1
  | .agg parts => uptoBulkAll parts + 1
  | .iface _ d => uptoBulk d + 1
  | .map entries => uptoBulkEntries entries + 1
  | .held _ => 1
def uptoBulkAll {H : Type} : List (DataW H) → Nat
  | [] => 0
  | d :: r => uptoBulk d + uptoBulkAll r
def uptoBulkEntries {H : Type} : List (Lit × DataW H) → Nat
  | [] => 0
  | x :: r => uptoBulkEntry x + uptoBulkEntries r
def uptoBulkEntry {H : Type} : Lit × DataW H → Nat
  | (.string bytes, d) => bytes.length + uptoBulk d + 1
  | (_, d) => uptoBulk d + 1
 end
def uptoSmall : (H : Type) → List (DataW H) → Bool := fun _ ds => decide (uptoBulkAll ds ≤ 1048576)
def OpenSpec.upto (s : _root_.Go.ChangeSpec) : _root_.Go.OpenSpec := { _root_.Go.OpenSpec.ofChange s with cond := some uptoSmall }

/-- 'laws.FnLoadView', WHERE WHAT IT READS IS OF BULK AT MOST 1048576: true; the input reads as it did. -/
def fnLoadViewUptoRow : OpenClaim := { program := "ytcfjemmoajdcoaa", sum := "ceb569bb587d31fc447deec9e7dbe782ed772368d081320c109b649d0955ba7a", func := "loop.example/strideviews/laws.FnLoadView", spec := "fnLoadView", apart := false, narrowed := true }
def FnLoadViewUptoSaid : Prop := fnLoadViewUptoRow.holds Try.pinned (OpenSpec.upto fnLoadViewSpec)

/-- 'laws.FnStoreViewLast', WHERE WHAT IT READS IS OF BULK AT MOST 1048576: true; the input reads as it did. -/
def fnStoreViewLastUptoRow : OpenClaim := { program := "ytcfjemmoajdcoaa", sum := "ceb569bb587d31fc447deec9e7dbe782ed772368d081320c109b649d0955ba7a", func := "loop.example/strideviews/laws.FnStoreViewLast", spec := "fnStoreViewLast", apart := false, narrowed := true }
def FnStoreViewLastUptoSaid : Prop := fnStoreViewLastUptoRow.holds Try.pinned (OpenSpec.upto fnStoreViewLastSpec)

/-- 'laws.FnCopyView', WHERE WHAT IT READS IS OF BULK AT MOST 1048576: true; the input reads as it did. -/
def fnCopyViewUptoRow : OpenClaim := { program := "ytcfjemmoajdcoaa", sum := "ceb569bb587d31fc447deec9e7dbe782ed772368d081320c109b649d0955ba7a", func := "loop.example/strideviews/laws.FnCopyView", spec := "fnCopyView", apart := false, narrowed := true }
def FnCopyViewUptoSaid : Prop := fnCopyViewUptoRow.holds Try.pinned (OpenSpec.upto fnCopyViewSpec)

/-- 'laws.FnCopyForwardWrong', WHERE WHAT IT READS IS OF BULK AT MOST 1048576: true; the input reads as it did. -/
def fnCopyForwardWrongUptoRow : OpenClaim := { program := "ytcfjemmoajdcoaa", sum := "ceb569bb587d31fc447deec9e7dbe782ed772368d081320c109b649d0955ba7a", func := "loop.example/strideviews/laws.FnCopyForwardWrong", spec := "fnCopyForwardWrong", apart := false, narrowed := true }
def FnCopyForwardWrongUptoSaid : Prop := fnCopyForwardWrongUptoRow.holds Try.pinned (OpenSpec.upto fnCopyForwardWrongSpec)

/-- 'laws.FnAddView', WHERE WHAT IT READS IS OF BULK AT MOST 1048576: true; the input reads as it did. -/
def fnAddViewUptoRow : OpenClaim := { program := "ytcfjemmoajdcoaa", sum := "ceb569bb587d31fc447deec9e7dbe782ed772368d081320c109b649d0955ba7a", func := "loop.example/strideviews/laws.FnAddView", spec := "fnAddView", apart := false, narrowed := true }
def FnAddViewUptoSaid : Prop := fnAddViewUptoRow.holds Try.pinned (OpenSpec.upto fnAddViewSpec)

/-- 'laws.FnChangedBy', WHERE WHAT IT READS IS OF BULK AT MOST 1048576: true; the input reads as it did. -/
def fnChangedByUptoRow : OpenClaim := { program := "ytcfjemmoajdcoaa", sum := "ceb569bb587d31fc447deec9e7dbe782ed772368d081320c109b649d0955ba7a", func := "loop.example/strideviews/laws.FnChangedBy", spec := "fnChangedBy", apart := false, narrowed := true }
def FnChangedByUptoSaid : Prop := fnChangedByUptoRow.holds Try.pinned (OpenSpec.upto fnChangedBySpec)

/-- 'laws.FnSumView', WHERE WHAT IT READS IS OF BULK AT MOST 1048576: true; the input reads as it did. -/
def fnSumViewUptoRow : OpenClaim := { program := "ytcfjemmoajdcoaa", sum := "ceb569bb587d31fc447deec9e7dbe782ed772368d081320c109b649d0955ba7a", func := "loop.example/strideviews/laws.FnSumView", spec := "fnSumView", apart := false, narrowed := true }
def FnSumViewUptoSaid : Prop := fnSumViewUptoRow.holds Try.pinned (OpenSpec.upto fnSumViewSpec)

end Rows
end Go.Proofs.Ytcfjemmoajdcoaa
