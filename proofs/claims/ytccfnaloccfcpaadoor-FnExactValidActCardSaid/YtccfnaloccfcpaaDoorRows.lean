/-
  NARROWER THAN 'FOR EVERY INPUT', by the rows' own cells (each row's printed sentence says how): FnExactValidAct: laid · FnValidAct: laid.
  DERIVED. THE GIVEN ROWS OF THIS SEAT. 2 by the template 'for every input the law returns true; each argument reads behind the call as it read before'; 0 by the template 'total and deterministic' (their statements: YtccfnaloccfcpaaDoorTotals.lean).
  GIVEN WITH THE SEED: the statements are not yours to turn. If you find one false, say at which input.
  Laid BY PROGRAM, IN A SANDBOX (cutbox-rows.mjs): the forced cells as the released guide's own fill.sh prints them over the translation bfc89230e58b1cd8… (all of the seat's roots in one cut). By AI agents, Wed Nov 11 2026. No macro, syntax, notation, axiom, sorry.
-/
import Derived.Test.YtccfnaloccfcpaaDoorChecked
import GoSem.Claim
import GoSem.ClaimJoined
import GoSem.ClaimMapViews
import Derived.JoinedTies
import Derived.KernelRfl
namespace Go.Proofs.YtccfnaloccfcpaaDoor
/- THE CELL 'sum', in the pinned program and in every row, IS THE sha256 OF THE DUMP (.gsa) THAT YtccfnaloccfcpaaDoorProg.lean LOADS. Nothing in Lean hashes anything: it is a label: what it is worth is what the hold of that sum in a sandbox is worth. -/
noncomputable def Tryd.pinned : Pinned := { name := "ytccfnaloccfcpaadoor", sum := "bfc89230e58b1cd8f8e7bcebd69e6bedc22901217907a79fd5b2457fe4636b12", checked := Tryd.checked }
namespace Rows
def none {H : Type} : Left H := { results := [], args := [] }

/- WHAT THE LISTED PACKAGE-LEVEL VARIABLES READ AS WHEN THE CALL BEGINS. Each datum BY PROGRAM (the guide's laid-datum.mjs) off the statement by which the dump's own 'gosem.cut.vars' lays the variable. In a bare row this is a premise. The card (YtccfnaloccfcpaaDoorCards.lean) ties it to the program's text. -/
def laid_loop_example_strideviews_impl_actForms {H : Type} : DataW H := .agg [.agg [.lit (.string [115, 105, 122, 101]), .lit (.int .i64 1)], .agg [.lit (.string [118, 105, 101, 119]), .lit (.int .i64 3)], .agg [.lit (.string [112, 97, 114, 116]), .lit (.int .i64 4)], .agg [.lit (.string [102, 108, 105, 112]), .lit (.int .i64 1)], .agg [.lit (.string [102, 105, 108, 108]), .lit (.int .i64 2)], .agg [.lit (.string [99, 111, 112, 121]), .lit (.int .i64 2)], .agg [.lit (.string [108, 111, 97, 100]), .lit (.int .i64 1)], .agg [.lit (.string [102, 114, 101, 101]), .lit (.int .i64 1)]]

/-- 'laws.FnExactValidAct': WHATEVER THE INPUT: true; the input reads as it did. -/
def fnExactValidActSpec : ChangeSpec := { name := "fnExactValidAct", vars := ["loop.example/strideviews/impl.actForms"], fn := fun _ => fun
  | [d, g1] => { results := [.lit (.bool true)], args := [d], vars := [g1] }
  | _ => none }
def fnExactValidActRow : OpenClaim := { program := "ytccfnaloccfcpaadoor", sum := "bfc89230e58b1cd8f8e7bcebd69e6bedc22901217907a79fd5b2457fe4636b12", func := "loop.example/strideviews/laws.FnExactValidAct", spec := "fnExactValidAct", named := ["loop.example/strideviews/impl.actForms"], apart := false, laid := [("loop.example/strideviews/impl.actForms", laid_loop_example_strideviews_impl_actForms)] }
def FnExactValidActSaid : Prop := fnExactValidActRow.holds Tryd.pinned (OpenSpec.ofChange fnExactValidActSpec)

/-- ITS FALSE NEIGHBOUR: 'it returns false'. Refute it at one input. -/
def fnExactValidActWrong : ChangeSpec := { name := "fnExactValidAct", vars := ["loop.example/strideviews/impl.actForms"], fn := fun _ => fun
  | [d, g1] => { results := [.lit (.bool false)], args := [d], vars := [g1] }
  | _ => none }
def FnExactValidActWrongFalsely : Prop := fnExactValidActRow.holds Tryd.pinned (OpenSpec.ofChange fnExactValidActWrong)

/-- 'laws.FnValidAct': WHATEVER THE INPUT: true; the input reads as it did. -/
def fnValidActSpec : ChangeSpec := { name := "fnValidAct", vars := ["loop.example/strideviews/impl.actForms"], fn := fun _ => fun
  | [d, g1] => { results := [.lit (.bool true)], args := [d], vars := [g1] }
  | _ => none }
def fnValidActRow : OpenClaim := { program := "ytccfnaloccfcpaadoor", sum := "bfc89230e58b1cd8f8e7bcebd69e6bedc22901217907a79fd5b2457fe4636b12", func := "loop.example/strideviews/laws.FnValidAct", spec := "fnValidAct", recurses := true, named := ["loop.example/strideviews/impl.actForms"], apart := false, laid := [("loop.example/strideviews/impl.actForms", laid_loop_example_strideviews_impl_actForms)] }
def FnValidActSaid : Prop := fnValidActRow.holds Tryd.pinned (OpenSpec.ofChange fnValidActSpec)

/-- ITS FALSE NEIGHBOUR: 'it returns false'. Refute it at one input. -/
def fnValidActWrong : ChangeSpec := { name := "fnValidAct", vars := ["loop.example/strideviews/impl.actForms"], fn := fun _ => fun
  | [d, g1] => { results := [.lit (.bool false)], args := [d], vars := [g1] }
  | _ => none }
def FnValidActWrongFalsely : Prop := fnValidActRow.holds Tryd.pinned (OpenSpec.ofChange fnValidActWrong)

/- THE SECOND FORM. 'bulk': how many values and letters a reading holds, each counted each time it is reached (what is shared counts as often as it is met; a slice's spare places count too). A statement '..UptoSaid' is the law's where the arguments, and the package variables that the reading takes, are together of bulk at most 1048576: NARROWER than '..Said'. Prove '..Said' where nothing that the law and all that it calls make is longer than what came in: it says more and counts as full. Else prove '..UptoSaid'. A law counts once. -/
mutual
def uptoBulk {H : Type} : DataW H → Nat
  | .lit (.string bytes) => bytes.length + 1
  | .lit _ => 1
  | .nil => 1
  | .ptr d => uptoBulk d + 1
  | .slice elems spare => uptoBulkAll elems + uptoBulkAll spare + 1
  | .agg parts => uptoBulkAll parts + 1
  | .iface _ d => uptoBulk d + 1
  | .map entries => uptoBulkEntries entries + 1
  | .held _ => 1
def uptoBulkAll {H : Type} : List (DataW H) → Nat
  | [] => 0
  | d :: r => uptoBulk d + uptoBulkAll r
def uptoBulkEntries {H : Type} : List (Lit × DataW H) → Nat
  | [] => 0
  | x :: r => uptoBulkEntry x + uptoBulkEntries r
def uptoBulkEntry {H : Type} : Lit × DataW H → Nat
  | (.string bytes, d) => bytes.length + uptoBulk d + 1
  | (_, d) => uptoBulk d + 1
 end
def uptoSmall : (H : Type) → List (DataW H) → Bool := fun _ ds => decide (uptoBulkAll ds ≤ 1048576)
def OpenSpec.upto (s : _root_.Go.ChangeSpec) : _root_.Go.OpenSpec := { _root_.Go.OpenSpec.ofChange s with cond := some uptoSmall }

/-- 'laws.FnExactValidAct', WHERE WHAT IT READS IS OF BULK AT MOST 1048576: true; the input reads as it did. -/
def fnExactValidActUptoRow : OpenClaim := { program := "ytccfnaloccfcpaadoor", sum := "bfc89230e58b1cd8f8e7bcebd69e6bedc22901217907a79fd5b2457fe4636b12", func := "loop.example/strideviews/laws.FnExactValidAct", spec := "fnExactValidAct", named := ["loop.example/strideviews/impl.actForms"], apart := false, laid := [("loop.example/strideviews/impl.actForms", laid_loop_example_strideviews_impl_actForms)], narrowed := true }
def FnExactValidActUptoSaid : Prop := fnExactValidActUptoRow.holds Tryd.pinned (OpenSpec.upto fnExactValidActSpec)

/-- 'laws.FnValidAct', WHERE WHAT IT READS IS OF BULK AT MOST 1048576: true; the input reads as it did. -/
def fnValidActUptoRow : OpenClaim := { program := "ytccfnaloccfcpaadoor", sum := "bfc89230e58b1cd8f8e7bcebd69e6bedc22901217907a79fd5b2457fe4636b12", func := "loop.example/strideviews/laws.FnValidAct", spec := "fnValidAct", recurses := true, named := ["loop.example/strideviews/impl.actForms"], apart := false, laid := [("loop.example/strideviews/impl.actForms", laid_loop_example_strideviews_impl_actForms)], narrowed := true }
def FnValidActUptoSaid : Prop := fnValidActUptoRow.holds Tryd.pinned (OpenSpec.upto fnValidActSpec)

end Rows
end Go.Proofs.YtccfnaloccfcpaaDoor
