/-
  NARROWER THAN 'FOR EVERY INPUT', by the rows' own cells (each row's printed sentence says how): FnExactExportPart: ifaces, laid.
  DERIVED. THE GIVEN ROWS OF THIS SEAT. 1 by the template 'for every input the law returns true; each argument reads behind the call as it read before'; 0 by the template 'total and deterministic' (their statements: YtahdlohpncjdbaaGreatDoorTotals.lean).
  GIVEN WITH THE SEED: the statements are not yours to turn. If you find one false, say at which input.
  Laid BY PROGRAM, IN A SANDBOX (cutbox-rows.mjs): the forced cells as the released guide's own fill.sh prints them over the translation 92a6d9e6a1a86aee… (all of the seat's roots in one cut). By AI agents, Wed Nov 11 2026. No macro, syntax, notation, axiom, sorry.
-/
import Derived.Test.YtahdlohpncjdbaaGreatDoorChecked
import GoSem.Claim
import GoSem.ClaimJoined
import GoSem.ClaimMapViews
import Derived.JoinedTies
import Derived.KernelRfl
namespace Go.Proofs.YtahdlohpncjdbaaGreatDoor
/- THE CELL 'sum', in the pinned program and in every row, IS THE sha256 OF THE DUMP (.gsa) THAT YtahdlohpncjdbaaGreatDoorProg.lean LOADS. Nothing in Lean hashes anything: it is a label: what it is worth is what the hold of that sum in a sandbox is worth. -/
noncomputable def Tryz.pinned : Pinned := { name := "ytahdlohpncjdbaagreatdoor", sum := "92a6d9e6a1a86aee70f302c152709cf6dbffc8b04bba88d986a79e0541084605", checked := Tryz.checked }
namespace Rows
def none {H : Type} : Left H := { results := [], args := [] }

/- WHAT THE LISTED PACKAGE-LEVEL VARIABLES READ AS WHEN THE CALL BEGINS. Each datum BY PROGRAM (the guide's laid-datum.mjs) off the statement by which the dump's own 'gosem.cut.vars' lays the variable. In a bare row this is a premise. The card (YtahdlohpncjdbaaGreatDoorCards.lean) ties it to the program's text. -/
def laid_loop_example_strideviews_impl_errHeld {H : Type} : DataW H := .iface "*errors.errorString" (.ptr (.agg [.lit (.string [111, 112, 101, 110, 32, 101, 120, 112, 111, 114, 116, 115, 32, 104, 97, 110, 103, 32, 111, 110, 32, 105, 116])]))

/-- 'laws.FnExactExportPart': WHATEVER THE INPUT: true; the input reads as it did. -/
def fnExactExportPartSpec : ChangeSpec := { name := "fnExactExportPart", vars := ["loop.example/strideviews/impl.errHeld"], fn := fun _ => fun
  | [d1, d2, d3, d4, g1] => { results := [.lit (.bool true)], args := [d1, d2, d3, d4], vars := [g1] }
  | _ => none }
def fnExactExportPartRow : OpenClaim := { program := "ytahdlohpncjdbaagreatdoor", sum := "92a6d9e6a1a86aee70f302c152709cf6dbffc8b04bba88d986a79e0541084605", func := "loop.example/strideviews/laws.FnExactExportPart", spec := "fnExactExportPart", inPlace := ["internal/reflectlite.TypeOf"], unfollowed := true, recurses := true, named := ["loop.example/strideviews/impl.errHeld"], ifaces := true, apart := false, laid := [("loop.example/strideviews/impl.errHeld", laid_loop_example_strideviews_impl_errHeld)] }
def FnExactExportPartSaid : Prop := fnExactExportPartRow.holds Tryz.pinned (OpenSpec.ofChange fnExactExportPartSpec)

/-- ITS FALSE NEIGHBOUR: 'it returns false'. Refute it at one input. -/
def fnExactExportPartWrong : ChangeSpec := { name := "fnExactExportPart", vars := ["loop.example/strideviews/impl.errHeld"], fn := fun _ => fun
  | [d1, d2, d3, d4, g1] => { results := [.lit (.bool false)], args := [d1, d2, d3, d4], vars := [g1] }
  | _ => none }
def FnExactExportPartWrongFalsely : Prop := fnExactExportPartRow.holds Tryz.pinned (OpenSpec.ofChange fnExactExportPartWrong)

/- THE SECOND FORM. 'bulk': how many values and letters a reading holds, each counted each time it is reached (what is shared counts as often as it is met; a slice's spare places count too). A statement '..UptoSaid' is the law's where the arguments, and the package variables that the reading takes, are together of bulk at most 1048576: NARROWER than '..Said'. Prove '..Said' where nothing that the law and all that it calls make is longer than what came in: it says more and counts as full. Else prove '..UptoSaid'. A law counts once. -/
mutual
def uptoBulk {H : Type} : DataW H → Nat
  | .lit (.string bytes) => bytes.length + 1
  | .lit _ => 1
  | .nil => 1
  | .ptr d => uptoBulk d + 1
  | .slice elems spare => uptoBulkAll elems + uptoBulkAll spare + 1
  | .agg parts => uptoBulkAll parts + 1
  | .iface _ d => uptoBulk d + 1
  | .map entries => uptoBulkEntries entries + 1
  | .held _ => 1
def uptoBulkAll {H : Type} : List (DataW H) → Nat
  | [] => 0
  | d :: r => uptoBulk d + uptoBulkAll r
def uptoBulkEntries {H : Type} : List (Lit × DataW H) → Nat
  | [] => 0
  | x :: r => uptoBulkEntry x + uptoBulkEntries r
def uptoBulkEntry {H : Type} : Lit × DataW H → Nat
  | (.string bytes, d) => bytes.length + uptoBulk d + 1
  | (_, d) => uptoBulk d + 1
 end
def uptoSmall : (H : Type) → List (DataW H) → Bool := fun _ ds => decide (uptoBulkAll ds ≤ 1048576)
def OpenSpec.upto (s : _root_.Go.ChangeSpec) : _root_.Go.OpenSpec := { _root_.Go.OpenSpec.ofChange s with cond := some uptoSmall }

/-- 'laws.FnExactExportPart', WHERE WHAT IT READS IS OF BULK AT MOST 1048576: true; the input reads as it did. -/
def fnExactExportPartUptoRow : OpenClaim := { program := "ytahdlohpncjdbaagreatdoor", sum := "92a6d9e6a1a86aee70f302c152709cf6dbffc8b04bba88d986a79e0541084605", func := "loop.example/strideviews/laws.FnExactExportPart", spec := "fnExactExportPart", inPlace := ["internal/reflectlite.TypeOf"], unfollowed := true, recurses := true, named := ["loop.example/strideviews/impl.errHeld"], ifaces := true, apart := false, laid := [("loop.example/strideviews/impl.errHeld", laid_loop_example_strideviews_impl_errHeld)], narrowed := true }
def FnExactExportPartUptoSaid : Prop := fnExactExportPartUptoRow.holds Tryz.pinned (OpenSpec.upto fnExactExportPartSpec)

end Rows
end Go.Proofs.YtahdlohpncjdbaaGreatDoor
