/-
  NARROWER THAN 'FOR EVERY INPUT', by the rows' own cells (each row's printed sentence says how): FnExactReleaseExport: ifaces, laid · FnExactFillExport: ifaces, laid · FnExactCopyExport: ifaces, laid · FnExactResizeBuffer: ifaces, laid · FnExactExportView: ifaces, laid.
  DERIVED. THE GIVEN ROWS OF THIS SEAT. 5 by the template 'for every input the law returns true; each argument reads behind the call as it read before'; 0 by the template 'total and deterministic' (their statements: YtahdlohpncjdbaaDoorTotals.lean).
  GIVEN WITH THE SEED: the statements are not yours to turn. If you find one false, say at which input.
  Laid BY PROGRAM, IN A SANDBOX (cutbox-rows.mjs): the forced cells as the released guide's own fill.sh prints them over the translation 6e80ec06324e70b8… (all of the seat's roots in one cut). By AI agents, Wed Nov 11 2026. No macro, syntax, notation, axiom, sorry.
-/
import Derived.Test.YtahdlohpncjdbaaDoorChecked
import GoSem.Claim
import GoSem.ClaimJoined
import GoSem.ClaimMapViews
import Derived.JoinedTies
import Derived.KernelRfl
namespace Go.Proofs.YtahdlohpncjdbaaDoor
/- THE CELL 'sum', in the pinned program and in every row, IS THE sha256 OF THE DUMP (.gsa) THAT YtahdlohpncjdbaaDoorProg.lean LOADS. Nothing in Lean hashes anything: it is a label: what it is worth is what the hold of that sum in a sandbox is worth. -/
noncomputable def Tryd.pinned : Pinned := { name := "ytahdlohpncjdbaadoor", sum := "6e80ec06324e70b8f9fe33ddc84ef749942dd87b37bfe80058306b15285195cb", checked := Tryd.checked }
namespace Rows
def none {H : Type} : Left H := { results := [], args := [] }

/- WHAT THE LISTED PACKAGE-LEVEL VARIABLES READ AS WHEN THE CALL BEGINS. Each datum BY PROGRAM (the guide's laid-datum.mjs) off the statement by which the dump's own 'gosem.cut.vars' lays the variable. In a bare row this is a premise. The card (YtahdlohpncjdbaaDoorCards.lean) ties it to the program's text. -/
def laid_loop_example_strideviews_impl_errHeld {H : Type} : DataW H := .iface "*errors.errorString" (.ptr (.agg [.lit (.string [111, 112, 101, 110, 32, 101, 120, 112, 111, 114, 116, 115, 32, 104, 97, 110, 103, 32, 111, 110, 32, 105, 116])]))

/-- 'laws.FnExactReleaseExport': WHATEVER THE INPUT: true; the input reads as it did. -/
def fnExactReleaseExportSpec : ChangeSpec := { name := "fnExactReleaseExport", vars := ["loop.example/strideviews/impl.errHeld"], fn := fun _ => fun
  | [d1, d2, g1] => { results := [.lit (.bool true)], args := [d1, d2], vars := [g1] }
  | _ => none }
def fnExactReleaseExportRow : OpenClaim := { program := "ytahdlohpncjdbaadoor", sum := "6e80ec06324e70b8f9fe33ddc84ef749942dd87b37bfe80058306b15285195cb", func := "loop.example/strideviews/laws.FnExactReleaseExport", spec := "fnExactReleaseExport", inPlace := ["internal/reflectlite.TypeOf"], unfollowed := true, recurses := true, named := ["loop.example/strideviews/impl.errHeld"], ifaces := true, apart := false, laid := [("loop.example/strideviews/impl.errHeld", laid_loop_example_strideviews_impl_errHeld)] }
def FnExactReleaseExportSaid : Prop := fnExactReleaseExportRow.holds Tryd.pinned (OpenSpec.ofChange fnExactReleaseExportSpec)

/-- ITS FALSE NEIGHBOUR: 'it returns false'. Refute it at one input. -/
def fnExactReleaseExportWrong : ChangeSpec := { name := "fnExactReleaseExport", vars := ["loop.example/strideviews/impl.errHeld"], fn := fun _ => fun
  | [d1, d2, g1] => { results := [.lit (.bool false)], args := [d1, d2], vars := [g1] }
  | _ => none }
def FnExactReleaseExportWrongFalsely : Prop := fnExactReleaseExportRow.holds Tryd.pinned (OpenSpec.ofChange fnExactReleaseExportWrong)

/-- 'laws.FnExactFillExport': WHATEVER THE INPUT: true; the input reads as it did. -/
def fnExactFillExportSpec : ChangeSpec := { name := "fnExactFillExport", vars := ["loop.example/strideviews/impl.errHeld"], fn := fun _ => fun
  | [d1, d2, d3, g1] => { results := [.lit (.bool true)], args := [d1, d2, d3], vars := [g1] }
  | _ => none }
def fnExactFillExportRow : OpenClaim := { program := "ytahdlohpncjdbaadoor", sum := "6e80ec06324e70b8f9fe33ddc84ef749942dd87b37bfe80058306b15285195cb", func := "loop.example/strideviews/laws.FnExactFillExport", spec := "fnExactFillExport", inPlace := ["internal/reflectlite.TypeOf"], unfollowed := true, recurses := true, named := ["loop.example/strideviews/impl.errHeld"], ifaces := true, apart := false, laid := [("loop.example/strideviews/impl.errHeld", laid_loop_example_strideviews_impl_errHeld)] }
def FnExactFillExportSaid : Prop := fnExactFillExportRow.holds Tryd.pinned (OpenSpec.ofChange fnExactFillExportSpec)

/-- ITS FALSE NEIGHBOUR: 'it returns false'. Refute it at one input. -/
def fnExactFillExportWrong : ChangeSpec := { name := "fnExactFillExport", vars := ["loop.example/strideviews/impl.errHeld"], fn := fun _ => fun
  | [d1, d2, d3, g1] => { results := [.lit (.bool false)], args := [d1, d2, d3], vars := [g1] }
  | _ => none }
def FnExactFillExportWrongFalsely : Prop := fnExactFillExportRow.holds Tryd.pinned (OpenSpec.ofChange fnExactFillExportWrong)

/-- 'laws.FnExactCopyExport': WHATEVER THE INPUT: true; the input reads as it did. -/
def fnExactCopyExportSpec : ChangeSpec := { name := "fnExactCopyExport", vars := ["loop.example/strideviews/impl.errHeld"], fn := fun _ => fun
  | [d1, d2, d3, g1] => { results := [.lit (.bool true)], args := [d1, d2, d3], vars := [g1] }
  | _ => none }
def fnExactCopyExportRow : OpenClaim := { program := "ytahdlohpncjdbaadoor", sum := "6e80ec06324e70b8f9fe33ddc84ef749942dd87b37bfe80058306b15285195cb", func := "loop.example/strideviews/laws.FnExactCopyExport", spec := "fnExactCopyExport", inPlace := ["internal/reflectlite.TypeOf"], unfollowed := true, recurses := true, named := ["loop.example/strideviews/impl.errHeld"], ifaces := true, apart := false, laid := [("loop.example/strideviews/impl.errHeld", laid_loop_example_strideviews_impl_errHeld)] }
def FnExactCopyExportSaid : Prop := fnExactCopyExportRow.holds Tryd.pinned (OpenSpec.ofChange fnExactCopyExportSpec)

/-- ITS FALSE NEIGHBOUR: 'it returns false'. Refute it at one input. -/
def fnExactCopyExportWrong : ChangeSpec := { name := "fnExactCopyExport", vars := ["loop.example/strideviews/impl.errHeld"], fn := fun _ => fun
  | [d1, d2, d3, g1] => { results := [.lit (.bool false)], args := [d1, d2, d3], vars := [g1] }
  | _ => none }
def FnExactCopyExportWrongFalsely : Prop := fnExactCopyExportRow.holds Tryd.pinned (OpenSpec.ofChange fnExactCopyExportWrong)

/-- 'laws.FnExactResizeBuffer': WHATEVER THE INPUT: true; the input reads as it did. -/
def fnExactResizeBufferSpec : ChangeSpec := { name := "fnExactResizeBuffer", vars := ["loop.example/strideviews/impl.errHeld"], fn := fun _ => fun
  | [d1, d2, g1] => { results := [.lit (.bool true)], args := [d1, d2], vars := [g1] }
  | _ => none }
def fnExactResizeBufferRow : OpenClaim := { program := "ytahdlohpncjdbaadoor", sum := "6e80ec06324e70b8f9fe33ddc84ef749942dd87b37bfe80058306b15285195cb", func := "loop.example/strideviews/laws.FnExactResizeBuffer", spec := "fnExactResizeBuffer", inPlace := ["internal/reflectlite.TypeOf"], unfollowed := true, recurses := true, named := ["loop.example/strideviews/impl.errHeld"], ifaces := true, apart := false, laid := [("loop.example/strideviews/impl.errHeld", laid_loop_example_strideviews_impl_errHeld)] }
def FnExactResizeBufferSaid : Prop := fnExactResizeBufferRow.holds Tryd.pinned (OpenSpec.ofChange fnExactResizeBufferSpec)

/-- ITS FALSE NEIGHBOUR: 'it returns false'. Refute it at one input. -/
def fnExactResizeBufferWrong : ChangeSpec := { name := "fnExactResizeBuffer", vars := ["loop.example/strideviews/impl.errHeld"], fn := fun _ => fun
  | [d1, d2, g1] => { results := [.lit (.bool false)], args := [d1, d2], vars := [g1] }
  | _ => none }
def FnExactResizeBufferWrongFalsely : Prop := fnExactResizeBufferRow.holds Tryd.pinned (OpenSpec.ofChange fnExactResizeBufferWrong)

/-- 'laws.FnExactExportView': WHATEVER THE INPUT: true; the input reads as it did. -/
def fnExactExportViewSpec : ChangeSpec := { name := "fnExactExportView", vars := ["loop.example/strideviews/impl.errHeld"], fn := fun _ => fun
  | [d1, d2, g1] => { results := [.lit (.bool true)], args := [d1, d2], vars := [g1] }
  | _ => none }
def fnExactExportViewRow : OpenClaim := { program := "ytahdlohpncjdbaadoor", sum := "6e80ec06324e70b8f9fe33ddc84ef749942dd87b37bfe80058306b15285195cb", func := "loop.example/strideviews/laws.FnExactExportView", spec := "fnExactExportView", inPlace := ["internal/reflectlite.TypeOf"], unfollowed := true, recurses := true, named := ["loop.example/strideviews/impl.errHeld"], ifaces := true, apart := false, laid := [("loop.example/strideviews/impl.errHeld", laid_loop_example_strideviews_impl_errHeld)] }
def FnExactExportViewSaid : Prop := fnExactExportViewRow.holds Tryd.pinned (OpenSpec.ofChange fnExactExportViewSpec)

/-- ITS FALSE NEIGHBOUR: 'it returns false'. Refute it at one input. -/
def fnExactExportViewWrong : ChangeSpec := { name := "fnExactExportView", vars := ["loop.example/strideviews/impl.errHeld"], fn := fun _ => fun
  | [d1, d2, g1] => { results := [.lit (.bool false)], args := [d1, d2], vars := [g1] }
  | _ => none }
def FnExactExportViewWrongFalsely : Prop := fnExactExportViewRow.holds Tryd.pinned (OpenSpec.ofChange fnExactExportViewWrong)

/- THE SECOND FORM. 'bulk': how many values and letters a reading holds, each counted each time it is reached (what is shared counts as often as it is met; a slice's spare places count too). A statement '..UptoSaid' is the law's where the arguments, and the package variables that the reading takes, are together of bulk at most 1048576: NARROWER than '..Said'. Prove '..Said' where nothing that the law and all that it calls make is longer than what came in: it says more and counts as full. Else prove '..UptoSaid'. A law counts once. -/
mutual
def uptoBulk {H : Type} : DataW H → Nat
  | .lit (.string bytes) => bytes.length + 1
  | .lit _ => 1
  | .nil => 1
  | .ptr d => uptoBulk d + 1
  | .slice elems spare => uptoBulkAll elems + uptoBulkAll spare + 1
  | .agg parts => uptoBulkAll parts + 1
  | .iface _ d => uptoBulk d + 1
  | .map entries => uptoBulkEntries entries + 1
  | .held _ => 1
def uptoBulkAll {H : Type} : List (DataW H) → Nat
  | [] => 0
  | d :: r => uptoBulk d + uptoBulkAll r
def uptoBulkEntries {H : Type} : List (Lit × DataW H) → Nat
  | [] => 0
  | x :: r => uptoBulkEntry x + uptoBulkEntries r
def uptoBulkEntry {H : Type} : Lit × DataW H → Nat
  | (.string bytes, d) => bytes.length + uptoBulk d + 1
  | (_, d) => uptoBulk d + 1
 end
def uptoSmall : (H : Type) → List (DataW H) → Bool := fun _ ds => decide (uptoBulkAll ds ≤ 1048576)
def OpenSpec.upto (s : _root_.Go.ChangeSpec) : _root_.Go.OpenSpec := { _root_.Go.OpenSpec.ofChange s with cond := some uptoSmall }

/-- 'laws.FnExactReleaseExport', WHERE WHAT IT READS IS OF BULK AT MOST 1048576: true; the input reads as it did. -/
def fnExactReleaseExportUptoRow : OpenClaim := { program := "ytahdlohpncjdbaadoor", sum := "6e80ec06324e70b8f9fe33ddc84ef749942dd87b37bfe80058306b15285195cb", func := "loop.example/strideviews/laws.FnExactReleaseExport", spec := "fnExactReleaseExport", inPlace := ["internal/reflectlite.TypeOf"], unfollowed := true, recurses := true, named := ["loop.example/strideviews/impl.errHeld"], ifaces := true, apart := false, laid := [("loop.example/strideviews/impl.errHeld", laid_loop_example_strideviews_impl_errHeld)], narrowed := true }
def FnExactReleaseExportUptoSaid : Prop := fnExactReleaseExportUptoRow.holds Tryd.pinned (OpenSpec.upto fnExactReleaseExportSpec)

/-- 'laws.FnExactFillExport', WHERE WHAT IT READS IS OF BULK AT MOST 1048576: true; the input reads as it did. -/
def fnExactFillExportUptoRow : OpenClaim := { program := "ytahdlohpncjdbaadoor", sum := "6e80ec06324e70b8f9fe33ddc84ef749942dd87b37bfe80058306b15285195cb", func := "loop.example/strideviews/laws.FnExactFillExport", spec := "fnExactFillExport", inPlace := ["internal/reflectlite.TypeOf"], unfollowed := true, recurses := true, named := ["loop.example/strideviews/impl.errHeld"], ifaces := true, apart := false, laid := [("loop.example/strideviews/impl.errHeld", laid_loop_example_strideviews_impl_errHeld)], narrowed := true }
def FnExactFillExportUptoSaid : Prop := fnExactFillExportUptoRow.holds Tryd.pinned (OpenSpec.upto fnExactFillExportSpec)

/-- 'laws.FnExactCopyExport', WHERE WHAT IT READS IS OF BULK AT MOST 1048576: true; the input reads as it did. -/
def fnExactCopyExportUptoRow : OpenClaim := { program := "ytahdlohpncjdbaadoor", sum := "6e80ec06324e70b8f9fe33ddc84ef749942dd87b37bfe80058306b15285195cb", func := "loop.example/strideviews/laws.FnExactCopyExport", spec := "fnExactCopyExport", inPlace := ["internal/reflectlite.TypeOf"], unfollowed := true, recurses := true, named := ["loop.example/strideviews/impl.errHeld"], ifaces := true, apart := false, laid := [("loop.example/strideviews/impl.errHeld", laid_loop_example_strideviews_impl_errHeld)], narrowed := true }
def FnExactCopyExportUptoSaid : Prop := fnExactCopyExportUptoRow.holds Tryd.pinned (OpenSpec.upto fnExactCopyExportSpec)

/-- 'laws.FnExactResizeBuffer', WHERE WHAT IT READS IS OF BULK AT MOST 1048576: true; the input reads as it did. -/
def fnExactResizeBufferUptoRow : OpenClaim := { program := "ytahdlohpncjdbaadoor", sum := "6e80ec06324e70b8f9fe33ddc84ef749942dd87b37bfe80058306b15285195cb", func := "loop.example/strideviews/laws.FnExactResizeBuffer", spec := "fnExactResizeBuffer", inPlace := ["internal/reflectlite.TypeOf"], unfollowed := true, recurses := true, named := ["loop.example/strideviews/impl.errHeld"], ifaces := true, apart := false, laid := [("loop.example/strideviews/impl.errHeld", laid_loop_example_strideviews_impl_errHeld)], narrowed := true }
def FnExactResizeBufferUptoSaid : Prop := fnExactResizeBufferUptoRow.holds Tryd.pinned (OpenSpec.upto fnExactResizeBufferSpec)

/-- 'laws.FnExactExportView', WHERE WHAT IT READS IS OF BULK AT MOST 1048576: true; the input reads as it did. -/
def fnExactExportViewUptoRow : OpenClaim := { program := "ytahdlohpncjdbaadoor", sum := "6e80ec06324e70b8f9fe33ddc84ef749942dd87b37bfe80058306b15285195cb", func := "loop.example/strideviews/laws.FnExactExportView", spec := "fnExactExportView", inPlace := ["internal/reflectlite.TypeOf"], unfollowed := true, recurses := true, named := ["loop.example/strideviews/impl.errHeld"], ifaces := true, apart := false, laid := [("loop.example/strideviews/impl.errHeld", laid_loop_example_strideviews_impl_errHeld)], narrowed := true }
def FnExactExportViewUptoSaid : Prop := fnExactExportViewUptoRow.holds Tryd.pinned (OpenSpec.upto fnExactExportViewSpec)

end Rows
end Go.Proofs.YtahdlohpncjdbaaDoor
