/-
  NARROWER THAN 'FOR EVERY INPUT', by the rows' own cells (each row's printed sentence says how): FnReleaseExport: ifaces, laid · FnLoadExport: ifaces, laid · FnFillExport: ifaces, laid · FnCopyExport: ifaces, laid · FnExportView: ifaces, laid · FnExportPart: ifaces, laid.
  DERIVED. THE GIVEN ROWS OF THIS SEAT. 6 by the template 'for every input the law returns true; each argument reads behind the call as it read before'; 0 by the template 'total and deterministic' (their statements: YtkpcjppnjmhanaaGreatDoorTotals.lean).
  GIVEN WITH THE SEED: the statements are not yours to turn. If you find one false, say at which input.
  Laid BY PROGRAM, IN A SANDBOX (cutbox-rows.mjs): the forced cells as the released guide's own fill.sh prints them over the translation 2155aca984aee43f… (all of the seat's roots in one cut). By AI agents, Wed Nov 11 2026. No macro, syntax, notation, axiom, sorry.
-/
import Derived.Test.YtkpcjppnjmhanaaGreatDoorChecked
import GoSem.Claim
import GoSem.ClaimJoined
import GoSem.ClaimMapViews
import Derived.JoinedTies
import Derived.KernelRfl
namespace Go.Proofs.YtkpcjppnjmhanaaGreatDoor
/- THE CELL 'sum', in the pinned program and in every row, IS THE sha256 OF THE DUMP (.gsa) THAT YtkpcjppnjmhanaaGreatDoorProg.lean LOADS. Nothing in Lean hashes anything: it is a label: what it is worth is what the hold of that sum in a sandbox is worth. -/
noncomputable def Tryz.pinned : Pinned := { name := "ytkpcjppnjmhanaagreatdoor", sum := "2155aca984aee43f03222db4923dca864f771aaa75f8da7ea0a922f73ee6ae4a", checked := Tryz.checked }
namespace Rows
def none {H : Type} : Left H := { results := [], args := [] }

/- WHAT THE LISTED PACKAGE-LEVEL VARIABLES READ AS WHEN THE CALL BEGINS. Each datum BY PROGRAM (the guide's laid-datum.mjs) off the statement by which the dump's own 'gosem.cut.vars' lays the variable. In a bare row this is a premise. The card (YtkpcjppnjmhanaaGreatDoorCards.lean) ties it to the program's text. -/
def laid_loop_example_strideviews_impl_errHeld {H : Type} : DataW H := .iface "*errors.errorString" (.ptr (.agg [.lit (.string [111, 112, 101, 110, 32, 101, 120, 112, 111, 114, 116, 115, 32, 104, 97, 110, 103, 32, 111, 110, 32, 105, 116])]))

/-- 'laws.FnReleaseExport': WHATEVER THE INPUT: true; the input reads as it did. -/
def fnReleaseExportSpec : ChangeSpec := { name := "fnReleaseExport", vars := ["loop.example/strideviews/impl.errHeld"], fn := fun _ => fun
  | [d, g1] => { results := [.lit (.bool true)], args := [d], vars := [g1] }
  | _ => none }
def fnReleaseExportRow : OpenClaim := { program := "ytkpcjppnjmhanaagreatdoor", sum := "2155aca984aee43f03222db4923dca864f771aaa75f8da7ea0a922f73ee6ae4a", func := "loop.example/strideviews/laws.FnReleaseExport", spec := "fnReleaseExport", inPlace := ["internal/reflectlite.TypeOf"], unfollowed := true, recurses := true, named := ["loop.example/strideviews/impl.errHeld"], ifaces := true, apart := false, laid := [("loop.example/strideviews/impl.errHeld", laid_loop_example_strideviews_impl_errHeld)] }
def FnReleaseExportSaid : Prop := fnReleaseExportRow.holds Tryz.pinned (OpenSpec.ofChange fnReleaseExportSpec)

/-- ITS FALSE NEIGHBOUR: 'it returns false'. Refute it at one input. -/
def fnReleaseExportWrong : ChangeSpec := { name := "fnReleaseExport", vars := ["loop.example/strideviews/impl.errHeld"], fn := fun _ => fun
  | [d, g1] => { results := [.lit (.bool false)], args := [d], vars := [g1] }
  | _ => none }
def FnReleaseExportWrongFalsely : Prop := fnReleaseExportRow.holds Tryz.pinned (OpenSpec.ofChange fnReleaseExportWrong)

/-- 'laws.FnLoadExport': WHATEVER THE INPUT: true; the input reads as it did. -/
def fnLoadExportSpec : ChangeSpec := { name := "fnLoadExport", vars := ["loop.example/strideviews/impl.errHeld"], fn := fun _ => fun
  | [d, g1] => { results := [.lit (.bool true)], args := [d], vars := [g1] }
  | _ => none }
def fnLoadExportRow : OpenClaim := { program := "ytkpcjppnjmhanaagreatdoor", sum := "2155aca984aee43f03222db4923dca864f771aaa75f8da7ea0a922f73ee6ae4a", func := "loop.example/strideviews/laws.FnLoadExport", spec := "fnLoadExport", inPlace := ["internal/reflectlite.TypeOf"], unfollowed := true, recurses := true, named := ["loop.example/strideviews/impl.errHeld"], ifaces := true, apart := false, laid := [("loop.example/strideviews/impl.errHeld", laid_loop_example_strideviews_impl_errHeld)] }
def FnLoadExportSaid : Prop := fnLoadExportRow.holds Tryz.pinned (OpenSpec.ofChange fnLoadExportSpec)

/-- ITS FALSE NEIGHBOUR: 'it returns false'. Refute it at one input. -/
def fnLoadExportWrong : ChangeSpec := { name := "fnLoadExport", vars := ["loop.example/strideviews/impl.errHeld"], fn := fun _ => fun
  | [d, g1] => { results := [.lit (.bool false)], args := [d], vars := [g1] }
  | _ => none }
def FnLoadExportWrongFalsely : Prop := fnLoadExportRow.holds Tryz.pinned (OpenSpec.ofChange fnLoadExportWrong)

/-- 'laws.FnFillExport': WHATEVER THE INPUT: true; the input reads as it did. -/
def fnFillExportSpec : ChangeSpec := { name := "fnFillExport", vars := ["loop.example/strideviews/impl.errHeld"], fn := fun _ => fun
  | [d, g1] => { results := [.lit (.bool true)], args := [d], vars := [g1] }
  | _ => none }
def fnFillExportRow : OpenClaim := { program := "ytkpcjppnjmhanaagreatdoor", sum := "2155aca984aee43f03222db4923dca864f771aaa75f8da7ea0a922f73ee6ae4a", func := "loop.example/strideviews/laws.FnFillExport", spec := "fnFillExport", inPlace := ["internal/reflectlite.TypeOf"], unfollowed := true, recurses := true, named := ["loop.example/strideviews/impl.errHeld"], ifaces := true, apart := false, laid := [("loop.example/strideviews/impl.errHeld", laid_loop_example_strideviews_impl_errHeld)] }
def FnFillExportSaid : Prop := fnFillExportRow.holds Tryz.pinned (OpenSpec.ofChange fnFillExportSpec)

/-- ITS FALSE NEIGHBOUR: 'it returns false'. Refute it at one input. -/
def fnFillExportWrong : ChangeSpec := { name := "fnFillExport", vars := ["loop.example/strideviews/impl.errHeld"], fn := fun _ => fun
  | [d, g1] => { results := [.lit (.bool false)], args := [d], vars := [g1] }
  | _ => none }
def FnFillExportWrongFalsely : Prop := fnFillExportRow.holds Tryz.pinned (OpenSpec.ofChange fnFillExportWrong)

/-- 'laws.FnCopyExport': WHATEVER THE INPUT: true; the input reads as it did. -/
def fnCopyExportSpec : ChangeSpec := { name := "fnCopyExport", vars := ["loop.example/strideviews/impl.errHeld"], fn := fun _ => fun
  | [d, g1] => { results := [.lit (.bool true)], args := [d], vars := [g1] }
  | _ => none }
def fnCopyExportRow : OpenClaim := { program := "ytkpcjppnjmhanaagreatdoor", sum := "2155aca984aee43f03222db4923dca864f771aaa75f8da7ea0a922f73ee6ae4a", func := "loop.example/strideviews/laws.FnCopyExport", spec := "fnCopyExport", inPlace := ["internal/reflectlite.TypeOf"], unfollowed := true, recurses := true, named := ["loop.example/strideviews/impl.errHeld"], ifaces := true, apart := false, laid := [("loop.example/strideviews/impl.errHeld", laid_loop_example_strideviews_impl_errHeld)] }
def FnCopyExportSaid : Prop := fnCopyExportRow.holds Tryz.pinned (OpenSpec.ofChange fnCopyExportSpec)

/-- ITS FALSE NEIGHBOUR: 'it returns false'. Refute it at one input. -/
def fnCopyExportWrong : ChangeSpec := { name := "fnCopyExport", vars := ["loop.example/strideviews/impl.errHeld"], fn := fun _ => fun
  | [d, g1] => { results := [.lit (.bool false)], args := [d], vars := [g1] }
  | _ => none }
def FnCopyExportWrongFalsely : Prop := fnCopyExportRow.holds Tryz.pinned (OpenSpec.ofChange fnCopyExportWrong)

/-- 'laws.FnExportView': WHATEVER THE INPUT: true; the input reads as it did. -/
def fnExportViewSpec : ChangeSpec := { name := "fnExportView", vars := ["loop.example/strideviews/impl.errHeld"], fn := fun _ => fun
  | [d, g1] => { results := [.lit (.bool true)], args := [d], vars := [g1] }
  | _ => none }
def fnExportViewRow : OpenClaim := { program := "ytkpcjppnjmhanaagreatdoor", sum := "2155aca984aee43f03222db4923dca864f771aaa75f8da7ea0a922f73ee6ae4a", func := "loop.example/strideviews/laws.FnExportView", spec := "fnExportView", inPlace := ["internal/reflectlite.TypeOf"], unfollowed := true, recurses := true, named := ["loop.example/strideviews/impl.errHeld"], ifaces := true, apart := false, laid := [("loop.example/strideviews/impl.errHeld", laid_loop_example_strideviews_impl_errHeld)] }
def FnExportViewSaid : Prop := fnExportViewRow.holds Tryz.pinned (OpenSpec.ofChange fnExportViewSpec)

/-- ITS FALSE NEIGHBOUR: 'it returns false'. Refute it at one input. -/
def fnExportViewWrong : ChangeSpec := { name := "fnExportView", vars := ["loop.example/strideviews/impl.errHeld"], fn := fun _ => fun
  | [d, g1] => { results := [.lit (.bool false)], args := [d], vars := [g1] }
  | _ => none }
def FnExportViewWrongFalsely : Prop := fnExportViewRow.holds Tryz.pinned (OpenSpec.ofChange fnExportViewWrong)

/-- 'laws.FnExportPart': WHATEVER THE INPUT: true; the input reads as it did. -/
def fnExportPartSpec : ChangeSpec := { name := "fnExportPart", vars := ["loop.example/strideviews/impl.errHeld"], fn := fun _ => fun
  | [d, g1] => { results := [.lit (.bool true)], args := [d], vars := [g1] }
  | _ => none }
def fnExportPartRow : OpenClaim := { program := "ytkpcjppnjmhanaagreatdoor", sum := "2155aca984aee43f03222db4923dca864f771aaa75f8da7ea0a922f73ee6ae4a", func := "loop.example/strideviews/laws.FnExportPart", spec := "fnExportPart", inPlace := ["internal/reflectlite.TypeOf"], unfollowed := true, recurses := true, named := ["loop.example/strideviews/impl.errHeld"], ifaces := true, apart := false, laid := [("loop.example/strideviews/impl.errHeld", laid_loop_example_strideviews_impl_errHeld)] }
def FnExportPartSaid : Prop := fnExportPartRow.holds Tryz.pinned (OpenSpec.ofChange fnExportPartSpec)

/-- ITS FALSE NEIGHBOUR: 'it returns false'. Refute it at one input. -/
def fnExportPartWrong : ChangeSpec := { name := "fnExportPart", vars := ["loop.example/strideviews/impl.errHeld"], fn := fun _ => fun
  | [d, g1] => { results := [.lit (.bool false)], args := [d], vars := [g1] }
  | _ => none }
def FnExportPartWrongFalsely : Prop := fnExportPartRow.holds Tryz.pinned (OpenSpec.ofChange fnExportPartWrong)

/- THE SECOND FORM. 'bulk': how many values and letters a reading holds, each counted each time it is reached (what is shared counts as often as it is met; a slice's spare places count too). A statement '..UptoSaid' is the law's where the arguments, and the package variables that the reading takes, are together of bulk at most 1048576: NARROWER than '..Said'. Prove '..Said' where nothing that the law and all that it calls make is longer than what came in: it says more and counts as full. Else prove '..UptoSaid'. A law counts once. -/
mutual
def uptoBulk {H : Type} : DataW H → Nat
  | .lit (.string bytes) => bytes.length + 1
  | .lit _ => 1
  | .nil => 1
  | .ptr d => uptoBulk d + 1
  | .slice elems spare => uptoBulkAll elems + uptoBulkAll spare + 1
  | .agg parts => uptoBulkAll parts + 1
  | .iface _ d => uptoBulk d + 1
  | .map entries => uptoBulkEntries entries + 1
  | .held _ => 1
def uptoBulkAll {H : Type} : List (DataW H) → Nat
  | [] => 0
  | d :: r => uptoBulk d + uptoBulkAll r
def uptoBulkEntries {H : Type} : List (Lit × DataW H) → Nat
  | [] => 0
  | x :: r => uptoBulkEntry x + uptoBulkEntries r
def uptoBulkEntry {H : Type} : Lit × DataW H → Nat
  | (.string bytes, d) => bytes.length + uptoBulk d + 1
  | (_, d) => uptoBulk d + 1
 end
def uptoSmall : (H : Type) → List (DataW H) → Bool := fun _ ds => decide (uptoBulkAll ds ≤ 1048576)
def OpenSpec.upto (s : _root_.Go.ChangeSpec) : _root_.Go.OpenSpec := { _root_.Go.OpenSpec.ofChange s with cond := some uptoSmall }

/-- 'laws.FnReleaseExport', WHERE WHAT IT READS IS OF BULK AT MOST 1048576: true; the input reads as it did. -/
def fnReleaseExportUptoRow : OpenClaim := { program := "ytkpcjppnjmhanaagreatdoor", sum := "2155aca984aee43f03222db4923dca864f771aaa75f8da7ea0a922f73ee6ae4a", func := "loop.example/strideviews/laws.FnReleaseExport", spec := "fnReleaseExport", inPlace := ["internal/reflectlite.TypeOf"], unfollowed := true, recurses := true, named := ["loop.example/strideviews/impl.errHeld"], ifaces := true, apart := false, laid := [("loop.example/strideviews/impl.errHeld", laid_loop_example_strideviews_impl_errHeld)], narrowed := true }
def FnReleaseExportUptoSaid : Prop := fnReleaseExportUptoRow.holds Tryz.pinned (OpenSpec.upto fnReleaseExportSpec)

/-- 'laws.FnLoadExport', WHERE WHAT IT READS IS OF BULK AT MOST 1048576: true; the input reads as it did. -/
def fnLoadExportUptoRow : OpenClaim := { program := "ytkpcjppnjmhanaagreatdoor", sum := "2155aca984aee43f03222db4923dca864f771aaa75f8da7ea0a922f73ee6ae4a", func := "loop.example/strideviews/laws.FnLoadExport", spec := "fnLoadExport", inPlace := ["internal/reflectlite.TypeOf"], unfollowed := true, recurses := true, named := ["loop.example/strideviews/impl.errHeld"], ifaces := true, apart := false, laid := [("loop.example/strideviews/impl.errHeld", laid_loop_example_strideviews_impl_errHeld)], narrowed := true }
def FnLoadExportUptoSaid : Prop := fnLoadExportUptoRow.holds Tryz.pinned (OpenSpec.upto fnLoadExportSpec)

/-- 'laws.FnFillExport', WHERE WHAT IT READS IS OF BULK AT MOST 1048576: true; the input reads as it did. -/
def fnFillExportUptoRow : OpenClaim := { program := "ytkpcjppnjmhanaagreatdoor", sum := "2155aca984aee43f03222db4923dca864f771aaa75f8da7ea0a922f73ee6ae4a", func := "loop.example/strideviews/laws.FnFillExport", spec := "fnFillExport", inPlace := ["internal/reflectlite.TypeOf"], unfollowed := true, recurses := true, named := ["loop.example/strideviews/impl.errHeld"], ifaces := true, apart := false, laid := [("loop.example/strideviews/impl.errHeld", laid_loop_example_strideviews_impl_errHeld)], narrowed := true }
def FnFillExportUptoSaid : Prop := fnFillExportUptoRow.holds Tryz.pinned (OpenSpec.upto fnFillExportSpec)

/-- 'laws.FnCopyExport', WHERE WHAT IT READS IS OF BULK AT MOST 1048576: true; the input reads as it did. -/
def fnCopyExportUptoRow : OpenClaim := { program := "ytkpcjppnjmhanaagreatdoor", sum := "2155aca984aee43f03222db4923dca864f771aaa75f8da7ea0a922f73ee6ae4a", func := "loop.example/strideviews/laws.FnCopyExport", spec := "fnCopyExport", inPlace := ["internal/reflectlite.TypeOf"], unfollowed := true, recurses := true, named := ["loop.example/strideviews/impl.errHeld"], ifaces := true, apart := false, laid := [("loop.example/strideviews/impl.errHeld", laid_loop_example_strideviews_impl_errHeld)], narrowed := true }
def FnCopyExportUptoSaid : Prop := fnCopyExportUptoRow.holds Tryz.pinned (OpenSpec.upto fnCopyExportSpec)

/-- 'laws.FnExportView', WHERE WHAT IT READS IS OF BULK AT MOST 1048576: true; the input reads as it did. -/
def fnExportViewUptoRow : OpenClaim := { program := "ytkpcjppnjmhanaagreatdoor", sum := "2155aca984aee43f03222db4923dca864f771aaa75f8da7ea0a922f73ee6ae4a", func := "loop.example/strideviews/laws.FnExportView", spec := "fnExportView", inPlace := ["internal/reflectlite.TypeOf"], unfollowed := true, recurses := true, named := ["loop.example/strideviews/impl.errHeld"], ifaces := true, apart := false, laid := [("loop.example/strideviews/impl.errHeld", laid_loop_example_strideviews_impl_errHeld)], narrowed := true }
def FnExportViewUptoSaid : Prop := fnExportViewUptoRow.holds Tryz.pinned (OpenSpec.upto fnExportViewSpec)

/-- 'laws.FnExportPart', WHERE WHAT IT READS IS OF BULK AT MOST 1048576: true; the input reads as it did. -/
def fnExportPartUptoRow : OpenClaim := { program := "ytkpcjppnjmhanaagreatdoor", sum := "2155aca984aee43f03222db4923dca864f771aaa75f8da7ea0a922f73ee6ae4a", func := "loop.example/strideviews/laws.FnExportPart", spec := "fnExportPart", inPlace := ["internal/reflectlite.TypeOf"], unfollowed := true, recurses := true, named := ["loop.example/strideviews/impl.errHeld"], ifaces := true, apart := false, laid := [("loop.example/strideviews/impl.errHeld", laid_loop_example_strideviews_impl_errHeld)], narrowed := true }
def FnExportPartUptoSaid : Prop := fnExportPartUptoRow.holds Tryz.pinned (OpenSpec.upto fnExportPartSpec)

end Rows
end Go.Proofs.YtkpcjppnjmhanaaGreatDoor
