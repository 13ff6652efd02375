/-
  NARROWER THAN 'FOR EVERY INPUT', by the rows' own cells (each row's printed sentence says how): FnExactValidBuffer: ifaces, laid · FnExactKidsOf: ifaces, laid · FnExactOpenOf: ifaces, laid · FnExactLoadExport: ifaces, laid.
  DERIVED. THE GIVEN ROWS OF THIS SEAT. 4 by the template 'for every input the law returns true; each argument reads behind the call as it read before'; 0 by the template 'total and deterministic' (their statements: YtiknpnnhbhfipaaDoorTotals.lean).
  GIVEN WITH THE SEED: the statements are not yours to turn. If you find one false, say at which input.
  Laid BY PROGRAM, IN A SANDBOX (cutbox-rows.mjs): the forced cells as the released guide's own fill.sh prints them over the translation 21df6ff3ba774b03… (all of the seat's roots in one cut). By AI agents, Wed Nov 11 2026. No macro, syntax, notation, axiom, sorry.
-/
import Derived.Test.YtiknpnnhbhfipaaDoorChecked
import GoSem.Claim
import GoSem.ClaimJoined
import GoSem.ClaimMapViews
import Derived.JoinedTies
import Derived.KernelRfl
namespace Go.Proofs.YtiknpnnhbhfipaaDoor
/- THE CELL 'sum', in the pinned program and in every row, IS THE sha256 OF THE DUMP (.gsa) THAT YtiknpnnhbhfipaaDoorProg.lean LOADS. Nothing in Lean hashes anything: it is a label: what it is worth is what the hold of that sum in a sandbox is worth. -/
noncomputable def Tryd.pinned : Pinned := { name := "ytiknpnnhbhfipaadoor", sum := "21df6ff3ba774b032802ec1ec7c5491423a808428f9913a83edd68db16a53d4d", checked := Tryd.checked }
namespace Rows
def none {H : Type} : Left H := { results := [], args := [] }

/- WHAT THE LISTED PACKAGE-LEVEL VARIABLES READ AS WHEN THE CALL BEGINS. Each datum BY PROGRAM (the guide's laid-datum.mjs) off the statement by which the dump's own 'gosem.cut.vars' lays the variable. In a bare row this is a premise. The card (YtiknpnnhbhfipaaDoorCards.lean) ties it to the program's text. -/
def laid_loop_example_strideviews_impl_errHeld {H : Type} : DataW H := .iface "*errors.errorString" (.ptr (.agg [.lit (.string [111, 112, 101, 110, 32, 101, 120, 112, 111, 114, 116, 115, 32, 104, 97, 110, 103, 32, 111, 110, 32, 105, 116])]))

/-- 'laws.FnExactValidBuffer': WHATEVER THE INPUT: true; the input reads as it did. -/
def fnExactValidBufferSpec : ChangeSpec := { name := "fnExactValidBuffer", vars := ["loop.example/strideviews/impl.errHeld"], fn := fun _ => fun
  | [d, g1] => { results := [.lit (.bool true)], args := [d], vars := [g1] }
  | _ => none }
def fnExactValidBufferRow : OpenClaim := { program := "ytiknpnnhbhfipaadoor", sum := "21df6ff3ba774b032802ec1ec7c5491423a808428f9913a83edd68db16a53d4d", func := "loop.example/strideviews/laws.FnExactValidBuffer", spec := "fnExactValidBuffer", inPlace := ["internal/reflectlite.TypeOf"], unfollowed := true, recurses := true, named := ["loop.example/strideviews/impl.errHeld"], ifaces := true, apart := false, laid := [("loop.example/strideviews/impl.errHeld", laid_loop_example_strideviews_impl_errHeld)] }
def FnExactValidBufferSaid : Prop := fnExactValidBufferRow.holds Tryd.pinned (OpenSpec.ofChange fnExactValidBufferSpec)

/-- ITS FALSE NEIGHBOUR: 'it returns false'. Refute it at one input. -/
def fnExactValidBufferWrong : ChangeSpec := { name := "fnExactValidBuffer", vars := ["loop.example/strideviews/impl.errHeld"], fn := fun _ => fun
  | [d, g1] => { results := [.lit (.bool false)], args := [d], vars := [g1] }
  | _ => none }
def FnExactValidBufferWrongFalsely : Prop := fnExactValidBufferRow.holds Tryd.pinned (OpenSpec.ofChange fnExactValidBufferWrong)

/-- 'laws.FnExactKidsOf': WHATEVER THE INPUT: true; the input reads as it did. -/
def fnExactKidsOfSpec : ChangeSpec := { name := "fnExactKidsOf", vars := ["loop.example/strideviews/impl.errHeld"], fn := fun _ => fun
  | [d1, d2, g1] => { results := [.lit (.bool true)], args := [d1, d2], vars := [g1] }
  | _ => none }
def fnExactKidsOfRow : OpenClaim := { program := "ytiknpnnhbhfipaadoor", sum := "21df6ff3ba774b032802ec1ec7c5491423a808428f9913a83edd68db16a53d4d", func := "loop.example/strideviews/laws.FnExactKidsOf", spec := "fnExactKidsOf", inPlace := ["internal/reflectlite.TypeOf"], unfollowed := true, recurses := true, named := ["loop.example/strideviews/impl.errHeld"], ifaces := true, apart := false, laid := [("loop.example/strideviews/impl.errHeld", laid_loop_example_strideviews_impl_errHeld)] }
def FnExactKidsOfSaid : Prop := fnExactKidsOfRow.holds Tryd.pinned (OpenSpec.ofChange fnExactKidsOfSpec)

/-- ITS FALSE NEIGHBOUR: 'it returns false'. Refute it at one input. -/
def fnExactKidsOfWrong : ChangeSpec := { name := "fnExactKidsOf", vars := ["loop.example/strideviews/impl.errHeld"], fn := fun _ => fun
  | [d1, d2, g1] => { results := [.lit (.bool false)], args := [d1, d2], vars := [g1] }
  | _ => none }
def FnExactKidsOfWrongFalsely : Prop := fnExactKidsOfRow.holds Tryd.pinned (OpenSpec.ofChange fnExactKidsOfWrong)

/-- 'laws.FnExactOpenOf': WHATEVER THE INPUT: true; the input reads as it did. -/
def fnExactOpenOfSpec : ChangeSpec := { name := "fnExactOpenOf", vars := ["loop.example/strideviews/impl.errHeld"], fn := fun _ => fun
  | [d, g1] => { results := [.lit (.bool true)], args := [d], vars := [g1] }
  | _ => none }
def fnExactOpenOfRow : OpenClaim := { program := "ytiknpnnhbhfipaadoor", sum := "21df6ff3ba774b032802ec1ec7c5491423a808428f9913a83edd68db16a53d4d", func := "loop.example/strideviews/laws.FnExactOpenOf", spec := "fnExactOpenOf", inPlace := ["internal/reflectlite.TypeOf"], unfollowed := true, recurses := true, named := ["loop.example/strideviews/impl.errHeld"], ifaces := true, apart := false, laid := [("loop.example/strideviews/impl.errHeld", laid_loop_example_strideviews_impl_errHeld)] }
def FnExactOpenOfSaid : Prop := fnExactOpenOfRow.holds Tryd.pinned (OpenSpec.ofChange fnExactOpenOfSpec)

/-- ITS FALSE NEIGHBOUR: 'it returns false'. Refute it at one input. -/
def fnExactOpenOfWrong : ChangeSpec := { name := "fnExactOpenOf", vars := ["loop.example/strideviews/impl.errHeld"], fn := fun _ => fun
  | [d, g1] => { results := [.lit (.bool false)], args := [d], vars := [g1] }
  | _ => none }
def FnExactOpenOfWrongFalsely : Prop := fnExactOpenOfRow.holds Tryd.pinned (OpenSpec.ofChange fnExactOpenOfWrong)

/-- 'laws.FnExactLoadExport': WHATEVER THE INPUT: true; the input reads as it did. -/
def fnExactLoadExportSpec : ChangeSpec := { name := "fnExactLoadExport", vars := ["loop.example/strideviews/impl.errHeld"], fn := fun _ => fun
  | [d1, d2, g1] => { results := [.lit (.bool true)], args := [d1, d2], vars := [g1] }
  | _ => none }
def fnExactLoadExportRow : OpenClaim := { program := "ytiknpnnhbhfipaadoor", sum := "21df6ff3ba774b032802ec1ec7c5491423a808428f9913a83edd68db16a53d4d", func := "loop.example/strideviews/laws.FnExactLoadExport", spec := "fnExactLoadExport", inPlace := ["internal/reflectlite.TypeOf"], unfollowed := true, recurses := true, named := ["loop.example/strideviews/impl.errHeld"], ifaces := true, apart := false, laid := [("loop.example/strideviews/impl.errHeld", laid_loop_example_strideviews_impl_errHeld)] }
def FnExactLoadExportSaid : Prop := fnExactLoadExportRow.holds Tryd.pinned (OpenSpec.ofChange fnExactLoadExportSpec)

/-- ITS FALSE NEIGHBOUR: 'it returns false'. Refute it at one input. -/
def fnExactLoadExportWrong : ChangeSpec := { name := "fnExactLoadExport", vars := ["loop.example/strideviews/impl.errHeld"], fn := fun _ => fun
  | [d1, d2, g1] => { results := [.lit (.bool false)], args := [d1, d2], vars := [g1] }
  | _ => none }
def FnExactLoadExportWrongFalsely : Prop := fnExactLoadExportRow.holds Tryd.pinned (OpenSpec.ofChange fnExactLoadExportWrong)

/- THE SECOND FORM. 'bulk': how many values and letters a reading holds, each counted each time it is reached (what is shared counts as often as it is met; a slice's spare places count too). A statement '..UptoSaid' is the law's where the arguments, and the package variables that the reading takes, are together of bulk at most 1048576: NARROWER than '..Said'. Prove '..Said' where nothing that the law and all that it calls make is longer than what came in: it says more and counts as full. Else prove '..UptoSaid'. A law counts once. -/
mutual
def uptoBulk {H : Type} : DataW H → Nat
  | .lit (.string bytes) => bytes.length + 1
  | .lit _ => 1
  | .nil => 1
  | .ptr d => uptoBulk d + 1
  | .slice elems spare => uptoBulkAll elems + uptoBulkAll spare + 1
  | .agg parts => uptoBulkAll parts + 1
  | .iface _ d => uptoBulk d + 1
  | .map entries => uptoBulkEntries entries + 1
  | .held _ => 1
def uptoBulkAll {H : Type} : List (DataW H) → Nat
  | [] => 0
  | d :: r => uptoBulk d + uptoBulkAll r
def uptoBulkEntries {H : Type} : List (Lit × DataW H) → Nat
  | [] => 0
  | x :: r => uptoBulkEntry x + uptoBulkEntries r
def uptoBulkEntry {H : Type} : Lit × DataW H → Nat
  | (.string bytes, d) => bytes.length + uptoBulk d + 1
  | (_, d) => uptoBulk d + 1
 end
def uptoSmall : (H : Type) → List (DataW H) → Bool := fun _ ds => decide (uptoBulkAll ds ≤ 1048576)
def OpenSpec.upto (s : _root_.Go.ChangeSpec) : _root_.Go.OpenSpec := { _root_.Go.OpenSpec.ofChange s with cond := some uptoSmall }

/-- 'laws.FnExactValidBuffer', WHERE WHAT IT READS IS OF BULK AT MOST 1048576: true; the input reads as it did. -/
def fnExactValidBufferUptoRow : OpenClaim := { program := "ytiknpnnhbhfipaadoor", sum := "21df6ff3ba774b032802ec1ec7c5491423a808428f9913a83edd68db16a53d4d", func := "loop.example/strideviews/laws.FnExactValidBuffer", spec := "fnExactValidBuffer", inPlace := ["internal/reflectlite.TypeOf"], unfollowed := true, recurses := true, named := ["loop.example/strideviews/impl.errHeld"], ifaces := true, apart := false, laid := [("loop.example/strideviews/impl.errHeld", laid_loop_example_strideviews_impl_errHeld)], narrowed := true }
def FnExactValidBufferUptoSaid : Prop := fnExactValidBufferUptoRow.holds Tryd.pinned (OpenSpec.upto fnExactValidBufferSpec)

/-- 'laws.FnExactKidsOf', WHERE WHAT IT READS IS OF BULK AT MOST 1048576: true; the input reads as it did. -/
def fnExactKidsOfUptoRow : OpenClaim := { program := "ytiknpnnhbhfipaadoor", sum := "21df6ff3ba774b032802ec1ec7c5491423a808428f9913a83edd68db16a53d4d", func := "loop.example/strideviews/laws.FnExactKidsOf", spec := "fnExactKidsOf", inPlace := ["internal/reflectlite.TypeOf"], unfollowed := true, recurses := true, named := ["loop.example/strideviews/impl.errHeld"], ifaces := true, apart := false, laid := [("loop.example/strideviews/impl.errHeld", laid_loop_example_strideviews_impl_errHeld)], narrowed := true }
def FnExactKidsOfUptoSaid : Prop := fnExactKidsOfUptoRow.holds Tryd.pinned (OpenSpec.upto fnExactKidsOfSpec)

/-- 'laws.FnExactOpenOf', WHERE WHAT IT READS IS OF BULK AT MOST 1048576: true; the input reads as it did. -/
def fnExactOpenOfUptoRow : OpenClaim := { program := "ytiknpnnhbhfipaadoor", sum := "21df6ff3ba774b032802ec1ec7c5491423a808428f9913a83edd68db16a53d4d", func := "loop.example/strideviews/laws.FnExactOpenOf", spec := "fnExactOpenOf", inPlace := ["internal/reflectlite.TypeOf"], unfollowed := true, recurses := true, named := ["loop.example/strideviews/impl.errHeld"], ifaces := true, apart := false, laid := [("loop.example/strideviews/impl.errHeld", laid_loop_example_strideviews_impl_errHeld)], narrowed := true }
def FnExactOpenOfUptoSaid : Prop := fnExactOpenOfUptoRow.holds Tryd.pinned (OpenSpec.upto fnExactOpenOfSpec)

/-- 'laws.FnExactLoadExport', WHERE WHAT IT READS IS OF BULK AT MOST 1048576: true; the input reads as it did. -/
def fnExactLoadExportUptoRow : OpenClaim := { program := "ytiknpnnhbhfipaadoor", sum := "21df6ff3ba774b032802ec1ec7c5491423a808428f9913a83edd68db16a53d4d", func := "loop.example/strideviews/laws.FnExactLoadExport", spec := "fnExactLoadExport", inPlace := ["internal/reflectlite.TypeOf"], unfollowed := true, recurses := true, named := ["loop.example/strideviews/impl.errHeld"], ifaces := true, apart := false, laid := [("loop.example/strideviews/impl.errHeld", laid_loop_example_strideviews_impl_errHeld)], narrowed := true }
def FnExactLoadExportUptoSaid : Prop := fnExactLoadExportUptoRow.holds Tryd.pinned (OpenSpec.upto fnExactLoadExportSpec)

end Rows
end Go.Proofs.YtiknpnnhbhfipaaDoor
