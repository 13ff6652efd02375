/-
  NARROWER THAN 'FOR EVERY INPUT', by the rows' own cells (each row's printed sentence says how): FnValidBuffer: ifaces, laid · FnKidsOf: ifaces, laid · FnOpenOf: ifaces, laid · FnResizeBuffer: ifaces, laid.
  DERIVED. THE GIVEN ROWS OF THIS SEAT. 4 by the template 'for every input the law returns true; each argument reads behind the call as it read before'; 0 by the template 'total and deterministic' (their statements: YtkpcjppnjmhanaaDoorTotals.lean).
  GIVEN WITH THE SEED: the statements are not yours to turn. If you find one false, say at which input.
  Laid BY PROGRAM, IN A SANDBOX (cutbox-rows.mjs): the forced cells as the released guide's own fill.sh prints them over the translation 191a2798d005fa71… (all of the seat's roots in one cut). By AI agents, Wed Nov 11 2026. No macro, syntax, notation, axiom, sorry.
-/
import Derived.Test.YtkpcjppnjmhanaaDoorChecked
import GoSem.Claim
import GoSem.ClaimJoined
import GoSem.ClaimMapViews
import Derived.JoinedTies
import Derived.KernelRfl
namespace Go.Proofs.YtkpcjppnjmhanaaDoor
/- THE CELL 'sum', in the pinned program and in every row, IS THE sha256 OF THE DUMP (.gsa) THAT YtkpcjppnjmhanaaDoorProg.lean LOADS. Nothing in Lean hashes anything: it is a label: what it is worth is what the hold of that sum in a sandbox is worth. -/
noncomputable def Tryd.pinned : Pinned := { name := "ytkpcjppnjmhanaadoor", sum := "191a2798d005fa719bfea4251c4b223b7206cb385d489f89b327a514d9bf5163", checked := Tryd.checked }
namespace Rows
def none {H : Type} : Left H := { results := [], args := [] }

/- WHAT THE LISTED PACKAGE-LEVEL VARIABLES READ AS WHEN THE CALL BEGINS. Each datum BY PROGRAM (the guide's laid-datum.mjs) off the statement by which the dump's own 'gosem.cut.vars' lays the variable. In a bare row this is a premise. The card (YtkpcjppnjmhanaaDoorCards.lean) ties it to the program's text. -/
def laid_loop_example_strideviews_impl_errHeld {H : Type} : DataW H := .iface "*errors.errorString" (.ptr (.agg [.lit (.string [111, 112, 101, 110, 32, 101, 120, 112, 111, 114, 116, 115, 32, 104, 97, 110, 103, 32, 111, 110, 32, 105, 116])]))

/-- 'laws.FnValidBuffer': WHATEVER THE INPUT: true; the input reads as it did. -/
def fnValidBufferSpec : ChangeSpec := { name := "fnValidBuffer", vars := ["loop.example/strideviews/impl.errHeld"], fn := fun _ => fun
  | [d, g1] => { results := [.lit (.bool true)], args := [d], vars := [g1] }
  | _ => none }
def fnValidBufferRow : OpenClaim := { program := "ytkpcjppnjmhanaadoor", sum := "191a2798d005fa719bfea4251c4b223b7206cb385d489f89b327a514d9bf5163", func := "loop.example/strideviews/laws.FnValidBuffer", spec := "fnValidBuffer", inPlace := ["internal/reflectlite.TypeOf"], unfollowed := true, recurses := true, named := ["loop.example/strideviews/impl.errHeld"], ifaces := true, apart := false, laid := [("loop.example/strideviews/impl.errHeld", laid_loop_example_strideviews_impl_errHeld)] }
def FnValidBufferSaid : Prop := fnValidBufferRow.holds Tryd.pinned (OpenSpec.ofChange fnValidBufferSpec)

/-- ITS FALSE NEIGHBOUR: 'it returns false'. Refute it at one input. -/
def fnValidBufferWrong : ChangeSpec := { name := "fnValidBuffer", vars := ["loop.example/strideviews/impl.errHeld"], fn := fun _ => fun
  | [d, g1] => { results := [.lit (.bool false)], args := [d], vars := [g1] }
  | _ => none }
def FnValidBufferWrongFalsely : Prop := fnValidBufferRow.holds Tryd.pinned (OpenSpec.ofChange fnValidBufferWrong)

/-- 'laws.FnKidsOf': WHATEVER THE INPUT: true; the input reads as it did. -/
def fnKidsOfSpec : ChangeSpec := { name := "fnKidsOf", vars := ["loop.example/strideviews/impl.errHeld"], fn := fun _ => fun
  | [d, g1] => { results := [.lit (.bool true)], args := [d], vars := [g1] }
  | _ => none }
def fnKidsOfRow : OpenClaim := { program := "ytkpcjppnjmhanaadoor", sum := "191a2798d005fa719bfea4251c4b223b7206cb385d489f89b327a514d9bf5163", func := "loop.example/strideviews/laws.FnKidsOf", spec := "fnKidsOf", inPlace := ["internal/reflectlite.TypeOf"], unfollowed := true, recurses := true, named := ["loop.example/strideviews/impl.errHeld"], ifaces := true, apart := false, laid := [("loop.example/strideviews/impl.errHeld", laid_loop_example_strideviews_impl_errHeld)] }
def FnKidsOfSaid : Prop := fnKidsOfRow.holds Tryd.pinned (OpenSpec.ofChange fnKidsOfSpec)

/-- ITS FALSE NEIGHBOUR: 'it returns false'. Refute it at one input. -/
def fnKidsOfWrong : ChangeSpec := { name := "fnKidsOf", vars := ["loop.example/strideviews/impl.errHeld"], fn := fun _ => fun
  | [d, g1] => { results := [.lit (.bool false)], args := [d], vars := [g1] }
  | _ => none }
def FnKidsOfWrongFalsely : Prop := fnKidsOfRow.holds Tryd.pinned (OpenSpec.ofChange fnKidsOfWrong)

/-- 'laws.FnOpenOf': WHATEVER THE INPUT: true; the input reads as it did. -/
def fnOpenOfSpec : ChangeSpec := { name := "fnOpenOf", vars := ["loop.example/strideviews/impl.errHeld"], fn := fun _ => fun
  | [d, g1] => { results := [.lit (.bool true)], args := [d], vars := [g1] }
  | _ => none }
def fnOpenOfRow : OpenClaim := { program := "ytkpcjppnjmhanaadoor", sum := "191a2798d005fa719bfea4251c4b223b7206cb385d489f89b327a514d9bf5163", func := "loop.example/strideviews/laws.FnOpenOf", spec := "fnOpenOf", inPlace := ["internal/reflectlite.TypeOf"], unfollowed := true, recurses := true, named := ["loop.example/strideviews/impl.errHeld"], ifaces := true, apart := false, laid := [("loop.example/strideviews/impl.errHeld", laid_loop_example_strideviews_impl_errHeld)] }
def FnOpenOfSaid : Prop := fnOpenOfRow.holds Tryd.pinned (OpenSpec.ofChange fnOpenOfSpec)

/-- ITS FALSE NEIGHBOUR: 'it returns false'. Refute it at one input. -/
def fnOpenOfWrong : ChangeSpec := { name := "fnOpenOf", vars := ["loop.example/strideviews/impl.errHeld"], fn := fun _ => fun
  | [d, g1] => { results := [.lit (.bool false)], args := [d], vars := [g1] }
  | _ => none }
def FnOpenOfWrongFalsely : Prop := fnOpenOfRow.holds Tryd.pinned (OpenSpec.ofChange fnOpenOfWrong)

/-- 'laws.FnResizeBuffer': WHATEVER THE INPUT: true; the input reads as it did. -/
def fnResizeBufferSpec : ChangeSpec := { name := "fnResizeBuffer", vars := ["loop.example/strideviews/impl.errHeld"], fn := fun _ => fun
  | [d, g1] => { results := [.lit (.bool true)], args := [d], vars := [g1] }
  | _ => none }
def fnResizeBufferRow : OpenClaim := { program := "ytkpcjppnjmhanaadoor", sum := "191a2798d005fa719bfea4251c4b223b7206cb385d489f89b327a514d9bf5163", func := "loop.example/strideviews/laws.FnResizeBuffer", spec := "fnResizeBuffer", inPlace := ["internal/reflectlite.TypeOf"], unfollowed := true, recurses := true, named := ["loop.example/strideviews/impl.errHeld"], ifaces := true, apart := false, laid := [("loop.example/strideviews/impl.errHeld", laid_loop_example_strideviews_impl_errHeld)] }
def FnResizeBufferSaid : Prop := fnResizeBufferRow.holds Tryd.pinned (OpenSpec.ofChange fnResizeBufferSpec)

/-- ITS FALSE NEIGHBOUR: 'it returns false'. Refute it at one input. -/
def fnResizeBufferWrong : ChangeSpec := { name := "fnResizeBuffer", vars := ["loop.example/strideviews/impl.errHeld"], fn := fun _ => fun
  | [d, g1] => { results := [.lit (.bool false)], args := [d], vars := [g1] }
  | _ => none }
def FnResizeBufferWrongFalsely : Prop := fnResizeBufferRow.holds Tryd.pinned (OpenSpec.ofChange fnResizeBufferWrong)

/- THE SECOND FORM. 'bulk': how many values and letters a reading holds, each counted each time it is reached (what is shared counts as often as it is met; a slice's spare places count too). A statement '..UptoSaid' is the law's where the arguments, and the package variables that the reading takes, are together of bulk at most 1048576: NARROWER than '..Said'. Prove '..Said' where nothing that the law and all that it calls make is longer than what came in: it says more and counts as full. Else prove '..UptoSaid'. A law counts once. -/
mutual
def uptoBulk {H : Type} : DataW H → Nat
  | .lit (.string bytes) => bytes.length + 1
  | .lit _ => 1
  | .nil => 1
  | .ptr d => uptoBulk d + 1
  | .slice elems spare => uptoBulkAll elems + uptoBulkAll spare + 1
  | .agg parts => uptoBulkAll parts + 1
  | .iface _ d => uptoBulk d + 1
  | .map entries => uptoBulkEntries entries + 1
  | .held _ => 1
def uptoBulkAll {H : Type} : List (DataW H) → Nat
  | [] => 0
  | d :: r => uptoBulk d + uptoBulkAll r
def uptoBulkEntries {H : Type} : List (Lit × DataW H) → Nat
  | [] => 0
  | x :: r => uptoBulkEntry x + uptoBulkEntries r
def uptoBulkEntry {H : Type} : Lit × DataW H → Nat
  | (.string bytes, d) => bytes.length + uptoBulk d + 1
  | (_, d) => uptoBulk d + 1
 end
def uptoSmall : (H : Type) → List (DataW H) → Bool := fun _ ds => decide (uptoBulkAll ds ≤ 1048576)
def OpenSpec.upto (s : _root_.Go.ChangeSpec) : _root_.Go.OpenSpec := { _root_.Go.OpenSpec.ofChange s with cond := some uptoSmall }

/-- 'laws.FnValidBuffer', WHERE WHAT IT READS IS OF BULK AT MOST 1048576: true; the input reads as it did. -/
def fnValidBufferUptoRow : OpenClaim := { program := "ytkpcjppnjmhanaadoor", sum := "191a2798d005fa719bfea4251c4b223b7206cb385d489f89b327a514d9bf5163", func := "loop.example/strideviews/laws.FnValidBuffer", spec := "fnValidBuffer", inPlace := ["internal/reflectlite.TypeOf"], unfollowed := true, recurses := true, named := ["loop.example/strideviews/impl.errHeld"], ifaces := true, apart := false, laid := [("loop.example/strideviews/impl.errHeld", laid_loop_example_strideviews_impl_errHeld)], narrowed := true }
def FnValidBufferUptoSaid : Prop := fnValidBufferUptoRow.holds Tryd.pinned (OpenSpec.upto fnValidBufferSpec)

/-- 'laws.FnKidsOf', WHERE WHAT IT READS IS OF BULK AT MOST 1048576: true; the input reads as it did. -/
def fnKidsOfUptoRow : OpenClaim := { program := "ytkpcjppnjmhanaadoor", sum := "191a2798d005fa719bfea4251c4b223b7206cb385d489f89b327a514d9bf5163", func := "loop.example/strideviews/laws.FnKidsOf", spec := "fnKidsOf", inPlace := ["internal/reflectlite.TypeOf"], unfollowed := true, recurses := true, named := ["loop.example/strideviews/impl.errHeld"], ifaces := true, apart := false, laid := [("loop.example/strideviews/impl.errHeld", laid_loop_example_strideviews_impl_errHeld)], narrowed := true }
def FnKidsOfUptoSaid : Prop := fnKidsOfUptoRow.holds Tryd.pinned (OpenSpec.upto fnKidsOfSpec)

/-- 'laws.FnOpenOf', WHERE WHAT IT READS IS OF BULK AT MOST 1048576: true; the input reads as it did. -/
def fnOpenOfUptoRow : OpenClaim := { program := "ytkpcjppnjmhanaadoor", sum := "191a2798d005fa719bfea4251c4b223b7206cb385d489f89b327a514d9bf5163", func := "loop.example/strideviews/laws.FnOpenOf", spec := "fnOpenOf", inPlace := ["internal/reflectlite.TypeOf"], unfollowed := true, recurses := true, named := ["loop.example/strideviews/impl.errHeld"], ifaces := true, apart := false, laid := [("loop.example/strideviews/impl.errHeld", laid_loop_example_strideviews_impl_errHeld)], narrowed := true }
def FnOpenOfUptoSaid : Prop := fnOpenOfUptoRow.holds Tryd.pinned (OpenSpec.upto fnOpenOfSpec)

/-- 'laws.FnResizeBuffer', WHERE WHAT IT READS IS OF BULK AT MOST 1048576: true; the input reads as it did. -/
def fnResizeBufferUptoRow : OpenClaim := { program := "ytkpcjppnjmhanaadoor", sum := "191a2798d005fa719bfea4251c4b223b7206cb385d489f89b327a514d9bf5163", func := "loop.example/strideviews/laws.FnResizeBuffer", spec := "fnResizeBuffer", inPlace := ["internal/reflectlite.TypeOf"], unfollowed := true, recurses := true, named := ["loop.example/strideviews/impl.errHeld"], ifaces := true, apart := false, laid := [("loop.example/strideviews/impl.errHeld", laid_loop_example_strideviews_impl_errHeld)], narrowed := true }
def FnResizeBufferUptoSaid : Prop := fnResizeBufferUptoRow.holds Tryd.pinned (OpenSpec.upto fnResizeBufferSpec)

end Rows
end Go.Proofs.YtkpcjppnjmhanaaDoor
