/-
  NARROWER THAN 'FOR EVERY INPUT', by the rows' own cells (each row's printed sentence says how): FnExactValidFormat: laid · FnExactPlacesOf: laid · FnExactItemSize: laid · FnExactPaddingOf: laid · FnExactPackItem: laid · FnExactUnpackItem: laid · FnExactPackAll: laid · FnExactUnpackAll: laid · FnExactFieldView: laid · FnExactSwapBytes: laid.
  DERIVED. THE GIVEN ROWS OF THIS SEAT. 10 by the template 'for every input the law returns true; each argument reads behind the call as it read before'; 0 by the template 'total and deterministic' (their statements: YtekojnkaikbeaaaDoorTotals.lean).
  GIVEN WITH THE SEED: the statements are not yours to turn. If you find one false, say at which input.
  Laid BY PROGRAM, IN A SANDBOX (cutbox-rows.mjs): the forced cells as the released guide's own fill.sh prints them over the translation 7b55eaa456c395d6… (all of the seat's roots in one cut). By AI agents, Wed Nov 11 2026. No macro, syntax, notation, axiom, sorry.
-/
import Derived.Test.YtekojnkaikbeaaaDoorChecked
import GoSem.Claim
import GoSem.ClaimJoined
import GoSem.ClaimMapViews
import Derived.JoinedTies
import Derived.KernelRfl
namespace Go.Proofs.YtekojnkaikbeaaaDoor
/- THE CELL 'sum', in the pinned program and in every row, IS THE sha256 OF THE DUMP (.gsa) THAT YtekojnkaikbeaaaDoorProg.lean LOADS. Nothing in Lean hashes anything: it is a label: what it is worth is what the hold of that sum in a sandbox is worth. -/
noncomputable def Tryd.pinned : Pinned := { name := "ytekojnkaikbeaaadoor", sum := "7b55eaa456c395d6987a9f5ef6268e42e041905d68ed1cef00a112c674b4eb8e", checked := Tryd.checked }
namespace Rows
def none {H : Type} : Left H := { results := [], args := [] }

/- WHAT THE LISTED PACKAGE-LEVEL VARIABLES READ AS WHEN THE CALL BEGINS. Each datum BY PROGRAM (the guide's laid-datum.mjs) off the statement by which the dump's own 'gosem.cut.vars' lays the variable. In a bare row this is a premise. The card (YtekojnkaikbeaaaDoorCards.lean) ties it to the program's text. -/
def laid_loop_example_strideviews_impl_fieldSizes {H : Type} : DataW H := .agg [.lit (.int .i64 1), .lit (.int .i64 2), .lit (.int .i64 4)]

/-- 'laws.FnExactValidFormat': WHATEVER THE INPUT: true; the input reads as it did. -/
def fnExactValidFormatSpec : ChangeSpec := { name := "fnExactValidFormat", vars := ["loop.example/strideviews/impl.fieldSizes"], fn := fun _ => fun
  | [d, g1] => { results := [.lit (.bool true)], args := [d], vars := [g1] }
  | _ => none }
def fnExactValidFormatRow : OpenClaim := { program := "ytekojnkaikbeaaadoor", sum := "7b55eaa456c395d6987a9f5ef6268e42e041905d68ed1cef00a112c674b4eb8e", func := "loop.example/strideviews/laws.FnExactValidFormat", spec := "fnExactValidFormat", named := ["loop.example/strideviews/impl.fieldSizes"], apart := false, laid := [("loop.example/strideviews/impl.fieldSizes", laid_loop_example_strideviews_impl_fieldSizes)] }
def FnExactValidFormatSaid : Prop := fnExactValidFormatRow.holds Tryd.pinned (OpenSpec.ofChange fnExactValidFormatSpec)

/-- ITS FALSE NEIGHBOUR: 'it returns false'. Refute it at one input. -/
def fnExactValidFormatWrong : ChangeSpec := { name := "fnExactValidFormat", vars := ["loop.example/strideviews/impl.fieldSizes"], fn := fun _ => fun
  | [d, g1] => { results := [.lit (.bool false)], args := [d], vars := [g1] }
  | _ => none }
def FnExactValidFormatWrongFalsely : Prop := fnExactValidFormatRow.holds Tryd.pinned (OpenSpec.ofChange fnExactValidFormatWrong)

/-- 'laws.FnExactPlacesOf': WHATEVER THE INPUT: true; the input reads as it did. -/
def fnExactPlacesOfSpec : ChangeSpec := { name := "fnExactPlacesOf", vars := ["loop.example/strideviews/impl.fieldSizes"], fn := fun _ => fun
  | [d, g1] => { results := [.lit (.bool true)], args := [d], vars := [g1] }
  | _ => none }
def fnExactPlacesOfRow : OpenClaim := { program := "ytekojnkaikbeaaadoor", sum := "7b55eaa456c395d6987a9f5ef6268e42e041905d68ed1cef00a112c674b4eb8e", func := "loop.example/strideviews/laws.FnExactPlacesOf", spec := "fnExactPlacesOf", named := ["loop.example/strideviews/impl.fieldSizes"], apart := false, laid := [("loop.example/strideviews/impl.fieldSizes", laid_loop_example_strideviews_impl_fieldSizes)] }
def FnExactPlacesOfSaid : Prop := fnExactPlacesOfRow.holds Tryd.pinned (OpenSpec.ofChange fnExactPlacesOfSpec)

/-- ITS FALSE NEIGHBOUR: 'it returns false'. Refute it at one input. -/
def fnExactPlacesOfWrong : ChangeSpec := { name := "fnExactPlacesOf", vars := ["loop.example/strideviews/impl.fieldSizes"], fn := fun _ => fun
  | [d, g1] => { results := [.lit (.bool false)], args := [d], vars := [g1] }
  | _ => none }
def FnExactPlacesOfWrongFalsely : Prop := fnExactPlacesOfRow.holds Tryd.pinned (OpenSpec.ofChange fnExactPlacesOfWrong)

/-- 'laws.FnExactItemSize': WHATEVER THE INPUT: true; the input reads as it did. -/
def fnExactItemSizeSpec : ChangeSpec := { name := "fnExactItemSize", vars := ["loop.example/strideviews/impl.fieldSizes"], fn := fun _ => fun
  | [d, g1] => { results := [.lit (.bool true)], args := [d], vars := [g1] }
  | _ => none }
def fnExactItemSizeRow : OpenClaim := { program := "ytekojnkaikbeaaadoor", sum := "7b55eaa456c395d6987a9f5ef6268e42e041905d68ed1cef00a112c674b4eb8e", func := "loop.example/strideviews/laws.FnExactItemSize", spec := "fnExactItemSize", named := ["loop.example/strideviews/impl.fieldSizes"], apart := false, laid := [("loop.example/strideviews/impl.fieldSizes", laid_loop_example_strideviews_impl_fieldSizes)] }
def FnExactItemSizeSaid : Prop := fnExactItemSizeRow.holds Tryd.pinned (OpenSpec.ofChange fnExactItemSizeSpec)

/-- ITS FALSE NEIGHBOUR: 'it returns false'. Refute it at one input. -/
def fnExactItemSizeWrong : ChangeSpec := { name := "fnExactItemSize", vars := ["loop.example/strideviews/impl.fieldSizes"], fn := fun _ => fun
  | [d, g1] => { results := [.lit (.bool false)], args := [d], vars := [g1] }
  | _ => none }
def FnExactItemSizeWrongFalsely : Prop := fnExactItemSizeRow.holds Tryd.pinned (OpenSpec.ofChange fnExactItemSizeWrong)

/-- 'laws.FnExactPaddingOf': WHATEVER THE INPUT: true; the input reads as it did. -/
def fnExactPaddingOfSpec : ChangeSpec := { name := "fnExactPaddingOf", vars := ["loop.example/strideviews/impl.fieldSizes"], fn := fun _ => fun
  | [d, g1] => { results := [.lit (.bool true)], args := [d], vars := [g1] }
  | _ => none }
def fnExactPaddingOfRow : OpenClaim := { program := "ytekojnkaikbeaaadoor", sum := "7b55eaa456c395d6987a9f5ef6268e42e041905d68ed1cef00a112c674b4eb8e", func := "loop.example/strideviews/laws.FnExactPaddingOf", spec := "fnExactPaddingOf", named := ["loop.example/strideviews/impl.fieldSizes"], apart := false, laid := [("loop.example/strideviews/impl.fieldSizes", laid_loop_example_strideviews_impl_fieldSizes)] }
def FnExactPaddingOfSaid : Prop := fnExactPaddingOfRow.holds Tryd.pinned (OpenSpec.ofChange fnExactPaddingOfSpec)

/-- ITS FALSE NEIGHBOUR: 'it returns false'. Refute it at one input. -/
def fnExactPaddingOfWrong : ChangeSpec := { name := "fnExactPaddingOf", vars := ["loop.example/strideviews/impl.fieldSizes"], fn := fun _ => fun
  | [d, g1] => { results := [.lit (.bool false)], args := [d], vars := [g1] }
  | _ => none }
def FnExactPaddingOfWrongFalsely : Prop := fnExactPaddingOfRow.holds Tryd.pinned (OpenSpec.ofChange fnExactPaddingOfWrong)

/-- 'laws.FnExactPackItem': WHATEVER THE INPUT: true; the input reads as it did. -/
def fnExactPackItemSpec : ChangeSpec := { name := "fnExactPackItem", vars := ["loop.example/strideviews/impl.fieldSizes"], fn := fun _ => fun
  | [d1, d2, g1] => { results := [.lit (.bool true)], args := [d1, d2], vars := [g1] }
  | _ => none }
def fnExactPackItemRow : OpenClaim := { program := "ytekojnkaikbeaaadoor", sum := "7b55eaa456c395d6987a9f5ef6268e42e041905d68ed1cef00a112c674b4eb8e", func := "loop.example/strideviews/laws.FnExactPackItem", spec := "fnExactPackItem", unfollowed := true, recurses := true, named := ["loop.example/strideviews/impl.fieldSizes"], apart := false, laid := [("loop.example/strideviews/impl.fieldSizes", laid_loop_example_strideviews_impl_fieldSizes)] }
def FnExactPackItemSaid : Prop := fnExactPackItemRow.holds Tryd.pinned (OpenSpec.ofChange fnExactPackItemSpec)

/-- ITS FALSE NEIGHBOUR: 'it returns false'. Refute it at one input. -/
def fnExactPackItemWrong : ChangeSpec := { name := "fnExactPackItem", vars := ["loop.example/strideviews/impl.fieldSizes"], fn := fun _ => fun
  | [d1, d2, g1] => { results := [.lit (.bool false)], args := [d1, d2], vars := [g1] }
  | _ => none }
def FnExactPackItemWrongFalsely : Prop := fnExactPackItemRow.holds Tryd.pinned (OpenSpec.ofChange fnExactPackItemWrong)

/-- 'laws.FnExactUnpackItem': WHATEVER THE INPUT: true; the input reads as it did. -/
def fnExactUnpackItemSpec : ChangeSpec := { name := "fnExactUnpackItem", vars := ["loop.example/strideviews/impl.fieldSizes"], fn := fun _ => fun
  | [d1, d2, g1] => { results := [.lit (.bool true)], args := [d1, d2], vars := [g1] }
  | _ => none }
def fnExactUnpackItemRow : OpenClaim := { program := "ytekojnkaikbeaaadoor", sum := "7b55eaa456c395d6987a9f5ef6268e42e041905d68ed1cef00a112c674b4eb8e", func := "loop.example/strideviews/laws.FnExactUnpackItem", spec := "fnExactUnpackItem", unfollowed := true, recurses := true, named := ["loop.example/strideviews/impl.fieldSizes"], apart := false, laid := [("loop.example/strideviews/impl.fieldSizes", laid_loop_example_strideviews_impl_fieldSizes)] }
def FnExactUnpackItemSaid : Prop := fnExactUnpackItemRow.holds Tryd.pinned (OpenSpec.ofChange fnExactUnpackItemSpec)

/-- ITS FALSE NEIGHBOUR: 'it returns false'. Refute it at one input. -/
def fnExactUnpackItemWrong : ChangeSpec := { name := "fnExactUnpackItem", vars := ["loop.example/strideviews/impl.fieldSizes"], fn := fun _ => fun
  | [d1, d2, g1] => { results := [.lit (.bool false)], args := [d1, d2], vars := [g1] }
  | _ => none }
def FnExactUnpackItemWrongFalsely : Prop := fnExactUnpackItemRow.holds Tryd.pinned (OpenSpec.ofChange fnExactUnpackItemWrong)

/-- 'laws.FnExactPackAll': WHATEVER THE INPUT: true; the input reads as it did. -/
def fnExactPackAllSpec : ChangeSpec := { name := "fnExactPackAll", vars := ["loop.example/strideviews/impl.fieldSizes"], fn := fun _ => fun
  | [d1, d2, g1] => { results := [.lit (.bool true)], args := [d1, d2], vars := [g1] }
  | _ => none }
def fnExactPackAllRow : OpenClaim := { program := "ytekojnkaikbeaaadoor", sum := "7b55eaa456c395d6987a9f5ef6268e42e041905d68ed1cef00a112c674b4eb8e", func := "loop.example/strideviews/laws.FnExactPackAll", spec := "fnExactPackAll", unfollowed := true, recurses := true, named := ["loop.example/strideviews/impl.fieldSizes"], apart := false, laid := [("loop.example/strideviews/impl.fieldSizes", laid_loop_example_strideviews_impl_fieldSizes)] }
def FnExactPackAllSaid : Prop := fnExactPackAllRow.holds Tryd.pinned (OpenSpec.ofChange fnExactPackAllSpec)

/-- ITS FALSE NEIGHBOUR: 'it returns false'. Refute it at one input. -/
def fnExactPackAllWrong : ChangeSpec := { name := "fnExactPackAll", vars := ["loop.example/strideviews/impl.fieldSizes"], fn := fun _ => fun
  | [d1, d2, g1] => { results := [.lit (.bool false)], args := [d1, d2], vars := [g1] }
  | _ => none }
def FnExactPackAllWrongFalsely : Prop := fnExactPackAllRow.holds Tryd.pinned (OpenSpec.ofChange fnExactPackAllWrong)

/-- 'laws.FnExactUnpackAll': WHATEVER THE INPUT: true; the input reads as it did. -/
def fnExactUnpackAllSpec : ChangeSpec := { name := "fnExactUnpackAll", vars := ["loop.example/strideviews/impl.fieldSizes"], fn := fun _ => fun
  | [d1, d2, g1] => { results := [.lit (.bool true)], args := [d1, d2], vars := [g1] }
  | _ => none }
def fnExactUnpackAllRow : OpenClaim := { program := "ytekojnkaikbeaaadoor", sum := "7b55eaa456c395d6987a9f5ef6268e42e041905d68ed1cef00a112c674b4eb8e", func := "loop.example/strideviews/laws.FnExactUnpackAll", spec := "fnExactUnpackAll", unfollowed := true, recurses := true, named := ["loop.example/strideviews/impl.fieldSizes"], apart := false, laid := [("loop.example/strideviews/impl.fieldSizes", laid_loop_example_strideviews_impl_fieldSizes)] }
def FnExactUnpackAllSaid : Prop := fnExactUnpackAllRow.holds Tryd.pinned (OpenSpec.ofChange fnExactUnpackAllSpec)

/-- ITS FALSE NEIGHBOUR: 'it returns false'. Refute it at one input. -/
def fnExactUnpackAllWrong : ChangeSpec := { name := "fnExactUnpackAll", vars := ["loop.example/strideviews/impl.fieldSizes"], fn := fun _ => fun
  | [d1, d2, g1] => { results := [.lit (.bool false)], args := [d1, d2], vars := [g1] }
  | _ => none }
def FnExactUnpackAllWrongFalsely : Prop := fnExactUnpackAllRow.holds Tryd.pinned (OpenSpec.ofChange fnExactUnpackAllWrong)

/-- 'laws.FnExactFieldView': WHATEVER THE INPUT: true; the input reads as it did. -/
def fnExactFieldViewSpec : ChangeSpec := { name := "fnExactFieldView", vars := ["loop.example/strideviews/impl.fieldSizes"], fn := fun _ => fun
  | [d1, d2, d3, g1] => { results := [.lit (.bool true)], args := [d1, d2, d3], vars := [g1] }
  | _ => none }
def fnExactFieldViewRow : OpenClaim := { program := "ytekojnkaikbeaaadoor", sum := "7b55eaa456c395d6987a9f5ef6268e42e041905d68ed1cef00a112c674b4eb8e", func := "loop.example/strideviews/laws.FnExactFieldView", spec := "fnExactFieldView", unfollowed := true, recurses := true, named := ["loop.example/strideviews/impl.fieldSizes"], apart := false, laid := [("loop.example/strideviews/impl.fieldSizes", laid_loop_example_strideviews_impl_fieldSizes)] }
def FnExactFieldViewSaid : Prop := fnExactFieldViewRow.holds Tryd.pinned (OpenSpec.ofChange fnExactFieldViewSpec)

/-- ITS FALSE NEIGHBOUR: 'it returns false'. Refute it at one input. -/
def fnExactFieldViewWrong : ChangeSpec := { name := "fnExactFieldView", vars := ["loop.example/strideviews/impl.fieldSizes"], fn := fun _ => fun
  | [d1, d2, d3, g1] => { results := [.lit (.bool false)], args := [d1, d2, d3], vars := [g1] }
  | _ => none }
def FnExactFieldViewWrongFalsely : Prop := fnExactFieldViewRow.holds Tryd.pinned (OpenSpec.ofChange fnExactFieldViewWrong)

/-- 'laws.FnExactSwapBytes': WHATEVER THE INPUT: true; the input reads as it did. -/
def fnExactSwapBytesSpec : ChangeSpec := { name := "fnExactSwapBytes", vars := ["loop.example/strideviews/impl.fieldSizes"], fn := fun _ => fun
  | [d1, d2, g1] => { results := [.lit (.bool true)], args := [d1, d2], vars := [g1] }
  | _ => none }
def fnExactSwapBytesRow : OpenClaim := { program := "ytekojnkaikbeaaadoor", sum := "7b55eaa456c395d6987a9f5ef6268e42e041905d68ed1cef00a112c674b4eb8e", func := "loop.example/strideviews/laws.FnExactSwapBytes", spec := "fnExactSwapBytes", unfollowed := true, recurses := true, named := ["loop.example/strideviews/impl.fieldSizes"], apart := false, laid := [("loop.example/strideviews/impl.fieldSizes", laid_loop_example_strideviews_impl_fieldSizes)] }
def FnExactSwapBytesSaid : Prop := fnExactSwapBytesRow.holds Tryd.pinned (OpenSpec.ofChange fnExactSwapBytesSpec)

/-- ITS FALSE NEIGHBOUR: 'it returns false'. Refute it at one input. -/
def fnExactSwapBytesWrong : ChangeSpec := { name := "fnExactSwapBytes", vars := ["loop.example/strideviews/impl.fieldSizes"], fn := fun _ => fun
  | [d1, d2, g1] => { results := [.lit (.bool false)], args := [d1, d2], vars := [g1] }
  | _ => none }
def FnExactSwapBytesWrongFalsely : Prop := fnExactSwapBytesRow.holds Tryd.pinned (OpenSpec.ofChange fnExactSwapBytesWrong)

/- THE SECOND FORM. 'bulk': how many values and letters a reading holds, each counted each time it is reached (what is shared counts as often as it is met; a slice's spare places count too). A statement '..UptoSaid' is the law's where the arguments, and the package variables that the reading takes, are together of bulk at most 1048576: NARROWER than '..Said'. Prove '..Said' where nothing that the law and all that it calls make is longer than what came in: it says more and counts as full. Else prove '..UptoSaid'. A law counts once. -/
mutual
def uptoBulk {H : Type} : DataW H → Nat
  | .lit (.string bytes) => bytes.length + 1
  | .lit _ => 1
  | .nil => 1
  | .ptr d => uptoBulk d + 1
  | .slice elems spare => uptoBulkAll elems + uptoBulkAll spare + 1
  | .agg parts => uptoBulkAll parts + 1
  | .iface _ d => uptoBulk d + 1
  | .map entries => uptoBulkEntries entries + 1
  | .held _ => 1
def uptoBulkAll {H : Type} : List (DataW H) → Nat
  | [] => 0
  | d :: r => uptoBulk d + uptoBulkAll r
def uptoBulkEntries {H : Type} : List (Lit × DataW H) → Nat
  | [] => 0
  | x :: r => uptoBulkEntry x + uptoBulkEntries r
def uptoBulkEntry {H : Type} : Lit × DataW H → Nat
  | (.string bytes, d) => bytes.length + uptoBulk d + 1
  | (_, d) => uptoBulk d + 1
 end
def uptoSmall : (H : Type) → List (DataW H) → Bool := fun _ ds => decide (uptoBulkAll ds ≤ 1048576)
def OpenSpec.upto (s : _root_.Go.ChangeSpec) : _root_.Go.OpenSpec := { _root_.Go.OpenSpec.ofChange s with cond := some uptoSmall }

/-- 'laws.FnExactValidFormat', WHERE WHAT IT READS IS OF BULK AT MOST 1048576: true; the input reads as it did. -/
def fnExactValidFormatUptoRow : OpenClaim := { program := "ytekojnkaikbeaaadoor", sum := "7b55eaa456c395d6987a9f5ef6268e42e041905d68ed1cef00a112c674b4eb8e", func := "loop.example/strideviews/laws.FnExactValidFormat", spec := "fnExactValidFormat", named := ["loop.example/strideviews/impl.fieldSizes"], apart := false, laid := [("loop.example/strideviews/impl.fieldSizes", laid_loop_example_strideviews_impl_fieldSizes)], narrowed := true }
def FnExactValidFormatUptoSaid : Prop := fnExactValidFormatUptoRow.holds Tryd.pinned (OpenSpec.upto fnExactValidFormatSpec)

/-- 'laws.FnExactPlacesOf', WHERE WHAT IT READS IS OF BULK AT MOST 1048576: true; the input reads as it did. -/
def fnExactPlacesOfUptoRow : OpenClaim := { program := "ytekojnkaikbeaaadoor", sum := "7b55eaa456c395d6987a9f5ef6268e42e041905d68ed1cef00a112c674b4eb8e", func := "loop.example/strideviews/laws.FnExactPlacesOf", spec := "fnExactPlacesOf", named := ["loop.example/strideviews/impl.fieldSizes"], apart := false, laid := [("loop.example/strideviews/impl.fieldSizes", laid_loop_example_strideviews_impl_fieldSizes)], narrowed := true }
def FnExactPlacesOfUptoSaid : Prop := fnExactPlacesOfUptoRow.holds Tryd.pinned (OpenSpec.upto fnExactPlacesOfSpec)

/-- 'laws.FnExactItemSize', WHERE WHAT IT READS IS OF BULK AT MOST 1048576: true; the input reads as it did. -/
def fnExactItemSizeUptoRow : OpenClaim := { program := "ytekojnkaikbeaaadoor", sum := "7b55eaa456c395d6987a9f5ef6268e42e041905d68ed1cef00a112c674b4eb8e", func := "loop.example/strideviews/laws.FnExactItemSize", spec := "fnExactItemSize", named := ["loop.example/strideviews/impl.fieldSizes"], apart := false, laid := [("loop.example/strideviews/impl.fieldSizes", laid_loop_example_strideviews_impl_fieldSizes)], narrowed := true }
def FnExactItemSizeUptoSaid : Prop := fnExactItemSizeUptoRow.holds Tryd.pinned (OpenSpec.upto fnExactItemSizeSpec)

/-- 'laws.FnExactPaddingOf', WHERE WHAT IT READS IS OF BULK AT MOST 1048576: true; the input reads as it did. -/
def fnExactPaddingOfUptoRow : OpenClaim := { program := "ytekojnkaikbeaaadoor", sum := "7b55eaa456c395d6987a9f5ef6268e42e041905d68ed1cef00a112c674b4eb8e", func := "loop.example/strideviews/laws.FnExactPaddingOf", spec := "fnExactPaddingOf", named := ["loop.example/strideviews/impl.fieldSizes"], apart := false, laid := [("loop.example/strideviews/impl.fieldSizes", laid_loop_example_strideviews_impl_fieldSizes)], narrowed := true }
def FnExactPaddingOfUptoSaid : Prop := fnExactPaddingOfUptoRow.holds Tryd.pinned (OpenSpec.upto fnExactPaddingOfSpec)

/-- 'laws.FnExactPackItem', WHERE WHAT IT READS IS OF BULK AT MOST 1048576: true; the input reads as it did. -/
def fnExactPackItemUptoRow : OpenClaim := { program := "ytekojnkaikbeaaadoor", sum := "7b55eaa456c395d6987a9f5ef6268e42e041905d68ed1cef00a112c674b4eb8e", func := "loop.example/strideviews/laws.FnExactPackItem", spec := "fnExactPackItem", unfollowed := true, recurses := true, named := ["loop.example/strideviews/impl.fieldSizes"], apart := false, laid := [("loop.example/strideviews/impl.fieldSizes", laid_loop_example_strideviews_impl_fieldSizes)], narrowed := true }
def FnExactPackItemUptoSaid : Prop := fnExactPackItemUptoRow.holds Tryd.pinned (OpenSpec.upto fnExactPackItemSpec)

/-- 'laws.FnExactUnpackItem', WHERE WHAT IT READS IS OF BULK AT MOST 1048576: true; the input reads as it did. -/
def fnExactUnpackItemUptoRow : OpenClaim := { program := "ytekojnkaikbeaaadoor", sum := "7b55eaa456c395d6987a9f5ef6268e42e041905d68ed1cef00a112c674b4eb8e", func := "loop.example/strideviews/laws.FnExactUnpackItem", spec := "fnExactUnpackItem", unfollowed := true, recurses := true, named := ["loop.example/strideviews/impl.fieldSizes"], apart := false, laid := [("loop.example/strideviews/impl.fieldSizes", laid_loop_example_strideviews_impl_fieldSizes)], narrowed := true }
def FnExactUnpackItemUptoSaid : Prop := fnExactUnpackItemUptoRow.holds Tryd.pinned (OpenSpec.upto fnExactUnpackItemSpec)

/-- 'laws.FnExactPackAll', WHERE WHAT IT READS IS OF BULK AT MOST 1048576: true; the input reads as it did. -/
def fnExactPackAllUptoRow : OpenClaim := { program := "ytekojnkaikbeaaadoor", sum := "7b55eaa456c395d6987a9f5ef6268e42e041905d68ed1cef00a112c674b4eb8e", func := "loop.example/strideviews/laws.FnExactPackAll", spec := "fnExactPackAll", unfollowed := true, recurses := true, named := ["loop.example/strideviews/impl.fieldSizes"], apart := false, laid := [("loop.example/strideviews/impl.fieldSizes", laid_loop_example_strideviews_impl_fieldSizes)], narrowed := true }
def FnExactPackAllUptoSaid : Prop := fnExactPackAllUptoRow.holds Tryd.pinned (OpenSpec.upto fnExactPackAllSpec)

/-- 'laws.FnExactUnpackAll', WHERE WHAT IT READS IS OF BULK AT MOST 1048576: true; the input reads as it did. -/
def fnExactUnpackAllUptoRow : OpenClaim := { program := "ytekojnkaikbeaaadoor", sum := "7b55eaa456c395d6987a9f5ef6268e42e041905d68ed1cef00a112c674b4eb8e", func := "loop.example/strideviews/laws.FnExactUnpackAll", spec := "fnExactUnpackAll", unfollowed := true, recurses := true, named := ["loop.example/strideviews/impl.fieldSizes"], apart := false, laid := [("loop.example/strideviews/impl.fieldSizes", laid_loop_example_strideviews_impl_fieldSizes)], narrowed := true }
def FnExactUnpackAllUptoSaid : Prop := fnExactUnpackAllUptoRow.holds Tryd.pinned (OpenSpec.upto fnExactUnpackAllSpec)

/-- 'laws.FnExactFieldView', WHERE WHAT IT READS IS OF BULK AT MOST 1048576: true; the input reads as it did. -/
def fnExactFieldViewUptoRow : OpenClaim := { program := "ytekojnkaikbeaaadoor", sum := "7b55eaa456c395d6987a9f5ef6268e42e041905d68ed1cef00a112c674b4eb8e", func := "loop.example/strideviews/laws.FnExactFieldView", spec := "fnExactFieldView", unfollowed := true, recurses := true, named := ["loop.example/strideviews/impl.fieldSizes"], apart := false, laid := [("loop.example/strideviews/impl.fieldSizes", laid_loop_example_strideviews_impl_fieldSizes)], narrowed := true }
def FnExactFieldViewUptoSaid : Prop := fnExactFieldViewUptoRow.holds Tryd.pinned (OpenSpec.upto fnExactFieldViewSpec)

/-- 'laws.FnExactSwapBytes', WHERE WHAT IT READS IS OF BULK AT MOST 1048576: true; the input reads as it did. -/
def fnExactSwapBytesUptoRow : OpenClaim := { program := "ytekojnkaikbeaaadoor", sum := "7b55eaa456c395d6987a9f5ef6268e42e041905d68ed1cef00a112c674b4eb8e", func := "loop.example/strideviews/laws.FnExactSwapBytes", spec := "fnExactSwapBytes", unfollowed := true, recurses := true, named := ["loop.example/strideviews/impl.fieldSizes"], apart := false, laid := [("loop.example/strideviews/impl.fieldSizes", laid_loop_example_strideviews_impl_fieldSizes)], narrowed := true }
def FnExactSwapBytesUptoSaid : Prop := fnExactSwapBytesUptoRow.holds Tryd.pinned (OpenSpec.upto fnExactSwapBytesSpec)

end Rows
end Go.Proofs.YtekojnkaikbeaaaDoor
