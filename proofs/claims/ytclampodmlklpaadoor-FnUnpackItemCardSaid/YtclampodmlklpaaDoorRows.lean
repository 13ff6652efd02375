/-
  NARROWER THAN 'FOR EVERY INPUT', by the rows' own cells (each row's printed sentence says how): FnValidFormat: laid · FnPlacesOf: laid · FnItemSize: laid · FnPaddingOf: laid · FnPackItem: laid · FnUnpackItem: laid · FnPackAll: laid · FnUnpackAll: laid · FnFieldView: laid · FnSwapBytes: laid.
  DERIVED. THE GIVEN ROWS OF THIS SEAT. 10 by the template 'for every input the law returns true; each argument reads behind the call as it read before'; 0 by the template 'total and deterministic' (their statements: YtclampodmlklpaaDoorTotals.lean).
  GIVEN WITH THE SEED: the statements are not yours to turn. If you find one false, say at which input.
  Laid BY PROGRAM, IN A SANDBOX (cutbox-rows.mjs): the forced cells as the released guide's own fill.sh prints them over the translation 75aea2af329935dc… (all of the seat's roots in one cut). By AI agents, Wed Nov 11 2026. No macro, syntax, notation, axiom, sorry.
-/
import Derived.Test.YtclampodmlklpaaDoorChecked
import GoSem.Claim
import GoSem.ClaimJoined
import GoSem.ClaimMapViews
import Derived.JoinedTies
import Derived.KernelRfl
namespace Go.Proofs.YtclampodmlklpaaDoor
/- THE CELL 'sum', in the pinned program and in every row, IS THE sha256 OF THE DUMP (.gsa) THAT YtclampodmlklpaaDoorProg.lean LOADS. Nothing in Lean hashes anything: it is a label: what it is worth is what the hold of that sum in a sandbox is worth. -/
noncomputable def Tryd.pinned : Pinned := { name := "ytclampodmlklpaadoor", sum := "75aea2af329935dc59face1fab3178a7d44af3b9203f0675fa38eb591c394033", checked := Tryd.checked }
namespace Rows
def none {H : Type} : Left H := { results := [], args := [] }

/- WHAT THE LISTED PACKAGE-LEVEL VARIABLES READ AS WHEN THE CALL BEGINS. Each datum BY PROGRAM (the guide's laid-datum.mjs) off the statement by which the dump's own 'gosem.cut.vars' lays the variable. In a bare row this is a premise. The card (YtclampodmlklpaaDoorCards.lean) ties it to the program's text. -/
def laid_loop_example_strideviews_impl_fieldSizes {H : Type} : DataW H := .agg [.lit (.int .i64 1), .lit (.int .i64 2), .lit (.int .i64 4)]

/-- 'laws.FnValidFormat': WHATEVER THE INPUT: true; the input reads as it did. -/
def fnValidFormatSpec : ChangeSpec := { name := "fnValidFormat", vars := ["loop.example/strideviews/impl.fieldSizes"], fn := fun _ => fun
  | [d, g1] => { results := [.lit (.bool true)], args := [d], vars := [g1] }
  | _ => none }
def fnValidFormatRow : OpenClaim := { program := "ytclampodmlklpaadoor", sum := "75aea2af329935dc59face1fab3178a7d44af3b9203f0675fa38eb591c394033", func := "loop.example/strideviews/laws.FnValidFormat", spec := "fnValidFormat", named := ["loop.example/strideviews/impl.fieldSizes"], apart := false, laid := [("loop.example/strideviews/impl.fieldSizes", laid_loop_example_strideviews_impl_fieldSizes)] }
def FnValidFormatSaid : Prop := fnValidFormatRow.holds Tryd.pinned (OpenSpec.ofChange fnValidFormatSpec)

/-- ITS FALSE NEIGHBOUR: 'it returns false'. Refute it at one input. -/
def fnValidFormatWrong : ChangeSpec := { name := "fnValidFormat", vars := ["loop.example/strideviews/impl.fieldSizes"], fn := fun _ => fun
  | [d, g1] => { results := [.lit (.bool false)], args := [d], vars := [g1] }
  | _ => none }
def FnValidFormatWrongFalsely : Prop := fnValidFormatRow.holds Tryd.pinned (OpenSpec.ofChange fnValidFormatWrong)

/-- 'laws.FnPlacesOf': WHATEVER THE INPUT: true; the input reads as it did. -/
def fnPlacesOfSpec : ChangeSpec := { name := "fnPlacesOf", vars := ["loop.example/strideviews/impl.fieldSizes"], fn := fun _ => fun
  | [d, g1] => { results := [.lit (.bool true)], args := [d], vars := [g1] }
  | _ => none }
def fnPlacesOfRow : OpenClaim := { program := "ytclampodmlklpaadoor", sum := "75aea2af329935dc59face1fab3178a7d44af3b9203f0675fa38eb591c394033", func := "loop.example/strideviews/laws.FnPlacesOf", spec := "fnPlacesOf", named := ["loop.example/strideviews/impl.fieldSizes"], apart := false, laid := [("loop.example/strideviews/impl.fieldSizes", laid_loop_example_strideviews_impl_fieldSizes)] }
def FnPlacesOfSaid : Prop := fnPlacesOfRow.holds Tryd.pinned (OpenSpec.ofChange fnPlacesOfSpec)

/-- ITS FALSE NEIGHBOUR: 'it returns false'. Refute it at one input. -/
def fnPlacesOfWrong : ChangeSpec := { name := "fnPlacesOf", vars := ["loop.example/strideviews/impl.fieldSizes"], fn := fun _ => fun
  | [d, g1] => { results := [.lit (.bool false)], args := [d], vars := [g1] }
  | _ => none }
def FnPlacesOfWrongFalsely : Prop := fnPlacesOfRow.holds Tryd.pinned (OpenSpec.ofChange fnPlacesOfWrong)

/-- 'laws.FnItemSize': WHATEVER THE INPUT: true; the input reads as it did. -/
def fnItemSizeSpec : ChangeSpec := { name := "fnItemSize", vars := ["loop.example/strideviews/impl.fieldSizes"], fn := fun _ => fun
  | [d, g1] => { results := [.lit (.bool true)], args := [d], vars := [g1] }
  | _ => none }
def fnItemSizeRow : OpenClaim := { program := "ytclampodmlklpaadoor", sum := "75aea2af329935dc59face1fab3178a7d44af3b9203f0675fa38eb591c394033", func := "loop.example/strideviews/laws.FnItemSize", spec := "fnItemSize", named := ["loop.example/strideviews/impl.fieldSizes"], apart := false, laid := [("loop.example/strideviews/impl.fieldSizes", laid_loop_example_strideviews_impl_fieldSizes)] }
def FnItemSizeSaid : Prop := fnItemSizeRow.holds Tryd.pinned (OpenSpec.ofChange fnItemSizeSpec)

/-- ITS FALSE NEIGHBOUR: 'it returns false'. Refute it at one input. -/
def fnItemSizeWrong : ChangeSpec := { name := "fnItemSize", vars := ["loop.example/strideviews/impl.fieldSizes"], fn := fun _ => fun
  | [d, g1] => { results := [.lit (.bool false)], args := [d], vars := [g1] }
  | _ => none }
def FnItemSizeWrongFalsely : Prop := fnItemSizeRow.holds Tryd.pinned (OpenSpec.ofChange fnItemSizeWrong)

/-- 'laws.FnPaddingOf': WHATEVER THE INPUT: true; the input reads as it did. -/
def fnPaddingOfSpec : ChangeSpec := { name := "fnPaddingOf", vars := ["loop.example/strideviews/impl.fieldSizes"], fn := fun _ => fun
  | [d, g1] => { results := [.lit (.bool true)], args := [d], vars := [g1] }
  | _ => none }
def fnPaddingOfRow : OpenClaim := { program := "ytclampodmlklpaadoor", sum := "75aea2af329935dc59face1fab3178a7d44af3b9203f0675fa38eb591c394033", func := "loop.example/strideviews/laws.FnPaddingOf", spec := "fnPaddingOf", named := ["loop.example/strideviews/impl.fieldSizes"], apart := false, laid := [("loop.example/strideviews/impl.fieldSizes", laid_loop_example_strideviews_impl_fieldSizes)] }
def FnPaddingOfSaid : Prop := fnPaddingOfRow.holds Tryd.pinned (OpenSpec.ofChange fnPaddingOfSpec)

/-- ITS FALSE NEIGHBOUR: 'it returns false'. Refute it at one input. -/
def fnPaddingOfWrong : ChangeSpec := { name := "fnPaddingOf", vars := ["loop.example/strideviews/impl.fieldSizes"], fn := fun _ => fun
  | [d, g1] => { results := [.lit (.bool false)], args := [d], vars := [g1] }
  | _ => none }
def FnPaddingOfWrongFalsely : Prop := fnPaddingOfRow.holds Tryd.pinned (OpenSpec.ofChange fnPaddingOfWrong)

/-- 'laws.FnPackItem': WHATEVER THE INPUT: true; the input reads as it did. -/
def fnPackItemSpec : ChangeSpec := { name := "fnPackItem", vars := ["loop.example/strideviews/impl.fieldSizes"], fn := fun _ => fun
  | [d, g1] => { results := [.lit (.bool true)], args := [d], vars := [g1] }
  | _ => none }
def fnPackItemRow : OpenClaim := { program := "ytclampodmlklpaadoor", sum := "75aea2af329935dc59face1fab3178a7d44af3b9203f0675fa38eb591c394033", func := "loop.example/strideviews/laws.FnPackItem", spec := "fnPackItem", unfollowed := true, recurses := true, named := ["loop.example/strideviews/impl.fieldSizes"], apart := false, laid := [("loop.example/strideviews/impl.fieldSizes", laid_loop_example_strideviews_impl_fieldSizes)] }
def FnPackItemSaid : Prop := fnPackItemRow.holds Tryd.pinned (OpenSpec.ofChange fnPackItemSpec)

/-- ITS FALSE NEIGHBOUR: 'it returns false'. Refute it at one input. -/
def fnPackItemWrong : ChangeSpec := { name := "fnPackItem", vars := ["loop.example/strideviews/impl.fieldSizes"], fn := fun _ => fun
  | [d, g1] => { results := [.lit (.bool false)], args := [d], vars := [g1] }
  | _ => none }
def FnPackItemWrongFalsely : Prop := fnPackItemRow.holds Tryd.pinned (OpenSpec.ofChange fnPackItemWrong)

/-- 'laws.FnUnpackItem': WHATEVER THE INPUT: true; the input reads as it did. -/
def fnUnpackItemSpec : ChangeSpec := { name := "fnUnpackItem", vars := ["loop.example/strideviews/impl.fieldSizes"], fn := fun _ => fun
  | [d, g1] => { results := [.lit (.bool true)], args := [d], vars := [g1] }
  | _ => none }
def fnUnpackItemRow : OpenClaim := { program := "ytclampodmlklpaadoor", sum := "75aea2af329935dc59face1fab3178a7d44af3b9203f0675fa38eb591c394033", func := "loop.example/strideviews/laws.FnUnpackItem", spec := "fnUnpackItem", unfollowed := true, recurses := true, named := ["loop.example/strideviews/impl.fieldSizes"], apart := false, laid := [("loop.example/strideviews/impl.fieldSizes", laid_loop_example_strideviews_impl_fieldSizes)] }
def FnUnpackItemSaid : Prop := fnUnpackItemRow.holds Tryd.pinned (OpenSpec.ofChange fnUnpackItemSpec)

/-- ITS FALSE NEIGHBOUR: 'it returns false'. Refute it at one input. -/
def fnUnpackItemWrong : ChangeSpec := { name := "fnUnpackItem", vars := ["loop.example/strideviews/impl.fieldSizes"], fn := fun _ => fun
  | [d, g1] => { results := [.lit (.bool false)], args := [d], vars := [g1] }
  | _ => none }
def FnUnpackItemWrongFalsely : Prop := fnUnpackItemRow.holds Tryd.pinned (OpenSpec.ofChange fnUnpackItemWrong)

/-- 'laws.FnPackAll': WHATEVER THE INPUT: true; the input reads as it did. -/
def fnPackAllSpec : ChangeSpec := { name := "fnPackAll", vars := ["loop.example/strideviews/impl.fieldSizes"], fn := fun _ => fun
  | [d, g1] => { results := [.lit (.bool true)], args := [d], vars := [g1] }
  | _ => none }
def fnPackAllRow : OpenClaim := { program := "ytclampodmlklpaadoor", sum := "75aea2af329935dc59face1fab3178a7d44af3b9203f0675fa38eb591c394033", func := "loop.example/strideviews/laws.FnPackAll", spec := "fnPackAll", unfollowed := true, recurses := true, named := ["loop.example/strideviews/impl.fieldSizes"], apart := false, laid := [("loop.example/strideviews/impl.fieldSizes", laid_loop_example_strideviews_impl_fieldSizes)] }
def FnPackAllSaid : Prop := fnPackAllRow.holds Tryd.pinned (OpenSpec.ofChange fnPackAllSpec)

/-- ITS FALSE NEIGHBOUR: 'it returns false'. Refute it at one input. -/
def fnPackAllWrong : ChangeSpec := { name := "fnPackAll", vars := ["loop.example/strideviews/impl.fieldSizes"], fn := fun _ => fun
  | [d, g1] => { results := [.lit (.bool false)], args := [d], vars := [g1] }
  | _ => none }
def FnPackAllWrongFalsely : Prop := fnPackAllRow.holds Tryd.pinned (OpenSpec.ofChange fnPackAllWrong)

/-- 'laws.FnUnpackAll': WHATEVER THE INPUT: true; the input reads as it did. -/
def fnUnpackAllSpec : ChangeSpec := { name := "fnUnpackAll", vars := ["loop.example/strideviews/impl.fieldSizes"], fn := fun _ => fun
  | [d, g1] => { results := [.lit (.bool true)], args := [d], vars := [g1] }
  | _ => none }
def fnUnpackAllRow : OpenClaim := { program := "ytclampodmlklpaadoor", sum := "75aea2af329935dc59face1fab3178a7d44af3b9203f0675fa38eb591c394033", func := "loop.example/strideviews/laws.FnUnpackAll", spec := "fnUnpackAll", unfollowed := true, recurses := true, named := ["loop.example/strideviews/impl.fieldSizes"], apart := false, laid := [("loop.example/strideviews/impl.fieldSizes", laid_loop_example_strideviews_impl_fieldSizes)] }
def FnUnpackAllSaid : Prop := fnUnpackAllRow.holds Tryd.pinned (OpenSpec.ofChange fnUnpackAllSpec)

/-- ITS FALSE NEIGHBOUR: 'it returns false'. Refute it at one input. -/
def fnUnpackAllWrong : ChangeSpec := { name := "fnUnpackAll", vars := ["loop.example/strideviews/impl.fieldSizes"], fn := fun _ => fun
  | [d, g1] => { results := [.lit (.bool false)], args := [d], vars := [g1] }
  | _ => none }
def FnUnpackAllWrongFalsely : Prop := fnUnpackAllRow.holds Tryd.pinned (OpenSpec.ofChange fnUnpackAllWrong)

/-- 'laws.FnFieldView': WHATEVER THE INPUT: true; the input reads as it did. -/
def fnFieldViewSpec : ChangeSpec := { name := "fnFieldView", vars := ["loop.example/strideviews/impl.fieldSizes"], fn := fun _ => fun
  | [d, g1] => { results := [.lit (.bool true)], args := [d], vars := [g1] }
  | _ => none }
def fnFieldViewRow : OpenClaim := { program := "ytclampodmlklpaadoor", sum := "75aea2af329935dc59face1fab3178a7d44af3b9203f0675fa38eb591c394033", func := "loop.example/strideviews/laws.FnFieldView", spec := "fnFieldView", unfollowed := true, recurses := true, named := ["loop.example/strideviews/impl.fieldSizes"], apart := false, laid := [("loop.example/strideviews/impl.fieldSizes", laid_loop_example_strideviews_impl_fieldSizes)] }
def FnFieldViewSaid : Prop := fnFieldViewRow.holds Tryd.pinned (OpenSpec.ofChange fnFieldViewSpec)

/-- ITS FALSE NEIGHBOUR: 'it returns false'. Refute it at one input. -/
def fnFieldViewWrong : ChangeSpec := { name := "fnFieldView", vars := ["loop.example/strideviews/impl.fieldSizes"], fn := fun _ => fun
  | [d, g1] => { results := [.lit (.bool false)], args := [d], vars := [g1] }
  | _ => none }
def FnFieldViewWrongFalsely : Prop := fnFieldViewRow.holds Tryd.pinned (OpenSpec.ofChange fnFieldViewWrong)

/-- 'laws.FnSwapBytes': WHATEVER THE INPUT: true; the input reads as it did. -/
def fnSwapBytesSpec : ChangeSpec := { name := "fnSwapBytes", vars := ["loop.example/strideviews/impl.fieldSizes"], fn := fun _ => fun
  | [d, g1] => { results := [.lit (.bool true)], args := [d], vars := [g1] }
  | _ => none }
def fnSwapBytesRow : OpenClaim := { program := "ytclampodmlklpaadoor", sum := "75aea2af329935dc59face1fab3178a7d44af3b9203f0675fa38eb591c394033", func := "loop.example/strideviews/laws.FnSwapBytes", spec := "fnSwapBytes", unfollowed := true, recurses := true, named := ["loop.example/strideviews/impl.fieldSizes"], apart := false, laid := [("loop.example/strideviews/impl.fieldSizes", laid_loop_example_strideviews_impl_fieldSizes)] }
def FnSwapBytesSaid : Prop := fnSwapBytesRow.holds Tryd.pinned (OpenSpec.ofChange fnSwapBytesSpec)

/-- ITS FALSE NEIGHBOUR: 'it returns false'. Refute it at one input. -/
def fnSwapBytesWrong : ChangeSpec := { name := "fnSwapBytes", vars := ["loop.example/strideviews/impl.fieldSizes"], fn := fun _ => fun
  | [d, g1] => { results := [.lit (.bool false)], args := [d], vars := [g1] }
  | _ => none }
def FnSwapBytesWrongFalsely : Prop := fnSwapBytesRow.holds Tryd.pinned (OpenSpec.ofChange fnSwapBytesWrong)

/- THE SECOND FORM. 'bulk': how many values and letters a reading holds, each counted each time it is reached (what is shared counts as often as it is met; a slice's spare places count too). A statement '..UptoSaid' is the law's where the arguments, and the package variables that the reading takes, are together of bulk at most 1048576: NARROWER than '..Said'. Prove '..Said' where nothing that the law and all that it calls make is longer than what came in: it says more and counts as full. Else prove '..UptoSaid'. A law counts once. -/
mutual
def uptoBulk {H : Type} : DataW H → Nat
  | .lit (.string bytes) => bytes.length + 1
  | .lit _ => 1
  | .nil => 1
  | .ptr d => uptoBulk d + 1
  | .slice elems spare => uptoBulkAll elems + uptoBulkAll spare + 1
  | .agg parts => uptoBulkAll parts + 1
  | .iface _ d => uptoBulk d + 1
  | .map entries => uptoBulkEntries entries + 1
  | .held _ => 1
def uptoBulkAll {H : Type} : List (DataW H) → Nat
  | [] => 0
  | d :: r => uptoBulk d + uptoBulkAll r
def uptoBulkEntries {H : Type} : List (Lit × DataW H) → Nat
  | [] => 0
  | x :: r => uptoBulkEntry x + uptoBulkEntries r
def uptoBulkEntry {H : Type} : Lit × DataW H → Nat
  | (.string bytes, d) => bytes.length + uptoBulk d + 1
  | (_, d) => uptoBulk d + 1
 end
def uptoSmall : (H : Type) → List (DataW H) → Bool := fun _ ds => decide (uptoBulkAll ds ≤ 1048576)
def OpenSpec.upto (s : _root_.Go.ChangeSpec) : _root_.Go.OpenSpec := { _root_.Go.OpenSpec.ofChange s with cond := some uptoSmall }

/-- 'laws.FnValidFormat', WHERE WHAT IT READS IS OF BULK AT MOST 1048576: true; the input reads as it did. -/
def fnValidFormatUptoRow : OpenClaim := { program := "ytclampodmlklpaadoor", sum := "75aea2af329935dc59face1fab3178a7d44af3b9203f0675fa38eb591c394033", func := "loop.example/strideviews/laws.FnValidFormat", spec := "fnValidFormat", named := ["loop.example/strideviews/impl.fieldSizes"], apart := false, laid := [("loop.example/strideviews/impl.fieldSizes", laid_loop_example_strideviews_impl_fieldSizes)], narrowed := true }
def FnValidFormatUptoSaid : Prop := fnValidFormatUptoRow.holds Tryd.pinned (OpenSpec.upto fnValidFormatSpec)

/-- 'laws.FnPlacesOf', WHERE WHAT IT READS IS OF BULK AT MOST 1048576: true; the input reads as it did. -/
def fnPlacesOfUptoRow : OpenClaim := { program := "ytclampodmlklpaadoor", sum := "75aea2af329935dc59face1fab3178a7d44af3b9203f0675fa38eb591c394033", func := "loop.example/strideviews/laws.FnPlacesOf", spec := "fnPlacesOf", named := ["loop.example/strideviews/impl.fieldSizes"], apart := false, laid := [("loop.example/strideviews/impl.fieldSizes", laid_loop_example_strideviews_impl_fieldSizes)], narrowed := true }
def FnPlacesOfUptoSaid : Prop := fnPlacesOfUptoRow.holds Tryd.pinned (OpenSpec.upto fnPlacesOfSpec)

/-- 'laws.FnItemSize', WHERE WHAT IT READS IS OF BULK AT MOST 1048576: true; the input reads as it did. -/
def fnItemSizeUptoRow : OpenClaim := { program := "ytclampodmlklpaadoor", sum := "75aea2af329935dc59face1fab3178a7d44af3b9203f0675fa38eb591c394033", func := "loop.example/strideviews/laws.FnItemSize", spec := "fnItemSize", named := ["loop.example/strideviews/impl.fieldSizes"], apart := false, laid := [("loop.example/strideviews/impl.fieldSizes", laid_loop_example_strideviews_impl_fieldSizes)], narrowed := true }
def FnItemSizeUptoSaid : Prop := fnItemSizeUptoRow.holds Tryd.pinned (OpenSpec.upto fnItemSizeSpec)

/-- 'laws.FnPaddingOf', WHERE WHAT IT READS IS OF BULK AT MOST 1048576: true; the input reads as it did. -/
def fnPaddingOfUptoRow : OpenClaim := { program := "ytclampodmlklpaadoor", sum := "75aea2af329935dc59face1fab3178a7d44af3b9203f0675fa38eb591c394033", func := "loop.example/strideviews/laws.FnPaddingOf", spec := "fnPaddingOf", named := ["loop.example/strideviews/impl.fieldSizes"], apart := false, laid := [("loop.example/strideviews/impl.fieldSizes", laid_loop_example_strideviews_impl_fieldSizes)], narrowed := true }
def FnPaddingOfUptoSaid : Prop := fnPaddingOfUptoRow.holds Tryd.pinned (OpenSpec.upto fnPaddingOfSpec)

/-- 'laws.FnPackItem', WHERE WHAT IT READS IS OF BULK AT MOST 1048576: true; the input reads as it did. -/
def fnPackItemUptoRow : OpenClaim := { program := "ytclampodmlklpaadoor", sum := "75aea2af329935dc59face1fab3178a7d44af3b9203f0675fa38eb591c394033", func := "loop.example/strideviews/laws.FnPackItem", spec := "fnPackItem", unfollowed := true, recurses := true, named := ["loop.example/strideviews/impl.fieldSizes"], apart := false, laid := [("loop.example/strideviews/impl.fieldSizes", laid_loop_example_strideviews_impl_fieldSizes)], narrowed := true }
def FnPackItemUptoSaid : Prop := fnPackItemUptoRow.holds Tryd.pinned (OpenSpec.upto fnPackItemSpec)

/-- 'laws.FnUnpackItem', WHERE WHAT IT READS IS OF BULK AT MOST 1048576: true; the input reads as it did. -/
def fnUnpackItemUptoRow : OpenClaim := { program := "ytclampodmlklpaadoor", sum := "75aea2af329935dc59face1fab3178a7d44af3b9203f0675fa38eb591c394033", func := "loop.example/strideviews/laws.FnUnpackItem", spec := "fnUnpackItem", unfollowed := true, recurses := true, named := ["loop.example/strideviews/impl.fieldSizes"], apart := false, laid := [("loop.example/strideviews/impl.fieldSizes", laid_loop_example_strideviews_impl_fieldSizes)], narrowed := true }
def FnUnpackItemUptoSaid : Prop := fnUnpackItemUptoRow.holds Tryd.pinned (OpenSpec.upto fnUnpackItemSpec)

/-- 'laws.FnPackAll', WHERE WHAT IT READS IS OF BULK AT MOST 1048576: true; the input reads as it did. -/
def fnPackAllUptoRow : OpenClaim := { program := "ytclampodmlklpaadoor", sum := "75aea2af329935dc59face1fab3178a7d44af3b9203f0675fa38eb591c394033", func := "loop.example/strideviews/laws.FnPackAll", spec := "fnPackAll", unfollowed := true, recurses := true, named := ["loop.example/strideviews/impl.fieldSizes"], apart := false, laid := [("loop.example/strideviews/impl.fieldSizes", laid_loop_example_strideviews_impl_fieldSizes)], narrowed := true }
def FnPackAllUptoSaid : Prop := fnPackAllUptoRow.holds Tryd.pinned (OpenSpec.upto fnPackAllSpec)

/-- 'laws.FnUnpackAll', WHERE WHAT IT READS IS OF BULK AT MOST 1048576: true; the input reads as it did. -/
def fnUnpackAllUptoRow : OpenClaim := { program := "ytclampodmlklpaadoor", sum := "75aea2af329935dc59face1fab3178a7d44af3b9203f0675fa38eb591c394033", func := "loop.example/strideviews/laws.FnUnpackAll", spec := "fnUnpackAll", unfollowed := true, recurses := true, named := ["loop.example/strideviews/impl.fieldSizes"], apart := false, laid := [("loop.example/strideviews/impl.fieldSizes", laid_loop_example_strideviews_impl_fieldSizes)], narrowed := true }
def FnUnpackAllUptoSaid : Prop := fnUnpackAllUptoRow.holds Tryd.pinned (OpenSpec.upto fnUnpackAllSpec)

/-- 'laws.FnFieldView', WHERE WHAT IT READS IS OF BULK AT MOST 1048576: true; the input reads as it did. -/
def fnFieldViewUptoRow : OpenClaim := { program := "ytclampodmlklpaadoor", sum := "75aea2af329935dc59face1fab3178a7d44af3b9203f0675fa38eb591c394033", func := "loop.example/strideviews/laws.FnFieldView", spec := "fnFieldView", unfollowed := true, recurses := true, named := ["loop.example/strideviews/impl.fieldSizes"], apart := false, laid := [("loop.example/strideviews/impl.fieldSizes", laid_loop_example_strideviews_impl_fieldSizes)], narrowed := true }
def FnFieldViewUptoSaid : Prop := fnFieldViewUptoRow.holds Tryd.pinned (OpenSpec.upto fnFieldViewSpec)

/-- 'laws.FnSwapBytes', WHERE WHAT IT READS IS OF BULK AT MOST 1048576: true; the input reads as it did. -/
def fnSwapBytesUptoRow : OpenClaim := { program := "ytclampodmlklpaadoor", sum := "75aea2af329935dc59face1fab3178a7d44af3b9203f0675fa38eb591c394033", func := "loop.example/strideviews/laws.FnSwapBytes", spec := "fnSwapBytes", unfollowed := true, recurses := true, named := ["loop.example/strideviews/impl.fieldSizes"], apart := false, laid := [("loop.example/strideviews/impl.fieldSizes", laid_loop_example_strideviews_impl_fieldSizes)], narrowed := true }
def FnSwapBytesUptoSaid : Prop := fnSwapBytesUptoRow.holds Tryd.pinned (OpenSpec.upto fnSwapBytesSpec)

end Rows
end Go.Proofs.YtclampodmlklpaaDoor
