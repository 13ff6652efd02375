/-
  No cell of these rows narrows 'for every input' (looked for: loops, veiled, ifaces, maps, wideKeys, modest, calm, conditions, laid).
  DERIVED. THE GIVEN ROWS OF THIS SEAT. 4 by the template 'for every input the law returns true; each argument reads behind the call as it read before'; 0 by the template 'total and deterministic' (their statements: YtonhjbojpcgadaaTotals.lean).
  GIVEN WITH THE SEED: the statements are not yours to turn. If you find one false, say at which input.
  Laid BY PROGRAM, IN A SANDBOX (cutbox-rows.mjs): the forced cells as the released guide's own fill.sh prints them over the translation cd367af664e0ec5f… (all of the seat's roots in one cut). By AI agents, Wed Nov 11 2026. No macro, syntax, notation, axiom, sorry.
-/
import Derived.Test.YtonhjbojpcgadaaChecked
import GoSem.Claim
import GoSem.ClaimJoined
import GoSem.ClaimMapViews
import Derived.JoinedTies
import Derived.KernelRfl
namespace Go.Proofs.Ytonhjbojpcgadaa
/- THE CELL 'sum', in the pinned program and in every row, IS THE sha256 OF THE DUMP (.gsa) THAT YtonhjbojpcgadaaProg.lean LOADS. Nothing in Lean hashes anything: it is a label: what it is worth is what the hold of that sum in a sandbox is worth. -/
noncomputable def Try.pinned : Pinned := { name := "ytonhjbojpcgadaa", sum := "cd367af664e0ec5fea205b00b2a4fdb40330e93862f3f0e8e28fc15596cf1475", checked := Try.checked }
namespace Rows
def none {H : Type} : Left H := { results := [], args := [] }

/-- 'laws.FnSliceDimTwice': WHATEVER THE INPUT: true; the input reads as it did. -/
def fnSliceDimTwiceSpec : ChangeSpec := { name := "fnSliceDimTwice", fn := fun _ => fun
  | [d] => { results := [.lit (.bool true)], args := [d] }
  | _ => none }
def fnSliceDimTwiceRow : OpenClaim := { program := "ytonhjbojpcgadaa", sum := "cd367af664e0ec5fea205b00b2a4fdb40330e93862f3f0e8e28fc15596cf1475", func := "loop.example/strideviews/laws.FnSliceDimTwice", spec := "fnSliceDimTwice", apart := false }
def FnSliceDimTwiceSaid : Prop := fnSliceDimTwiceRow.holds Try.pinned (OpenSpec.ofChange fnSliceDimTwiceSpec)

/-- ITS FALSE NEIGHBOUR: 'it returns false'. Refute it at one input. -/
def fnSliceDimTwiceWrong : ChangeSpec := { name := "fnSliceDimTwice", fn := fun _ => fun
  | [d] => { results := [.lit (.bool false)], args := [d] }
  | _ => none }
def FnSliceDimTwiceWrongFalsely : Prop := fnSliceDimTwiceRow.holds Try.pinned (OpenSpec.ofChange fnSliceDimTwiceWrong)

/-- 'laws.FnPermuteDims': WHATEVER THE INPUT: true; the input reads as it did. -/
def fnPermuteDimsSpec : ChangeSpec := { name := "fnPermuteDims", fn := fun _ => fun
  | [d] => { results := [.lit (.bool true)], args := [d] }
  | _ => none }
def fnPermuteDimsRow : OpenClaim := { program := "ytonhjbojpcgadaa", sum := "cd367af664e0ec5fea205b00b2a4fdb40330e93862f3f0e8e28fc15596cf1475", func := "loop.example/strideviews/laws.FnPermuteDims", spec := "fnPermuteDims", apart := false }
def FnPermuteDimsSaid : Prop := fnPermuteDimsRow.holds Try.pinned (OpenSpec.ofChange fnPermuteDimsSpec)

/-- ITS FALSE NEIGHBOUR: 'it returns false'. Refute it at one input. -/
def fnPermuteDimsWrong : ChangeSpec := { name := "fnPermuteDims", fn := fun _ => fun
  | [d] => { results := [.lit (.bool false)], args := [d] }
  | _ => none }
def FnPermuteDimsWrongFalsely : Prop := fnPermuteDimsRow.holds Try.pinned (OpenSpec.ofChange fnPermuteDimsWrong)

/-- 'laws.FnReshape': WHATEVER THE INPUT: true; the input reads as it did. -/
def fnReshapeSpec : ChangeSpec := { name := "fnReshape", fn := fun _ => fun
  | [d] => { results := [.lit (.bool true)], args := [d] }
  | _ => none }
def fnReshapeRow : OpenClaim := { program := "ytonhjbojpcgadaa", sum := "cd367af664e0ec5fea205b00b2a4fdb40330e93862f3f0e8e28fc15596cf1475", func := "loop.example/strideviews/laws.FnReshape", spec := "fnReshape", apart := false }
def FnReshapeSaid : Prop := fnReshapeRow.holds Try.pinned (OpenSpec.ofChange fnReshapeSpec)

/-- ITS FALSE NEIGHBOUR: 'it returns false'. Refute it at one input. -/
def fnReshapeWrong : ChangeSpec := { name := "fnReshape", fn := fun _ => fun
  | [d] => { results := [.lit (.bool false)], args := [d] }
  | _ => none }
def FnReshapeWrongFalsely : Prop := fnReshapeRow.holds Try.pinned (OpenSpec.ofChange fnReshapeWrong)

/-- 'laws.FnReshapeRow': WHATEVER THE INPUT: true; the input reads as it did. -/
def fnReshapeRowSpec : ChangeSpec := { name := "fnReshapeRow", fn := fun _ => fun
  | [d] => { results := [.lit (.bool true)], args := [d] }
  | _ => none }
def fnReshapeRowRow : OpenClaim := { program := "ytonhjbojpcgadaa", sum := "cd367af664e0ec5fea205b00b2a4fdb40330e93862f3f0e8e28fc15596cf1475", func := "loop.example/strideviews/laws.FnReshapeRow", spec := "fnReshapeRow", apart := false }
def FnReshapeRowSaid : Prop := fnReshapeRowRow.holds Try.pinned (OpenSpec.ofChange fnReshapeRowSpec)

/-- ITS FALSE NEIGHBOUR: 'it returns false'. Refute it at one input. -/
def fnReshapeRowWrong : ChangeSpec := { name := "fnReshapeRow", fn := fun _ => fun
  | [d] => { results := [.lit (.bool false)], args := [d] }
  | _ => none }
def FnReshapeRowWrongFalsely : Prop := fnReshapeRowRow.holds Try.pinned (OpenSpec.ofChange fnReshapeRowWrong)

/- THE SECOND FORM. 'bulk': how many values and letters a reading holds, each counted each time it is reached (what is shared counts as often as it is met; a slice's spare places count too). A statement '..UptoSaid' is the law's where the arguments, and the package variables that the reading takes, are together of bulk at most 1048576: NARROWER than '..Said'. Prove '..Said' where nothing that the law and all that it calls make is longer than what came in: it says more and counts as full. Else prove '..UptoSaid'. A law counts once. -/
mutual
def uptoBulk {H : Type} : DataW H → Nat
  | .lit (.string bytes) => bytes.length + 1
  | .lit _ => 1
  | .nil => 1
  | .ptr d => uptoBulk d + 1
  | .slice elems spare => uptoBulkAll elems + uptoBulkAll spare + 1
  | .agg parts => uptoBulkAll parts + 1
  | .iface _ d => uptoBulk d + 1
  | .map entries => uptoBulkEntries entries + 1
  | .held _ => 1
def uptoBulkAll {H : Type} : List (DataW H) → Nat
  | [] => 0
  | d :: r => uptoBulk d + uptoBulkAll r
def uptoBulkEntries {H : Type} : List (Lit × DataW H) → Nat
  | [] => 0
  | x :: r => uptoBulkEntry x + uptoBulkEntries r
def uptoBulkEntry {H : Type} : Lit × DataW H → Nat
  | (.string bytes, d) => bytes.length + uptoBulk d + 1
  | (_, d) => uptoBulk d + 1
 end
def uptoSmall : (H : Type) → List (DataW H) → Bool := fun _ ds => decide (uptoBulkAll ds ≤ 1048576)
def OpenSpec.upto (s : _root_.Go.ChangeSpec) : _root_.Go.OpenSpec := { _root_.Go.OpenSpec.ofChange s with cond := some uptoSmall }

/-- 'laws.FnSliceDimTwice', WHERE WHAT IT READS IS OF BULK AT MOST 1048576: true; the input reads as it did. -/
def fnSliceDimTwiceUptoRow : OpenClaim := { program := "ytonhjbojpcgadaa", sum := "cd367af664e0ec5fea205b00b2a4fdb40330e93862f3f0e8e28fc15596cf1475", func := "loop.example/strideviews/laws.FnSliceDimTwice", spec := "fnSliceDimTwice", apart := false, narrowed := true }
def FnSliceDimTwiceUptoSaid : Prop := fnSliceDimTwiceUptoRow.holds Try.pinned (OpenSpec.upto fnSliceDimTwiceSpec)

/-- 'laws.FnPermuteDims', WHERE WHAT IT READS IS OF BULK AT MOST 1048576: true; the input reads as it did. -/
def fnPermuteDimsUptoRow : OpenClaim := { program := "ytonhjbojpcgadaa", sum := "cd367af664e0ec5fea205b00b2a4fdb40330e93862f3f0e8e28fc15596cf1475", func := "loop.example/strideviews/laws.FnPermuteDims", spec := "fnPermuteDims", apart := false, narrowed := true }
def FnPermuteDimsUptoSaid : Prop := fnPermuteDimsUptoRow.holds Try.pinned (OpenSpec.upto fnPermuteDimsSpec)

/-- 'laws.FnReshape', WHERE WHAT IT READS IS OF BULK AT MOST 1048576: true; the input reads as it did. -/
def fnReshapeUptoRow : OpenClaim := { program := "ytonhjbojpcgadaa", sum := "cd367af664e0ec5fea205b00b2a4fdb40330e93862f3f0e8e28fc15596cf1475", func := "loop.example/strideviews/laws.FnReshape", spec := "fnReshape", apart := false, narrowed := true }
def FnReshapeUptoSaid : Prop := fnReshapeUptoRow.holds Try.pinned (OpenSpec.upto fnReshapeSpec)

/-- 'laws.FnReshapeRow', WHERE WHAT IT READS IS OF BULK AT MOST 1048576: true; the input reads as it did. -/
def fnReshapeRowUptoRow : OpenClaim := { program := "ytonhjbojpcgadaa", sum := "cd367af664e0ec5fea205b00b2a4fdb40330e93862f3f0e8e28fc15596cf1475", func := "loop.example/strideviews/laws.FnReshapeRow", spec := "fnReshapeRow", apart := false, narrowed := true }
def FnReshapeRowUptoSaid : Prop := fnReshapeRowUptoRow.holds Try.pinned (OpenSpec.upto fnReshapeRowSpec)

end Rows
end Go.Proofs.Ytonhjbojpcgadaa
