/-
  No cell of these rows narrows 'for every input' (looked for: loops, veiled, ifaces, maps, wideKeys, modest, calm, conditions, laid).
  DERIVED. THE GIVEN ROWS OF THIS SEAT. 4 by the template 'for every input the law returns true; each argument reads behind the call as it read before'; 0 by the template 'total and deterministic' (their statements: YtfphjgmkpgoomaaTotals.lean).
  GIVEN WITH THE SEED: the statements are not yours to turn. If you find one false, say at which input.
  Laid BY PROGRAM, IN A SANDBOX (cutbox-rows.mjs): the forced cells as the released guide's own fill.sh prints them over the translation 4f0a2b82f6e15237… (all of the seat's roots in one cut). By AI agents, Wed Nov 11 2026. No macro, syntax, notation, axiom, sorry.
-/
import Derived.Test.YtfphjgmkpgoomaaChecked
import GoSem.Claim
import GoSem.ClaimJoined
import GoSem.ClaimMapViews
import Derived.JoinedTies
import Derived.KernelRfl
namespace Go.Proofs.Ytfphjgmkpgoomaa
/- THE CELL 'sum', in the pinned program and in every row, IS THE sha256 OF THE DUMP (.gsa) THAT YtfphjgmkpgoomaaProg.lean LOADS. Nothing in Lean hashes anything: it is a label: what it is worth is what the hold of that sum in a sandbox is worth. -/
noncomputable def Try.pinned : Pinned := { name := "ytfphjgmkpgoomaa", sum := "4f0a2b82f6e15237be7e55c7e96fd9fba30c4b7ace924f4c7d50f7fa6f3c4c80", checked := Try.checked }
namespace Rows
def none {H : Type} : Left H := { results := [], args := [] }

/-- 'laws.FnFlipDim': WHATEVER THE INPUT: true; the input reads as it did. -/
def fnFlipDimSpec : ChangeSpec := { name := "fnFlipDim", fn := fun _ => fun
  | [d] => { results := [.lit (.bool true)], args := [d] }
  | _ => none }
def fnFlipDimRow : OpenClaim := { program := "ytfphjgmkpgoomaa", sum := "4f0a2b82f6e15237be7e55c7e96fd9fba30c4b7ace924f4c7d50f7fa6f3c4c80", func := "loop.example/strideviews/laws.FnFlipDim", spec := "fnFlipDim", recurses := true, apart := false }
def FnFlipDimSaid : Prop := fnFlipDimRow.holds Try.pinned (OpenSpec.ofChange fnFlipDimSpec)

/-- ITS FALSE NEIGHBOUR: 'it returns false'. Refute it at one input. -/
def fnFlipDimWrong : ChangeSpec := { name := "fnFlipDim", fn := fun _ => fun
  | [d] => { results := [.lit (.bool false)], args := [d] }
  | _ => none }
def FnFlipDimWrongFalsely : Prop := fnFlipDimRow.holds Try.pinned (OpenSpec.ofChange fnFlipDimWrong)

/-- 'laws.FnMayOverlap': WHATEVER THE INPUT: true; the input reads as it did. -/
def fnMayOverlapSpec : ChangeSpec := { name := "fnMayOverlap", fn := fun _ => fun
  | [d] => { results := [.lit (.bool true)], args := [d] }
  | _ => none }
def fnMayOverlapRow : OpenClaim := { program := "ytfphjgmkpgoomaa", sum := "4f0a2b82f6e15237be7e55c7e96fd9fba30c4b7ace924f4c7d50f7fa6f3c4c80", func := "loop.example/strideviews/laws.FnMayOverlap", spec := "fnMayOverlap", unfollowed := true, recurses := true, apart := false }
def FnMayOverlapSaid : Prop := fnMayOverlapRow.holds Try.pinned (OpenSpec.ofChange fnMayOverlapSpec)

/-- ITS FALSE NEIGHBOUR: 'it returns false'. Refute it at one input. -/
def fnMayOverlapWrong : ChangeSpec := { name := "fnMayOverlap", fn := fun _ => fun
  | [d] => { results := [.lit (.bool false)], args := [d] }
  | _ => none }
def FnMayOverlapWrongFalsely : Prop := fnMayOverlapRow.holds Try.pinned (OpenSpec.ofChange fnMayOverlapWrong)

/-- 'laws.FnWayOf': WHATEVER THE INPUT: true; the input reads as it did. -/
def fnWayOfSpec : ChangeSpec := { name := "fnWayOf", fn := fun _ => fun
  | [d] => { results := [.lit (.bool true)], args := [d] }
  | _ => none }
def fnWayOfRow : OpenClaim := { program := "ytfphjgmkpgoomaa", sum := "4f0a2b82f6e15237be7e55c7e96fd9fba30c4b7ace924f4c7d50f7fa6f3c4c80", func := "loop.example/strideviews/laws.FnWayOf", spec := "fnWayOf", recurses := true, apart := false }
def FnWayOfSaid : Prop := fnWayOfRow.holds Try.pinned (OpenSpec.ofChange fnWayOfSpec)

/-- ITS FALSE NEIGHBOUR: 'it returns false'. Refute it at one input. -/
def fnWayOfWrong : ChangeSpec := { name := "fnWayOf", fn := fun _ => fun
  | [d] => { results := [.lit (.bool false)], args := [d] }
  | _ => none }
def FnWayOfWrongFalsely : Prop := fnWayOfRow.holds Try.pinned (OpenSpec.ofChange fnWayOfWrong)

/-- 'laws.FnWayOfLines': WHATEVER THE INPUT: true; the input reads as it did. -/
def fnWayOfLinesSpec : ChangeSpec := { name := "fnWayOfLines", fn := fun _ => fun
  | [d] => { results := [.lit (.bool true)], args := [d] }
  | _ => none }
def fnWayOfLinesRow : OpenClaim := { program := "ytfphjgmkpgoomaa", sum := "4f0a2b82f6e15237be7e55c7e96fd9fba30c4b7ace924f4c7d50f7fa6f3c4c80", func := "loop.example/strideviews/laws.FnWayOfLines", spec := "fnWayOfLines", recurses := true, apart := false }
def FnWayOfLinesSaid : Prop := fnWayOfLinesRow.holds Try.pinned (OpenSpec.ofChange fnWayOfLinesSpec)

/-- ITS FALSE NEIGHBOUR: 'it returns false'. Refute it at one input. -/
def fnWayOfLinesWrong : ChangeSpec := { name := "fnWayOfLines", fn := fun _ => fun
  | [d] => { results := [.lit (.bool false)], args := [d] }
  | _ => none }
def FnWayOfLinesWrongFalsely : Prop := fnWayOfLinesRow.holds Try.pinned (OpenSpec.ofChange fnWayOfLinesWrong)

/- THE SECOND FORM. 'bulk': how many values and letters a reading holds, each counted each time it is reached (what is shared counts as often as it is met; a slice's spare places count too). A statement '..UptoSaid' is the law's where the arguments, and the package variables that the reading takes, are together of bulk at most 1048576: NARROWER than '..Said'. Prove '..Said' where nothing that the law and all that it calls make is longer than what came in: it says more and counts as full. Else prove '..UptoSaid'. A law counts once. -/
mutual
def uptoBulk {H : Type} : DataW H → Nat
  | .lit (.string bytes) => bytes.length + 1
  | .lit _ => 1
  | .nil => 1
  | .ptr d => uptoBulk d + 1
  | .slice elems spare => uptoBulkAll elems + uptoBulkAll spare + 1
  | .agg parts => uptoBulkAll parts + 1
  | .iface _ d => uptoBulk d + 1
  | .map entries => uptoBulkEntries entries + 1
  | .held _ => 1
def uptoBulkAll {H : Type} : List (DataW H) → Nat
  | [] => 0
  | d :: r => uptoBulk d + uptoBulkAll r
def uptoBulkEntries {H : Type} : List (Lit × DataW H) → Nat
  | [] => 0
  | x :: r => uptoBulkEntry x + uptoBulkEntries r
def uptoBulkEntry {H : Type} : Lit × DataW H → Nat
  | (.string bytes, d) => bytes.length + uptoBulk d + 1
  | (_, d) => uptoBulk d + 1
 end
def uptoSmall : (H : Type) → List (DataW H) → Bool := fun _ ds => decide (uptoBulkAll ds ≤ 1048576)
def OpenSpec.upto (s : _root_.Go.ChangeSpec) : _root_.Go.OpenSpec := { _root_.Go.OpenSpec.ofChange s with cond := some uptoSmall }

/-- 'laws.FnFlipDim', WHERE WHAT IT READS IS OF BULK AT MOST 1048576: true; the input reads as it did. -/
def fnFlipDimUptoRow : OpenClaim := { program := "ytfphjgmkpgoomaa", sum := "4f0a2b82f6e15237be7e55c7e96fd9fba30c4b7ace924f4c7d50f7fa6f3c4c80", func := "loop.example/strideviews/laws.FnFlipDim", spec := "fnFlipDim", recurses := true, apart := false, narrowed := true }
def FnFlipDimUptoSaid : Prop := fnFlipDimUptoRow.holds Try.pinned (OpenSpec.upto fnFlipDimSpec)

/-- 'laws.FnMayOverlap', WHERE WHAT IT READS IS OF BULK AT MOST 1048576: true; the input reads as it did. -/
def fnMayOverlapUptoRow : OpenClaim := { program := "ytfphjgmkpgoomaa", sum := "4f0a2b82f6e15237be7e55c7e96fd9fba30c4b7ace924f4c7d50f7fa6f3c4c80", func := "loop.example/strideviews/laws.FnMayOverlap", spec := "fnMayOverlap", unfollowed := true, recurses := true, apart := false, narrowed := true }
def FnMayOverlapUptoSaid : Prop := fnMayOverlapUptoRow.holds Try.pinned (OpenSpec.upto fnMayOverlapSpec)

/-- 'laws.FnWayOf', WHERE WHAT IT READS IS OF BULK AT MOST 1048576: true; the input reads as it did. -/
def fnWayOfUptoRow : OpenClaim := { program := "ytfphjgmkpgoomaa", sum := "4f0a2b82f6e15237be7e55c7e96fd9fba30c4b7ace924f4c7d50f7fa6f3c4c80", func := "loop.example/strideviews/laws.FnWayOf", spec := "fnWayOf", recurses := true, apart := false, narrowed := true }
def FnWayOfUptoSaid : Prop := fnWayOfUptoRow.holds Try.pinned (OpenSpec.upto fnWayOfSpec)

/-- 'laws.FnWayOfLines', WHERE WHAT IT READS IS OF BULK AT MOST 1048576: true; the input reads as it did. -/
def fnWayOfLinesUptoRow : OpenClaim := { program := "ytfphjgmkpgoomaa", sum := "4f0a2b82f6e15237be7e55c7e96fd9fba30c4b7ace924f4c7d50f7fa6f3c4c80", func := "loop.example/strideviews/laws.FnWayOfLines", spec := "fnWayOfLines", recurses := true, apart := false, narrowed := true }
def FnWayOfLinesUptoSaid : Prop := fnWayOfLinesUptoRow.holds Try.pinned (OpenSpec.upto fnWayOfLinesSpec)

end Rows
end Go.Proofs.Ytfphjgmkpgoomaa
