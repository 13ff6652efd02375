/-
  No cell of these rows narrows 'for every input' (looked for: loops, veiled, ifaces, maps, wideKeys, modest, calm, conditions, laid).
  DERIVED. THE GIVEN ROWS OF THIS SEAT. 6 by the template 'for every input the law returns true; each argument reads behind the call as it read before'; 0 by the template 'total and deterministic' (their statements: YtbhkcmiphmaefaaTotals.lean).
  GIVEN WITH THE SEED: the statements are not yours to turn. If you find one false, say at which input.
  Laid BY PROGRAM, IN A SANDBOX (cutbox-rows.mjs): the forced cells as the released guide's own fill.sh prints them over the translation 5955d7b103d602eb… (all of the seat's roots in one cut). By AI agents, Wed Nov 11 2026. No macro, syntax, notation, axiom, sorry.
-/
import Derived.Test.YtbhkcmiphmaefaaChecked
import GoSem.Claim
import GoSem.ClaimJoined
import GoSem.ClaimMapViews
import Derived.JoinedTies
import Derived.KernelRfl
namespace Go.Proofs.Ytbhkcmiphmaefaa
/- THE CELL 'sum', in the pinned program and in every row, IS THE sha256 OF THE DUMP (.gsa) THAT YtbhkcmiphmaefaaProg.lean LOADS. Nothing in Lean hashes anything: it is a label: what it is worth is what the hold of that sum in a sandbox is worth. -/
noncomputable def Try.pinned : Pinned := { name := "ytbhkcmiphmaefaa", sum := "5955d7b103d602eb122a55740097c845b54368dbcadb4c76f08e0a0632cd8cce", checked := Try.checked }
namespace Rows
def none {H : Type} : Left H := { results := [], args := [] }

/-- 'laws.FnExactAddDim': WHATEVER THE INPUT: true; the input reads as it did. -/
def fnExactAddDimSpec : ChangeSpec := { name := "fnExactAddDim", fn := fun _ => fun
  | [d1, d2] => { results := [.lit (.bool true)], args := [d1, d2] }
  | _ => none }
def fnExactAddDimRow : OpenClaim := { program := "ytbhkcmiphmaefaa", sum := "5955d7b103d602eb122a55740097c845b54368dbcadb4c76f08e0a0632cd8cce", func := "loop.example/strideviews/laws.FnExactAddDim", spec := "fnExactAddDim", inPlace := ["slices.overlaps[loop.example/strideviews/impl.dim]"], apart := false }
def FnExactAddDimSaid : Prop := fnExactAddDimRow.holds Try.pinned (OpenSpec.ofChange fnExactAddDimSpec)

/-- ITS FALSE NEIGHBOUR: 'it returns false'. Refute it at one input. -/
def fnExactAddDimWrong : ChangeSpec := { name := "fnExactAddDim", fn := fun _ => fun
  | [d1, d2] => { results := [.lit (.bool false)], args := [d1, d2] }
  | _ => none }
def FnExactAddDimWrongFalsely : Prop := fnExactAddDimRow.holds Try.pinned (OpenSpec.ofChange fnExactAddDimWrong)

/-- 'laws.FnExactCommonShape': WHATEVER THE INPUT: true; the input reads as it did. -/
def fnExactCommonShapeSpec : ChangeSpec := { name := "fnExactCommonShape", fn := fun _ => fun
  | [d1, d2] => { results := [.lit (.bool true)], args := [d1, d2] }
  | _ => none }
def fnExactCommonShapeRow : OpenClaim := { program := "ytbhkcmiphmaefaa", sum := "5955d7b103d602eb122a55740097c845b54368dbcadb4c76f08e0a0632cd8cce", func := "loop.example/strideviews/laws.FnExactCommonShape", spec := "fnExactCommonShape", apart := false }
def FnExactCommonShapeSaid : Prop := fnExactCommonShapeRow.holds Try.pinned (OpenSpec.ofChange fnExactCommonShapeSpec)

/-- ITS FALSE NEIGHBOUR: 'it returns false'. Refute it at one input. -/
def fnExactCommonShapeWrong : ChangeSpec := { name := "fnExactCommonShape", fn := fun _ => fun
  | [d1, d2] => { results := [.lit (.bool false)], args := [d1, d2] }
  | _ => none }
def FnExactCommonShapeWrongFalsely : Prop := fnExactCommonShapeRow.holds Try.pinned (OpenSpec.ofChange fnExactCommonShapeWrong)

/-- 'laws.FnExactSpreadTo': WHATEVER THE INPUT: true; the input reads as it did. -/
def fnExactSpreadToSpec : ChangeSpec := { name := "fnExactSpreadTo", fn := fun _ => fun
  | [d1, d2] => { results := [.lit (.bool true)], args := [d1, d2] }
  | _ => none }
def fnExactSpreadToRow : OpenClaim := { program := "ytbhkcmiphmaefaa", sum := "5955d7b103d602eb122a55740097c845b54368dbcadb4c76f08e0a0632cd8cce", func := "loop.example/strideviews/laws.FnExactSpreadTo", spec := "fnExactSpreadTo", apart := false }
def FnExactSpreadToSaid : Prop := fnExactSpreadToRow.holds Try.pinned (OpenSpec.ofChange fnExactSpreadToSpec)

/-- ITS FALSE NEIGHBOUR: 'it returns false'. Refute it at one input. -/
def fnExactSpreadToWrong : ChangeSpec := { name := "fnExactSpreadTo", fn := fun _ => fun
  | [d1, d2] => { results := [.lit (.bool false)], args := [d1, d2] }
  | _ => none }
def FnExactSpreadToWrongFalsely : Prop := fnExactSpreadToRow.holds Try.pinned (OpenSpec.ofChange fnExactSpreadToWrong)

/-- 'laws.FnExactSplitDim': WHATEVER THE INPUT: true; the input reads as it did. -/
def fnExactSplitDimSpec : ChangeSpec := { name := "fnExactSplitDim", fn := fun _ => fun
  | [d1, d2, d3] => { results := [.lit (.bool true)], args := [d1, d2, d3] }
  | _ => none }
def fnExactSplitDimRow : OpenClaim := { program := "ytbhkcmiphmaefaa", sum := "5955d7b103d602eb122a55740097c845b54368dbcadb4c76f08e0a0632cd8cce", func := "loop.example/strideviews/laws.FnExactSplitDim", spec := "fnExactSplitDim", inPlace := ["slices.overlaps[int]"], apart := false }
def FnExactSplitDimSaid : Prop := fnExactSplitDimRow.holds Try.pinned (OpenSpec.ofChange fnExactSplitDimSpec)

/-- ITS FALSE NEIGHBOUR: 'it returns false'. Refute it at one input. -/
def fnExactSplitDimWrong : ChangeSpec := { name := "fnExactSplitDim", fn := fun _ => fun
  | [d1, d2, d3] => { results := [.lit (.bool false)], args := [d1, d2, d3] }
  | _ => none }
def FnExactSplitDimWrongFalsely : Prop := fnExactSplitDimRow.holds Try.pinned (OpenSpec.ofChange fnExactSplitDimWrong)

/-- 'laws.FnExactJoinDims': WHATEVER THE INPUT: true; the input reads as it did. -/
def fnExactJoinDimsSpec : ChangeSpec := { name := "fnExactJoinDims", fn := fun _ => fun
  | [d1, d2] => { results := [.lit (.bool true)], args := [d1, d2] }
  | _ => none }
def fnExactJoinDimsRow : OpenClaim := { program := "ytbhkcmiphmaefaa", sum := "5955d7b103d602eb122a55740097c845b54368dbcadb4c76f08e0a0632cd8cce", func := "loop.example/strideviews/laws.FnExactJoinDims", spec := "fnExactJoinDims", inPlace := ["slices.overlaps[int]"], apart := false }
def FnExactJoinDimsSaid : Prop := fnExactJoinDimsRow.holds Try.pinned (OpenSpec.ofChange fnExactJoinDimsSpec)

/-- ITS FALSE NEIGHBOUR: 'it returns false'. Refute it at one input. -/
def fnExactJoinDimsWrong : ChangeSpec := { name := "fnExactJoinDims", fn := fun _ => fun
  | [d1, d2] => { results := [.lit (.bool false)], args := [d1, d2] }
  | _ => none }
def FnExactJoinDimsWrongFalsely : Prop := fnExactJoinDimsRow.holds Try.pinned (OpenSpec.ofChange fnExactJoinDimsWrong)

/-- 'laws.FnExactDropOnes': WHATEVER THE INPUT: true; the input reads as it did. -/
def fnExactDropOnesSpec : ChangeSpec := { name := "fnExactDropOnes", fn := fun _ => fun
  | [d] => { results := [.lit (.bool true)], args := [d] }
  | _ => none }
def fnExactDropOnesRow : OpenClaim := { program := "ytbhkcmiphmaefaa", sum := "5955d7b103d602eb122a55740097c845b54368dbcadb4c76f08e0a0632cd8cce", func := "loop.example/strideviews/laws.FnExactDropOnes", spec := "fnExactDropOnes", unfollowed := true, recurses := true, apart := false }
def FnExactDropOnesSaid : Prop := fnExactDropOnesRow.holds Try.pinned (OpenSpec.ofChange fnExactDropOnesSpec)

/-- ITS FALSE NEIGHBOUR: 'it returns false'. Refute it at one input. -/
def fnExactDropOnesWrong : ChangeSpec := { name := "fnExactDropOnes", fn := fun _ => fun
  | [d] => { results := [.lit (.bool false)], args := [d] }
  | _ => none }
def FnExactDropOnesWrongFalsely : Prop := fnExactDropOnesRow.holds Try.pinned (OpenSpec.ofChange fnExactDropOnesWrong)

/- THE SECOND FORM. 'bulk': how many values and letters a reading holds, each counted each time it is reached (what is shared counts as often as it is met; a slice's spare places count too). A statement '..UptoSaid' is the law's where the arguments, and the package variables that the reading takes, are together of bulk at most 1048576: NARROWER than '..Said'. Prove '..Said' where nothing that the law and all that it calls make is longer than what came in: it says more and counts as full. Else prove '..UptoSaid'. A law counts once. -/
mutual
def uptoBulk {H : Type} : DataW H → Nat
  | .lit (.string bytes) => bytes.length + 1
  | .lit _ => 1
  | .nil => 1
  | .ptr d => uptoBulk d + 1
  | .slice elems spare => uptoBulkAll elems + uptoBulkAll spare + 1
  | .agg parts => uptoBulkAll parts + 1
  | .iface _ d => uptoBulk d + 1
  | .map entries => uptoBulkEntries entries + 1
  | .held _ => 1
def uptoBulkAll {H : Type} : List (DataW H) → Nat
  | [] => 0
  | d :: r => uptoBulk d + uptoBulkAll r
def uptoBulkEntries {H : Type} : List (Lit × DataW H) → Nat
  | [] => 0
  | x :: r => uptoBulkEntry x + uptoBulkEntries r
def uptoBulkEntry {H : Type} : Lit × DataW H → Nat
  | (.string bytes, d) => bytes.length + uptoBulk d + 1
  | (_, d) => uptoBulk d + 1
 end
def uptoSmall : (H : Type) → List (DataW H) → Bool := fun _ ds => decide (uptoBulkAll ds ≤ 1048576)
def OpenSpec.upto (s : _root_.Go.ChangeSpec) : _root_.Go.OpenSpec := { _root_.Go.OpenSpec.ofChange s with cond := some uptoSmall }

/-- 'laws.FnExactAddDim', WHERE WHAT IT READS IS OF BULK AT MOST 1048576: true; the input reads as it did. -/
def fnExactAddDimUptoRow : OpenClaim := { program := "ytbhkcmiphmaefaa", sum := "5955d7b103d602eb122a55740097c845b54368dbcadb4c76f08e0a0632cd8cce", func := "loop.example/strideviews/laws.FnExactAddDim", spec := "fnExactAddDim", inPlace := ["slices.overlaps[loop.example/strideviews/impl.dim]"], apart := false, narrowed := true }
def FnExactAddDimUptoSaid : Prop := fnExactAddDimUptoRow.holds Try.pinned (OpenSpec.upto fnExactAddDimSpec)

/-- 'laws.FnExactCommonShape', WHERE WHAT IT READS IS OF BULK AT MOST 1048576: true; the input reads as it did. -/
def fnExactCommonShapeUptoRow : OpenClaim := { program := "ytbhkcmiphmaefaa", sum := "5955d7b103d602eb122a55740097c845b54368dbcadb4c76f08e0a0632cd8cce", func := "loop.example/strideviews/laws.FnExactCommonShape", spec := "fnExactCommonShape", apart := false, narrowed := true }
def FnExactCommonShapeUptoSaid : Prop := fnExactCommonShapeUptoRow.holds Try.pinned (OpenSpec.upto fnExactCommonShapeSpec)

/-- 'laws.FnExactSpreadTo', WHERE WHAT IT READS IS OF BULK AT MOST 1048576: true; the input reads as it did. -/
def fnExactSpreadToUptoRow : OpenClaim := { program := "ytbhkcmiphmaefaa", sum := "5955d7b103d602eb122a55740097c845b54368dbcadb4c76f08e0a0632cd8cce", func := "loop.example/strideviews/laws.FnExactSpreadTo", spec := "fnExactSpreadTo", apart := false, narrowed := true }
def FnExactSpreadToUptoSaid : Prop := fnExactSpreadToUptoRow.holds Try.pinned (OpenSpec.upto fnExactSpreadToSpec)

/-- 'laws.FnExactSplitDim', WHERE WHAT IT READS IS OF BULK AT MOST 1048576: true; the input reads as it did. -/
def fnExactSplitDimUptoRow : OpenClaim := { program := "ytbhkcmiphmaefaa", sum := "5955d7b103d602eb122a55740097c845b54368dbcadb4c76f08e0a0632cd8cce", func := "loop.example/strideviews/laws.FnExactSplitDim", spec := "fnExactSplitDim", inPlace := ["slices.overlaps[int]"], apart := false, narrowed := true }
def FnExactSplitDimUptoSaid : Prop := fnExactSplitDimUptoRow.holds Try.pinned (OpenSpec.upto fnExactSplitDimSpec)

/-- 'laws.FnExactJoinDims', WHERE WHAT IT READS IS OF BULK AT MOST 1048576: true; the input reads as it did. -/
def fnExactJoinDimsUptoRow : OpenClaim := { program := "ytbhkcmiphmaefaa", sum := "5955d7b103d602eb122a55740097c845b54368dbcadb4c76f08e0a0632cd8cce", func := "loop.example/strideviews/laws.FnExactJoinDims", spec := "fnExactJoinDims", inPlace := ["slices.overlaps[int]"], apart := false, narrowed := true }
def FnExactJoinDimsUptoSaid : Prop := fnExactJoinDimsUptoRow.holds Try.pinned (OpenSpec.upto fnExactJoinDimsSpec)

/-- 'laws.FnExactDropOnes', WHERE WHAT IT READS IS OF BULK AT MOST 1048576: true; the input reads as it did. -/
def fnExactDropOnesUptoRow : OpenClaim := { program := "ytbhkcmiphmaefaa", sum := "5955d7b103d602eb122a55740097c845b54368dbcadb4c76f08e0a0632cd8cce", func := "loop.example/strideviews/laws.FnExactDropOnes", spec := "fnExactDropOnes", unfollowed := true, recurses := true, apart := false, narrowed := true }
def FnExactDropOnesUptoSaid : Prop := fnExactDropOnesUptoRow.holds Try.pinned (OpenSpec.upto fnExactDropOnesSpec)

end Rows
end Go.Proofs.Ytbhkcmiphmaefaa
