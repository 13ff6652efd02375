/-
  No cell of these rows narrows 'for every input' (looked for: loops, veiled, ifaces, maps, wideKeys, modest, calm, conditions, laid).
  DERIVED. THE GIVEN ROWS OF THIS SEAT. 9 by the template 'for every input the law returns true; each argument reads behind the call as it read before'; 0 by the template 'total and deterministic' (their statements: YtajhakhncalabaaTotals.lean).
  GIVEN WITH THE SEED: the statements are not yours to turn. If you find one false, say at which input.
  Laid BY PROGRAM, IN A SANDBOX (cutbox-rows.mjs): the forced cells as the released guide's own fill.sh prints them over the translation dc28b94a7d0857e7… (all of the seat's roots in one cut). By AI agents, Wed Nov 11 2026. No macro, syntax, notation, axiom, sorry.
-/
import Derived.Test.YtajhakhncalabaaChecked
import GoSem.Claim
import GoSem.ClaimJoined
import GoSem.ClaimMapViews
import Derived.JoinedTies
import Derived.KernelRfl
namespace Go.Proofs.Ytajhakhncalabaa
/- THE CELL 'sum', in the pinned program and in every row, IS THE sha256 OF THE DUMP (.gsa) THAT YtajhakhncalabaaProg.lean LOADS. Nothing in Lean hashes anything: it is a label: what it is worth is what the hold of that sum in a sandbox is worth. -/
noncomputable def Try.pinned : Pinned := { name := "ytajhakhncalabaa", sum := "dc28b94a7d0857e7d33d7cc315df566cd37d6e68ce62ddeb7df23b3442f3f8d5", checked := Try.checked }
namespace Rows
def none {H : Type} : Left H := { results := [], args := [] }

/-- 'laws.FnExactValidTensor': WHATEVER THE INPUT: true; the input reads as it did. -/
def fnExactValidTensorSpec : ChangeSpec := { name := "fnExactValidTensor", fn := fun _ => fun
  | [d] => { results := [.lit (.bool true)], args := [d] }
  | _ => none }
def fnExactValidTensorRow : OpenClaim := { program := "ytajhakhncalabaa", sum := "dc28b94a7d0857e7d33d7cc315df566cd37d6e68ce62ddeb7df23b3442f3f8d5", func := "loop.example/strideviews/laws.FnExactValidTensor", spec := "fnExactValidTensor", apart := false }
def FnExactValidTensorSaid : Prop := fnExactValidTensorRow.holds Try.pinned (OpenSpec.ofChange fnExactValidTensorSpec)

/-- ITS FALSE NEIGHBOUR: 'it returns false'. Refute it at one input. -/
def fnExactValidTensorWrong : ChangeSpec := { name := "fnExactValidTensor", fn := fun _ => fun
  | [d] => { results := [.lit (.bool false)], args := [d] }
  | _ => none }
def FnExactValidTensorWrongFalsely : Prop := fnExactValidTensorRow.holds Try.pinned (OpenSpec.ofChange fnExactValidTensorWrong)

/-- 'laws.FnExactTensorOf': WHATEVER THE INPUT: true; the input reads as it did. -/
def fnExactTensorOfSpec : ChangeSpec := { name := "fnExactTensorOf", fn := fun _ => fun
  | [d1, d2] => { results := [.lit (.bool true)], args := [d1, d2] }
  | _ => none }
def fnExactTensorOfRow : OpenClaim := { program := "ytajhakhncalabaa", sum := "dc28b94a7d0857e7d33d7cc315df566cd37d6e68ce62ddeb7df23b3442f3f8d5", func := "loop.example/strideviews/laws.FnExactTensorOf", spec := "fnExactTensorOf", apart := false }
def FnExactTensorOfSaid : Prop := fnExactTensorOfRow.holds Try.pinned (OpenSpec.ofChange fnExactTensorOfSpec)

/-- ITS FALSE NEIGHBOUR: 'it returns false'. Refute it at one input. -/
def fnExactTensorOfWrong : ChangeSpec := { name := "fnExactTensorOf", fn := fun _ => fun
  | [d1, d2] => { results := [.lit (.bool false)], args := [d1, d2] }
  | _ => none }
def FnExactTensorOfWrongFalsely : Prop := fnExactTensorOfRow.holds Try.pinned (OpenSpec.ofChange fnExactTensorOfWrong)

/-- 'laws.FnExactCostOf': WHATEVER THE INPUT: true; the input reads as it did. -/
def fnExactCostOfSpec : ChangeSpec := { name := "fnExactCostOf", fn := fun _ => fun
  | [d1, d2] => { results := [.lit (.bool true)], args := [d1, d2] }
  | _ => none }
def fnExactCostOfRow : OpenClaim := { program := "ytajhakhncalabaa", sum := "dc28b94a7d0857e7d33d7cc315df566cd37d6e68ce62ddeb7df23b3442f3f8d5", func := "loop.example/strideviews/laws.FnExactCostOf", spec := "fnExactCostOf", apart := false }
def FnExactCostOfSaid : Prop := fnExactCostOfRow.holds Try.pinned (OpenSpec.ofChange fnExactCostOfSpec)

/-- ITS FALSE NEIGHBOUR: 'it returns false'. Refute it at one input. -/
def fnExactCostOfWrong : ChangeSpec := { name := "fnExactCostOf", fn := fun _ => fun
  | [d1, d2] => { results := [.lit (.bool false)], args := [d1, d2] }
  | _ => none }
def FnExactCostOfWrongFalsely : Prop := fnExactCostOfRow.holds Try.pinned (OpenSpec.ofChange fnExactCostOfWrong)

/-- 'laws.FnExactCostBy': WHATEVER THE INPUT: true; the input reads as it did. -/
def fnExactCostBySpec : ChangeSpec := { name := "fnExactCostBy", fn := fun _ => fun
  | [d1, d2, d3, d4, d5] => { results := [.lit (.bool true)], args := [d1, d2, d3, d4, d5] }
  | _ => none }
def fnExactCostByRow : OpenClaim := { program := "ytajhakhncalabaa", sum := "dc28b94a7d0857e7d33d7cc315df566cd37d6e68ce62ddeb7df23b3442f3f8d5", func := "loop.example/strideviews/laws.FnExactCostBy", spec := "fnExactCostBy", apart := false }
def FnExactCostBySaid : Prop := fnExactCostByRow.holds Try.pinned (OpenSpec.ofChange fnExactCostBySpec)

/-- ITS FALSE NEIGHBOUR: 'it returns false'. Refute it at one input. -/
def fnExactCostByWrong : ChangeSpec := { name := "fnExactCostBy", fn := fun _ => fun
  | [d1, d2, d3, d4, d5] => { results := [.lit (.bool false)], args := [d1, d2, d3, d4, d5] }
  | _ => none }
def FnExactCostByWrongFalsely : Prop := fnExactCostByRow.holds Try.pinned (OpenSpec.ofChange fnExactCostByWrong)

/-- 'laws.FnExactBestPair': WHATEVER THE INPUT: true; the input reads as it did. -/
def fnExactBestPairSpec : ChangeSpec := { name := "fnExactBestPair", fn := fun _ => fun
  | [d1, d2, d3] => { results := [.lit (.bool true)], args := [d1, d2, d3] }
  | _ => none }
def fnExactBestPairRow : OpenClaim := { program := "ytajhakhncalabaa", sum := "dc28b94a7d0857e7d33d7cc315df566cd37d6e68ce62ddeb7df23b3442f3f8d5", func := "loop.example/strideviews/laws.FnExactBestPair", spec := "fnExactBestPair", apart := false }
def FnExactBestPairSaid : Prop := fnExactBestPairRow.holds Try.pinned (OpenSpec.ofChange fnExactBestPairSpec)

/-- ITS FALSE NEIGHBOUR: 'it returns false'. Refute it at one input. -/
def fnExactBestPairWrong : ChangeSpec := { name := "fnExactBestPair", fn := fun _ => fun
  | [d1, d2, d3] => { results := [.lit (.bool false)], args := [d1, d2, d3] }
  | _ => none }
def FnExactBestPairWrongFalsely : Prop := fnExactBestPairRow.holds Try.pinned (OpenSpec.ofChange fnExactBestPairWrong)

/-- 'laws.FnExactMatMul': WHATEVER THE INPUT: true; the input reads as it did. -/
def fnExactMatMulSpec : ChangeSpec := { name := "fnExactMatMul", fn := fun _ => fun
  | [d1, d2] => { results := [.lit (.bool true)], args := [d1, d2] }
  | _ => none }
def fnExactMatMulRow : OpenClaim := { program := "ytajhakhncalabaa", sum := "dc28b94a7d0857e7d33d7cc315df566cd37d6e68ce62ddeb7df23b3442f3f8d5", func := "loop.example/strideviews/laws.FnExactMatMul", spec := "fnExactMatMul", unfollowed := true, recurses := true, apart := false }
def FnExactMatMulSaid : Prop := fnExactMatMulRow.holds Try.pinned (OpenSpec.ofChange fnExactMatMulSpec)

/-- ITS FALSE NEIGHBOUR: 'it returns false'. Refute it at one input. -/
def fnExactMatMulWrong : ChangeSpec := { name := "fnExactMatMul", fn := fun _ => fun
  | [d1, d2] => { results := [.lit (.bool false)], args := [d1, d2] }
  | _ => none }
def FnExactMatMulWrongFalsely : Prop := fnExactMatMulRow.holds Try.pinned (OpenSpec.ofChange fnExactMatMulWrong)

/-- 'laws.FnExactTraceOf': WHATEVER THE INPUT: true; the input reads as it did. -/
def fnExactTraceOfSpec : ChangeSpec := { name := "fnExactTraceOf", fn := fun _ => fun
  | [d] => { results := [.lit (.bool true)], args := [d] }
  | _ => none }
def fnExactTraceOfRow : OpenClaim := { program := "ytajhakhncalabaa", sum := "dc28b94a7d0857e7d33d7cc315df566cd37d6e68ce62ddeb7df23b3442f3f8d5", func := "loop.example/strideviews/laws.FnExactTraceOf", spec := "fnExactTraceOf", unfollowed := true, recurses := true, apart := false }
def FnExactTraceOfSaid : Prop := fnExactTraceOfRow.holds Try.pinned (OpenSpec.ofChange fnExactTraceOfSpec)

/-- ITS FALSE NEIGHBOUR: 'it returns false'. Refute it at one input. -/
def fnExactTraceOfWrong : ChangeSpec := { name := "fnExactTraceOf", fn := fun _ => fun
  | [d] => { results := [.lit (.bool false)], args := [d] }
  | _ => none }
def FnExactTraceOfWrongFalsely : Prop := fnExactTraceOfRow.holds Try.pinned (OpenSpec.ofChange fnExactTraceOfWrong)

/-- 'laws.FnExactTurnTensor': WHATEVER THE INPUT: true; the input reads as it did. -/
def fnExactTurnTensorSpec : ChangeSpec := { name := "fnExactTurnTensor", fn := fun _ => fun
  | [d1, d2] => { results := [.lit (.bool true)], args := [d1, d2] }
  | _ => none }
def fnExactTurnTensorRow : OpenClaim := { program := "ytajhakhncalabaa", sum := "dc28b94a7d0857e7d33d7cc315df566cd37d6e68ce62ddeb7df23b3442f3f8d5", func := "loop.example/strideviews/laws.FnExactTurnTensor", spec := "fnExactTurnTensor", unfollowed := true, recurses := true, apart := false }
def FnExactTurnTensorSaid : Prop := fnExactTurnTensorRow.holds Try.pinned (OpenSpec.ofChange fnExactTurnTensorSpec)

/-- ITS FALSE NEIGHBOUR: 'it returns false'. Refute it at one input. -/
def fnExactTurnTensorWrong : ChangeSpec := { name := "fnExactTurnTensor", fn := fun _ => fun
  | [d1, d2] => { results := [.lit (.bool false)], args := [d1, d2] }
  | _ => none }
def FnExactTurnTensorWrongFalsely : Prop := fnExactTurnTensorRow.holds Try.pinned (OpenSpec.ofChange fnExactTurnTensorWrong)

/-- 'laws.FnExactSumDim': WHATEVER THE INPUT: true; the input reads as it did. -/
def fnExactSumDimSpec : ChangeSpec := { name := "fnExactSumDim", fn := fun _ => fun
  | [d1, d2] => { results := [.lit (.bool true)], args := [d1, d2] }
  | _ => none }
def fnExactSumDimRow : OpenClaim := { program := "ytajhakhncalabaa", sum := "dc28b94a7d0857e7d33d7cc315df566cd37d6e68ce62ddeb7df23b3442f3f8d5", func := "loop.example/strideviews/laws.FnExactSumDim", spec := "fnExactSumDim", unfollowed := true, recurses := true, apart := false }
def FnExactSumDimSaid : Prop := fnExactSumDimRow.holds Try.pinned (OpenSpec.ofChange fnExactSumDimSpec)

/-- ITS FALSE NEIGHBOUR: 'it returns false'. Refute it at one input. -/
def fnExactSumDimWrong : ChangeSpec := { name := "fnExactSumDim", fn := fun _ => fun
  | [d1, d2] => { results := [.lit (.bool false)], args := [d1, d2] }
  | _ => none }
def FnExactSumDimWrongFalsely : Prop := fnExactSumDimRow.holds Try.pinned (OpenSpec.ofChange fnExactSumDimWrong)

/- THE SECOND FORM. 'bulk': how many values and letters a reading holds, each counted each time it is reached (what is shared counts as often as it is met; a slice's spare places count too). A statement '..UptoSaid' is the law's where the arguments, and the package variables that the reading takes, are together of bulk at most 1048576: NARROWER than '..Said'. Prove '..Said' where nothing that the law and all that it calls make is longer than what came in: it says more and counts as full. Else prove '..UptoSaid'. A law counts once. -/
mutual
def uptoBulk {H : Type} : DataW H → Nat
  | .lit (.string bytes) => bytes.length + 1
  | .lit _ => 1
  | .nil => 1
  | .ptr d => uptoBulk d + 1
  | .slice elems spare => uptoBulkAll elems + uptoBulkAll spare + 1
  | .agg parts => uptoBulkAll parts + 1
  | .iface _ d => uptoBulk d + 1
  | .map entries => uptoBulkEntries entries + 1
  | .held _ => 1
def uptoBulkAll {H : Type} : List (DataW H) → Nat
  | [] => 0
  | d :: r => uptoBulk d + uptoBulkAll r
def uptoBulkEntries {H : Type} : List (Lit × DataW H) → Nat
  | [] => 0
  | x :: r => uptoBulkEntry x + uptoBulkEntries r
def uptoBulkEntry {H : Type} : Lit × DataW H → Nat
  | (.string bytes, d) => bytes.length + uptoBulk d + 1
  | (_, d) => uptoBulk d + 1
 end
def uptoSmall : (H : Type) → List (DataW H) → Bool := fun _ ds => decide (uptoBulkAll ds ≤ 1048576)
def OpenSpec.upto (s : _root_.Go.ChangeSpec) : _root_.Go.OpenSpec := { _root_.Go.OpenSpec.ofChange s with cond := some uptoSmall }

/-- 'laws.FnExactValidTensor', WHERE WHAT IT READS IS OF BULK AT MOST 1048576: true; the input reads as it did. -/
def fnExactValidTensorUptoRow : OpenClaim := { program := "ytajhakhncalabaa", sum := "dc28b94a7d0857e7d33d7cc315df566cd37d6e68ce62ddeb7df23b3442f3f8d5", func := "loop.example/strideviews/laws.FnExactValidTensor", spec := "fnExactValidTensor", apart := false, narrowed := true }
def FnExactValidTensorUptoSaid : Prop := fnExactValidTensorUptoRow.holds Try.pinned (OpenSpec.upto fnExactValidTensorSpec)

/-- 'laws.FnExactTensorOf', WHERE WHAT IT READS IS OF BULK AT MOST 1048576: true; the input reads as it did. -/
def fnExactTensorOfUptoRow : OpenClaim := { program := "ytajhakhncalabaa", sum := "dc28b94a7d0857e7d33d7cc315df566cd37d6e68ce62ddeb7df23b3442f3f8d5", func := "loop.example/strideviews/laws.FnExactTensorOf", spec := "fnExactTensorOf", apart := false, narrowed := true }
def FnExactTensorOfUptoSaid : Prop := fnExactTensorOfUptoRow.holds Try.pinned (OpenSpec.upto fnExactTensorOfSpec)

/-- 'laws.FnExactCostOf', WHERE WHAT IT READS IS OF BULK AT MOST 1048576: true; the input reads as it did. -/
def fnExactCostOfUptoRow : OpenClaim := { program := "ytajhakhncalabaa", sum := "dc28b94a7d0857e7d33d7cc315df566cd37d6e68ce62ddeb7df23b3442f3f8d5", func := "loop.example/strideviews/laws.FnExactCostOf", spec := "fnExactCostOf", apart := false, narrowed := true }
def FnExactCostOfUptoSaid : Prop := fnExactCostOfUptoRow.holds Try.pinned (OpenSpec.upto fnExactCostOfSpec)

/-- 'laws.FnExactCostBy', WHERE WHAT IT READS IS OF BULK AT MOST 1048576: true; the input reads as it did. -/
def fnExactCostByUptoRow : OpenClaim := { program := "ytajhakhncalabaa", sum := "dc28b94a7d0857e7d33d7cc315df566cd37d6e68ce62ddeb7df23b3442f3f8d5", func := "loop.example/strideviews/laws.FnExactCostBy", spec := "fnExactCostBy", apart := false, narrowed := true }
def FnExactCostByUptoSaid : Prop := fnExactCostByUptoRow.holds Try.pinned (OpenSpec.upto fnExactCostBySpec)

/-- 'laws.FnExactBestPair', WHERE WHAT IT READS IS OF BULK AT MOST 1048576: true; the input reads as it did. -/
def fnExactBestPairUptoRow : OpenClaim := { program := "ytajhakhncalabaa", sum := "dc28b94a7d0857e7d33d7cc315df566cd37d6e68ce62ddeb7df23b3442f3f8d5", func := "loop.example/strideviews/laws.FnExactBestPair", spec := "fnExactBestPair", apart := false, narrowed := true }
def FnExactBestPairUptoSaid : Prop := fnExactBestPairUptoRow.holds Try.pinned (OpenSpec.upto fnExactBestPairSpec)

/-- 'laws.FnExactMatMul', WHERE WHAT IT READS IS OF BULK AT MOST 1048576: true; the input reads as it did. -/
def fnExactMatMulUptoRow : OpenClaim := { program := "ytajhakhncalabaa", sum := "dc28b94a7d0857e7d33d7cc315df566cd37d6e68ce62ddeb7df23b3442f3f8d5", func := "loop.example/strideviews/laws.FnExactMatMul", spec := "fnExactMatMul", unfollowed := true, recurses := true, apart := false, narrowed := true }
def FnExactMatMulUptoSaid : Prop := fnExactMatMulUptoRow.holds Try.pinned (OpenSpec.upto fnExactMatMulSpec)

/-- 'laws.FnExactTraceOf', WHERE WHAT IT READS IS OF BULK AT MOST 1048576: true; the input reads as it did. -/
def fnExactTraceOfUptoRow : OpenClaim := { program := "ytajhakhncalabaa", sum := "dc28b94a7d0857e7d33d7cc315df566cd37d6e68ce62ddeb7df23b3442f3f8d5", func := "loop.example/strideviews/laws.FnExactTraceOf", spec := "fnExactTraceOf", unfollowed := true, recurses := true, apart := false, narrowed := true }
def FnExactTraceOfUptoSaid : Prop := fnExactTraceOfUptoRow.holds Try.pinned (OpenSpec.upto fnExactTraceOfSpec)

/-- 'laws.FnExactTurnTensor', WHERE WHAT IT READS IS OF BULK AT MOST 1048576: true; the input reads as it did. -/
def fnExactTurnTensorUptoRow : OpenClaim := { program := "ytajhakhncalabaa", sum := "dc28b94a7d0857e7d33d7cc315df566cd37d6e68ce62ddeb7df23b3442f3f8d5", func := "loop.example/strideviews/laws.FnExactTurnTensor", spec := "fnExactTurnTensor", unfollowed := true, recurses := true, apart := false, narrowed := true }
def FnExactTurnTensorUptoSaid : Prop := fnExactTurnTensorUptoRow.holds Try.pinned (OpenSpec.upto fnExactTurnTensorSpec)

/-- 'laws.FnExactSumDim', WHERE WHAT IT READS IS OF BULK AT MOST 1048576: true; the input reads as it did. -/
def fnExactSumDimUptoRow : OpenClaim := { program := "ytajhakhncalabaa", sum := "dc28b94a7d0857e7d33d7cc315df566cd37d6e68ce62ddeb7df23b3442f3f8d5", func := "loop.example/strideviews/laws.FnExactSumDim", spec := "fnExactSumDim", unfollowed := true, recurses := true, apart := false, narrowed := true }
def FnExactSumDimUptoSaid : Prop := fnExactSumDimUptoRow.holds Try.pinned (OpenSpec.upto fnExactSumDimSpec)

end Rows
end Go.Proofs.Ytajhakhncalabaa
