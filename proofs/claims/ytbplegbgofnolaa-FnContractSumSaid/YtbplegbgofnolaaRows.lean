/-
  No cell of these rows narrows 'for every input' (looked for: loops, veiled, ifaces, maps, wideKeys, modest, calm, conditions, laid).
  DERIVED. THE GIVEN ROWS OF THIS SEAT. 10 by the template 'for every input the law returns true; each argument reads behind the call as it read before'; 0 by the template 'total and deterministic' (their statements: YtbplegbgofnolaaTotals.lean).
  GIVEN WITH THE SEED: the statements are not yours to turn. If you find one false, say at which input.
  Laid BY PROGRAM, IN A SANDBOX (cutbox-rows.mjs): the forced cells as the released guide's own fill.sh prints them over the translation 1d680be0904db45a… (all of the seat's roots in one cut). By AI agents, Wed Nov 11 2026. No macro, syntax, notation, axiom, sorry.
-/
import Derived.Test.YtbplegbgofnolaaChecked
import GoSem.Claim
import GoSem.ClaimJoined
import GoSem.ClaimMapViews
import Derived.JoinedTies
import Derived.KernelRfl
namespace Go.Proofs.Ytbplegbgofnolaa
/- THE CELL 'sum', in the pinned program and in every row, IS THE sha256 OF THE DUMP (.gsa) THAT YtbplegbgofnolaaProg.lean LOADS. Nothing in Lean hashes anything: it is a label: what it is worth is what the hold of that sum in a sandbox is worth. -/
noncomputable def Try.pinned : Pinned := { name := "ytbplegbgofnolaa", sum := "1d680be0904db45a441d9d73e8881a388fd3de20c890b0dc9fb643e5466c24e0", checked := Try.checked }
namespace Rows
def none {H : Type} : Left H := { results := [], args := [] }

/-- 'laws.FnBestPair': WHATEVER THE INPUT: true; the input reads as it did. -/
def fnBestPairSpec : ChangeSpec := { name := "fnBestPair", fn := fun _ => fun
  | [d] => { results := [.lit (.bool true)], args := [d] }
  | _ => none }
def fnBestPairRow : OpenClaim := { program := "ytbplegbgofnolaa", sum := "1d680be0904db45a441d9d73e8881a388fd3de20c890b0dc9fb643e5466c24e0", func := "loop.example/strideviews/laws.FnBestPair", spec := "fnBestPair", unfollowed := true, recurses := true, apart := false }
def FnBestPairSaid : Prop := fnBestPairRow.holds Try.pinned (OpenSpec.ofChange fnBestPairSpec)

/-- ITS FALSE NEIGHBOUR: 'it returns false'. Refute it at one input. -/
def fnBestPairWrong : ChangeSpec := { name := "fnBestPair", fn := fun _ => fun
  | [d] => { results := [.lit (.bool false)], args := [d] }
  | _ => none }
def FnBestPairWrongFalsely : Prop := fnBestPairRow.holds Try.pinned (OpenSpec.ofChange fnBestPairWrong)

/-- 'laws.FnContract': WHATEVER THE INPUT: true; the input reads as it did. -/
def fnContractSpec : ChangeSpec := { name := "fnContract", fn := fun _ => fun
  | [d] => { results := [.lit (.bool true)], args := [d] }
  | _ => none }
def fnContractRow : OpenClaim := { program := "ytbplegbgofnolaa", sum := "1d680be0904db45a441d9d73e8881a388fd3de20c890b0dc9fb643e5466c24e0", func := "loop.example/strideviews/laws.FnContract", spec := "fnContract", unfollowed := true, recurses := true, apart := false }
def FnContractSaid : Prop := fnContractRow.holds Try.pinned (OpenSpec.ofChange fnContractSpec)

/-- ITS FALSE NEIGHBOUR: 'it returns false'. Refute it at one input. -/
def fnContractWrong : ChangeSpec := { name := "fnContract", fn := fun _ => fun
  | [d] => { results := [.lit (.bool false)], args := [d] }
  | _ => none }
def FnContractWrongFalsely : Prop := fnContractRow.holds Try.pinned (OpenSpec.ofChange fnContractWrong)

/-- 'laws.FnContractOrder': WHATEVER THE INPUT: true; the input reads as it did. -/
def fnContractOrderSpec : ChangeSpec := { name := "fnContractOrder", fn := fun _ => fun
  | [d] => { results := [.lit (.bool true)], args := [d] }
  | _ => none }
def fnContractOrderRow : OpenClaim := { program := "ytbplegbgofnolaa", sum := "1d680be0904db45a441d9d73e8881a388fd3de20c890b0dc9fb643e5466c24e0", func := "loop.example/strideviews/laws.FnContractOrder", spec := "fnContractOrder", unfollowed := true, recurses := true, apart := false }
def FnContractOrderSaid : Prop := fnContractOrderRow.holds Try.pinned (OpenSpec.ofChange fnContractOrderSpec)

/-- ITS FALSE NEIGHBOUR: 'it returns false'. Refute it at one input. -/
def fnContractOrderWrong : ChangeSpec := { name := "fnContractOrder", fn := fun _ => fun
  | [d] => { results := [.lit (.bool false)], args := [d] }
  | _ => none }
def FnContractOrderWrongFalsely : Prop := fnContractOrderRow.holds Try.pinned (OpenSpec.ofChange fnContractOrderWrong)

/-- 'laws.FnContractSum': WHATEVER THE INPUT: true; the input reads as it did. -/
def fnContractSumSpec : ChangeSpec := { name := "fnContractSum", fn := fun _ => fun
  | [d] => { results := [.lit (.bool true)], args := [d] }
  | _ => none }
def fnContractSumRow : OpenClaim := { program := "ytbplegbgofnolaa", sum := "1d680be0904db45a441d9d73e8881a388fd3de20c890b0dc9fb643e5466c24e0", func := "loop.example/strideviews/laws.FnContractSum", spec := "fnContractSum", unfollowed := true, recurses := true, apart := false }
def FnContractSumSaid : Prop := fnContractSumRow.holds Try.pinned (OpenSpec.ofChange fnContractSumSpec)

/-- ITS FALSE NEIGHBOUR: 'it returns false'. Refute it at one input. -/
def fnContractSumWrong : ChangeSpec := { name := "fnContractSum", fn := fun _ => fun
  | [d] => { results := [.lit (.bool false)], args := [d] }
  | _ => none }
def FnContractSumWrongFalsely : Prop := fnContractSumRow.holds Try.pinned (OpenSpec.ofChange fnContractSumWrong)

/-- 'laws.FnContractScale': WHATEVER THE INPUT: true; the input reads as it did. -/
def fnContractScaleSpec : ChangeSpec := { name := "fnContractScale", fn := fun _ => fun
  | [d] => { results := [.lit (.bool true)], args := [d] }
  | _ => none }
def fnContractScaleRow : OpenClaim := { program := "ytbplegbgofnolaa", sum := "1d680be0904db45a441d9d73e8881a388fd3de20c890b0dc9fb643e5466c24e0", func := "loop.example/strideviews/laws.FnContractScale", spec := "fnContractScale", unfollowed := true, recurses := true, apart := false }
def FnContractScaleSaid : Prop := fnContractScaleRow.holds Try.pinned (OpenSpec.ofChange fnContractScaleSpec)

/-- ITS FALSE NEIGHBOUR: 'it returns false'. Refute it at one input. -/
def fnContractScaleWrong : ChangeSpec := { name := "fnContractScale", fn := fun _ => fun
  | [d] => { results := [.lit (.bool false)], args := [d] }
  | _ => none }
def FnContractScaleWrongFalsely : Prop := fnContractScaleRow.holds Try.pinned (OpenSpec.ofChange fnContractScaleWrong)

/-- 'laws.FnContractBy': WHATEVER THE INPUT: true; the input reads as it did. -/
def fnContractBySpec : ChangeSpec := { name := "fnContractBy", fn := fun _ => fun
  | [d] => { results := [.lit (.bool true)], args := [d] }
  | _ => none }
def fnContractByRow : OpenClaim := { program := "ytbplegbgofnolaa", sum := "1d680be0904db45a441d9d73e8881a388fd3de20c890b0dc9fb643e5466c24e0", func := "loop.example/strideviews/laws.FnContractBy", spec := "fnContractBy", unfollowed := true, recurses := true, apart := false }
def FnContractBySaid : Prop := fnContractByRow.holds Try.pinned (OpenSpec.ofChange fnContractBySpec)

/-- ITS FALSE NEIGHBOUR: 'it returns false'. Refute it at one input. -/
def fnContractByWrong : ChangeSpec := { name := "fnContractBy", fn := fun _ => fun
  | [d] => { results := [.lit (.bool false)], args := [d] }
  | _ => none }
def FnContractByWrongFalsely : Prop := fnContractByRow.holds Try.pinned (OpenSpec.ofChange fnContractByWrong)

/-- 'laws.FnMatMul': WHATEVER THE INPUT: true; the input reads as it did. -/
def fnMatMulSpec : ChangeSpec := { name := "fnMatMul", fn := fun _ => fun
  | [d] => { results := [.lit (.bool true)], args := [d] }
  | _ => none }
def fnMatMulRow : OpenClaim := { program := "ytbplegbgofnolaa", sum := "1d680be0904db45a441d9d73e8881a388fd3de20c890b0dc9fb643e5466c24e0", func := "loop.example/strideviews/laws.FnMatMul", spec := "fnMatMul", unfollowed := true, recurses := true, apart := false }
def FnMatMulSaid : Prop := fnMatMulRow.holds Try.pinned (OpenSpec.ofChange fnMatMulSpec)

/-- ITS FALSE NEIGHBOUR: 'it returns false'. Refute it at one input. -/
def fnMatMulWrong : ChangeSpec := { name := "fnMatMul", fn := fun _ => fun
  | [d] => { results := [.lit (.bool false)], args := [d] }
  | _ => none }
def FnMatMulWrongFalsely : Prop := fnMatMulRow.holds Try.pinned (OpenSpec.ofChange fnMatMulWrong)

/-- 'laws.FnTraceOf': WHATEVER THE INPUT: true; the input reads as it did. -/
def fnTraceOfSpec : ChangeSpec := { name := "fnTraceOf", fn := fun _ => fun
  | [d] => { results := [.lit (.bool true)], args := [d] }
  | _ => none }
def fnTraceOfRow : OpenClaim := { program := "ytbplegbgofnolaa", sum := "1d680be0904db45a441d9d73e8881a388fd3de20c890b0dc9fb643e5466c24e0", func := "loop.example/strideviews/laws.FnTraceOf", spec := "fnTraceOf", unfollowed := true, recurses := true, apart := false }
def FnTraceOfSaid : Prop := fnTraceOfRow.holds Try.pinned (OpenSpec.ofChange fnTraceOfSpec)

/-- ITS FALSE NEIGHBOUR: 'it returns false'. Refute it at one input. -/
def fnTraceOfWrong : ChangeSpec := { name := "fnTraceOf", fn := fun _ => fun
  | [d] => { results := [.lit (.bool false)], args := [d] }
  | _ => none }
def FnTraceOfWrongFalsely : Prop := fnTraceOfRow.holds Try.pinned (OpenSpec.ofChange fnTraceOfWrong)

/-- 'laws.FnSumDim': WHATEVER THE INPUT: true; the input reads as it did. -/
def fnSumDimSpec : ChangeSpec := { name := "fnSumDim", fn := fun _ => fun
  | [d] => { results := [.lit (.bool true)], args := [d] }
  | _ => none }
def fnSumDimRow : OpenClaim := { program := "ytbplegbgofnolaa", sum := "1d680be0904db45a441d9d73e8881a388fd3de20c890b0dc9fb643e5466c24e0", func := "loop.example/strideviews/laws.FnSumDim", spec := "fnSumDim", unfollowed := true, recurses := true, apart := false }
def FnSumDimSaid : Prop := fnSumDimRow.holds Try.pinned (OpenSpec.ofChange fnSumDimSpec)

/-- ITS FALSE NEIGHBOUR: 'it returns false'. Refute it at one input. -/
def fnSumDimWrong : ChangeSpec := { name := "fnSumDim", fn := fun _ => fun
  | [d] => { results := [.lit (.bool false)], args := [d] }
  | _ => none }
def FnSumDimWrongFalsely : Prop := fnSumDimRow.holds Try.pinned (OpenSpec.ofChange fnSumDimWrong)

/-- 'laws.FnTurnTensor': WHATEVER THE INPUT: true; the input reads as it did. -/
def fnTurnTensorSpec : ChangeSpec := { name := "fnTurnTensor", fn := fun _ => fun
  | [d] => { results := [.lit (.bool true)], args := [d] }
  | _ => none }
def fnTurnTensorRow : OpenClaim := { program := "ytbplegbgofnolaa", sum := "1d680be0904db45a441d9d73e8881a388fd3de20c890b0dc9fb643e5466c24e0", func := "loop.example/strideviews/laws.FnTurnTensor", spec := "fnTurnTensor", unfollowed := true, recurses := true, apart := false }
def FnTurnTensorSaid : Prop := fnTurnTensorRow.holds Try.pinned (OpenSpec.ofChange fnTurnTensorSpec)

/-- ITS FALSE NEIGHBOUR: 'it returns false'. Refute it at one input. -/
def fnTurnTensorWrong : ChangeSpec := { name := "fnTurnTensor", fn := fun _ => fun
  | [d] => { results := [.lit (.bool false)], args := [d] }
  | _ => none }
def FnTurnTensorWrongFalsely : Prop := fnTurnTensorRow.holds Try.pinned (OpenSpec.ofChange fnTurnTensorWrong)

/- THE SECOND FORM. 'bulk': how many values and letters a reading holds, each counted each time it is reached (what is shared counts as often as it is met; a slice's spare places count too). A statement '..UptoSaid' is the law's where the arguments, and the package variables that the reading takes, are together of bulk at most 1048576: NARROWER than '..Said'. Prove '..Said' where nothing that the law and all that it calls make is longer than what came in: it says more and counts as full. Else prove '..UptoSaid'. A law counts once. -/
mutual
def uptoBulk {H : Type} : DataW H → Nat
  | .lit (.string bytes) => bytes.length + 1
  | .lit _ => 1
  | .nil => 1
  | .ptr d => uptoBulk d + 1
  | .slice elems spare => uptoBulkAll elems + uptoBulkAll spare + 1
  | .agg parts => uptoBulkAll parts + 1
  | .iface _ d => uptoBulk d + 1
  | .map entries => uptoBulkEntries entries + 1
  | .held _ => 1
def uptoBulkAll {H : Type} : List (DataW H) → Nat
  | [] => 0
  | d :: r => uptoBulk d + uptoBulkAll r
def uptoBulkEntries {H : Type} : List (Lit × DataW H) → Nat
  | [] => 0
  | x :: r => uptoBulkEntry x + uptoBulkEntries r
def uptoBulkEntry {H : Type} : Lit × DataW H → Nat
  | (.string bytes, d) => bytes.length + uptoBulk d + 1
  | (_, d) => uptoBulk d + 1
 end
def uptoSmall : (H : Type) → List (DataW H) → Bool := fun _ ds => decide (uptoBulkAll ds ≤ 1048576)
def OpenSpec.upto (s : _root_.Go.ChangeSpec) : _root_.Go.OpenSpec := { _root_.Go.OpenSpec.ofChange s with cond := some uptoSmall }

/-- 'laws.FnBestPair', WHERE WHAT IT READS IS OF BULK AT MOST 1048576: true; the input reads as it did. -/
def fnBestPairUptoRow : OpenClaim := { program := "ytbplegbgofnolaa", sum := "1d680be0904db45a441d9d73e8881a388fd3de20c890b0dc9fb643e5466c24e0", func := "loop.example/strideviews/laws.FnBestPair", spec := "fnBestPair", unfollowed := true, recurses := true, apart := false, narrowed := true }
def FnBestPairUptoSaid : Prop := fnBestPairUptoRow.holds Try.pinned (OpenSpec.upto fnBestPairSpec)

/-- 'laws.FnContract', WHERE WHAT IT READS IS OF BULK AT MOST 1048576: true; the input reads as it did. -/
def fnContractUptoRow : OpenClaim := { program := "ytbplegbgofnolaa", sum := "1d680be0904db45a441d9d73e8881a388fd3de20c890b0dc9fb643e5466c24e0", func := "loop.example/strideviews/laws.FnContract", spec := "fnContract", unfollowed := true, recurses := true, apart := false, narrowed := true }
def FnContractUptoSaid : Prop := fnContractUptoRow.holds Try.pinned (OpenSpec.upto fnContractSpec)

/-- 'laws.FnContractOrder', WHERE WHAT IT READS IS OF BULK AT MOST 1048576: true; the input reads as it did. -/
def fnContractOrderUptoRow : OpenClaim := { program := "ytbplegbgofnolaa", sum := "1d680be0904db45a441d9d73e8881a388fd3de20c890b0dc9fb643e5466c24e0", func := "loop.example/strideviews/laws.FnContractOrder", spec := "fnContractOrder", unfollowed := true, recurses := true, apart := false, narrowed := true }
def FnContractOrderUptoSaid : Prop := fnContractOrderUptoRow.holds Try.pinned (OpenSpec.upto fnContractOrderSpec)

/-- 'laws.FnContractSum', WHERE WHAT IT READS IS OF BULK AT MOST 1048576: true; the input reads as it did. -/
def fnContractSumUptoRow : OpenClaim := { program := "ytbplegbgofnolaa", sum := "1d680be0904db45a441d9d73e8881a388fd3de20c890b0dc9fb643e5466c24e0", func := "loop.example/strideviews/laws.FnContractSum", spec := "fnContractSum", unfollowed := true, recurses := true, apart := false, narrowed := true }
def FnContractSumUptoSaid : Prop := fnContractSumUptoRow.holds Try.pinned (OpenSpec.upto fnContractSumSpec)

/-- 'laws.FnContractScale', WHERE WHAT IT READS IS OF BULK AT MOST 1048576: true; the input reads as it did. -/
def fnContractScaleUptoRow : OpenClaim := { program := "ytbplegbgofnolaa", sum := "1d680be0904db45a441d9d73e8881a388fd3de20c890b0dc9fb643e5466c24e0", func := "loop.example/strideviews/laws.FnContractScale", spec := "fnContractScale", unfollowed := true, recurses := true, apart := false, narrowed := true }
def FnContractScaleUptoSaid : Prop := fnContractScaleUptoRow.holds Try.pinned (OpenSpec.upto fnContractScaleSpec)

/-- 'laws.FnContractBy', WHERE WHAT IT READS IS OF BULK AT MOST 1048576: true; the input reads as it did. -/
def fnContractByUptoRow : OpenClaim := { program := "ytbplegbgofnolaa", sum := "1d680be0904db45a441d9d73e8881a388fd3de20c890b0dc9fb643e5466c24e0", func := "loop.example/strideviews/laws.FnContractBy", spec := "fnContractBy", unfollowed := true, recurses := true, apart := false, narrowed := true }
def FnContractByUptoSaid : Prop := fnContractByUptoRow.holds Try.pinned (OpenSpec.upto fnContractBySpec)

/-- 'laws.FnMatMul', WHERE WHAT IT READS IS OF BULK AT MOST 1048576: true; the input reads as it did. -/
def fnMatMulUptoRow : OpenClaim := { program := "ytbplegbgofnolaa", sum := "1d680be0904db45a441d9d73e8881a388fd3de20c890b0dc9fb643e5466c24e0", func := "loop.example/strideviews/laws.FnMatMul", spec := "fnMatMul", unfollowed := true, recurses := true, apart := false, narrowed := true }
def FnMatMulUptoSaid : Prop := fnMatMulUptoRow.holds Try.pinned (OpenSpec.upto fnMatMulSpec)

/-- 'laws.FnTraceOf', WHERE WHAT IT READS IS OF BULK AT MOST 1048576: true; the input reads as it did. -/
def fnTraceOfUptoRow : OpenClaim := { program := "ytbplegbgofnolaa", sum := "1d680be0904db45a441d9d73e8881a388fd3de20c890b0dc9fb643e5466c24e0", func := "loop.example/strideviews/laws.FnTraceOf", spec := "fnTraceOf", unfollowed := true, recurses := true, apart := false, narrowed := true }
def FnTraceOfUptoSaid : Prop := fnTraceOfUptoRow.holds Try.pinned (OpenSpec.upto fnTraceOfSpec)

/-- 'laws.FnSumDim', WHERE WHAT IT READS IS OF BULK AT MOST 1048576: true; the input reads as it did. -/
def fnSumDimUptoRow : OpenClaim := { program := "ytbplegbgofnolaa", sum := "1d680be0904db45a441d9d73e8881a388fd3de20c890b0dc9fb643e5466c24e0", func := "loop.example/strideviews/laws.FnSumDim", spec := "fnSumDim", unfollowed := true, recurses := true, apart := false, narrowed := true }
def FnSumDimUptoSaid : Prop := fnSumDimUptoRow.holds Try.pinned (OpenSpec.upto fnSumDimSpec)

/-- 'laws.FnTurnTensor', WHERE WHAT IT READS IS OF BULK AT MOST 1048576: true; the input reads as it did. -/
def fnTurnTensorUptoRow : OpenClaim := { program := "ytbplegbgofnolaa", sum := "1d680be0904db45a441d9d73e8881a388fd3de20c890b0dc9fb643e5466c24e0", func := "loop.example/strideviews/laws.FnTurnTensor", spec := "fnTurnTensor", unfollowed := true, recurses := true, apart := false, narrowed := true }
def FnTurnTensorUptoSaid : Prop := fnTurnTensorUptoRow.holds Try.pinned (OpenSpec.upto fnTurnTensorSpec)

end Rows
end Go.Proofs.Ytbplegbgofnolaa
