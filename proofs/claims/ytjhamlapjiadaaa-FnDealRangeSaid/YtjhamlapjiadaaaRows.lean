/-
  No cell of these rows narrows 'for every input' (looked for: loops, veiled, ifaces, maps, wideKeys, modest, calm, conditions, laid).
  DERIVED. THE GIVEN ROWS OF THIS SEAT. 7 by the template 'for every input the law returns true; each argument reads behind the call as it read before'; 0 by the template 'total and deterministic' (their statements: YtjhamlapjiadaaaTotals.lean).
  GIVEN WITH THE SEED: the statements are not yours to turn. If you find one false, say at which input.
  Laid BY PROGRAM, IN A SANDBOX (cutbox-rows.mjs): the forced cells as the released guide's own fill.sh prints them over the translation 92150218403ee18c… (all of the seat's roots in one cut). By AI agents, Wed Nov 11 2026. No macro, syntax, notation, axiom, sorry.
-/
import Derived.Test.YtjhamlapjiadaaaChecked
import GoSem.Claim
import GoSem.ClaimJoined
import GoSem.ClaimMapViews
import Derived.JoinedTies
import Derived.KernelRfl
namespace Go.Proofs.Ytjhamlapjiadaaa
/- THE CELL 'sum', in the pinned program and in every row, IS THE sha256 OF THE DUMP (.gsa) THAT YtjhamlapjiadaaaProg.lean LOADS. Nothing in Lean hashes anything: it is a label: what it is worth is what the hold of that sum in a sandbox is worth. -/
noncomputable def Try.pinned : Pinned := { name := "ytjhamlapjiadaaa", sum := "92150218403ee18c498dea953f43112ee53ab8ec38d6dabe0363bdf9618e1ab5", checked := Try.checked }
namespace Rows
def none {H : Type} : Left H := { results := [], args := [] }

/-- 'laws.FnDealRange': WHATEVER THE INPUT: true; the input reads as it did. -/
def fnDealRangeSpec : ChangeSpec := { name := "fnDealRange", fn := fun _ => fun
  | [d] => { results := [.lit (.bool true)], args := [d] }
  | _ => none }
def fnDealRangeRow : OpenClaim := { program := "ytjhamlapjiadaaa", sum := "92150218403ee18c498dea953f43112ee53ab8ec38d6dabe0363bdf9618e1ab5", func := "loop.example/strideviews/laws.FnDealRange", spec := "fnDealRange", apart := false }
def FnDealRangeSaid : Prop := fnDealRangeRow.holds Try.pinned (OpenSpec.ofChange fnDealRangeSpec)

/-- ITS FALSE NEIGHBOUR: 'it returns false'. Refute it at one input. -/
def fnDealRangeWrong : ChangeSpec := { name := "fnDealRange", fn := fun _ => fun
  | [d] => { results := [.lit (.bool false)], args := [d] }
  | _ => none }
def FnDealRangeWrongFalsely : Prop := fnDealRangeRow.holds Try.pinned (OpenSpec.ofChange fnDealRangeWrong)

/-- 'laws.FnValidShape': WHATEVER THE INPUT: true; the input reads as it did. -/
def fnValidShapeSpec : ChangeSpec := { name := "fnValidShape", fn := fun _ => fun
  | [d] => { results := [.lit (.bool true)], args := [d] }
  | _ => none }
def fnValidShapeRow : OpenClaim := { program := "ytjhamlapjiadaaa", sum := "92150218403ee18c498dea953f43112ee53ab8ec38d6dabe0363bdf9618e1ab5", func := "loop.example/strideviews/laws.FnValidShape", spec := "fnValidShape", apart := false }
def FnValidShapeSaid : Prop := fnValidShapeRow.holds Try.pinned (OpenSpec.ofChange fnValidShapeSpec)

/-- ITS FALSE NEIGHBOUR: 'it returns false'. Refute it at one input. -/
def fnValidShapeWrong : ChangeSpec := { name := "fnValidShape", fn := fun _ => fun
  | [d] => { results := [.lit (.bool false)], args := [d] }
  | _ => none }
def FnValidShapeWrongFalsely : Prop := fnValidShapeRow.holds Try.pinned (OpenSpec.ofChange fnValidShapeWrong)

/-- 'laws.FnCountOf': WHATEVER THE INPUT: true; the input reads as it did. -/
def fnCountOfSpec : ChangeSpec := { name := "fnCountOf", fn := fun _ => fun
  | [d] => { results := [.lit (.bool true)], args := [d] }
  | _ => none }
def fnCountOfRow : OpenClaim := { program := "ytjhamlapjiadaaa", sum := "92150218403ee18c498dea953f43112ee53ab8ec38d6dabe0363bdf9618e1ab5", func := "loop.example/strideviews/laws.FnCountOf", spec := "fnCountOf", apart := false }
def FnCountOfSaid : Prop := fnCountOfRow.holds Try.pinned (OpenSpec.ofChange fnCountOfSpec)

/-- ITS FALSE NEIGHBOUR: 'it returns false'. Refute it at one input. -/
def fnCountOfWrong : ChangeSpec := { name := "fnCountOf", fn := fun _ => fun
  | [d] => { results := [.lit (.bool false)], args := [d] }
  | _ => none }
def FnCountOfWrongFalsely : Prop := fnCountOfRow.holds Try.pinned (OpenSpec.ofChange fnCountOfWrong)

/-- 'laws.FnIndexAt': WHATEVER THE INPUT: true; the input reads as it did. -/
def fnIndexAtSpec : ChangeSpec := { name := "fnIndexAt", fn := fun _ => fun
  | [d] => { results := [.lit (.bool true)], args := [d] }
  | _ => none }
def fnIndexAtRow : OpenClaim := { program := "ytjhamlapjiadaaa", sum := "92150218403ee18c498dea953f43112ee53ab8ec38d6dabe0363bdf9618e1ab5", func := "loop.example/strideviews/laws.FnIndexAt", spec := "fnIndexAt", apart := false }
def FnIndexAtSaid : Prop := fnIndexAtRow.holds Try.pinned (OpenSpec.ofChange fnIndexAtSpec)

/-- ITS FALSE NEIGHBOUR: 'it returns false'. Refute it at one input. -/
def fnIndexAtWrong : ChangeSpec := { name := "fnIndexAt", fn := fun _ => fun
  | [d] => { results := [.lit (.bool false)], args := [d] }
  | _ => none }
def FnIndexAtWrongFalsely : Prop := fnIndexAtRow.holds Try.pinned (OpenSpec.ofChange fnIndexAtWrong)

/-- 'laws.FnRankOf': WHATEVER THE INPUT: true; the input reads as it did. -/
def fnRankOfSpec : ChangeSpec := { name := "fnRankOf", fn := fun _ => fun
  | [d] => { results := [.lit (.bool true)], args := [d] }
  | _ => none }
def fnRankOfRow : OpenClaim := { program := "ytjhamlapjiadaaa", sum := "92150218403ee18c498dea953f43112ee53ab8ec38d6dabe0363bdf9618e1ab5", func := "loop.example/strideviews/laws.FnRankOf", spec := "fnRankOf", apart := false }
def FnRankOfSaid : Prop := fnRankOfRow.holds Try.pinned (OpenSpec.ofChange fnRankOfSpec)

/-- ITS FALSE NEIGHBOUR: 'it returns false'. Refute it at one input. -/
def fnRankOfWrong : ChangeSpec := { name := "fnRankOf", fn := fun _ => fun
  | [d] => { results := [.lit (.bool false)], args := [d] }
  | _ => none }
def FnRankOfWrongFalsely : Prop := fnRankOfRow.holds Try.pinned (OpenSpec.ofChange fnRankOfWrong)

/-- 'laws.FnRowStrides': WHATEVER THE INPUT: true; the input reads as it did. -/
def fnRowStridesSpec : ChangeSpec := { name := "fnRowStrides", fn := fun _ => fun
  | [d] => { results := [.lit (.bool true)], args := [d] }
  | _ => none }
def fnRowStridesRow : OpenClaim := { program := "ytjhamlapjiadaaa", sum := "92150218403ee18c498dea953f43112ee53ab8ec38d6dabe0363bdf9618e1ab5", func := "loop.example/strideviews/laws.FnRowStrides", spec := "fnRowStrides", apart := false }
def FnRowStridesSaid : Prop := fnRowStridesRow.holds Try.pinned (OpenSpec.ofChange fnRowStridesSpec)

/-- ITS FALSE NEIGHBOUR: 'it returns false'. Refute it at one input. -/
def fnRowStridesWrong : ChangeSpec := { name := "fnRowStrides", fn := fun _ => fun
  | [d] => { results := [.lit (.bool false)], args := [d] }
  | _ => none }
def FnRowStridesWrongFalsely : Prop := fnRowStridesRow.holds Try.pinned (OpenSpec.ofChange fnRowStridesWrong)

/-- 'laws.FnColStrides': WHATEVER THE INPUT: true; the input reads as it did. -/
def fnColStridesSpec : ChangeSpec := { name := "fnColStrides", fn := fun _ => fun
  | [d] => { results := [.lit (.bool true)], args := [d] }
  | _ => none }
def fnColStridesRow : OpenClaim := { program := "ytjhamlapjiadaaa", sum := "92150218403ee18c498dea953f43112ee53ab8ec38d6dabe0363bdf9618e1ab5", func := "loop.example/strideviews/laws.FnColStrides", spec := "fnColStrides", apart := false }
def FnColStridesSaid : Prop := fnColStridesRow.holds Try.pinned (OpenSpec.ofChange fnColStridesSpec)

/-- ITS FALSE NEIGHBOUR: 'it returns false'. Refute it at one input. -/
def fnColStridesWrong : ChangeSpec := { name := "fnColStrides", fn := fun _ => fun
  | [d] => { results := [.lit (.bool false)], args := [d] }
  | _ => none }
def FnColStridesWrongFalsely : Prop := fnColStridesRow.holds Try.pinned (OpenSpec.ofChange fnColStridesWrong)

/- THE SECOND FORM. 'bulk': how many values and letters a reading holds, each counted each time it is reached (what is shared counts as often as it is met; a slice's spare places count too). A statement '..UptoSaid' is the law's where the arguments, and the package variables that the reading takes, are together of bulk at most 1048576: NARROWER than '..Said'. Prove '..Said' where nothing that the law and all that it calls make is longer than what came in: it says more and counts as full. Else prove '..UptoSaid'. A law counts once. -/
mutual
def uptoBulk {H : Type} : DataW H → Nat
  | .lit (.string bytes) => bytes.length + 1
  | .lit _ => 1
  | .nil => 1
  | .ptr d => uptoBulk d + 1
  | .slice elems spare => uptoBulkAll elems + uptoBulkAll spare + 1
  | .agg parts => uptoBulkAll parts + 1
  | .iface _ d => uptoBulk d + 1
  | .map entries => uptoBulkEntries entries + 1
  | .held _ => 1
def uptoBulkAll {H : Type} : List (DataW H) → Nat
  | [] => 0
  | d :: r => uptoBulk d + uptoBulkAll r
def uptoBulkEntries {H : Type} : List (Lit × DataW H) → Nat
  | [] => 0
  | x :: r => uptoBulkEntry x + uptoBulkEntries r
def uptoBulkEntry {H : Type} : Lit × DataW H → Nat
  | (.string bytes, d) => bytes.length + uptoBulk d + 1
  | (_, d) => uptoBulk d + 1
 end
def uptoSmall : (H : Type) → List (DataW H) → Bool := fun _ ds => decide (uptoBulkAll ds ≤ 1048576)
def OpenSpec.upto (s : _root_.Go.ChangeSpec) : _root_.Go.OpenSpec := { _root_.Go.OpenSpec.ofChange s with cond := some uptoSmall }

/-- 'laws.FnDealRange', WHERE WHAT IT READS IS OF BULK AT MOST 1048576: true; the input reads as it did. -/
def fnDealRangeUptoRow : OpenClaim := { program := "ytjhamlapjiadaaa", sum := "92150218403ee18c498dea953f43112ee53ab8ec38d6dabe0363bdf9618e1ab5", func := "loop.example/strideviews/laws.FnDealRange", spec := "fnDealRange", apart := false, narrowed := true }
def FnDealRangeUptoSaid : Prop := fnDealRangeUptoRow.holds Try.pinned (OpenSpec.upto fnDealRangeSpec)

/-- 'laws.FnValidShape', WHERE WHAT IT READS IS OF BULK AT MOST 1048576: true; the input reads as it did. -/
def fnValidShapeUptoRow : OpenClaim := { program := "ytjhamlapjiadaaa", sum := "92150218403ee18c498dea953f43112ee53ab8ec38d6dabe0363bdf9618e1ab5", func := "loop.example/strideviews/laws.FnValidShape", spec := "fnValidShape", apart := false, narrowed := true }
def FnValidShapeUptoSaid : Prop := fnValidShapeUptoRow.holds Try.pinned (OpenSpec.upto fnValidShapeSpec)

/-- 'laws.FnCountOf', WHERE WHAT IT READS IS OF BULK AT MOST 1048576: true; the input reads as it did. -/
def fnCountOfUptoRow : OpenClaim := { program := "ytjhamlapjiadaaa", sum := "92150218403ee18c498dea953f43112ee53ab8ec38d6dabe0363bdf9618e1ab5", func := "loop.example/strideviews/laws.FnCountOf", spec := "fnCountOf", apart := false, narrowed := true }
def FnCountOfUptoSaid : Prop := fnCountOfUptoRow.holds Try.pinned (OpenSpec.upto fnCountOfSpec)

/-- 'laws.FnIndexAt', WHERE WHAT IT READS IS OF BULK AT MOST 1048576: true; the input reads as it did. -/
def fnIndexAtUptoRow : OpenClaim := { program := "ytjhamlapjiadaaa", sum := "92150218403ee18c498dea953f43112ee53ab8ec38d6dabe0363bdf9618e1ab5", func := "loop.example/strideviews/laws.FnIndexAt", spec := "fnIndexAt", apart := false, narrowed := true }
def FnIndexAtUptoSaid : Prop := fnIndexAtUptoRow.holds Try.pinned (OpenSpec.upto fnIndexAtSpec)

/-- 'laws.FnRankOf', WHERE WHAT IT READS IS OF BULK AT MOST 1048576: true; the input reads as it did. -/
def fnRankOfUptoRow : OpenClaim := { program := "ytjhamlapjiadaaa", sum := "92150218403ee18c498dea953f43112ee53ab8ec38d6dabe0363bdf9618e1ab5", func := "loop.example/strideviews/laws.FnRankOf", spec := "fnRankOf", apart := false, narrowed := true }
def FnRankOfUptoSaid : Prop := fnRankOfUptoRow.holds Try.pinned (OpenSpec.upto fnRankOfSpec)

/-- 'laws.FnRowStrides', WHERE WHAT IT READS IS OF BULK AT MOST 1048576: true; the input reads as it did. -/
def fnRowStridesUptoRow : OpenClaim := { program := "ytjhamlapjiadaaa", sum := "92150218403ee18c498dea953f43112ee53ab8ec38d6dabe0363bdf9618e1ab5", func := "loop.example/strideviews/laws.FnRowStrides", spec := "fnRowStrides", apart := false, narrowed := true }
def FnRowStridesUptoSaid : Prop := fnRowStridesUptoRow.holds Try.pinned (OpenSpec.upto fnRowStridesSpec)

/-- 'laws.FnColStrides', WHERE WHAT IT READS IS OF BULK AT MOST 1048576: true; the input reads as it did. -/
def fnColStridesUptoRow : OpenClaim := { program := "ytjhamlapjiadaaa", sum := "92150218403ee18c498dea953f43112ee53ab8ec38d6dabe0363bdf9618e1ab5", func := "loop.example/strideviews/laws.FnColStrides", spec := "fnColStrides", apart := false, narrowed := true }
def FnColStridesUptoSaid : Prop := fnColStridesUptoRow.holds Try.pinned (OpenSpec.upto fnColStridesSpec)

end Rows
end Go.Proofs.Ytjhamlapjiadaaa
