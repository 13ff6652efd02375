/-
  No cell of these rows narrows 'for every input' (looked for: loops, veiled, ifaces, maps, wideKeys, modest, calm, conditions, laid).
  DERIVED. THE GIVEN ROWS OF THIS SEAT. 5 by the template 'for every input the law returns true; each argument reads behind the call as it read before'; 0 by the template 'total and deterministic' (their statements: YtceopplkfomalaaTotals.lean).
  GIVEN WITH THE SEED: the statements are not yours to turn. If you find one false, say at which input.
  Laid BY PROGRAM, IN A SANDBOX (cutbox-rows.mjs): the forced cells as the released guide's own fill.sh prints them over the translation 9063600b22e47123… (all of the seat's roots in one cut). By AI agents, Wed Nov 11 2026. No macro, syntax, notation, axiom, sorry.
-/
import Derived.Test.YtceopplkfomalaaChecked
import GoSem.Claim
import GoSem.ClaimJoined
import GoSem.ClaimMapViews
import Derived.JoinedTies
import Derived.KernelRfl
namespace Go.Proofs.Ytceopplkfomalaa
/- THE CELL 'sum', in the pinned program and in every row, IS THE sha256 OF THE DUMP (.gsa) THAT YtceopplkfomalaaProg.lean LOADS. Nothing in Lean hashes anything: it is a label: what it is worth is what the hold of that sum in a sandbox is worth. -/
noncomputable def Try.pinned : Pinned := { name := "ytceopplkfomalaa", sum := "9063600b22e47123860ef4cdf79601417c473d42798b5e98d4458c1c6e5fc7d0", checked := Try.checked }
namespace Rows
def none {H : Type} : Left H := { results := [], args := [] }

/-- 'laws.FnGapsOf': WHATEVER THE INPUT: true; the input reads as it did. -/
def fnGapsOfSpec : ChangeSpec := { name := "fnGapsOf", fn := fun _ => fun
  | [d] => { results := [.lit (.bool true)], args := [d] }
  | _ => none }
def fnGapsOfRow : OpenClaim := { program := "ytceopplkfomalaa", sum := "9063600b22e47123860ef4cdf79601417c473d42798b5e98d4458c1c6e5fc7d0", func := "loop.example/strideviews/laws.FnGapsOf", spec := "fnGapsOf", unfollowed := true, recurses := true, apart := false }
def FnGapsOfSaid : Prop := fnGapsOfRow.holds Try.pinned (OpenSpec.ofChange fnGapsOfSpec)

/-- ITS FALSE NEIGHBOUR: 'it returns false'. Refute it at one input. -/
def fnGapsOfWrong : ChangeSpec := { name := "fnGapsOf", fn := fun _ => fun
  | [d] => { results := [.lit (.bool false)], args := [d] }
  | _ => none }
def FnGapsOfWrongFalsely : Prop := fnGapsOfRow.holds Try.pinned (OpenSpec.ofChange fnGapsOfWrong)

/-- 'laws.FnTilesOf': WHATEVER THE INPUT: true; the input reads as it did. -/
def fnTilesOfSpec : ChangeSpec := { name := "fnTilesOf", fn := fun _ => fun
  | [d] => { results := [.lit (.bool true)], args := [d] }
  | _ => none }
def fnTilesOfRow : OpenClaim := { program := "ytceopplkfomalaa", sum := "9063600b22e47123860ef4cdf79601417c473d42798b5e98d4458c1c6e5fc7d0", func := "loop.example/strideviews/laws.FnTilesOf", spec := "fnTilesOf", recurses := true, apart := false }
def FnTilesOfSaid : Prop := fnTilesOfRow.holds Try.pinned (OpenSpec.ofChange fnTilesOfSpec)

/-- ITS FALSE NEIGHBOUR: 'it returns false'. Refute it at one input. -/
def fnTilesOfWrong : ChangeSpec := { name := "fnTilesOf", fn := fun _ => fun
  | [d] => { results := [.lit (.bool false)], args := [d] }
  | _ => none }
def FnTilesOfWrongFalsely : Prop := fnTilesOfRow.holds Try.pinned (OpenSpec.ofChange fnTilesOfWrong)

/-- 'laws.FnHoldersOf': WHATEVER THE INPUT: true; the input reads as it did. -/
def fnHoldersOfSpec : ChangeSpec := { name := "fnHoldersOf", fn := fun _ => fun
  | [d] => { results := [.lit (.bool true)], args := [d] }
  | _ => none }
def fnHoldersOfRow : OpenClaim := { program := "ytceopplkfomalaa", sum := "9063600b22e47123860ef4cdf79601417c473d42798b5e98d4458c1c6e5fc7d0", func := "loop.example/strideviews/laws.FnHoldersOf", spec := "fnHoldersOf", recurses := true, apart := false }
def FnHoldersOfSaid : Prop := fnHoldersOfRow.holds Try.pinned (OpenSpec.ofChange fnHoldersOfSpec)

/-- ITS FALSE NEIGHBOUR: 'it returns false'. Refute it at one input. -/
def fnHoldersOfWrong : ChangeSpec := { name := "fnHoldersOf", fn := fun _ => fun
  | [d] => { results := [.lit (.bool false)], args := [d] }
  | _ => none }
def FnHoldersOfWrongFalsely : Prop := fnHoldersOfRow.holds Try.pinned (OpenSpec.ofChange fnHoldersOfWrong)

/-- 'laws.FnDiagonalOf': WHATEVER THE INPUT: true; the input reads as it did. -/
def fnDiagonalOfSpec : ChangeSpec := { name := "fnDiagonalOf", fn := fun _ => fun
  | [d] => { results := [.lit (.bool true)], args := [d] }
  | _ => none }
def fnDiagonalOfRow : OpenClaim := { program := "ytceopplkfomalaa", sum := "9063600b22e47123860ef4cdf79601417c473d42798b5e98d4458c1c6e5fc7d0", func := "loop.example/strideviews/laws.FnDiagonalOf", spec := "fnDiagonalOf", apart := false }
def FnDiagonalOfSaid : Prop := fnDiagonalOfRow.holds Try.pinned (OpenSpec.ofChange fnDiagonalOfSpec)

/-- ITS FALSE NEIGHBOUR: 'it returns false'. Refute it at one input. -/
def fnDiagonalOfWrong : ChangeSpec := { name := "fnDiagonalOf", fn := fun _ => fun
  | [d] => { results := [.lit (.bool false)], args := [d] }
  | _ => none }
def FnDiagonalOfWrongFalsely : Prop := fnDiagonalOfRow.holds Try.pinned (OpenSpec.ofChange fnDiagonalOfWrong)

/-- 'laws.FnExactSwapViews': WHATEVER THE INPUT: true; the input reads as it did. -/
def fnExactSwapViewsSpec : ChangeSpec := { name := "fnExactSwapViews", fn := fun _ => fun
  | [d1, d2, d3] => { results := [.lit (.bool true)], args := [d1, d2, d3] }
  | _ => none }
def fnExactSwapViewsRow : OpenClaim := { program := "ytceopplkfomalaa", sum := "9063600b22e47123860ef4cdf79601417c473d42798b5e98d4458c1c6e5fc7d0", func := "loop.example/strideviews/laws.FnExactSwapViews", spec := "fnExactSwapViews", recurses := true, apart := false }
def FnExactSwapViewsSaid : Prop := fnExactSwapViewsRow.holds Try.pinned (OpenSpec.ofChange fnExactSwapViewsSpec)

/-- ITS FALSE NEIGHBOUR: 'it returns false'. Refute it at one input. -/
def fnExactSwapViewsWrong : ChangeSpec := { name := "fnExactSwapViews", fn := fun _ => fun
  | [d1, d2, d3] => { results := [.lit (.bool false)], args := [d1, d2, d3] }
  | _ => none }
def FnExactSwapViewsWrongFalsely : Prop := fnExactSwapViewsRow.holds Try.pinned (OpenSpec.ofChange fnExactSwapViewsWrong)

/- THE SECOND FORM. 'bulk': how many values and letters a reading holds, each counted each time it is reached (what is shared counts as often as it is met; a slice's spare places count too). A statement '..UptoSaid' is the law's where the arguments, and the package variables that the reading takes, are together of bulk at most 1048576: NARROWER than '..Said'. Prove '..Said' where nothing that the law and all that it calls make is longer than what came in: it says more and counts as full. Else prove '..UptoSaid'. A law counts once. -/
mutual
def uptoBulk {H : Type} : DataW H → Nat
  | .lit (.string bytes) => bytes.length + 1
  | .lit _ => 1
  | .nil => 1
  | .ptr d => uptoBulk d + 1
  | .slice elems spare => uptoBulkAll elems + uptoBulkAll spare + 1
  | .agg parts => uptoBulkAll parts + 1
  | .iface _ d => uptoBulk d + 1
  | .map entries => uptoBulkEntries entries + 1
  | .held _ => 1
def uptoBulkAll {H : Type} : List (DataW H) → Nat
  | [] => 0
  | d :: r => uptoBulk d + uptoBulkAll r
def uptoBulkEntries {H : Type} : List (Lit × DataW H) → Nat
  | [] => 0
  | x :: r => uptoBulkEntry x + uptoBulkEntries r
def uptoBulkEntry {H : Type} : Lit × DataW H → Nat
  | (.string bytes, d) => bytes.length + uptoBulk d + 1
  | (_, d) => uptoBulk d + 1
 end
def uptoSmall : (H : Type) → List (DataW H) → Bool := fun _ ds => decide (uptoBulkAll ds ≤ 1048576)
def OpenSpec.upto (s : _root_.Go.ChangeSpec) : _root_.Go.OpenSpec := { _root_.Go.OpenSpec.ofChange s with cond := some uptoSmall }

/-- 'laws.FnGapsOf', WHERE WHAT IT READS IS OF BULK AT MOST 1048576: true; the input reads as it did. -/
def fnGapsOfUptoRow : OpenClaim := { program := "ytceopplkfomalaa", sum := "9063600b22e47123860ef4cdf79601417c473d42798b5e98d4458c1c6e5fc7d0", func := "loop.example/strideviews/laws.FnGapsOf", spec := "fnGapsOf", unfollowed := true, recurses := true, apart := false, narrowed := true }
def FnGapsOfUptoSaid : Prop := fnGapsOfUptoRow.holds Try.pinned (OpenSpec.upto fnGapsOfSpec)

/-- 'laws.FnTilesOf', WHERE WHAT IT READS IS OF BULK AT MOST 1048576: true; the input reads as it did. -/
def fnTilesOfUptoRow : OpenClaim := { program := "ytceopplkfomalaa", sum := "9063600b22e47123860ef4cdf79601417c473d42798b5e98d4458c1c6e5fc7d0", func := "loop.example/strideviews/laws.FnTilesOf", spec := "fnTilesOf", recurses := true, apart := false, narrowed := true }
def FnTilesOfUptoSaid : Prop := fnTilesOfUptoRow.holds Try.pinned (OpenSpec.upto fnTilesOfSpec)

/-- 'laws.FnHoldersOf', WHERE WHAT IT READS IS OF BULK AT MOST 1048576: true; the input reads as it did. -/
def fnHoldersOfUptoRow : OpenClaim := { program := "ytceopplkfomalaa", sum := "9063600b22e47123860ef4cdf79601417c473d42798b5e98d4458c1c6e5fc7d0", func := "loop.example/strideviews/laws.FnHoldersOf", spec := "fnHoldersOf", recurses := true, apart := false, narrowed := true }
def FnHoldersOfUptoSaid : Prop := fnHoldersOfUptoRow.holds Try.pinned (OpenSpec.upto fnHoldersOfSpec)

/-- 'laws.FnDiagonalOf', WHERE WHAT IT READS IS OF BULK AT MOST 1048576: true; the input reads as it did. -/
def fnDiagonalOfUptoRow : OpenClaim := { program := "ytceopplkfomalaa", sum := "9063600b22e47123860ef4cdf79601417c473d42798b5e98d4458c1c6e5fc7d0", func := "loop.example/strideviews/laws.FnDiagonalOf", spec := "fnDiagonalOf", apart := false, narrowed := true }
def FnDiagonalOfUptoSaid : Prop := fnDiagonalOfUptoRow.holds Try.pinned (OpenSpec.upto fnDiagonalOfSpec)

/-- 'laws.FnExactSwapViews', WHERE WHAT IT READS IS OF BULK AT MOST 1048576: true; the input reads as it did. -/
def fnExactSwapViewsUptoRow : OpenClaim := { program := "ytceopplkfomalaa", sum := "9063600b22e47123860ef4cdf79601417c473d42798b5e98d4458c1c6e5fc7d0", func := "loop.example/strideviews/laws.FnExactSwapViews", spec := "fnExactSwapViews", recurses := true, apart := false, narrowed := true }
def FnExactSwapViewsUptoSaid : Prop := fnExactSwapViewsUptoRow.holds Try.pinned (OpenSpec.upto fnExactSwapViewsSpec)

end Rows
end Go.Proofs.Ytceopplkfomalaa
