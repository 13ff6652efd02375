/-
  No cell of these rows narrows 'for every input' (looked for: loops, veiled, ifaces, maps, wideKeys, modest, calm, conditions, laid).
  DERIVED. THE GIVEN ROWS OF THIS SEAT. 7 by the template 'for every input the law returns true; each argument reads behind the call as it read before'; 0 by the template 'total and deterministic' (their statements: YtcnlcmehfanbdaaTotals.lean).
  GIVEN WITH THE SEED: the statements are not yours to turn. If you find one false, say at which input.
  Laid BY PROGRAM, IN A SANDBOX (cutbox-rows.mjs): the forced cells as the released guide's own fill.sh prints them over the translation c4ba7dadc127d53b… (all of the seat's roots in one cut). By AI agents, Wed Nov 11 2026. No macro, syntax, notation, axiom, sorry.
-/
import Derived.Test.YtcnlcmehfanbdaaChecked
import GoSem.Claim
import GoSem.ClaimJoined
import GoSem.ClaimMapViews
import Derived.JoinedTies
import Derived.KernelRfl
namespace Go.Proofs.Ytcnlcmehfanbdaa
/- THE CELL 'sum', in the pinned program and in every row, IS THE sha256 OF THE DUMP (.gsa) THAT YtcnlcmehfanbdaaProg.lean LOADS. Nothing in Lean hashes anything: it is a label: what it is worth is what the hold of that sum in a sandbox is worth. -/
noncomputable def Try.pinned : Pinned := { name := "ytcnlcmehfanbdaa", sum := "c4ba7dadc127d53b6b7c610524622db3e215509c4ff7fc88413c2d7f22e7cb35", checked := Try.checked }
namespace Rows
def none {H : Type} : Left H := { results := [], args := [] }

/-- 'laws.FnValidView': WHATEVER THE INPUT: true; the input reads as it did. -/
def fnValidViewSpec : ChangeSpec := { name := "fnValidView", fn := fun _ => fun
  | [d] => { results := [.lit (.bool true)], args := [d] }
  | _ => none }
def fnValidViewRow : OpenClaim := { program := "ytcnlcmehfanbdaa", sum := "c4ba7dadc127d53b6b7c610524622db3e215509c4ff7fc88413c2d7f22e7cb35", func := "loop.example/strideviews/laws.FnValidView", spec := "fnValidView", apart := false }
def FnValidViewSaid : Prop := fnValidViewRow.holds Try.pinned (OpenSpec.ofChange fnValidViewSpec)

/-- ITS FALSE NEIGHBOUR: 'it returns false'. Refute it at one input. -/
def fnValidViewWrong : ChangeSpec := { name := "fnValidView", fn := fun _ => fun
  | [d] => { results := [.lit (.bool false)], args := [d] }
  | _ => none }
def FnValidViewWrongFalsely : Prop := fnValidViewRow.holds Try.pinned (OpenSpec.ofChange fnValidViewWrong)

/-- 'laws.FnOffsetAt': WHATEVER THE INPUT: true; the input reads as it did. -/
def fnOffsetAtSpec : ChangeSpec := { name := "fnOffsetAt", fn := fun _ => fun
  | [d] => { results := [.lit (.bool true)], args := [d] }
  | _ => none }
def fnOffsetAtRow : OpenClaim := { program := "ytcnlcmehfanbdaa", sum := "c4ba7dadc127d53b6b7c610524622db3e215509c4ff7fc88413c2d7f22e7cb35", func := "loop.example/strideviews/laws.FnOffsetAt", spec := "fnOffsetAt", apart := false }
def FnOffsetAtSaid : Prop := fnOffsetAtRow.holds Try.pinned (OpenSpec.ofChange fnOffsetAtSpec)

/-- ITS FALSE NEIGHBOUR: 'it returns false'. Refute it at one input. -/
def fnOffsetAtWrong : ChangeSpec := { name := "fnOffsetAt", fn := fun _ => fun
  | [d] => { results := [.lit (.bool false)], args := [d] }
  | _ => none }
def FnOffsetAtWrongFalsely : Prop := fnOffsetAtRow.holds Try.pinned (OpenSpec.ofChange fnOffsetAtWrong)

/-- 'laws.FnOffsetsOf': WHATEVER THE INPUT: true; the input reads as it did. -/
def fnOffsetsOfSpec : ChangeSpec := { name := "fnOffsetsOf", fn := fun _ => fun
  | [d] => { results := [.lit (.bool true)], args := [d] }
  | _ => none }
def fnOffsetsOfRow : OpenClaim := { program := "ytcnlcmehfanbdaa", sum := "c4ba7dadc127d53b6b7c610524622db3e215509c4ff7fc88413c2d7f22e7cb35", func := "loop.example/strideviews/laws.FnOffsetsOf", spec := "fnOffsetsOf", apart := false }
def FnOffsetsOfSaid : Prop := fnOffsetsOfRow.holds Try.pinned (OpenSpec.ofChange fnOffsetsOfSpec)

/-- ITS FALSE NEIGHBOUR: 'it returns false'. Refute it at one input. -/
def fnOffsetsOfWrong : ChangeSpec := { name := "fnOffsetsOf", fn := fun _ => fun
  | [d] => { results := [.lit (.bool false)], args := [d] }
  | _ => none }
def FnOffsetsOfWrongFalsely : Prop := fnOffsetsOfRow.holds Try.pinned (OpenSpec.ofChange fnOffsetsOfWrong)

/-- 'laws.FnIsRow': WHATEVER THE INPUT: true; the input reads as it did. -/
def fnIsRowSpec : ChangeSpec := { name := "fnIsRow", fn := fun _ => fun
  | [d] => { results := [.lit (.bool true)], args := [d] }
  | _ => none }
def fnIsRowRow : OpenClaim := { program := "ytcnlcmehfanbdaa", sum := "c4ba7dadc127d53b6b7c610524622db3e215509c4ff7fc88413c2d7f22e7cb35", func := "loop.example/strideviews/laws.FnIsRow", spec := "fnIsRow", apart := false }
def FnIsRowSaid : Prop := fnIsRowRow.holds Try.pinned (OpenSpec.ofChange fnIsRowSpec)

/-- ITS FALSE NEIGHBOUR: 'it returns false'. Refute it at one input. -/
def fnIsRowWrong : ChangeSpec := { name := "fnIsRow", fn := fun _ => fun
  | [d] => { results := [.lit (.bool false)], args := [d] }
  | _ => none }
def FnIsRowWrongFalsely : Prop := fnIsRowRow.holds Try.pinned (OpenSpec.ofChange fnIsRowWrong)

/-- 'laws.FnIsCol': WHATEVER THE INPUT: true; the input reads as it did. -/
def fnIsColSpec : ChangeSpec := { name := "fnIsCol", fn := fun _ => fun
  | [d] => { results := [.lit (.bool true)], args := [d] }
  | _ => none }
def fnIsColRow : OpenClaim := { program := "ytcnlcmehfanbdaa", sum := "c4ba7dadc127d53b6b7c610524622db3e215509c4ff7fc88413c2d7f22e7cb35", func := "loop.example/strideviews/laws.FnIsCol", spec := "fnIsCol", apart := false }
def FnIsColSaid : Prop := fnIsColRow.holds Try.pinned (OpenSpec.ofChange fnIsColSpec)

/-- ITS FALSE NEIGHBOUR: 'it returns false'. Refute it at one input. -/
def fnIsColWrong : ChangeSpec := { name := "fnIsCol", fn := fun _ => fun
  | [d] => { results := [.lit (.bool false)], args := [d] }
  | _ => none }
def FnIsColWrongFalsely : Prop := fnIsColRow.holds Try.pinned (OpenSpec.ofChange fnIsColWrong)

/-- 'laws.FnBoundsOf': WHATEVER THE INPUT: true; the input reads as it did. -/
def fnBoundsOfSpec : ChangeSpec := { name := "fnBoundsOf", fn := fun _ => fun
  | [d] => { results := [.lit (.bool true)], args := [d] }
  | _ => none }
def fnBoundsOfRow : OpenClaim := { program := "ytcnlcmehfanbdaa", sum := "c4ba7dadc127d53b6b7c610524622db3e215509c4ff7fc88413c2d7f22e7cb35", func := "loop.example/strideviews/laws.FnBoundsOf", spec := "fnBoundsOf", apart := false }
def FnBoundsOfSaid : Prop := fnBoundsOfRow.holds Try.pinned (OpenSpec.ofChange fnBoundsOfSpec)

/-- ITS FALSE NEIGHBOUR: 'it returns false'. Refute it at one input. -/
def fnBoundsOfWrong : ChangeSpec := { name := "fnBoundsOf", fn := fun _ => fun
  | [d] => { results := [.lit (.bool false)], args := [d] }
  | _ => none }
def FnBoundsOfWrongFalsely : Prop := fnBoundsOfRow.holds Try.pinned (OpenSpec.ofChange fnBoundsOfWrong)

/-- 'laws.FnFitsIn': WHATEVER THE INPUT: true; the input reads as it did. -/
def fnFitsInSpec : ChangeSpec := { name := "fnFitsIn", fn := fun _ => fun
  | [d] => { results := [.lit (.bool true)], args := [d] }
  | _ => none }
def fnFitsInRow : OpenClaim := { program := "ytcnlcmehfanbdaa", sum := "c4ba7dadc127d53b6b7c610524622db3e215509c4ff7fc88413c2d7f22e7cb35", func := "loop.example/strideviews/laws.FnFitsIn", spec := "fnFitsIn", apart := false }
def FnFitsInSaid : Prop := fnFitsInRow.holds Try.pinned (OpenSpec.ofChange fnFitsInSpec)

/-- ITS FALSE NEIGHBOUR: 'it returns false'. Refute it at one input. -/
def fnFitsInWrong : ChangeSpec := { name := "fnFitsIn", fn := fun _ => fun
  | [d] => { results := [.lit (.bool false)], args := [d] }
  | _ => none }
def FnFitsInWrongFalsely : Prop := fnFitsInRow.holds Try.pinned (OpenSpec.ofChange fnFitsInWrong)

/- THE SECOND FORM. 'bulk': how many values and letters a reading holds, each counted each time it is reached (what is shared counts as often as it is met; a slice's spare places count too). A statement '..UptoSaid' is the law's where the arguments, and the package variables that the reading takes, are together of bulk at most 1048576: NARROWER than '..Said'. Prove '..Said' where nothing that the law and all that it calls make is longer than what came in: it says more and counts as full. Else prove '..UptoSaid'. A law counts once. -/
mutual
def uptoBulk {H : Type} : DataW H → Nat
  | .lit (.string bytes) => bytes.length + 1
  | .lit _ => 1
  | .nil => 1
  | .ptr d => uptoBulk d + 1
  | .slice elems spare => uptoBulkAll elems + uptoBulkAll spare + 1
  | .agg parts => uptoBulkAll parts + 1
  | .iface _ d => uptoBulk d + 1
  | .map entries => uptoBulkEntries entries + 1
  | .held _ => 1
def uptoBulkAll {H : Type} : List (DataW H) → Nat
  | [] => 0
  | d :: r => uptoBulk d + uptoBulkAll r
def uptoBulkEntries {H : Type} : List (Lit × DataW H) → Nat
  | [] => 0
  | x :: r => uptoBulkEntry x + uptoBulkEntries r
def uptoBulkEntry {H : Type} : Lit × DataW H → Nat
  | (.string bytes, d) => bytes.length + uptoBulk d + 1
  | (_, d) => uptoBulk d + 1
 end
def uptoSmall : (H : Type) → List (DataW H) → Bool := fun _ ds => decide (uptoBulkAll ds ≤ 1048576)
def OpenSpec.upto (s : _root_.Go.ChangeSpec) : _root_.Go.OpenSpec := { _root_.Go.OpenSpec.ofChange s with cond := some uptoSmall }

/-- 'laws.FnValidView', WHERE WHAT IT READS IS OF BULK AT MOST 1048576: true; the input reads as it did. -/
def fnValidViewUptoRow : OpenClaim := { program := "ytcnlcmehfanbdaa", sum := "c4ba7dadc127d53b6b7c610524622db3e215509c4ff7fc88413c2d7f22e7cb35", func := "loop.example/strideviews/laws.FnValidView", spec := "fnValidView", apart := false, narrowed := true }
def FnValidViewUptoSaid : Prop := fnValidViewUptoRow.holds Try.pinned (OpenSpec.upto fnValidViewSpec)

/-- 'laws.FnOffsetAt', WHERE WHAT IT READS IS OF BULK AT MOST 1048576: true; the input reads as it did. -/
def fnOffsetAtUptoRow : OpenClaim := { program := "ytcnlcmehfanbdaa", sum := "c4ba7dadc127d53b6b7c610524622db3e215509c4ff7fc88413c2d7f22e7cb35", func := "loop.example/strideviews/laws.FnOffsetAt", spec := "fnOffsetAt", apart := false, narrowed := true }
def FnOffsetAtUptoSaid : Prop := fnOffsetAtUptoRow.holds Try.pinned (OpenSpec.upto fnOffsetAtSpec)

/-- 'laws.FnOffsetsOf', WHERE WHAT IT READS IS OF BULK AT MOST 1048576: true; the input reads as it did. -/
def fnOffsetsOfUptoRow : OpenClaim := { program := "ytcnlcmehfanbdaa", sum := "c4ba7dadc127d53b6b7c610524622db3e215509c4ff7fc88413c2d7f22e7cb35", func := "loop.example/strideviews/laws.FnOffsetsOf", spec := "fnOffsetsOf", apart := false, narrowed := true }
def FnOffsetsOfUptoSaid : Prop := fnOffsetsOfUptoRow.holds Try.pinned (OpenSpec.upto fnOffsetsOfSpec)

/-- 'laws.FnIsRow', WHERE WHAT IT READS IS OF BULK AT MOST 1048576: true; the input reads as it did. -/
def fnIsRowUptoRow : OpenClaim := { program := "ytcnlcmehfanbdaa", sum := "c4ba7dadc127d53b6b7c610524622db3e215509c4ff7fc88413c2d7f22e7cb35", func := "loop.example/strideviews/laws.FnIsRow", spec := "fnIsRow", apart := false, narrowed := true }
def FnIsRowUptoSaid : Prop := fnIsRowUptoRow.holds Try.pinned (OpenSpec.upto fnIsRowSpec)

/-- 'laws.FnIsCol', WHERE WHAT IT READS IS OF BULK AT MOST 1048576: true; the input reads as it did. -/
def fnIsColUptoRow : OpenClaim := { program := "ytcnlcmehfanbdaa", sum := "c4ba7dadc127d53b6b7c610524622db3e215509c4ff7fc88413c2d7f22e7cb35", func := "loop.example/strideviews/laws.FnIsCol", spec := "fnIsCol", apart := false, narrowed := true }
def FnIsColUptoSaid : Prop := fnIsColUptoRow.holds Try.pinned (OpenSpec.upto fnIsColSpec)

/-- 'laws.FnBoundsOf', WHERE WHAT IT READS IS OF BULK AT MOST 1048576: true; the input reads as it did. -/
def fnBoundsOfUptoRow : OpenClaim := { program := "ytcnlcmehfanbdaa", sum := "c4ba7dadc127d53b6b7c610524622db3e215509c4ff7fc88413c2d7f22e7cb35", func := "loop.example/strideviews/laws.FnBoundsOf", spec := "fnBoundsOf", apart := false, narrowed := true }
def FnBoundsOfUptoSaid : Prop := fnBoundsOfUptoRow.holds Try.pinned (OpenSpec.upto fnBoundsOfSpec)

/-- 'laws.FnFitsIn', WHERE WHAT IT READS IS OF BULK AT MOST 1048576: true; the input reads as it did. -/
def fnFitsInUptoRow : OpenClaim := { program := "ytcnlcmehfanbdaa", sum := "c4ba7dadc127d53b6b7c610524622db3e215509c4ff7fc88413c2d7f22e7cb35", func := "loop.example/strideviews/laws.FnFitsIn", spec := "fnFitsIn", apart := false, narrowed := true }
def FnFitsInUptoSaid : Prop := fnFitsInUptoRow.holds Try.pinned (OpenSpec.upto fnFitsInSpec)

end Rows
end Go.Proofs.Ytcnlcmehfanbdaa
