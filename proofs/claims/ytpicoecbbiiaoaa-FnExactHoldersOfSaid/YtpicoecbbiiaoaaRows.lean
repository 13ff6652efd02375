/-
  No cell of these rows narrows 'for every input' (looked for: loops, veiled, ifaces, maps, wideKeys, modest, calm, conditions, laid).
  DERIVED. THE GIVEN ROWS OF THIS SEAT. 5 by the template 'for every input the law returns true; each argument reads behind the call as it read before'; 0 by the template 'total and deterministic' (their statements: YtpicoecbbiiaoaaTotals.lean).
  GIVEN WITH THE SEED: the statements are not yours to turn. If you find one false, say at which input.
  Laid BY PROGRAM, IN A SANDBOX (cutbox-rows.mjs): the forced cells as the released guide's own fill.sh prints them over the translation fe7950b51a940b7f… (all of the seat's roots in one cut). By AI agents, Wed Nov 11 2026. No macro, syntax, notation, axiom, sorry.
-/
import Derived.Test.YtpicoecbbiiaoaaChecked
import GoSem.Claim
import GoSem.ClaimJoined
import GoSem.ClaimMapViews
import Derived.JoinedTies
import Derived.KernelRfl
namespace Go.Proofs.Ytpicoecbbiiaoaa
/- THE CELL 'sum', in the pinned program and in every row, IS THE sha256 OF THE DUMP (.gsa) THAT YtpicoecbbiiaoaaProg.lean LOADS. Nothing in Lean hashes anything: it is a label: what it is worth is what the hold of that sum in a sandbox is worth. -/
noncomputable def Try.pinned : Pinned := { name := "ytpicoecbbiiaoaa", sum := "fe7950b51a940b7fb1aa868306ec432042b3944558f2105afb59926b19f0a764", checked := Try.checked }
namespace Rows
def none {H : Type} : Left H := { results := [], args := [] }

/-- 'laws.FnExactHoldersOf': WHATEVER THE INPUT: true; the input reads as it did. -/
def fnExactHoldersOfSpec : ChangeSpec := { name := "fnExactHoldersOf", fn := fun _ => fun
  | [d1, d2] => { results := [.lit (.bool true)], args := [d1, d2] }
  | _ => none }
def fnExactHoldersOfRow : OpenClaim := { program := "ytpicoecbbiiaoaa", sum := "fe7950b51a940b7fb1aa868306ec432042b3944558f2105afb59926b19f0a764", func := "loop.example/strideviews/laws.FnExactHoldersOf", spec := "fnExactHoldersOf", apart := false }
def FnExactHoldersOfSaid : Prop := fnExactHoldersOfRow.holds Try.pinned (OpenSpec.ofChange fnExactHoldersOfSpec)

/-- ITS FALSE NEIGHBOUR: 'it returns false'. Refute it at one input. -/
def fnExactHoldersOfWrong : ChangeSpec := { name := "fnExactHoldersOf", fn := fun _ => fun
  | [d1, d2] => { results := [.lit (.bool false)], args := [d1, d2] }
  | _ => none }
def FnExactHoldersOfWrongFalsely : Prop := fnExactHoldersOfRow.holds Try.pinned (OpenSpec.ofChange fnExactHoldersOfWrong)

/-- 'laws.FnExactExtentsOf': WHATEVER THE INPUT: true; the input reads as it did. -/
def fnExactExtentsOfSpec : ChangeSpec := { name := "fnExactExtentsOf", fn := fun _ => fun
  | [d1, d2] => { results := [.lit (.bool true)], args := [d1, d2] }
  | _ => none }
def fnExactExtentsOfRow : OpenClaim := { program := "ytpicoecbbiiaoaa", sum := "fe7950b51a940b7fb1aa868306ec432042b3944558f2105afb59926b19f0a764", func := "loop.example/strideviews/laws.FnExactExtentsOf", spec := "fnExactExtentsOf", apart := false }
def FnExactExtentsOfSaid : Prop := fnExactExtentsOfRow.holds Try.pinned (OpenSpec.ofChange fnExactExtentsOfSpec)

/-- ITS FALSE NEIGHBOUR: 'it returns false'. Refute it at one input. -/
def fnExactExtentsOfWrong : ChangeSpec := { name := "fnExactExtentsOf", fn := fun _ => fun
  | [d1, d2] => { results := [.lit (.bool false)], args := [d1, d2] }
  | _ => none }
def FnExactExtentsOfWrongFalsely : Prop := fnExactExtentsOfRow.holds Try.pinned (OpenSpec.ofChange fnExactExtentsOfWrong)

/-- 'laws.FnExactKeptLabels': WHATEVER THE INPUT: true; the input reads as it did. -/
def fnExactKeptLabelsSpec : ChangeSpec := { name := "fnExactKeptLabels", fn := fun _ => fun
  | [d1, d2, d3, d4, d5] => { results := [.lit (.bool true)], args := [d1, d2, d3, d4, d5] }
  | _ => none }
def fnExactKeptLabelsRow : OpenClaim := { program := "ytpicoecbbiiaoaa", sum := "fe7950b51a940b7fb1aa868306ec432042b3944558f2105afb59926b19f0a764", func := "loop.example/strideviews/laws.FnExactKeptLabels", spec := "fnExactKeptLabels", apart := false }
def FnExactKeptLabelsSaid : Prop := fnExactKeptLabelsRow.holds Try.pinned (OpenSpec.ofChange fnExactKeptLabelsSpec)

/-- ITS FALSE NEIGHBOUR: 'it returns false'. Refute it at one input. -/
def fnExactKeptLabelsWrong : ChangeSpec := { name := "fnExactKeptLabels", fn := fun _ => fun
  | [d1, d2, d3, d4, d5] => { results := [.lit (.bool false)], args := [d1, d2, d3, d4, d5] }
  | _ => none }
def FnExactKeptLabelsWrongFalsely : Prop := fnExactKeptLabelsRow.holds Try.pinned (OpenSpec.ofChange fnExactKeptLabelsWrong)

/-- 'laws.FnExactContract': WHATEVER THE INPUT: true; the input reads as it did. -/
def fnExactContractSpec : ChangeSpec := { name := "fnExactContract", fn := fun _ => fun
  | [d1, d2, d3] => { results := [.lit (.bool true)], args := [d1, d2, d3] }
  | _ => none }
def fnExactContractRow : OpenClaim := { program := "ytpicoecbbiiaoaa", sum := "fe7950b51a940b7fb1aa868306ec432042b3944558f2105afb59926b19f0a764", func := "loop.example/strideviews/laws.FnExactContract", spec := "fnExactContract", unfollowed := true, recurses := true, apart := false }
def FnExactContractSaid : Prop := fnExactContractRow.holds Try.pinned (OpenSpec.ofChange fnExactContractSpec)

/-- ITS FALSE NEIGHBOUR: 'it returns false'. Refute it at one input. -/
def fnExactContractWrong : ChangeSpec := { name := "fnExactContract", fn := fun _ => fun
  | [d1, d2, d3] => { results := [.lit (.bool false)], args := [d1, d2, d3] }
  | _ => none }
def FnExactContractWrongFalsely : Prop := fnExactContractRow.holds Try.pinned (OpenSpec.ofChange fnExactContractWrong)

/-- 'laws.FnExactContractBy': WHATEVER THE INPUT: true; the input reads as it did. -/
def fnExactContractBySpec : ChangeSpec := { name := "fnExactContractBy", fn := fun _ => fun
  | [d1, d2, d3, d4, d5] => { results := [.lit (.bool true)], args := [d1, d2, d3, d4, d5] }
  | _ => none }
def fnExactContractByRow : OpenClaim := { program := "ytpicoecbbiiaoaa", sum := "fe7950b51a940b7fb1aa868306ec432042b3944558f2105afb59926b19f0a764", func := "loop.example/strideviews/laws.FnExactContractBy", spec := "fnExactContractBy", unfollowed := true, recurses := true, apart := false }
def FnExactContractBySaid : Prop := fnExactContractByRow.holds Try.pinned (OpenSpec.ofChange fnExactContractBySpec)

/-- ITS FALSE NEIGHBOUR: 'it returns false'. Refute it at one input. -/
def fnExactContractByWrong : ChangeSpec := { name := "fnExactContractBy", fn := fun _ => fun
  | [d1, d2, d3, d4, d5] => { results := [.lit (.bool false)], args := [d1, d2, d3, d4, d5] }
  | _ => none }
def FnExactContractByWrongFalsely : Prop := fnExactContractByRow.holds Try.pinned (OpenSpec.ofChange fnExactContractByWrong)

/- THE SECOND FORM. 'bulk': how many values and letters a reading holds, each counted each time it is reached (what is shared counts as often as it is met; a slice's spare places count too). A statement '..UptoSaid' is the law's where the arguments, and the package variables that the reading takes, are together of bulk at most 1048576: NARROWER than '..Said'. Prove '..Said' where nothing that the law and all that it calls make is longer than what came in: it says more and counts as full. Else prove '..UptoSaid'. A law counts once. -/
mutual
def uptoBulk {H : Type} : DataW H → Nat
  | .lit (.string bytes) => bytes.length + 1
  | .lit _ => 1
  | .nil => 1
  | .ptr d => uptoBulk d + 1
  | .slice elems spare => uptoBulkAll elems + uptoBulkAll spare + 1
  | .agg parts => uptoBulkAll parts + 1
  | .iface _ d => uptoBulk d + 1
  | .map entries => uptoBulkEntries entries + 1
  | .held _ => 1
def uptoBulkAll {H : Type} : List (DataW H) → Nat
  | [] => 0
  | d :: r => uptoBulk d + uptoBulkAll r
def uptoBulkEntries {H : Type} : List (Lit × DataW H) → Nat
  | [] => 0
  | x :: r => uptoBulkEntry x + uptoBulkEntries r
def uptoBulkEntry {H : Type} : Lit × DataW H → Nat
  | (.string bytes, d) => bytes.length + uptoBulk d + 1
  | (_, d) => uptoBulk d + 1
 end
def uptoSmall : (H : Type) → List (DataW H) → Bool := fun _ ds => decide (uptoBulkAll ds ≤ 1048576)
def OpenSpec.upto (s : _root_.Go.ChangeSpec) : _root_.Go.OpenSpec := { _root_.Go.OpenSpec.ofChange s with cond := some uptoSmall }

/-- 'laws.FnExactHoldersOf', WHERE WHAT IT READS IS OF BULK AT MOST 1048576: true; the input reads as it did. -/
def fnExactHoldersOfUptoRow : OpenClaim := { program := "ytpicoecbbiiaoaa", sum := "fe7950b51a940b7fb1aa868306ec432042b3944558f2105afb59926b19f0a764", func := "loop.example/strideviews/laws.FnExactHoldersOf", spec := "fnExactHoldersOf", apart := false, narrowed := true }
def FnExactHoldersOfUptoSaid : Prop := fnExactHoldersOfUptoRow.holds Try.pinned (OpenSpec.upto fnExactHoldersOfSpec)

/-- 'laws.FnExactExtentsOf', WHERE WHAT IT READS IS OF BULK AT MOST 1048576: true; the input reads as it did. -/
def fnExactExtentsOfUptoRow : OpenClaim := { program := "ytpicoecbbiiaoaa", sum := "fe7950b51a940b7fb1aa868306ec432042b3944558f2105afb59926b19f0a764", func := "loop.example/strideviews/laws.FnExactExtentsOf", spec := "fnExactExtentsOf", apart := false, narrowed := true }
def FnExactExtentsOfUptoSaid : Prop := fnExactExtentsOfUptoRow.holds Try.pinned (OpenSpec.upto fnExactExtentsOfSpec)

/-- 'laws.FnExactKeptLabels', WHERE WHAT IT READS IS OF BULK AT MOST 1048576: true; the input reads as it did. -/
def fnExactKeptLabelsUptoRow : OpenClaim := { program := "ytpicoecbbiiaoaa", sum := "fe7950b51a940b7fb1aa868306ec432042b3944558f2105afb59926b19f0a764", func := "loop.example/strideviews/laws.FnExactKeptLabels", spec := "fnExactKeptLabels", apart := false, narrowed := true }
def FnExactKeptLabelsUptoSaid : Prop := fnExactKeptLabelsUptoRow.holds Try.pinned (OpenSpec.upto fnExactKeptLabelsSpec)

/-- 'laws.FnExactContract', WHERE WHAT IT READS IS OF BULK AT MOST 1048576: true; the input reads as it did. -/
def fnExactContractUptoRow : OpenClaim := { program := "ytpicoecbbiiaoaa", sum := "fe7950b51a940b7fb1aa868306ec432042b3944558f2105afb59926b19f0a764", func := "loop.example/strideviews/laws.FnExactContract", spec := "fnExactContract", unfollowed := true, recurses := true, apart := false, narrowed := true }
def FnExactContractUptoSaid : Prop := fnExactContractUptoRow.holds Try.pinned (OpenSpec.upto fnExactContractSpec)

/-- 'laws.FnExactContractBy', WHERE WHAT IT READS IS OF BULK AT MOST 1048576: true; the input reads as it did. -/
def fnExactContractByUptoRow : OpenClaim := { program := "ytpicoecbbiiaoaa", sum := "fe7950b51a940b7fb1aa868306ec432042b3944558f2105afb59926b19f0a764", func := "loop.example/strideviews/laws.FnExactContractBy", spec := "fnExactContractBy", unfollowed := true, recurses := true, apart := false, narrowed := true }
def FnExactContractByUptoSaid : Prop := fnExactContractByUptoRow.holds Try.pinned (OpenSpec.upto fnExactContractBySpec)

end Rows
end Go.Proofs.Ytpicoecbbiiaoaa
