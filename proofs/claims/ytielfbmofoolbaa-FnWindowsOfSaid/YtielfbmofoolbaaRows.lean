/-
  No cell of these rows narrows 'for every input' (looked for: loops, veiled, ifaces, maps, wideKeys, modest, calm, conditions, laid).
  DERIVED. THE GIVEN ROWS OF THIS SEAT. 3 by the template 'for every input the law returns true; each argument reads behind the call as it read before'; 0 by the template 'total and deterministic' (their statements: YtielfbmofoolbaaTotals.lean).
  GIVEN WITH THE SEED: the statements are not yours to turn. If you find one false, say at which input.
  Laid BY PROGRAM, IN A SANDBOX (cutbox-rows.mjs): the forced cells as the released guide's own fill.sh prints them over the translation a3fd2dd580933863… (all of the seat's roots in one cut). By AI agents, Wed Nov 11 2026. No macro, syntax, notation, axiom, sorry.
-/
import Derived.Test.YtielfbmofoolbaaChecked
import GoSem.Claim
import GoSem.ClaimJoined
import GoSem.ClaimMapViews
import Derived.JoinedTies
import Derived.KernelRfl
namespace Go.Proofs.Ytielfbmofoolbaa
/- THE CELL 'sum', in the pinned program and in every row, IS THE sha256 OF THE DUMP (.gsa) THAT YtielfbmofoolbaaProg.lean LOADS. Nothing in Lean hashes anything: it is a label: what it is worth is what the hold of that sum in a sandbox is worth. -/
noncomputable def Try.pinned : Pinned := { name := "ytielfbmofoolbaa", sum := "a3fd2dd5809338630856a86befaf5cf671c7a9765333a8e656dfc152351f6ce9", checked := Try.checked }
namespace Rows
def none {H : Type} : Left H := { results := [], args := [] }

/-- 'laws.FnPickDim': WHATEVER THE INPUT: true; the input reads as it did. -/
def fnPickDimSpec : ChangeSpec := { name := "fnPickDim", fn := fun _ => fun
  | [d] => { results := [.lit (.bool true)], args := [d] }
  | _ => none }
def fnPickDimRow : OpenClaim := { program := "ytielfbmofoolbaa", sum := "a3fd2dd5809338630856a86befaf5cf671c7a9765333a8e656dfc152351f6ce9", func := "loop.example/strideviews/laws.FnPickDim", spec := "fnPickDim", apart := false }
def FnPickDimSaid : Prop := fnPickDimRow.holds Try.pinned (OpenSpec.ofChange fnPickDimSpec)

/-- ITS FALSE NEIGHBOUR: 'it returns false'. Refute it at one input. -/
def fnPickDimWrong : ChangeSpec := { name := "fnPickDim", fn := fun _ => fun
  | [d] => { results := [.lit (.bool false)], args := [d] }
  | _ => none }
def FnPickDimWrongFalsely : Prop := fnPickDimRow.holds Try.pinned (OpenSpec.ofChange fnPickDimWrong)

/-- 'laws.FnDiagonalOf': WHATEVER THE INPUT: true; the input reads as it did. -/
def fnDiagonalOfSpec : ChangeSpec := { name := "fnDiagonalOf", fn := fun _ => fun
  | [d] => { results := [.lit (.bool true)], args := [d] }
  | _ => none }
def fnDiagonalOfRow : OpenClaim := { program := "ytielfbmofoolbaa", sum := "a3fd2dd5809338630856a86befaf5cf671c7a9765333a8e656dfc152351f6ce9", func := "loop.example/strideviews/laws.FnDiagonalOf", spec := "fnDiagonalOf", apart := false }
def FnDiagonalOfSaid : Prop := fnDiagonalOfRow.holds Try.pinned (OpenSpec.ofChange fnDiagonalOfSpec)

/-- ITS FALSE NEIGHBOUR: 'it returns false'. Refute it at one input. -/
def fnDiagonalOfWrong : ChangeSpec := { name := "fnDiagonalOf", fn := fun _ => fun
  | [d] => { results := [.lit (.bool false)], args := [d] }
  | _ => none }
def FnDiagonalOfWrongFalsely : Prop := fnDiagonalOfRow.holds Try.pinned (OpenSpec.ofChange fnDiagonalOfWrong)

/-- 'laws.FnWindowsOf': WHATEVER THE INPUT: true; the input reads as it did. -/
def fnWindowsOfSpec : ChangeSpec := { name := "fnWindowsOf", fn := fun _ => fun
  | [d] => { results := [.lit (.bool true)], args := [d] }
  | _ => none }
def fnWindowsOfRow : OpenClaim := { program := "ytielfbmofoolbaa", sum := "a3fd2dd5809338630856a86befaf5cf671c7a9765333a8e656dfc152351f6ce9", func := "loop.example/strideviews/laws.FnWindowsOf", spec := "fnWindowsOf", apart := false }
def FnWindowsOfSaid : Prop := fnWindowsOfRow.holds Try.pinned (OpenSpec.ofChange fnWindowsOfSpec)

/-- ITS FALSE NEIGHBOUR: 'it returns false'. Refute it at one input. -/
def fnWindowsOfWrong : ChangeSpec := { name := "fnWindowsOf", fn := fun _ => fun
  | [d] => { results := [.lit (.bool false)], args := [d] }
  | _ => none }
def FnWindowsOfWrongFalsely : Prop := fnWindowsOfRow.holds Try.pinned (OpenSpec.ofChange fnWindowsOfWrong)

/- THE SECOND FORM. 'bulk': how many values and letters a reading holds, each counted each time it is reached (what is shared counts as often as it is met; a slice's spare places count too). A statement '..UptoSaid' is the law's where the arguments, and the package variables that the reading takes, are together of bulk at most 1048576: NARROWER than '..Said'. Prove '..Said' where nothing that the law and all that it calls make is longer than what came in: it says more and counts as full. Else prove '..UptoSaid'. A law counts once. -/
mutual
def uptoBulk {H : Type} : DataW H → Nat
  | .lit (.string bytes) => bytes.length + 1
  | .lit _ => 1
  | .nil => 1
  | .ptr d => uptoBulk d + 1
  | .slice elems spare => uptoBulkAll elems + uptoBulkAll spare + 1
  | .agg parts => uptoBulkAll parts + 1
  | .iface _ d => uptoBulk d + 1
  | .map entries => uptoBulkEntries entries + 1
  | .held _ => 1
def uptoBulkAll {H : Type} : List (DataW H) → Nat
  | [] => 0
  | d :: r => uptoBulk d + uptoBulkAll r
def uptoBulkEntries {H : Type} : List (Lit × DataW H) → Nat
  | [] => 0
  | x :: r => uptoBulkEntry x + uptoBulkEntries r
def uptoBulkEntry {H : Type} : Lit × DataW H → Nat
  | (.string bytes, d) => bytes.length + uptoBulk d + 1
  | (_, d) => uptoBulk d + 1
 end
def uptoSmall : (H : Type) → List (DataW H) → Bool := fun _ ds => decide (uptoBulkAll ds ≤ 1048576)
def OpenSpec.upto (s : _root_.Go.ChangeSpec) : _root_.Go.OpenSpec := { _root_.Go.OpenSpec.ofChange s with cond := some uptoSmall }

/-- 'laws.FnPickDim', WHERE WHAT IT READS IS OF BULK AT MOST 1048576: true; the input reads as it did. -/
def fnPickDimUptoRow : OpenClaim := { program := "ytielfbmofoolbaa", sum := "a3fd2dd5809338630856a86befaf5cf671c7a9765333a8e656dfc152351f6ce9", func := "loop.example/strideviews/laws.FnPickDim", spec := "fnPickDim", apart := false, narrowed := true }
def FnPickDimUptoSaid : Prop := fnPickDimUptoRow.holds Try.pinned (OpenSpec.upto fnPickDimSpec)

/-- 'laws.FnDiagonalOf', WHERE WHAT IT READS IS OF BULK AT MOST 1048576: true; the input reads as it did. -/
def fnDiagonalOfUptoRow : OpenClaim := { program := "ytielfbmofoolbaa", sum := "a3fd2dd5809338630856a86befaf5cf671c7a9765333a8e656dfc152351f6ce9", func := "loop.example/strideviews/laws.FnDiagonalOf", spec := "fnDiagonalOf", apart := false, narrowed := true }
def FnDiagonalOfUptoSaid : Prop := fnDiagonalOfUptoRow.holds Try.pinned (OpenSpec.upto fnDiagonalOfSpec)

/-- 'laws.FnWindowsOf', WHERE WHAT IT READS IS OF BULK AT MOST 1048576: true; the input reads as it did. -/
def fnWindowsOfUptoRow : OpenClaim := { program := "ytielfbmofoolbaa", sum := "a3fd2dd5809338630856a86befaf5cf671c7a9765333a8e656dfc152351f6ce9", func := "loop.example/strideviews/laws.FnWindowsOf", spec := "fnWindowsOf", apart := false, narrowed := true }
def FnWindowsOfUptoSaid : Prop := fnWindowsOfUptoRow.holds Try.pinned (OpenSpec.upto fnWindowsOfSpec)

end Rows
end Go.Proofs.Ytielfbmofoolbaa
