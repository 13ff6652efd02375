/-
  No cell of these rows narrows 'for every input' (looked for: loops, veiled, ifaces, maps, wideKeys, modest, calm, conditions, laid).
  DERIVED. THE GIVEN ROWS OF THIS SEAT. 8 by the template 'for every input the law returns true; each argument reads behind the call as it read before'; 0 by the template 'total and deterministic' (their statements: YtpccgeknhlekcaaTotals.lean).
  GIVEN WITH THE SEED: the statements are not yours to turn. If you find one false, say at which input.
  Laid BY PROGRAM, IN A SANDBOX (cutbox-rows.mjs): the forced cells as the released guide's own fill.sh prints them over the translation 1f940ba450dd4eee… (all of the seat's roots in one cut). By AI agents, Wed Nov 11 2026. No macro, syntax, notation, axiom, sorry.
-/
import Derived.Test.YtpccgeknhlekcaaChecked
import GoSem.Claim
import GoSem.ClaimJoined
import GoSem.ClaimMapViews
import Derived.JoinedTies
import Derived.KernelRfl
namespace Go.Proofs.Ytpccgeknhlekcaa
/- THE CELL 'sum', in the pinned program and in every row, IS THE sha256 OF THE DUMP (.gsa) THAT YtpccgeknhlekcaaProg.lean LOADS. Nothing in Lean hashes anything: it is a label: what it is worth is what the hold of that sum in a sandbox is worth. -/
noncomputable def Try.pinned : Pinned := { name := "ytpccgeknhlekcaa", sum := "1f940ba450dd4eee2bf04b3dca0083a78d485a6d8f1681774c17f9ebeda8b2ae", checked := Try.checked }
namespace Rows
def none {H : Type} : Left H := { results := [], args := [] }

/-- 'laws.FnExactIsRow': WHATEVER THE INPUT: true; the input reads as it did. -/
def fnExactIsRowSpec : ChangeSpec := { name := "fnExactIsRow", fn := fun _ => fun
  | [d] => { results := [.lit (.bool true)], args := [d] }
  | _ => none }
def fnExactIsRowRow : OpenClaim := { program := "ytpccgeknhlekcaa", sum := "1f940ba450dd4eee2bf04b3dca0083a78d485a6d8f1681774c17f9ebeda8b2ae", func := "loop.example/strideviews/laws.FnExactIsRow", spec := "fnExactIsRow", apart := false }
def FnExactIsRowSaid : Prop := fnExactIsRowRow.holds Try.pinned (OpenSpec.ofChange fnExactIsRowSpec)

/-- ITS FALSE NEIGHBOUR: 'it returns false'. Refute it at one input. -/
def fnExactIsRowWrong : ChangeSpec := { name := "fnExactIsRow", fn := fun _ => fun
  | [d] => { results := [.lit (.bool false)], args := [d] }
  | _ => none }
def FnExactIsRowWrongFalsely : Prop := fnExactIsRowRow.holds Try.pinned (OpenSpec.ofChange fnExactIsRowWrong)

/-- 'laws.FnExactIsCol': WHATEVER THE INPUT: true; the input reads as it did. -/
def fnExactIsColSpec : ChangeSpec := { name := "fnExactIsCol", fn := fun _ => fun
  | [d] => { results := [.lit (.bool true)], args := [d] }
  | _ => none }
def fnExactIsColRow : OpenClaim := { program := "ytpccgeknhlekcaa", sum := "1f940ba450dd4eee2bf04b3dca0083a78d485a6d8f1681774c17f9ebeda8b2ae", func := "loop.example/strideviews/laws.FnExactIsCol", spec := "fnExactIsCol", apart := false }
def FnExactIsColSaid : Prop := fnExactIsColRow.holds Try.pinned (OpenSpec.ofChange fnExactIsColSpec)

/-- ITS FALSE NEIGHBOUR: 'it returns false'. Refute it at one input. -/
def fnExactIsColWrong : ChangeSpec := { name := "fnExactIsCol", fn := fun _ => fun
  | [d] => { results := [.lit (.bool false)], args := [d] }
  | _ => none }
def FnExactIsColWrongFalsely : Prop := fnExactIsColRow.holds Try.pinned (OpenSpec.ofChange fnExactIsColWrong)

/-- 'laws.FnExactIsOneToOne': WHATEVER THE INPUT: true; the input reads as it did. -/
def fnExactIsOneToOneSpec : ChangeSpec := { name := "fnExactIsOneToOne", fn := fun _ => fun
  | [d] => { results := [.lit (.bool true)], args := [d] }
  | _ => none }
def fnExactIsOneToOneRow : OpenClaim := { program := "ytpccgeknhlekcaa", sum := "1f940ba450dd4eee2bf04b3dca0083a78d485a6d8f1681774c17f9ebeda8b2ae", func := "loop.example/strideviews/laws.FnExactIsOneToOne", spec := "fnExactIsOneToOne", apart := false }
def FnExactIsOneToOneSaid : Prop := fnExactIsOneToOneRow.holds Try.pinned (OpenSpec.ofChange fnExactIsOneToOneSpec)

/-- ITS FALSE NEIGHBOUR: 'it returns false'. Refute it at one input. -/
def fnExactIsOneToOneWrong : ChangeSpec := { name := "fnExactIsOneToOne", fn := fun _ => fun
  | [d] => { results := [.lit (.bool false)], args := [d] }
  | _ => none }
def FnExactIsOneToOneWrongFalsely : Prop := fnExactIsOneToOneRow.holds Try.pinned (OpenSpec.ofChange fnExactIsOneToOneWrong)

/-- 'laws.FnExactSameView': WHATEVER THE INPUT: true; the input reads as it did. -/
def fnExactSameViewSpec : ChangeSpec := { name := "fnExactSameView", fn := fun _ => fun
  | [d1, d2] => { results := [.lit (.bool true)], args := [d1, d2] }
  | _ => none }
def fnExactSameViewRow : OpenClaim := { program := "ytpccgeknhlekcaa", sum := "1f940ba450dd4eee2bf04b3dca0083a78d485a6d8f1681774c17f9ebeda8b2ae", func := "loop.example/strideviews/laws.FnExactSameView", spec := "fnExactSameView", apart := false }
def FnExactSameViewSaid : Prop := fnExactSameViewRow.holds Try.pinned (OpenSpec.ofChange fnExactSameViewSpec)

/-- ITS FALSE NEIGHBOUR: 'it returns false'. Refute it at one input. -/
def fnExactSameViewWrong : ChangeSpec := { name := "fnExactSameView", fn := fun _ => fun
  | [d1, d2] => { results := [.lit (.bool false)], args := [d1, d2] }
  | _ => none }
def FnExactSameViewWrongFalsely : Prop := fnExactSameViewRow.holds Try.pinned (OpenSpec.ofChange fnExactSameViewWrong)

/-- 'laws.FnExactSliceDim': WHATEVER THE INPUT: true; the input reads as it did. -/
def fnExactSliceDimSpec : ChangeSpec := { name := "fnExactSliceDim", fn := fun _ => fun
  | [d1, d2, d3] => { results := [.lit (.bool true)], args := [d1, d2, d3] }
  | _ => none }
def fnExactSliceDimRow : OpenClaim := { program := "ytpccgeknhlekcaa", sum := "1f940ba450dd4eee2bf04b3dca0083a78d485a6d8f1681774c17f9ebeda8b2ae", func := "loop.example/strideviews/laws.FnExactSliceDim", spec := "fnExactSliceDim", apart := false }
def FnExactSliceDimSaid : Prop := fnExactSliceDimRow.holds Try.pinned (OpenSpec.ofChange fnExactSliceDimSpec)

/-- ITS FALSE NEIGHBOUR: 'it returns false'. Refute it at one input. -/
def fnExactSliceDimWrong : ChangeSpec := { name := "fnExactSliceDim", fn := fun _ => fun
  | [d1, d2, d3] => { results := [.lit (.bool false)], args := [d1, d2, d3] }
  | _ => none }
def FnExactSliceDimWrongFalsely : Prop := fnExactSliceDimRow.holds Try.pinned (OpenSpec.ofChange fnExactSliceDimWrong)

/-- 'laws.FnExactFlipDim': WHATEVER THE INPUT: true; the input reads as it did. -/
def fnExactFlipDimSpec : ChangeSpec := { name := "fnExactFlipDim", fn := fun _ => fun
  | [d1, d2] => { results := [.lit (.bool true)], args := [d1, d2] }
  | _ => none }
def fnExactFlipDimRow : OpenClaim := { program := "ytpccgeknhlekcaa", sum := "1f940ba450dd4eee2bf04b3dca0083a78d485a6d8f1681774c17f9ebeda8b2ae", func := "loop.example/strideviews/laws.FnExactFlipDim", spec := "fnExactFlipDim", apart := false }
def FnExactFlipDimSaid : Prop := fnExactFlipDimRow.holds Try.pinned (OpenSpec.ofChange fnExactFlipDimSpec)

/-- ITS FALSE NEIGHBOUR: 'it returns false'. Refute it at one input. -/
def fnExactFlipDimWrong : ChangeSpec := { name := "fnExactFlipDim", fn := fun _ => fun
  | [d1, d2] => { results := [.lit (.bool false)], args := [d1, d2] }
  | _ => none }
def FnExactFlipDimWrongFalsely : Prop := fnExactFlipDimRow.holds Try.pinned (OpenSpec.ofChange fnExactFlipDimWrong)

/-- 'laws.FnExactPickDim': WHATEVER THE INPUT: true; the input reads as it did. -/
def fnExactPickDimSpec : ChangeSpec := { name := "fnExactPickDim", fn := fun _ => fun
  | [d1, d2, d3] => { results := [.lit (.bool true)], args := [d1, d2, d3] }
  | _ => none }
def fnExactPickDimRow : OpenClaim := { program := "ytpccgeknhlekcaa", sum := "1f940ba450dd4eee2bf04b3dca0083a78d485a6d8f1681774c17f9ebeda8b2ae", func := "loop.example/strideviews/laws.FnExactPickDim", spec := "fnExactPickDim", apart := false }
def FnExactPickDimSaid : Prop := fnExactPickDimRow.holds Try.pinned (OpenSpec.ofChange fnExactPickDimSpec)

/-- ITS FALSE NEIGHBOUR: 'it returns false'. Refute it at one input. -/
def fnExactPickDimWrong : ChangeSpec := { name := "fnExactPickDim", fn := fun _ => fun
  | [d1, d2, d3] => { results := [.lit (.bool false)], args := [d1, d2, d3] }
  | _ => none }
def FnExactPickDimWrongFalsely : Prop := fnExactPickDimRow.holds Try.pinned (OpenSpec.ofChange fnExactPickDimWrong)

/-- 'laws.FnExactDiagonalOf': WHATEVER THE INPUT: true; the input reads as it did. -/
def fnExactDiagonalOfSpec : ChangeSpec := { name := "fnExactDiagonalOf", fn := fun _ => fun
  | [d1, d2, d3] => { results := [.lit (.bool true)], args := [d1, d2, d3] }
  | _ => none }
def fnExactDiagonalOfRow : OpenClaim := { program := "ytpccgeknhlekcaa", sum := "1f940ba450dd4eee2bf04b3dca0083a78d485a6d8f1681774c17f9ebeda8b2ae", func := "loop.example/strideviews/laws.FnExactDiagonalOf", spec := "fnExactDiagonalOf", apart := false }
def FnExactDiagonalOfSaid : Prop := fnExactDiagonalOfRow.holds Try.pinned (OpenSpec.ofChange fnExactDiagonalOfSpec)

/-- ITS FALSE NEIGHBOUR: 'it returns false'. Refute it at one input. -/
def fnExactDiagonalOfWrong : ChangeSpec := { name := "fnExactDiagonalOf", fn := fun _ => fun
  | [d1, d2, d3] => { results := [.lit (.bool false)], args := [d1, d2, d3] }
  | _ => none }
def FnExactDiagonalOfWrongFalsely : Prop := fnExactDiagonalOfRow.holds Try.pinned (OpenSpec.ofChange fnExactDiagonalOfWrong)

/- THE SECOND FORM. 'bulk': how many values and letters a reading holds, each counted each time it is reached (what is shared counts as often as it is met; a slice's spare places count too). A statement '..UptoSaid' is the law's where the arguments, and the package variables that the reading takes, are together of bulk at most 1048576: NARROWER than '..Said'. Prove '..Said' where nothing that the law and all that it calls make is longer than what came in: it says more and counts as full. Else prove '..UptoSaid'. A law counts once. -/
mutual
def uptoBulk {H : Type} : DataW H → Nat
  | .lit (.string bytes) => bytes.length + 1
  | .lit _ => 1
  | .nil => 1
  | .ptr d => uptoBulk d + 1
  | .slice elems spare => uptoBulkAll elems + uptoBulkAll spare + 1
  | .agg parts => uptoBulkAll parts + 1
  | .iface _ d => uptoBulk d + 1
  | .map entries => uptoBulkEntries entries + 1
  | .held _ => 1
def uptoBulkAll {H : Type} : List (DataW H) → Nat
  | [] => 0
  | d :: r => uptoBulk d + uptoBulkAll r
def uptoBulkEntries {H : Type} : List (Lit × DataW H) → Nat
  | [] => 0
  | x :: r => uptoBulkEntry x + uptoBulkEntries r
def uptoBulkEntry {H : Type} : Lit × DataW H → Nat
  | (.string bytes, d) => bytes.length + uptoBulk d + 1
  | (_, d) => uptoBulk d + 1
 end
def uptoSmall : (H : Type) → List (DataW H) → Bool := fun _ ds => decide (uptoBulkAll ds ≤ 1048576)
def OpenSpec.upto (s : _root_.Go.ChangeSpec) : _root_.Go.OpenSpec := { _root_.Go.OpenSpec.ofChange s with cond := some uptoSmall }

/-- 'laws.FnExactIsRow', WHERE WHAT IT READS IS OF BULK AT MOST 1048576: true; the input reads as it did. -/
def fnExactIsRowUptoRow : OpenClaim := { program := "ytpccgeknhlekcaa", sum := "1f940ba450dd4eee2bf04b3dca0083a78d485a6d8f1681774c17f9ebeda8b2ae", func := "loop.example/strideviews/laws.FnExactIsRow", spec := "fnExactIsRow", apart := false, narrowed := true }
def FnExactIsRowUptoSaid : Prop := fnExactIsRowUptoRow.holds Try.pinned (OpenSpec.upto fnExactIsRowSpec)

/-- 'laws.FnExactIsCol', WHERE WHAT IT READS IS OF BULK AT MOST 1048576: true; the input reads as it did. -/
def fnExactIsColUptoRow : OpenClaim := { program := "ytpccgeknhlekcaa", sum := "1f940ba450dd4eee2bf04b3dca0083a78d485a6d8f1681774c17f9ebeda8b2ae", func := "loop.example/strideviews/laws.FnExactIsCol", spec := "fnExactIsCol", apart := false, narrowed := true }
def FnExactIsColUptoSaid : Prop := fnExactIsColUptoRow.holds Try.pinned (OpenSpec.upto fnExactIsColSpec)

/-- 'laws.FnExactIsOneToOne', WHERE WHAT IT READS IS OF BULK AT MOST 1048576: true; the input reads as it did. -/
def fnExactIsOneToOneUptoRow : OpenClaim := { program := "ytpccgeknhlekcaa", sum := "1f940ba450dd4eee2bf04b3dca0083a78d485a6d8f1681774c17f9ebeda8b2ae", func := "loop.example/strideviews/laws.FnExactIsOneToOne", spec := "fnExactIsOneToOne", apart := false, narrowed := true }
def FnExactIsOneToOneUptoSaid : Prop := fnExactIsOneToOneUptoRow.holds Try.pinned (OpenSpec.upto fnExactIsOneToOneSpec)

/-- 'laws.FnExactSameView', WHERE WHAT IT READS IS OF BULK AT MOST 1048576: true; the input reads as it did. -/
def fnExactSameViewUptoRow : OpenClaim := { program := "ytpccgeknhlekcaa", sum := "1f940ba450dd4eee2bf04b3dca0083a78d485a6d8f1681774c17f9ebeda8b2ae", func := "loop.example/strideviews/laws.FnExactSameView", spec := "fnExactSameView", apart := false, narrowed := true }
def FnExactSameViewUptoSaid : Prop := fnExactSameViewUptoRow.holds Try.pinned (OpenSpec.upto fnExactSameViewSpec)

/-- 'laws.FnExactSliceDim', WHERE WHAT IT READS IS OF BULK AT MOST 1048576: true; the input reads as it did. -/
def fnExactSliceDimUptoRow : OpenClaim := { program := "ytpccgeknhlekcaa", sum := "1f940ba450dd4eee2bf04b3dca0083a78d485a6d8f1681774c17f9ebeda8b2ae", func := "loop.example/strideviews/laws.FnExactSliceDim", spec := "fnExactSliceDim", apart := false, narrowed := true }
def FnExactSliceDimUptoSaid : Prop := fnExactSliceDimUptoRow.holds Try.pinned (OpenSpec.upto fnExactSliceDimSpec)

/-- 'laws.FnExactFlipDim', WHERE WHAT IT READS IS OF BULK AT MOST 1048576: true; the input reads as it did. -/
def fnExactFlipDimUptoRow : OpenClaim := { program := "ytpccgeknhlekcaa", sum := "1f940ba450dd4eee2bf04b3dca0083a78d485a6d8f1681774c17f9ebeda8b2ae", func := "loop.example/strideviews/laws.FnExactFlipDim", spec := "fnExactFlipDim", apart := false, narrowed := true }
def FnExactFlipDimUptoSaid : Prop := fnExactFlipDimUptoRow.holds Try.pinned (OpenSpec.upto fnExactFlipDimSpec)

/-- 'laws.FnExactPickDim', WHERE WHAT IT READS IS OF BULK AT MOST 1048576: true; the input reads as it did. -/
def fnExactPickDimUptoRow : OpenClaim := { program := "ytpccgeknhlekcaa", sum := "1f940ba450dd4eee2bf04b3dca0083a78d485a6d8f1681774c17f9ebeda8b2ae", func := "loop.example/strideviews/laws.FnExactPickDim", spec := "fnExactPickDim", apart := false, narrowed := true }
def FnExactPickDimUptoSaid : Prop := fnExactPickDimUptoRow.holds Try.pinned (OpenSpec.upto fnExactPickDimSpec)

/-- 'laws.FnExactDiagonalOf', WHERE WHAT IT READS IS OF BULK AT MOST 1048576: true; the input reads as it did. -/
def fnExactDiagonalOfUptoRow : OpenClaim := { program := "ytpccgeknhlekcaa", sum := "1f940ba450dd4eee2bf04b3dca0083a78d485a6d8f1681774c17f9ebeda8b2ae", func := "loop.example/strideviews/laws.FnExactDiagonalOf", spec := "fnExactDiagonalOf", apart := false, narrowed := true }
def FnExactDiagonalOfUptoSaid : Prop := fnExactDiagonalOfUptoRow.holds Try.pinned (OpenSpec.upto fnExactDiagonalOfSpec)

end Rows
end Go.Proofs.Ytpccgeknhlekcaa
