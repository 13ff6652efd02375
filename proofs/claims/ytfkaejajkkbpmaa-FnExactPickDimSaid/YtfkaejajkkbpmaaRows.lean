/-
  No cell of these rows narrows 'for every input' (looked for: loops, veiled, ifaces, maps, wideKeys, modest, calm, conditions, laid).
  DERIVED. THE GIVEN ROWS OF THIS SEAT. 7 by the template 'for every input the law returns true; each argument reads behind the call as it read before'; 0 by the template 'total and deterministic' (their statements: YtfkaejajkkbpmaaTotals.lean).
  GIVEN WITH THE SEED: the statements are not yours to turn. If you find one false, say at which input.
  Laid BY PROGRAM, IN A SANDBOX (cutbox-rows.mjs): the forced cells as the released guide's own fill.sh prints them over the translation daa929bfef02a05d… (all of the seat's roots in one cut). By AI agents, Wed Nov 11 2026. No macro, syntax, notation, axiom, sorry.
-/
import Derived.Test.YtfkaejajkkbpmaaChecked
import GoSem.Claim
import GoSem.ClaimJoined
import GoSem.ClaimMapViews
import Derived.JoinedTies
import Derived.KernelRfl
namespace Go.Proofs.Ytfkaejajkkbpmaa
/- THE CELL 'sum', in the pinned program and in every row, IS THE sha256 OF THE DUMP (.gsa) THAT YtfkaejajkkbpmaaProg.lean LOADS. Nothing in Lean hashes anything: it is a label: what it is worth is what the hold of that sum in a sandbox is worth. -/
noncomputable def Try.pinned : Pinned := { name := "ytfkaejajkkbpmaa", sum := "daa929bfef02a05d3792ce832793db0b94c590d8380e4f96ee6a29ba76311ead", checked := Try.checked }
namespace Rows
def none {H : Type} : Left H := { results := [], args := [] }

/-- 'laws.FnExactSliceDim': WHATEVER THE INPUT: true; the input reads as it did. -/
def fnExactSliceDimSpec : ChangeSpec := { name := "fnExactSliceDim", fn := fun _ => fun
  | [d1, d2, d3] => { results := [.lit (.bool true)], args := [d1, d2, d3] }
  | _ => none }
def fnExactSliceDimRow : OpenClaim := { program := "ytfkaejajkkbpmaa", sum := "daa929bfef02a05d3792ce832793db0b94c590d8380e4f96ee6a29ba76311ead", func := "loop.example/strideviews/laws.FnExactSliceDim", spec := "fnExactSliceDim", apart := false }
def FnExactSliceDimSaid : Prop := fnExactSliceDimRow.holds Try.pinned (OpenSpec.ofChange fnExactSliceDimSpec)

/-- ITS FALSE NEIGHBOUR: 'it returns false'. Refute it at one input. -/
def fnExactSliceDimWrong : ChangeSpec := { name := "fnExactSliceDim", fn := fun _ => fun
  | [d1, d2, d3] => { results := [.lit (.bool false)], args := [d1, d2, d3] }
  | _ => none }
def FnExactSliceDimWrongFalsely : Prop := fnExactSliceDimRow.holds Try.pinned (OpenSpec.ofChange fnExactSliceDimWrong)

/-- 'laws.FnExactFlipDim': WHATEVER THE INPUT: true; the input reads as it did. -/
def fnExactFlipDimSpec : ChangeSpec := { name := "fnExactFlipDim", fn := fun _ => fun
  | [d1, d2] => { results := [.lit (.bool true)], args := [d1, d2] }
  | _ => none }
def fnExactFlipDimRow : OpenClaim := { program := "ytfkaejajkkbpmaa", sum := "daa929bfef02a05d3792ce832793db0b94c590d8380e4f96ee6a29ba76311ead", func := "loop.example/strideviews/laws.FnExactFlipDim", spec := "fnExactFlipDim", apart := false }
def FnExactFlipDimSaid : Prop := fnExactFlipDimRow.holds Try.pinned (OpenSpec.ofChange fnExactFlipDimSpec)

/-- ITS FALSE NEIGHBOUR: 'it returns false'. Refute it at one input. -/
def fnExactFlipDimWrong : ChangeSpec := { name := "fnExactFlipDim", fn := fun _ => fun
  | [d1, d2] => { results := [.lit (.bool false)], args := [d1, d2] }
  | _ => none }
def FnExactFlipDimWrongFalsely : Prop := fnExactFlipDimRow.holds Try.pinned (OpenSpec.ofChange fnExactFlipDimWrong)

/-- 'laws.FnExactPermuteDims': WHATEVER THE INPUT: true; the input reads as it did. -/
def fnExactPermuteDimsSpec : ChangeSpec := { name := "fnExactPermuteDims", fn := fun _ => fun
  | [d1, d2] => { results := [.lit (.bool true)], args := [d1, d2] }
  | _ => none }
def fnExactPermuteDimsRow : OpenClaim := { program := "ytfkaejajkkbpmaa", sum := "daa929bfef02a05d3792ce832793db0b94c590d8380e4f96ee6a29ba76311ead", func := "loop.example/strideviews/laws.FnExactPermuteDims", spec := "fnExactPermuteDims", apart := false }
def FnExactPermuteDimsSaid : Prop := fnExactPermuteDimsRow.holds Try.pinned (OpenSpec.ofChange fnExactPermuteDimsSpec)

/-- ITS FALSE NEIGHBOUR: 'it returns false'. Refute it at one input. -/
def fnExactPermuteDimsWrong : ChangeSpec := { name := "fnExactPermuteDims", fn := fun _ => fun
  | [d1, d2] => { results := [.lit (.bool false)], args := [d1, d2] }
  | _ => none }
def FnExactPermuteDimsWrongFalsely : Prop := fnExactPermuteDimsRow.holds Try.pinned (OpenSpec.ofChange fnExactPermuteDimsWrong)

/-- 'laws.FnExactWindowsOf': WHATEVER THE INPUT: true; the input reads as it did. -/
def fnExactWindowsOfSpec : ChangeSpec := { name := "fnExactWindowsOf", fn := fun _ => fun
  | [d1, d2, d3] => { results := [.lit (.bool true)], args := [d1, d2, d3] }
  | _ => none }
def fnExactWindowsOfRow : OpenClaim := { program := "ytfkaejajkkbpmaa", sum := "daa929bfef02a05d3792ce832793db0b94c590d8380e4f96ee6a29ba76311ead", func := "loop.example/strideviews/laws.FnExactWindowsOf", spec := "fnExactWindowsOf", apart := false }
def FnExactWindowsOfSaid : Prop := fnExactWindowsOfRow.holds Try.pinned (OpenSpec.ofChange fnExactWindowsOfSpec)

/-- ITS FALSE NEIGHBOUR: 'it returns false'. Refute it at one input. -/
def fnExactWindowsOfWrong : ChangeSpec := { name := "fnExactWindowsOf", fn := fun _ => fun
  | [d1, d2, d3] => { results := [.lit (.bool false)], args := [d1, d2, d3] }
  | _ => none }
def FnExactWindowsOfWrongFalsely : Prop := fnExactWindowsOfRow.holds Try.pinned (OpenSpec.ofChange fnExactWindowsOfWrong)

/-- 'laws.FnExactReshape': WHATEVER THE INPUT: true; the input reads as it did. -/
def fnExactReshapeSpec : ChangeSpec := { name := "fnExactReshape", fn := fun _ => fun
  | [d1, d2] => { results := [.lit (.bool true)], args := [d1, d2] }
  | _ => none }
def fnExactReshapeRow : OpenClaim := { program := "ytfkaejajkkbpmaa", sum := "daa929bfef02a05d3792ce832793db0b94c590d8380e4f96ee6a29ba76311ead", func := "loop.example/strideviews/laws.FnExactReshape", spec := "fnExactReshape", apart := false }
def FnExactReshapeSaid : Prop := fnExactReshapeRow.holds Try.pinned (OpenSpec.ofChange fnExactReshapeSpec)

/-- ITS FALSE NEIGHBOUR: 'it returns false'. Refute it at one input. -/
def fnExactReshapeWrong : ChangeSpec := { name := "fnExactReshape", fn := fun _ => fun
  | [d1, d2] => { results := [.lit (.bool false)], args := [d1, d2] }
  | _ => none }
def FnExactReshapeWrongFalsely : Prop := fnExactReshapeRow.holds Try.pinned (OpenSpec.ofChange fnExactReshapeWrong)

/-- 'laws.FnExactPickDim': WHATEVER THE INPUT: true; the input reads as it did. -/
def fnExactPickDimSpec : ChangeSpec := { name := "fnExactPickDim", fn := fun _ => fun
  | [d1, d2, d3] => { results := [.lit (.bool true)], args := [d1, d2, d3] }
  | _ => none }
def fnExactPickDimRow : OpenClaim := { program := "ytfkaejajkkbpmaa", sum := "daa929bfef02a05d3792ce832793db0b94c590d8380e4f96ee6a29ba76311ead", func := "loop.example/strideviews/laws.FnExactPickDim", spec := "fnExactPickDim", apart := false }
def FnExactPickDimSaid : Prop := fnExactPickDimRow.holds Try.pinned (OpenSpec.ofChange fnExactPickDimSpec)

/-- ITS FALSE NEIGHBOUR: 'it returns false'. Refute it at one input. -/
def fnExactPickDimWrong : ChangeSpec := { name := "fnExactPickDim", fn := fun _ => fun
  | [d1, d2, d3] => { results := [.lit (.bool false)], args := [d1, d2, d3] }
  | _ => none }
def FnExactPickDimWrongFalsely : Prop := fnExactPickDimRow.holds Try.pinned (OpenSpec.ofChange fnExactPickDimWrong)

/-- 'laws.FnExactAddDim': WHATEVER THE INPUT: true; the input reads as it did. -/
def fnExactAddDimSpec : ChangeSpec := { name := "fnExactAddDim", fn := fun _ => fun
  | [d1, d2] => { results := [.lit (.bool true)], args := [d1, d2] }
  | _ => none }
def fnExactAddDimRow : OpenClaim := { program := "ytfkaejajkkbpmaa", sum := "daa929bfef02a05d3792ce832793db0b94c590d8380e4f96ee6a29ba76311ead", func := "loop.example/strideviews/laws.FnExactAddDim", spec := "fnExactAddDim", inPlace := ["slices.overlaps[loop.example/strideviews/impl.dim]"], apart := false }
def FnExactAddDimSaid : Prop := fnExactAddDimRow.holds Try.pinned (OpenSpec.ofChange fnExactAddDimSpec)

/-- ITS FALSE NEIGHBOUR: 'it returns false'. Refute it at one input. -/
def fnExactAddDimWrong : ChangeSpec := { name := "fnExactAddDim", fn := fun _ => fun
  | [d1, d2] => { results := [.lit (.bool false)], args := [d1, d2] }
  | _ => none }
def FnExactAddDimWrongFalsely : Prop := fnExactAddDimRow.holds Try.pinned (OpenSpec.ofChange fnExactAddDimWrong)

/- THE SECOND FORM. 'bulk': how many values and letters a reading holds, each counted each time it is reached (what is shared counts as often as it is met; a slice's spare places count too). A statement '..UptoSaid' is the law's where the arguments, and the package variables that the reading takes, are together of bulk at most 1048576: NARROWER than '..Said'. Prove '..Said' where nothing that the law and all that it calls make is longer than what came in: it says more and counts as full. Else prove '..UptoSaid'. A law counts once. -/
mutual
def uptoBulk {H : Type} : DataW H → Nat
  | .lit (.string bytes) => bytes.length + 1
  | .lit _ => 1
  | .nil => 1
  | .ptr d => uptoBulk d + 1
  | .slice elems spare => uptoBulkAll elems + uptoBulkAll spare + 1
  | .agg parts => uptoBulkAll parts + 1
  | .iface _ d => uptoBulk d + 1
  | .map entries => uptoBulkEntries entries + 1
  | .held _ => 1
def uptoBulkAll {H : Type} : List (DataW H) → Nat
  | [] => 0
  | d :: r => uptoBulk d + uptoBulkAll r
def uptoBulkEntries {H : Type} : List (Lit × DataW H) → Nat
  | [] => 0
  | x :: r => uptoBulkEntry x + uptoBulkEntries r
def uptoBulkEntry {H : Type} : Lit × DataW H → Nat
  | (.string bytes, d) => bytes.length + uptoBulk d + 1
  | (_, d) => uptoBulk d + 1
 end
def uptoSmall : (H : Type) → List (DataW H) → Bool := fun _ ds => decide (uptoBulkAll ds ≤ 1048576)
def OpenSpec.upto (s : _root_.Go.ChangeSpec) : _root_.Go.OpenSpec := { _root_.Go.OpenSpec.ofChange s with cond := some uptoSmall }

/-- 'laws.FnExactSliceDim', WHERE WHAT IT READS IS OF BULK AT MOST 1048576: true; the input reads as it did. -/
def fnExactSliceDimUptoRow : OpenClaim := { program := "ytfkaejajkkbpmaa", sum := "daa929bfef02a05d3792ce832793db0b94c590d8380e4f96ee6a29ba76311ead", func := "loop.example/strideviews/laws.FnExactSliceDim", spec := "fnExactSliceDim", apart := false, narrowed := true }
def FnExactSliceDimUptoSaid : Prop := fnExactSliceDimUptoRow.holds Try.pinned (OpenSpec.upto fnExactSliceDimSpec)

/-- 'laws.FnExactFlipDim', WHERE WHAT IT READS IS OF BULK AT MOST 1048576: true; the input reads as it did. -/
def fnExactFlipDimUptoRow : OpenClaim := { program := "ytfkaejajkkbpmaa", sum := "daa929bfef02a05d3792ce832793db0b94c590d8380e4f96ee6a29ba76311ead", func := "loop.example/strideviews/laws.FnExactFlipDim", spec := "fnExactFlipDim", apart := false, narrowed := true }
def FnExactFlipDimUptoSaid : Prop := fnExactFlipDimUptoRow.holds Try.pinned (OpenSpec.upto fnExactFlipDimSpec)

/-- 'laws.FnExactPermuteDims', WHERE WHAT IT READS IS OF BULK AT MOST 1048576: true; the input reads as it did. -/
def fnExactPermuteDimsUptoRow : OpenClaim := { program := "ytfkaejajkkbpmaa", sum := "daa929bfef02a05d3792ce832793db0b94c590d8380e4f96ee6a29ba76311ead", func := "loop.example/strideviews/laws.FnExactPermuteDims", spec := "fnExactPermuteDims", apart := false, narrowed := true }
def FnExactPermuteDimsUptoSaid : Prop := fnExactPermuteDimsUptoRow.holds Try.pinned (OpenSpec.upto fnExactPermuteDimsSpec)

/-- 'laws.FnExactWindowsOf', WHERE WHAT IT READS IS OF BULK AT MOST 1048576: true; the input reads as it did. -/
def fnExactWindowsOfUptoRow : OpenClaim := { program := "ytfkaejajkkbpmaa", sum := "daa929bfef02a05d3792ce832793db0b94c590d8380e4f96ee6a29ba76311ead", func := "loop.example/strideviews/laws.FnExactWindowsOf", spec := "fnExactWindowsOf", apart := false, narrowed := true }
def FnExactWindowsOfUptoSaid : Prop := fnExactWindowsOfUptoRow.holds Try.pinned (OpenSpec.upto fnExactWindowsOfSpec)

/-- 'laws.FnExactReshape', WHERE WHAT IT READS IS OF BULK AT MOST 1048576: true; the input reads as it did. -/
def fnExactReshapeUptoRow : OpenClaim := { program := "ytfkaejajkkbpmaa", sum := "daa929bfef02a05d3792ce832793db0b94c590d8380e4f96ee6a29ba76311ead", func := "loop.example/strideviews/laws.FnExactReshape", spec := "fnExactReshape", apart := false, narrowed := true }
def FnExactReshapeUptoSaid : Prop := fnExactReshapeUptoRow.holds Try.pinned (OpenSpec.upto fnExactReshapeSpec)

/-- 'laws.FnExactPickDim', WHERE WHAT IT READS IS OF BULK AT MOST 1048576: true; the input reads as it did. -/
def fnExactPickDimUptoRow : OpenClaim := { program := "ytfkaejajkkbpmaa", sum := "daa929bfef02a05d3792ce832793db0b94c590d8380e4f96ee6a29ba76311ead", func := "loop.example/strideviews/laws.FnExactPickDim", spec := "fnExactPickDim", apart := false, narrowed := true }
def FnExactPickDimUptoSaid : Prop := fnExactPickDimUptoRow.holds Try.pinned (OpenSpec.upto fnExactPickDimSpec)

/-- 'laws.FnExactAddDim', WHERE WHAT IT READS IS OF BULK AT MOST 1048576: true; the input reads as it did. -/
def fnExactAddDimUptoRow : OpenClaim := { program := "ytfkaejajkkbpmaa", sum := "daa929bfef02a05d3792ce832793db0b94c590d8380e4f96ee6a29ba76311ead", func := "loop.example/strideviews/laws.FnExactAddDim", spec := "fnExactAddDim", inPlace := ["slices.overlaps[loop.example/strideviews/impl.dim]"], apart := false, narrowed := true }
def FnExactAddDimUptoSaid : Prop := fnExactAddDimUptoRow.holds Try.pinned (OpenSpec.upto fnExactAddDimSpec)

end Rows
end Go.Proofs.Ytfkaejajkkbpmaa
