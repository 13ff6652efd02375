/-
  No cell of these rows narrows 'for every input' (looked for: loops, veiled, ifaces, maps, wideKeys, modest, calm, conditions, laid).
  DERIVED. THE GIVEN ROWS OF THIS SEAT. 12 by the template 'for every input the law returns true; each argument reads behind the call as it read before'; 0 by the template 'total and deterministic' (their statements: YtlldjeggalkpgaaTotals.lean).
  GIVEN WITH THE SEED: the statements are not yours to turn. If you find one false, say at which input.
  Laid BY PROGRAM, IN A SANDBOX (cutbox-rows.mjs): the forced cells as the released guide's own fill.sh prints them over the translation 8a1e72f756a719b1… (all of the seat's roots in one cut). By AI agents, Wed Nov 11 2026. No macro, syntax, notation, axiom, sorry.
-/
import Derived.Test.YtlldjeggalkpgaaChecked
import GoSem.Claim
import GoSem.ClaimJoined
import GoSem.ClaimMapViews
import Derived.JoinedTies
import Derived.KernelRfl
namespace Go.Proofs.Ytlldjeggalkpgaa
/- THE CELL 'sum', in the pinned program and in every row, IS THE sha256 OF THE DUMP (.gsa) THAT YtlldjeggalkpgaaProg.lean LOADS. Nothing in Lean hashes anything: it is a label: what it is worth is what the hold of that sum in a sandbox is worth. -/
noncomputable def Try.pinned : Pinned := { name := "ytlldjeggalkpgaa", sum := "8a1e72f756a719b1786f9cb8cbe56407b8cced4f47782150494e5a831752d135", checked := Try.checked }
namespace Rows
def none {H : Type} : Left H := { results := [], args := [] }

/-- 'laws.FnExactValidMemory': WHATEVER THE INPUT: true; the input reads as it did. -/
def fnExactValidMemorySpec : ChangeSpec := { name := "fnExactValidMemory", fn := fun _ => fun
  | [d] => { results := [.lit (.bool true)], args := [d] }
  | _ => none }
def fnExactValidMemoryRow : OpenClaim := { program := "ytlldjeggalkpgaa", sum := "8a1e72f756a719b1786f9cb8cbe56407b8cced4f47782150494e5a831752d135", func := "loop.example/strideviews/laws.FnExactValidMemory", spec := "fnExactValidMemory", apart := false }
def FnExactValidMemorySaid : Prop := fnExactValidMemoryRow.holds Try.pinned (OpenSpec.ofChange fnExactValidMemorySpec)

/-- ITS FALSE NEIGHBOUR: 'it returns false'. Refute it at one input. -/
def fnExactValidMemoryWrong : ChangeSpec := { name := "fnExactValidMemory", fn := fun _ => fun
  | [d] => { results := [.lit (.bool false)], args := [d] }
  | _ => none }
def FnExactValidMemoryWrongFalsely : Prop := fnExactValidMemoryRow.holds Try.pinned (OpenSpec.ofChange fnExactValidMemoryWrong)

/-- 'laws.FnExactLoadView': WHATEVER THE INPUT: true; the input reads as it did. -/
def fnExactLoadViewSpec : ChangeSpec := { name := "fnExactLoadView", fn := fun _ => fun
  | [d1, d2] => { results := [.lit (.bool true)], args := [d1, d2] }
  | _ => none }
def fnExactLoadViewRow : OpenClaim := { program := "ytlldjeggalkpgaa", sum := "8a1e72f756a719b1786f9cb8cbe56407b8cced4f47782150494e5a831752d135", func := "loop.example/strideviews/laws.FnExactLoadView", spec := "fnExactLoadView", apart := false }
def FnExactLoadViewSaid : Prop := fnExactLoadViewRow.holds Try.pinned (OpenSpec.ofChange fnExactLoadViewSpec)

/-- ITS FALSE NEIGHBOUR: 'it returns false'. Refute it at one input. -/
def fnExactLoadViewWrong : ChangeSpec := { name := "fnExactLoadView", fn := fun _ => fun
  | [d1, d2] => { results := [.lit (.bool false)], args := [d1, d2] }
  | _ => none }
def FnExactLoadViewWrongFalsely : Prop := fnExactLoadViewRow.holds Try.pinned (OpenSpec.ofChange fnExactLoadViewWrong)

/-- 'laws.FnExactStoreView': WHATEVER THE INPUT: true; the input reads as it did. -/
def fnExactStoreViewSpec : ChangeSpec := { name := "fnExactStoreView", fn := fun _ => fun
  | [d1, d2, d3] => { results := [.lit (.bool true)], args := [d1, d2, d3] }
  | _ => none }
def fnExactStoreViewRow : OpenClaim := { program := "ytlldjeggalkpgaa", sum := "8a1e72f756a719b1786f9cb8cbe56407b8cced4f47782150494e5a831752d135", func := "loop.example/strideviews/laws.FnExactStoreView", spec := "fnExactStoreView", apart := false }
def FnExactStoreViewSaid : Prop := fnExactStoreViewRow.holds Try.pinned (OpenSpec.ofChange fnExactStoreViewSpec)

/-- ITS FALSE NEIGHBOUR: 'it returns false'. Refute it at one input. -/
def fnExactStoreViewWrong : ChangeSpec := { name := "fnExactStoreView", fn := fun _ => fun
  | [d1, d2, d3] => { results := [.lit (.bool false)], args := [d1, d2, d3] }
  | _ => none }
def FnExactStoreViewWrongFalsely : Prop := fnExactStoreViewRow.holds Try.pinned (OpenSpec.ofChange fnExactStoreViewWrong)

/-- 'laws.FnExactFillView': WHATEVER THE INPUT: true; the input reads as it did. -/
def fnExactFillViewSpec : ChangeSpec := { name := "fnExactFillView", fn := fun _ => fun
  | [d1, d2, d3] => { results := [.lit (.bool true)], args := [d1, d2, d3] }
  | _ => none }
def fnExactFillViewRow : OpenClaim := { program := "ytlldjeggalkpgaa", sum := "8a1e72f756a719b1786f9cb8cbe56407b8cced4f47782150494e5a831752d135", func := "loop.example/strideviews/laws.FnExactFillView", spec := "fnExactFillView", apart := false }
def FnExactFillViewSaid : Prop := fnExactFillViewRow.holds Try.pinned (OpenSpec.ofChange fnExactFillViewSpec)

/-- ITS FALSE NEIGHBOUR: 'it returns false'. Refute it at one input. -/
def fnExactFillViewWrong : ChangeSpec := { name := "fnExactFillView", fn := fun _ => fun
  | [d1, d2, d3] => { results := [.lit (.bool false)], args := [d1, d2, d3] }
  | _ => none }
def FnExactFillViewWrongFalsely : Prop := fnExactFillViewRow.holds Try.pinned (OpenSpec.ofChange fnExactFillViewWrong)

/-- 'laws.FnExactCopyView': WHATEVER THE INPUT: true; the input reads as it did. -/
def fnExactCopyViewSpec : ChangeSpec := { name := "fnExactCopyView", fn := fun _ => fun
  | [d1, d2, d3] => { results := [.lit (.bool true)], args := [d1, d2, d3] }
  | _ => none }
def fnExactCopyViewRow : OpenClaim := { program := "ytlldjeggalkpgaa", sum := "8a1e72f756a719b1786f9cb8cbe56407b8cced4f47782150494e5a831752d135", func := "loop.example/strideviews/laws.FnExactCopyView", spec := "fnExactCopyView", apart := false }
def FnExactCopyViewSaid : Prop := fnExactCopyViewRow.holds Try.pinned (OpenSpec.ofChange fnExactCopyViewSpec)

/-- ITS FALSE NEIGHBOUR: 'it returns false'. Refute it at one input. -/
def fnExactCopyViewWrong : ChangeSpec := { name := "fnExactCopyView", fn := fun _ => fun
  | [d1, d2, d3] => { results := [.lit (.bool false)], args := [d1, d2, d3] }
  | _ => none }
def FnExactCopyViewWrongFalsely : Prop := fnExactCopyViewRow.holds Try.pinned (OpenSpec.ofChange fnExactCopyViewWrong)

/-- 'laws.FnExactCopyForward': WHATEVER THE INPUT: true; the input reads as it did. -/
def fnExactCopyForwardSpec : ChangeSpec := { name := "fnExactCopyForward", fn := fun _ => fun
  | [d1, d2, d3] => { results := [.lit (.bool true)], args := [d1, d2, d3] }
  | _ => none }
def fnExactCopyForwardRow : OpenClaim := { program := "ytlldjeggalkpgaa", sum := "8a1e72f756a719b1786f9cb8cbe56407b8cced4f47782150494e5a831752d135", func := "loop.example/strideviews/laws.FnExactCopyForward", spec := "fnExactCopyForward", apart := false }
def FnExactCopyForwardSaid : Prop := fnExactCopyForwardRow.holds Try.pinned (OpenSpec.ofChange fnExactCopyForwardSpec)

/-- ITS FALSE NEIGHBOUR: 'it returns false'. Refute it at one input. -/
def fnExactCopyForwardWrong : ChangeSpec := { name := "fnExactCopyForward", fn := fun _ => fun
  | [d1, d2, d3] => { results := [.lit (.bool false)], args := [d1, d2, d3] }
  | _ => none }
def FnExactCopyForwardWrongFalsely : Prop := fnExactCopyForwardRow.holds Try.pinned (OpenSpec.ofChange fnExactCopyForwardWrong)

/-- 'laws.FnExactCopyBackward': WHATEVER THE INPUT: true; the input reads as it did. -/
def fnExactCopyBackwardSpec : ChangeSpec := { name := "fnExactCopyBackward", fn := fun _ => fun
  | [d1, d2, d3] => { results := [.lit (.bool true)], args := [d1, d2, d3] }
  | _ => none }
def fnExactCopyBackwardRow : OpenClaim := { program := "ytlldjeggalkpgaa", sum := "8a1e72f756a719b1786f9cb8cbe56407b8cced4f47782150494e5a831752d135", func := "loop.example/strideviews/laws.FnExactCopyBackward", spec := "fnExactCopyBackward", apart := false }
def FnExactCopyBackwardSaid : Prop := fnExactCopyBackwardRow.holds Try.pinned (OpenSpec.ofChange fnExactCopyBackwardSpec)

/-- ITS FALSE NEIGHBOUR: 'it returns false'. Refute it at one input. -/
def fnExactCopyBackwardWrong : ChangeSpec := { name := "fnExactCopyBackward", fn := fun _ => fun
  | [d1, d2, d3] => { results := [.lit (.bool false)], args := [d1, d2, d3] }
  | _ => none }
def FnExactCopyBackwardWrongFalsely : Prop := fnExactCopyBackwardRow.holds Try.pinned (OpenSpec.ofChange fnExactCopyBackwardWrong)

/-- 'laws.FnExactWayOf': WHATEVER THE INPUT: true; the input reads as it did. -/
def fnExactWayOfSpec : ChangeSpec := { name := "fnExactWayOf", fn := fun _ => fun
  | [d1, d2] => { results := [.lit (.bool true)], args := [d1, d2] }
  | _ => none }
def fnExactWayOfRow : OpenClaim := { program := "ytlldjeggalkpgaa", sum := "8a1e72f756a719b1786f9cb8cbe56407b8cced4f47782150494e5a831752d135", func := "loop.example/strideviews/laws.FnExactWayOf", spec := "fnExactWayOf", apart := false }
def FnExactWayOfSaid : Prop := fnExactWayOfRow.holds Try.pinned (OpenSpec.ofChange fnExactWayOfSpec)

/-- ITS FALSE NEIGHBOUR: 'it returns false'. Refute it at one input. -/
def fnExactWayOfWrong : ChangeSpec := { name := "fnExactWayOf", fn := fun _ => fun
  | [d1, d2] => { results := [.lit (.bool false)], args := [d1, d2] }
  | _ => none }
def FnExactWayOfWrongFalsely : Prop := fnExactWayOfRow.holds Try.pinned (OpenSpec.ofChange fnExactWayOfWrong)

/-- 'laws.FnExactAddView': WHATEVER THE INPUT: true; the input reads as it did. -/
def fnExactAddViewSpec : ChangeSpec := { name := "fnExactAddView", fn := fun _ => fun
  | [d1, d2, d3] => { results := [.lit (.bool true)], args := [d1, d2, d3] }
  | _ => none }
def fnExactAddViewRow : OpenClaim := { program := "ytlldjeggalkpgaa", sum := "8a1e72f756a719b1786f9cb8cbe56407b8cced4f47782150494e5a831752d135", func := "loop.example/strideviews/laws.FnExactAddView", spec := "fnExactAddView", apart := false }
def FnExactAddViewSaid : Prop := fnExactAddViewRow.holds Try.pinned (OpenSpec.ofChange fnExactAddViewSpec)

/-- ITS FALSE NEIGHBOUR: 'it returns false'. Refute it at one input. -/
def fnExactAddViewWrong : ChangeSpec := { name := "fnExactAddView", fn := fun _ => fun
  | [d1, d2, d3] => { results := [.lit (.bool false)], args := [d1, d2, d3] }
  | _ => none }
def FnExactAddViewWrongFalsely : Prop := fnExactAddViewRow.holds Try.pinned (OpenSpec.ofChange fnExactAddViewWrong)

/-- 'laws.FnExactSwapViews': WHATEVER THE INPUT: true; the input reads as it did. -/
def fnExactSwapViewsSpec : ChangeSpec := { name := "fnExactSwapViews", fn := fun _ => fun
  | [d1, d2, d3] => { results := [.lit (.bool true)], args := [d1, d2, d3] }
  | _ => none }
def fnExactSwapViewsRow : OpenClaim := { program := "ytlldjeggalkpgaa", sum := "8a1e72f756a719b1786f9cb8cbe56407b8cced4f47782150494e5a831752d135", func := "loop.example/strideviews/laws.FnExactSwapViews", spec := "fnExactSwapViews", recurses := true, apart := false }
def FnExactSwapViewsSaid : Prop := fnExactSwapViewsRow.holds Try.pinned (OpenSpec.ofChange fnExactSwapViewsSpec)

/-- ITS FALSE NEIGHBOUR: 'it returns false'. Refute it at one input. -/
def fnExactSwapViewsWrong : ChangeSpec := { name := "fnExactSwapViews", fn := fun _ => fun
  | [d1, d2, d3] => { results := [.lit (.bool false)], args := [d1, d2, d3] }
  | _ => none }
def FnExactSwapViewsWrongFalsely : Prop := fnExactSwapViewsRow.holds Try.pinned (OpenSpec.ofChange fnExactSwapViewsWrong)

/-- 'laws.FnExactChangedBy': WHATEVER THE INPUT: true; the input reads as it did. -/
def fnExactChangedBySpec : ChangeSpec := { name := "fnExactChangedBy", fn := fun _ => fun
  | [d1, d2] => { results := [.lit (.bool true)], args := [d1, d2] }
  | _ => none }
def fnExactChangedByRow : OpenClaim := { program := "ytlldjeggalkpgaa", sum := "8a1e72f756a719b1786f9cb8cbe56407b8cced4f47782150494e5a831752d135", func := "loop.example/strideviews/laws.FnExactChangedBy", spec := "fnExactChangedBy", apart := false }
def FnExactChangedBySaid : Prop := fnExactChangedByRow.holds Try.pinned (OpenSpec.ofChange fnExactChangedBySpec)

/-- ITS FALSE NEIGHBOUR: 'it returns false'. Refute it at one input. -/
def fnExactChangedByWrong : ChangeSpec := { name := "fnExactChangedBy", fn := fun _ => fun
  | [d1, d2] => { results := [.lit (.bool false)], args := [d1, d2] }
  | _ => none }
def FnExactChangedByWrongFalsely : Prop := fnExactChangedByRow.holds Try.pinned (OpenSpec.ofChange fnExactChangedByWrong)

/-- 'laws.FnExactSumView': WHATEVER THE INPUT: true; the input reads as it did. -/
def fnExactSumViewSpec : ChangeSpec := { name := "fnExactSumView", fn := fun _ => fun
  | [d1, d2] => { results := [.lit (.bool true)], args := [d1, d2] }
  | _ => none }
def fnExactSumViewRow : OpenClaim := { program := "ytlldjeggalkpgaa", sum := "8a1e72f756a719b1786f9cb8cbe56407b8cced4f47782150494e5a831752d135", func := "loop.example/strideviews/laws.FnExactSumView", spec := "fnExactSumView", apart := false }
def FnExactSumViewSaid : Prop := fnExactSumViewRow.holds Try.pinned (OpenSpec.ofChange fnExactSumViewSpec)

/-- ITS FALSE NEIGHBOUR: 'it returns false'. Refute it at one input. -/
def fnExactSumViewWrong : ChangeSpec := { name := "fnExactSumView", fn := fun _ => fun
  | [d1, d2] => { results := [.lit (.bool false)], args := [d1, d2] }
  | _ => none }
def FnExactSumViewWrongFalsely : Prop := fnExactSumViewRow.holds Try.pinned (OpenSpec.ofChange fnExactSumViewWrong)

/- THE SECOND FORM. 'bulk': how many values and letters a reading holds, each counted each time it is reached (what is shared counts as often as it is met; a slice's spare places count too). A statement '..UptoSaid' is the law's where the arguments, and the package variables that the reading takes, are together of bulk at most 1048576: NARROWER than '..Said'. Prove '..Said' where nothing that the law and all that it calls make is longer than what came in: it says more and counts as full. Else prove '..UptoSaid'. A law counts once. -/
mutual
def uptoBulk {H : Type} : DataW H → Nat
  | .lit (.string bytes) => bytes.length + 1
  | .lit _ => 1
  | .nil => 1
  | .ptr d => uptoBulk d + 1
  | .slice elems spare => uptoBulkAll elems + uptoBulkAll spare + 1
  | .agg parts => uptoBulkAll parts + 1
  | .iface _ d => uptoBulk d + 1
  | .map entries => uptoBulkEntries entries + 1
  | .held _ => 1
def uptoBulkAll {H : Type} : List (DataW H) → Nat
  | [] => 0
  | d :: r => uptoBulk d + uptoBulkAll r
def uptoBulkEntries {H : Type} : List (Lit × DataW H) → Nat
  | [] => 0
  | x :: r => uptoBulkEntry x + uptoBulkEntries r
def uptoBulkEntry {H : Type} : Lit × DataW H → Nat
  | (.string bytes, d) => bytes.length + uptoBulk d + 1
  | (_, d) => uptoBulk d + 1
 end
def uptoSmall : (H : Type) → List (DataW H) → Bool := fun _ ds => decide (uptoBulkAll ds ≤ 1048576)
def OpenSpec.upto (s : _root_.Go.ChangeSpec) : _root_.Go.OpenSpec := { _root_.Go.OpenSpec.ofChange s with cond := some uptoSmall }

/-- 'laws.FnExactValidMemory', WHERE WHAT IT READS IS OF BULK AT MOST 1048576: true; the input reads as it did. -/
def fnExactValidMemoryUptoRow : OpenClaim := { program := "ytlldjeggalkpgaa", sum := "8a1e72f756a719b1786f9cb8cbe56407b8cced4f47782150494e5a831752d135", func := "loop.example/strideviews/laws.FnExactValidMemory", spec := "fnExactValidMemory", apart := false, narrowed := true }
def FnExactValidMemoryUptoSaid : Prop := fnExactValidMemoryUptoRow.holds Try.pinned (OpenSpec.upto fnExactValidMemorySpec)

/-- 'laws.FnExactLoadView', WHERE WHAT IT READS IS OF BULK AT MOST 1048576: true; the input reads as it did. -/
def fnExactLoadViewUptoRow : OpenClaim := { program := "ytlldjeggalkpgaa", sum := "8a1e72f756a719b1786f9cb8cbe56407b8cced4f47782150494e5a831752d135", func := "loop.example/strideviews/laws.FnExactLoadView", spec := "fnExactLoadView", apart := false, narrowed := true }
def FnExactLoadViewUptoSaid : Prop := fnExactLoadViewUptoRow.holds Try.pinned (OpenSpec.upto fnExactLoadViewSpec)

/-- 'laws.FnExactStoreView', WHERE WHAT IT READS IS OF BULK AT MOST 1048576: true; the input reads as it did. -/
def fnExactStoreViewUptoRow : OpenClaim := { program := "ytlldjeggalkpgaa", sum := "8a1e72f756a719b1786f9cb8cbe56407b8cced4f47782150494e5a831752d135", func := "loop.example/strideviews/laws.FnExactStoreView", spec := "fnExactStoreView", apart := false, narrowed := true }
def FnExactStoreViewUptoSaid : Prop := fnExactStoreViewUptoRow.holds Try.pinned (OpenSpec.upto fnExactStoreViewSpec)

/-- 'laws.FnExactFillView', WHERE WHAT IT READS IS OF BULK AT MOST 1048576: true; the input reads as it did. -/
def fnExactFillViewUptoRow : OpenClaim := { program := "ytlldjeggalkpgaa", sum := "8a1e72f756a719b1786f9cb8cbe56407b8cced4f47782150494e5a831752d135", func := "loop.example/strideviews/laws.FnExactFillView", spec := "fnExactFillView", apart := false, narrowed := true }
def FnExactFillViewUptoSaid : Prop := fnExactFillViewUptoRow.holds Try.pinned (OpenSpec.upto fnExactFillViewSpec)

/-- 'laws.FnExactCopyView', WHERE WHAT IT READS IS OF BULK AT MOST 1048576: true; the input reads as it did. -/
def fnExactCopyViewUptoRow : OpenClaim := { program := "ytlldjeggalkpgaa", sum := "8a1e72f756a719b1786f9cb8cbe56407b8cced4f47782150494e5a831752d135", func := "loop.example/strideviews/laws.FnExactCopyView", spec := "fnExactCopyView", apart := false, narrowed := true }
def FnExactCopyViewUptoSaid : Prop := fnExactCopyViewUptoRow.holds Try.pinned (OpenSpec.upto fnExactCopyViewSpec)

/-- 'laws.FnExactCopyForward', WHERE WHAT IT READS IS OF BULK AT MOST 1048576: true; the input reads as it did. -/
def fnExactCopyForwardUptoRow : OpenClaim := { program := "ytlldjeggalkpgaa", sum := "8a1e72f756a719b1786f9cb8cbe56407b8cced4f47782150494e5a831752d135", func := "loop.example/strideviews/laws.FnExactCopyForward", spec := "fnExactCopyForward", apart := false, narrowed := true }
def FnExactCopyForwardUptoSaid : Prop := fnExactCopyForwardUptoRow.holds Try.pinned (OpenSpec.upto fnExactCopyForwardSpec)

/-- 'laws.FnExactCopyBackward', WHERE WHAT IT READS IS OF BULK AT MOST 1048576: true; the input reads as it did. -/
def fnExactCopyBackwardUptoRow : OpenClaim := { program := "ytlldjeggalkpgaa", sum := "8a1e72f756a719b1786f9cb8cbe56407b8cced4f47782150494e5a831752d135", func := "loop.example/strideviews/laws.FnExactCopyBackward", spec := "fnExactCopyBackward", apart := false, narrowed := true }
def FnExactCopyBackwardUptoSaid : Prop := fnExactCopyBackwardUptoRow.holds Try.pinned (OpenSpec.upto fnExactCopyBackwardSpec)

/-- 'laws.FnExactWayOf', WHERE WHAT IT READS IS OF BULK AT MOST 1048576: true; the input reads as it did. -/
def fnExactWayOfUptoRow : OpenClaim := { program := "ytlldjeggalkpgaa", sum := "8a1e72f756a719b1786f9cb8cbe56407b8cced4f47782150494e5a831752d135", func := "loop.example/strideviews/laws.FnExactWayOf", spec := "fnExactWayOf", apart := false, narrowed := true }
def FnExactWayOfUptoSaid : Prop := fnExactWayOfUptoRow.holds Try.pinned (OpenSpec.upto fnExactWayOfSpec)

/-- 'laws.FnExactAddView', WHERE WHAT IT READS IS OF BULK AT MOST 1048576: true; the input reads as it did. -/
def fnExactAddViewUptoRow : OpenClaim := { program := "ytlldjeggalkpgaa", sum := "8a1e72f756a719b1786f9cb8cbe56407b8cced4f47782150494e5a831752d135", func := "loop.example/strideviews/laws.FnExactAddView", spec := "fnExactAddView", apart := false, narrowed := true }
def FnExactAddViewUptoSaid : Prop := fnExactAddViewUptoRow.holds Try.pinned (OpenSpec.upto fnExactAddViewSpec)

/-- 'laws.FnExactSwapViews', WHERE WHAT IT READS IS OF BULK AT MOST 1048576: true; the input reads as it did. -/
def fnExactSwapViewsUptoRow : OpenClaim := { program := "ytlldjeggalkpgaa", sum := "8a1e72f756a719b1786f9cb8cbe56407b8cced4f47782150494e5a831752d135", func := "loop.example/strideviews/laws.FnExactSwapViews", spec := "fnExactSwapViews", recurses := true, apart := false, narrowed := true }
def FnExactSwapViewsUptoSaid : Prop := fnExactSwapViewsUptoRow.holds Try.pinned (OpenSpec.upto fnExactSwapViewsSpec)

/-- 'laws.FnExactChangedBy', WHERE WHAT IT READS IS OF BULK AT MOST 1048576: true; the input reads as it did. -/
def fnExactChangedByUptoRow : OpenClaim := { program := "ytlldjeggalkpgaa", sum := "8a1e72f756a719b1786f9cb8cbe56407b8cced4f47782150494e5a831752d135", func := "loop.example/strideviews/laws.FnExactChangedBy", spec := "fnExactChangedBy", apart := false, narrowed := true }
def FnExactChangedByUptoSaid : Prop := fnExactChangedByUptoRow.holds Try.pinned (OpenSpec.upto fnExactChangedBySpec)

/-- 'laws.FnExactSumView', WHERE WHAT IT READS IS OF BULK AT MOST 1048576: true; the input reads as it did. -/
def fnExactSumViewUptoRow : OpenClaim := { program := "ytlldjeggalkpgaa", sum := "8a1e72f756a719b1786f9cb8cbe56407b8cced4f47782150494e5a831752d135", func := "loop.example/strideviews/laws.FnExactSumView", spec := "fnExactSumView", apart := false, narrowed := true }
def FnExactSumViewUptoSaid : Prop := fnExactSumViewUptoRow.holds Try.pinned (OpenSpec.upto fnExactSumViewSpec)

end Rows
end Go.Proofs.Ytlldjeggalkpgaa
