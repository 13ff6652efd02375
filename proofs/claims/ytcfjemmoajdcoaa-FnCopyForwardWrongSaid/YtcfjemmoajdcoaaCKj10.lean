import Derived.Test.YtcfjemmoajdcoaaCKj8
import Derived.Test.YtcfjemmoajdcoaaCM1
import Derived.Test.YtcfjemmoajdcoaaCW3
set_option linter.unusedSimpArgs false
set_option linter.unusedVariables false
set_option maxRecDepth 4000
set_option maxHeartbeats 4000000
namespace Go.Proofs.Ytcfjemmoajdcoaa
open VwM Vw Go

theorem sumV_perm {mem : List Int} {b : Int} {sh st order : List Int} (hs : seeB mem b sh st = true) (h : isOrd order sh.length) : sumV mem b (permL sh order) (permL st order) = sumV mem b sh st := by
  have hg := (vSh_good (vV_spec.1 (seeB_spec.1 hs).2.1).1).1
  have hp := offs_perm (b := b) (st := st) hg h
  unfold sumV
  rw [if_pos hs,if_pos (seeB_perm hs h)]
  have := sumT_perm (hp.map fun i : Int => mem.getD i.toNat 0)
  simp only [List.length_map] at this
  exact this

end Go.Proofs.Ytcfjemmoajdcoaa
