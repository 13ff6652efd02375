import Derived.Test.YtfphjgmkpgoomaaCKv9
import Derived.Test.YtfphjgmkpgoomaaCM1
import Derived.Test.YtfphjgmkpgoomaaCW3
set_option linter.unusedSimpArgs false
set_option linter.unusedVariables false
set_option maxRecDepth 4000
set_option maxHeartbeats 4000000
namespace Go.Proofs.Ytfphjgmkpgoomaa
open VwM Vw Go

theorem no_gap_in {b : Int} {sh st : List Int} (hv : vV b sh st = true) (hz : ¬ pr sh = 0) (hg : (gaL b sh st).length = 0) {x : Int} (h1 : bdL b sh st ≤ x) (h2 : x ≤ bdH b sh st) : x ∈ offs b sh st := by
  obtain ⟨-,e1,e2⟩ := ga_facts hv hz
  refine Classical.byContradiction fun hx => ?_
  have : x ∈ gaL b sh st := by
    unfold gaL gapL
    refine List.mem_filter.2 ⟨?_,by simpa using hx⟩
    rw [e1,e2]
    refine List.mem_map.2 ⟨(x - bdL b sh st).toNat,List.mem_range.2 (by omega),by omega⟩
  rw [List.length_eq_zero_iff.1 hg] at this
  cases this
theorem no_gap {b : Int} {sh st : List Int} {b' : Int} {sh' st' : List Int} (hv : vV b sh st = true) (hv' : vV b' sh' st' = true) (hg : (gaL b sh st).length = 0) (hg' : (gaL b' sh' st').length = 0) : mayB b sh st b' sh' st' = doB b sh st b' sh' st' := by
  cases hd : doB b sh st b' sh' st' with
  | true => exact do_may hd
  | false =>
    refine Bool.eq_false_iff.2 fun hm => ?_
    rw [may_iff hv hv'] at hm
    simp only [Bool.and_eq_true,decide_eq_true_eq] at hm
    obtain ⟨⟨⟨m1,m2⟩,m3⟩,m4⟩ := hm
    have z : ¬ pr sh = 0 := fun e => by rw [bdL,if_pos e] at m1; omega
    have z' : ¬ pr sh' = 0 := fun e => by rw [bdL,if_pos e] at m2; omega
    have k := bd_cells hv z
    have k' := bd_cells hv' z'
    have x1 := no_gap_in hv z hg (x := max (bdL b sh st) (bdL b' sh' st')) (by omega) (by omega)
    have x2 := no_gap_in hv' z' hg' (x := max (bdL b sh st) (bdL b' sh' st')) (by omega) (by omega)
    have hm : max (bdL b sh st) (bdL b' sh' st') ∈ bothL (offs b sh st) (offs b' sh' st') := mem_bothL.2 ⟨by omega,x1,x2⟩
    have hov : ovB b sh st b' sh' st' = true := by simp [ovB,hv,hv']
    have h0 := of_decide_eq_false hd
    rw [hov] at h0
    exact h0 (List.length_pos_of_mem hm)

end Go.Proofs.Ytfphjgmkpgoomaa
