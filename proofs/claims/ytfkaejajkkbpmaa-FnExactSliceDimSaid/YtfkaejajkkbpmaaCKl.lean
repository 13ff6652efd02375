import Derived.Test.YtfkaejajkkbpmaaCKh
import Derived.Test.YtfkaejajkkbpmaaCM1
set_option linter.unusedSimpArgs false
set_option linter.unusedVariables false
set_option linter.unnecessarySimpa false
set_option maxRecDepth 4000
set_option maxHeartbeats 4000000
namespace Go.Proofs.Ytfkaejajkkbpmaa
open VwM Vw Go

theorem snormalG_ok (xs : List Int) (n : Nat) (hn : xs.length = n) (h1 : n ≤ 1000000) (hb : ∀ x ∈ xs, -1000 ≤ x ∧ x ≤ 1000) : PCall Try.prog 72 [.rows false (IL xs) n] (fun r => r = nrmA xs) := by
  subst hn
  refine pcall_of l72_eq rfl ?_
  unfold nrmA
  by_cases hz : xs.length = 0
  · have hz' : (xs.length : Int) = 0 := by omega
    (repeat' (first
      | (first | refine awp_seq ?_ | refine awp_block ?_)
      | ((first | refine awp_reg ?_ | refine awp_draw (mid := l72r5a) (post := l72r5b) mixed (by decide) ?_ | refine awp_draw (mid := l72r6a) (post := l72r6b) mixed (by decide) ?_ | refine awp_condB ?_ | refine awp_skip ?_ | refine awp_exit ?_); simp (maxSteps := 400000) (disch := omega) only [push_cast, seval, Bool.false_eq_true, List.length_replicate, l72r0, l72r1, l72r2, l72r3, l72r4, l72r5a, l72r5b, l72r5, l72r6a, l72r6b, l72r6, l72r7, l72r8, l72r9, l72r10, hz'])
      | ((first | refine condB_split (fun h => ?_) (fun h => ?_) | refine gIf_split (fun h => ?_) (fun h => ?_) | refine qIf_split (fun h => ?_) (fun h => ?_)) <;> (try simp only [h]) <;> (try simp only [decide_eq_true_eq, decide_eq_false_iff_not, Bool.not_eq_true', Bool.not_eq_false', Bool.and_eq_true, Bool.or_eq_true, Bool.and_eq_false_iff, Bool.or_eq_false_iff, Int.not_le, Int.not_lt, bne_iff_ne, ne_eq, beq_iff_eq, Bool.not_eq_true, Bool.not_eq_false] at h) <;> (try simp only [h]) <;> (first | (exfalso; omega) | (focus (exfalso; simp_all; done)) | (simp (maxSteps := 400000) (disch := omega) only [push_cast, seval, Bool.false_eq_true, List.length_replicate, hz']) | skip))
      | (refine awp_ret ⟨.inr rfl, _, rfl, ?_⟩; (try simp (maxSteps := 400000) (disch := omega) only [push_cast, seval, Bool.false_eq_true, List.length_replicate, hz']))))
    all_goals simp [hz]
  have b0 := hb _ (getD_mem (xs := xs) (j := 0) (by omega))
  have hz' : ¬ (xs.length : Int) = 0 := by omega
  by_cases ho : xs.length = 1
  · have ho' : (xs.length : Int) = 1 := by omega
    have h0 : 0 < xs.length := by omega
    (repeat' (first
      | (first | refine awp_seq ?_ | refine awp_block ?_)
      | ((first | refine awp_reg ?_ | refine awp_draw (mid := l72r5a) (post := l72r5b) mixed (by decide) ?_ | refine awp_draw (mid := l72r6a) (post := l72r6b) mixed (by decide) ?_ | refine awp_condB ?_ | refine awp_skip ?_ | refine awp_exit ?_); simp (maxSteps := 400000) (disch := omega) only [push_cast, seval, Bool.false_eq_true, List.length_replicate, l72r0, l72r1, l72r2, l72r3, l72r4, l72r5a, l72r5b, l72r5, l72r6a, l72r6b, l72r6, l72r7, l72r8, l72r9, l72r10, hz', ho', h0])
      | ((first | refine condB_split (fun h => ?_) (fun h => ?_) | refine gIf_split (fun h => ?_) (fun h => ?_) | refine qIf_split (fun h => ?_) (fun h => ?_)) <;> (try simp only [h]) <;> (try simp only [decide_eq_true_eq, decide_eq_false_iff_not, Bool.not_eq_true', Bool.not_eq_false', Bool.and_eq_true, Bool.or_eq_true, Bool.and_eq_false_iff, Bool.or_eq_false_iff, Int.not_le, Int.not_lt, bne_iff_ne, ne_eq, beq_iff_eq, Bool.not_eq_true, Bool.not_eq_false] at h) <;> (try simp only [h]) <;> (first | (exfalso; omega) | (focus (exfalso; simp_all; done)) | (simp (maxSteps := 400000) (disch := omega) only [push_cast, seval, Bool.false_eq_true, List.length_replicate, hz', ho', h0]) | skip))
      | (refine awp_ret ⟨.inr rfl, _, rfl, ?_⟩; (try simp (maxSteps := 400000) (disch := omega) only [push_cast, seval, Bool.false_eq_true, List.length_replicate, hz', ho', h0]))))
    all_goals simp [ho, hz]
  have b1 := hb _ (getD_mem (xs := xs) (j := 1) (by omega))
  have bl := hb _ (getD_mem (xs := xs) (j := xs.length - 1) (by omega))
  have ho' : ¬ (xs.length : Int) = 1 := by omega
  have hlen : 0 < xs.length ∧ 1 < xs.length := by omega
  have e1 : ((xs.length : Int) - 1).toNat = xs.length - 1 := by omega
  by_cases hc : xs.getD 1 0 - xs.getD 0 0 < 0
  · (repeat' (first
      | (first | refine awp_seq ?_ | refine awp_block ?_)
      | ((first | refine awp_reg ?_ | refine awp_draw (mid := l72r5a) (post := l72r5b) mixed (by decide) ?_ | refine awp_draw (mid := l72r6a) (post := l72r6b) mixed (by decide) ?_ | refine awp_condB ?_ | refine awp_skip ?_ | refine awp_exit ?_); simp (maxSteps := 400000) (disch := omega) only [push_cast, seval, Bool.false_eq_true, List.length_replicate, l72r0, l72r1, l72r2, l72r3, l72r4, l72r5a, l72r5b, l72r5, l72r6a, l72r6b, l72r6, l72r7, l72r8, l72r9, l72r10, hlen, hz', ho', hc, e1])
      | ((first | refine condB_split (fun h => ?_) (fun h => ?_) | refine gIf_split (fun h => ?_) (fun h => ?_) | refine qIf_split (fun h => ?_) (fun h => ?_)) <;> (try simp only [h]) <;> (try simp only [decide_eq_true_eq, decide_eq_false_iff_not, Bool.not_eq_true', Bool.not_eq_false', Bool.and_eq_true, Bool.or_eq_true, Bool.and_eq_false_iff, Bool.or_eq_false_iff, Int.not_le, Int.not_lt, bne_iff_ne, ne_eq, beq_iff_eq, Bool.not_eq_true, Bool.not_eq_false] at h) <;> (try simp only [h]) <;> (first | (exfalso; omega) | (focus (exfalso; simp_all; done)) | (simp (maxSteps := 400000) (disch := omega) only [push_cast, seval, Bool.false_eq_true, List.length_replicate, hlen, hz', ho', hc, e1]) | skip))
      | (refine awp_ret ⟨.inr rfl, _, rfl, ?_⟩; (try simp (maxSteps := 400000) (disch := omega) only [push_cast, seval, Bool.false_eq_true, List.length_replicate, hlen, hz', ho', hc, e1]))))
    all_goals (simp only [hz, ho, hc, if_true, if_false])
  · (repeat' (first
      | (first | refine awp_seq ?_ | refine awp_block ?_)
      | ((first | refine awp_reg ?_ | refine awp_draw (mid := l72r5a) (post := l72r5b) mixed (by decide) ?_ | refine awp_draw (mid := l72r6a) (post := l72r6b) mixed (by decide) ?_ | refine awp_condB ?_ | refine awp_skip ?_ | refine awp_exit ?_); simp (maxSteps := 400000) (disch := omega) only [push_cast, seval, Bool.false_eq_true, List.length_replicate, l72r0, l72r1, l72r2, l72r3, l72r4, l72r5a, l72r5b, l72r5, l72r6a, l72r6b, l72r6, l72r7, l72r8, l72r9, l72r10, hlen, hz', ho', hc, e1])
      | ((first | refine condB_split (fun h => ?_) (fun h => ?_) | refine gIf_split (fun h => ?_) (fun h => ?_) | refine qIf_split (fun h => ?_) (fun h => ?_)) <;> (try simp only [h]) <;> (try simp only [decide_eq_true_eq, decide_eq_false_iff_not, Bool.not_eq_true', Bool.not_eq_false', Bool.and_eq_true, Bool.or_eq_true, Bool.and_eq_false_iff, Bool.or_eq_false_iff, Int.not_le, Int.not_lt, bne_iff_ne, ne_eq, beq_iff_eq, Bool.not_eq_true, Bool.not_eq_false] at h) <;> (try simp only [h]) <;> (first | (exfalso; omega) | (focus (exfalso; simp_all; done)) | (simp (maxSteps := 400000) (disch := omega) only [push_cast, seval, Bool.false_eq_true, List.length_replicate, hlen, hz', ho', hc, e1]) | skip))
      | (refine awp_ret ⟨.inr rfl, _, rfl, ?_⟩; (try simp (maxSteps := 400000) (disch := omega) only [push_cast, seval, Bool.false_eq_true, List.length_replicate, hlen, hz', ho', hc, e1]))))
    all_goals (simp only [hz, ho, hc, if_true, if_false])

end Go.Proofs.Ytfkaejajkkbpmaa
