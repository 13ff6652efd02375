import Derived.Test.YtonhjbojpcgadaaCKh
import Derived.Test.YtonhjbojpcgadaaCM1

set_option linter.unusedSimpArgs false
set_option linter.unusedVariables false
set_option linter.unnecessarySimpa false
set_option maxRecDepth 4000
set_option maxHeartbeats 4000000
namespace Go.Proofs.Ytonhjbojpcgadaa
open VwM Vw Go

theorem take_ok (a b c u v w : Int) (h1 : -1000 ≤ a ∧ a ≤ 1000 ∧ -200 ≤ c ∧ c ≤ 200) (hv : vR u v w = true) (h2 : 1 ≤ cntI u v w → -1000000 ≤ (cntI u v w - 1) * (c * w) ∧ (cntI u v w - 1) * (c * w) ≤ 1000000) : PCall Try.prog 43 [rng a b c, rng u v w] (fun r => r = PR (a + u * c) (c * w) (cntI u v w)) := by
  obtain ⟨h3, h4, h5, h6⟩ := h1
  obtain ⟨k1, k2, k3, k4⟩ := vR_spec.1 hv
  have p1 := mul_bd (x := u) (y := c) (p := 100) (q := 200) (by omega) (by omega)
  have p2 := mul_bd (x := c) (y := w) (p := 200) (q := 200) (by omega) (by omega)
  have p3 := cnt_bound hv
  refine pcall_of l43_eq rfl ?_
  (repeat' (first
      | (first | refine awp_seq ?_ | refine awp_block ?_)
      | ((first | refine awp_reg ?_ | refine awp_draw (mid := l43r1a) (post := l43r1b) mixed (by decide) ?_ | refine awp_condB ?_ | refine awp_skip ?_ | refine awp_exit ?_); simp (maxSteps := 400000) (disch := omega) only [push_cast, seval, Bool.false_eq_true, List.length_replicate, l43r0, l43r1a, l43r1b, l43r1])
      | ((first | refine condB_split (fun h => ?_) (fun h => ?_) | refine gIf_split (fun h => ?_) (fun h => ?_) | refine qIf_split (fun h => ?_) (fun h => ?_)) <;> (try simp only [h]) <;> (try simp only [decide_eq_true_eq, decide_eq_false_iff_not, Bool.not_eq_true', Bool.not_eq_false', Bool.and_eq_true, Bool.or_eq_true, Bool.and_eq_false_iff, Bool.or_eq_false_iff, Int.not_le, Int.not_lt, bne_iff_ne, ne_eq, beq_iff_eq, Bool.not_eq_true, Bool.not_eq_false] at h) <;> (try simp only [h]) <;> (first | (exfalso; omega) | (focus (exfalso; simp_all; done)) | (simp (maxSteps := 400000) (disch := omega) only [push_cast, seval, Bool.false_eq_true, List.length_replicate]) | skip))
      | ((first | refine callD_of false ?_ | refine qcallD_of false ?_); simp (maxSteps := 400000) (disch := omega) only [push_cast, seval, Bool.false_eq_true, List.length_replicate])
      | ((first | ((first | refine call0D (BCall.ofP (at_ok _ _ _ _ ?_ ?_)) ?_ | refine qcall0D (BCall.ofP (at_ok _ _ _ _ ?_ ?_)) ⟨_, _, rfl, rfl⟩ ?_); (iterate 2 (focus (first | assumption | rfl | omega | (simp; done) | (simp; omega) | (simp_all; done) | (simp_all; omega)))); rintro _ _ ⟨rfl, rfl⟩) | ((first | refine call0D (BCall.ofP (count_ok _ _ _ ?_)) ?_ | refine qcall0D (BCall.ofP (count_ok _ _ _ ?_)) ⟨_, _, rfl, rfl⟩ ?_); (focus (first | assumption | rfl | omega | (simp; done) | (simp; omega) | (simp_all; done) | (simp_all; omega))); rintro _ _ ⟨rfl, rfl⟩) | ((first | refine call0D (BCall.ofP (progression_ok _ _ _ ?_ ?_)) ?_ | refine qcall0D (BCall.ofP (progression_ok _ _ _ ?_ ?_)) ⟨_, _, rfl, rfl⟩ ?_); (iterate 2 (focus (first | assumption | rfl | omega | (simp; done) | (simp; omega) | (simp_all; done) | (simp_all; omega)))); rintro _ _ ⟨rfl, rfl⟩)); (try simp (maxSteps := 400000) (disch := omega) only [push_cast, seval, Bool.false_eq_true, List.length_replicate]))
      | (refine awp_ret ⟨.inr rfl, _, rfl, ?_⟩; (try simp (maxSteps := 400000) (disch := omega) only [push_cast, seval, Bool.false_eq_true, List.length_replicate]))))

end Go.Proofs.Ytonhjbojpcgadaa
