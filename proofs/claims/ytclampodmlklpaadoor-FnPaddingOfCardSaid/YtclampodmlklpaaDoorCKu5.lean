import Derived.Test.YtclampodmlklpaaDoorCKu4
import Derived.Test.YtclampodmlklpaaDoorCM1
import Derived.Test.YtclampodmlklpaaDoorCW3
set_option linter.unusedSimpArgs false
set_option linter.unusedVariables false
set_option linter.unnecessarySimpa false
set_option maxRecDepth 4000
set_option maxHeartbeats 4000000
namespace Go.Proofs.YtclampodmlklpaaDoor
open VwM Vw Go

theorem oneBg_ok (bs : List Int) (p : Int) (cs : List AV) (n : Nat) (hn : (unI cs).length = n) (hcs : cs = IL (unI cs)) (hb : okB bs) (h1 : 1 ≤ n ∧ n ≤ 1000 ∧ 0 ≤ p ∧ p ≤ 1000000) (hxs : ∀ y ∈ unI cs, -5000000000 ≤ y ∧ y ≤ 5000000000) : BCall Tryd.prog 75 [.ref 0 2 0, .own 1 n 1] [RD bs p, cs] (fun r H' => ∃ x, x ∈ unI cs ∧ (-5000000000 ≤ x ∧ x ≤ 5000000000) ∧ r = .int .i64 x ∧ H' = [RD bs (p + 1), cs]) := by
  subst hn
  generalize hxs' : unI cs = xs at *
  subst hcs
  obtain ⟨h1, h2, h3⟩ := h1
  refine bcall_of (pins := [0, 1]) (pin := 2) l75_eq rfl rfl rfl ?_
  (repeat' (first
      | (first | refine awp_seq ?_ | refine awp_block ?_)
      | ((first | refine awp_reg ?_ | refine awp_condB ?_ | refine awp_skip ?_ | refine awp_exit ?_); simp (maxSteps := 400000) (disch := omega) only [push_cast, seval, l75r0, l75r1])
      | ((first | refine condB_split (fun h => ?_) (fun h => ?_) | refine gIf_split (fun h => ?_) (fun h => ?_) | refine qIf_split (fun h => ?_) (fun h => ?_)) <;> (try simp only [h]) <;> (try simp only [decide_eq_true_eq, decide_eq_false_iff_not, Bool.not_eq_true', Bool.not_eq_false', Bool.and_eq_true, Bool.or_eq_true, Bool.and_eq_false_iff, Bool.or_eq_false_iff, Int.not_le, Int.not_lt, bne_iff_ne, ne_eq, beq_iff_eq, Bool.not_eq_true, Bool.not_eq_false] at h) <;> (try simp only [h]) <;> (first | (exfalso; omega) | (focus (exfalso; simp_all; done)) | (simp (maxSteps := 400000) (disch := omega) only [push_cast, seval]) | skip))
      | ((first | ((with_reducible refine callD_ids (f := 85) [0] true ?_); simp (maxSteps := 400000) (disch := omega) only [push_cast, seval]; (refine call1D (id := 0) (pick_ok _ _ _ ?_ ?_) (by (simp (maxSteps := 400000) (disch := omega) only [push_cast, seval]); rfl) ?_; (iterate 2 (focus (first | assumption | rfl | omega | (simp <;> omega) | (simp_all <;> omega)))); rintro _ _ ⟨x, hx0, hx1, rfl, rfl⟩)) | ((with_reducible refine qcallI_of (f := 85) [0] true ?_); simp (maxSteps := 400000) (disch := omega) only [push_cast, seval]; (refine qcall1D (id := 0) (pick_ok _ _ _ ?_ ?_) (by (simp (maxSteps := 400000) (disch := omega) only [push_cast, seval]); rfl) (by decide) ⟨_, _, 0, by omega, Or.inr (Or.inr rfl), rfl, rfl⟩ ?_; (iterate 2 (focus (first | assumption | rfl | omega | (simp <;> omega) | (simp_all <;> omega)))); rintro _ _ ⟨x, hx0, hx1, rfl, rfl⟩))) <;> (try simp (maxSteps := 400000) (disch := omega) only [push_cast, seval]))
      | (refine awp_ret ⟨.inr rfl, [], [], _, by decide, rfl, ?_⟩; (try simp (maxSteps := 400000) (disch := omega) only [push_cast, seval, ↓allMem_nil, ↓allMem_cons, ↓List.map_cons, ↓List.map_nil]))))
  have hm := getD_mem (xs := xs) (j := x.toNat) (by omega)
  exact ⟨_, hm, hxs _ hm, rfl⟩

end Go.Proofs.YtclampodmlklpaaDoor
