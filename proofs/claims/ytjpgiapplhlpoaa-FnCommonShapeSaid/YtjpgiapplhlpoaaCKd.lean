import Derived.Test.YtjpgiapplhlpoaaCKc
import Derived.Test.YtjpgiapplhlpoaaCM1

set_option linter.unusedSimpArgs false
set_option linter.unusedVariables false
set_option linter.unnecessarySimpa false
set_option maxRecDepth 4000
set_option maxHeartbeats 4000000
namespace Go.Proofs.Ytjpgiapplhlpoaa
open VwM Vw Go

theorem iRowStrides_ok (xs : List Int) (n : Nat) (hn : xs.length = n) (hb : n ≤ 1099511627776) : BCall Try.prog 26 [.rows false (IL xs) n] [] (OI (if vSh xs = true then rowS xs else [])) := by
  subst hn
  refine bcall_of (pins := []) (pin := 0) l26_eq rfl rfl rfl ?_
  cases hv : vSh xs with
  | false =>
    (repeat' (first
      | (first | refine awp_seq ?_ | refine awp_block ?_)
      | ((first | refine awp_reg ?_ | refine awp_condB ?_ | refine awp_skip ?_ | refine awp_exit ?_); simp (maxSteps := 400000) (disch := omega) only [push_cast, seval, Bool.false_eq_true, List.length_replicate, l26r0, l26r1, l26r2, l26r3, l26r4, l26r5, l26r6, l26r7, l26r8, l26r9, hv])
      | ((first | refine condB_split (fun h => ?_) (fun h => ?_) | refine gIf_split (fun h => ?_) (fun h => ?_) | refine qIf_split (fun h => ?_) (fun h => ?_)) <;> (try simp only [h]) <;> (try simp only [decide_eq_true_eq, decide_eq_false_iff_not, Bool.not_eq_true', Bool.not_eq_false', Bool.and_eq_true, Bool.or_eq_true, Bool.and_eq_false_iff, Bool.or_eq_false_iff, Int.not_le, Int.not_lt, bne_iff_ne, ne_eq, beq_iff_eq, Bool.not_eq_true, Bool.not_eq_false] at h) <;> (try simp only [h]) <;> (first | (exfalso; omega) | (focus (exfalso; simp_all; done)) | (simp (maxSteps := 400000) (disch := omega) only [push_cast, seval, Bool.false_eq_true, List.length_replicate, hv]) | skip))
      | ((first | refine callD_of false ?_ | refine qcallD_of false ?_); simp (maxSteps := 400000) (disch := omega) only [push_cast, seval, Bool.false_eq_true, List.length_replicate, hv])
      | ((first | ((first | refine call0D (BCall.ofP (iValidShape_ok _ _ ?_ ?_)) ?_ | refine qcall0D (BCall.ofP (iValidShape_ok _ _ ?_ ?_)) ⟨_, _, rfl, rfl⟩ ?_); (iterate 2 (focus (first | assumption | rfl | omega | (simp; done) | (simp; omega) | (simp_all; done) | (simp_all; omega)))); rintro _ _ ⟨rfl, rfl⟩) | ((first | refine call0D (BCall.ofP (product_ok _ _ ?_ ?_)) ?_ | refine qcall0D (BCall.ofP (product_ok _ _ ?_ ?_)) ⟨_, _, rfl, rfl⟩ ?_); (iterate 2 (focus (first | assumption | rfl | omega | (simp; done) | (simp; omega) | (simp_all; done) | (simp_all; omega)))); rintro _ _ ⟨rfl, rfl⟩)); (try simp (maxSteps := 400000) (disch := omega) only [push_cast, seval, Bool.false_eq_true, List.length_replicate, hv]))
      | (refine awp_ret ⟨.inr rfl, [16000], [(16000, 1)], _, by decide, rfl, ?_⟩; (try simp (maxSteps := 400000) (disch := omega) only [push_cast, seval, Bool.false_eq_true, List.length_replicate, ↓allMem_nil, ↓allMem_cons, ↓List.map_cons, ↓List.map_nil, hv]))))
    all_goals simp [OI]
  | true =>
    have hg := (vSh_good hv).1
    have hl := hg.2
    (repeat' (first
      | (first | refine awp_seq ?_ | refine awp_block ?_)
      | ((first | refine awp_reg ?_ | refine awp_condB ?_ | refine awp_skip ?_ | refine awp_exit ?_); simp (maxSteps := 400000) (disch := omega) only [push_cast, seval, Bool.false_eq_true, List.length_replicate, l26r0, l26r1, l26r2, l26r3, l26r4, l26r5, l26r6, l26r7, l26r8, l26r9, hv])
      | ((first | refine condB_split (fun h => ?_) (fun h => ?_) | refine gIf_split (fun h => ?_) (fun h => ?_) | refine qIf_split (fun h => ?_) (fun h => ?_)) <;> (try simp only [h]) <;> (try simp only [decide_eq_true_eq, decide_eq_false_iff_not, Bool.not_eq_true', Bool.not_eq_false', Bool.and_eq_true, Bool.or_eq_true, Bool.and_eq_false_iff, Bool.or_eq_false_iff, Int.not_le, Int.not_lt, bne_iff_ne, ne_eq, beq_iff_eq, Bool.not_eq_true, Bool.not_eq_false] at h) <;> (try simp only [h]) <;> (first | (exfalso; omega) | (focus (exfalso; simp_all; done)) | (simp (maxSteps := 400000) (disch := omega) only [push_cast, seval, Bool.false_eq_true, List.length_replicate, hv]) | skip))
      | ((first | refine callD_of false ?_ | refine qcallD_of false ?_); simp (maxSteps := 400000) (disch := omega) only [push_cast, seval, Bool.false_eq_true, List.length_replicate, hv])
      | ((first | ((first | refine call0D (BCall.ofP (iValidShape_ok _ _ ?_ ?_)) ?_ | refine qcall0D (BCall.ofP (iValidShape_ok _ _ ?_ ?_)) ⟨_, _, rfl, rfl⟩ ?_); (iterate 2 (focus (first | assumption | rfl | omega | (simp; done) | (simp; omega) | (simp_all; done) | (simp_all; omega)))); rintro _ _ ⟨rfl, rfl⟩) | ((first | refine call0D (BCall.ofP (product_ok _ _ ?_ ?_)) ?_ | refine qcall0D (BCall.ofP (product_ok _ _ ?_ ?_)) ⟨_, _, rfl, rfl⟩ ?_); (iterate 2 (focus (first | assumption | rfl | omega | (simp; done) | (simp; omega) | (simp_all; done) | (simp_all; omega)))); rintro _ _ ⟨rfl, rfl⟩)); (try simp (maxSteps := 400000) (disch := omega) only [push_cast, seval, Bool.false_eq_true, List.length_replicate, hv]))
      | (refine awp_ret ⟨.inr rfl, [96], [], _, by decide, rfl, ?_⟩; (try simp (maxSteps := 400000) (disch := omega) only [push_cast, seval, Bool.false_eq_true, List.length_replicate, ↓allMem_nil, ↓allMem_cons, ↓List.map_cons, ↓List.map_nil, hv]); (first | done | (show AV.own _ _ _ = _ ∧ _)))
      | (refine awp_ret ⟨.inr rfl, [160], [], _, by decide, rfl, ?_⟩; (try simp (maxSteps := 400000) (disch := omega) only [push_cast, seval, Bool.false_eq_true, List.length_replicate, ↓allMem_nil, ↓allMem_cons, ↓List.map_cons, ↓List.map_nil, hv]); (first | done | (show AV.own _ _ _ = _ ∧ _)))
      | (refine awp_ret ⟨.inr rfl, [352], [], _, by decide, rfl, ?_⟩; (try simp (maxSteps := 400000) (disch := omega) only [push_cast, seval, Bool.false_eq_true, List.length_replicate, ↓allMem_nil, ↓allMem_cons, ↓List.map_cons, ↓List.map_nil, hv]); (first | done | (show AV.own _ _ _ = _ ∧ _)))))
    refine awp_loop (fun k : Nat => mkS [(0, RI xs), (13, .int .i64 k), (12, .int .i64 xs.length), (3, .own 160 xs.length 1)] [(160, IL (filled (fun i : Nat => pr (xs.drop (i + 1))) xs.length k))])
      (fun k => k ≤ xs.length) (fun k => xs.length - k) 0 (Nat.zero_le _) ?_ ?_
    · (refine Sub.of_lists ?_ ?_ ?_ ?_ ?_ <;> simp [Vw.mkS, Vw.lk, Vw.hk, AV.inn, innL, innL_ints, innL_append, innL_rep, -List.map_set, -List.getD_eq_getElem?_getD, filled_zero])
    · intro k hk
      have hgk := good4_drop hg (k + 1)
      have e1 : (xs.drop (k + 1)).length = xs.length - (k + 1) := by simp
      (repeat' (first
      | (first | refine awp_seq ?_ | refine awp_block ?_)
      | ((first | refine awp_reg ?_ | refine awp_condB ?_ | refine awp_skip ?_ | refine awp_exit ?_); simp (maxSteps := 400000) (disch := omega) only [push_cast, seval, Bool.false_eq_true, List.length_replicate, l26r0, l26r1, l26r2, l26r3, l26r4, l26r5, l26r6, l26r7, l26r8, l26r9, hv])
      | ((first | refine condB_split (fun h => ?_) (fun h => ?_) | refine gIf_split (fun h => ?_) (fun h => ?_) | refine qIf_split (fun h => ?_) (fun h => ?_)) <;> (try simp only [h]) <;> (try simp only [decide_eq_true_eq, decide_eq_false_iff_not, Bool.not_eq_true', Bool.not_eq_false', Bool.and_eq_true, Bool.or_eq_true, Bool.and_eq_false_iff, Bool.or_eq_false_iff, Int.not_le, Int.not_lt, bne_iff_ne, ne_eq, beq_iff_eq, Bool.not_eq_true, Bool.not_eq_false] at h) <;> (try simp only [h]) <;> (first | (exfalso; omega) | (focus (exfalso; simp_all; done)) | (simp (maxSteps := 400000) (disch := omega) only [push_cast, seval, Bool.false_eq_true, List.length_replicate, hv]) | skip))
      | ((first | refine callD_of false ?_ | refine qcallD_of false ?_); simp (maxSteps := 400000) (disch := omega) only [push_cast, seval, Bool.false_eq_true, List.length_replicate, hv])
      | ((first | ((first | refine call0D (BCall.ofP (iValidShape_ok _ _ ?_ ?_)) ?_ | refine qcall0D (BCall.ofP (iValidShape_ok _ _ ?_ ?_)) ⟨_, _, rfl, rfl⟩ ?_); (iterate 2 (focus (first | assumption | rfl | omega | (simp; done) | (simp; omega) | (simp_all; done) | (simp_all; omega)))); rintro _ _ ⟨rfl, rfl⟩) | ((first | refine call0D (BCall.ofP (product_ok _ _ ?_ ?_)) ?_ | refine qcall0D (BCall.ofP (product_ok _ _ ?_ ?_)) ⟨_, _, rfl, rfl⟩ ?_); (iterate 2 (focus (first | assumption | rfl | omega | (simp; done) | (simp; omega) | (simp_all; done) | (simp_all; omega)))); rintro _ _ ⟨rfl, rfl⟩)); (try simp (maxSteps := 400000) (disch := omega) only [push_cast, seval, Bool.false_eq_true, List.length_replicate, hv]))
      | (refine awp_ret ⟨.inr rfl, [96], [], _, by decide, rfl, ?_⟩; (try simp (maxSteps := 400000) (disch := omega) only [push_cast, seval, Bool.false_eq_true, List.length_replicate, ↓allMem_nil, ↓allMem_cons, ↓List.map_cons, ↓List.map_nil, hv]); (first | done | (show AV.own _ _ _ = _ ∧ _)))
      | (refine awp_ret ⟨.inr rfl, [160], [], _, by decide, rfl, ?_⟩; (try simp (maxSteps := 400000) (disch := omega) only [push_cast, seval, Bool.false_eq_true, List.length_replicate, ↓allMem_nil, ↓allMem_cons, ↓List.map_cons, ↓List.map_nil, hv]); (first | done | (show AV.own _ _ _ = _ ∧ _)))
      | (refine awp_ret ⟨.inr rfl, [352], [], _, by decide, rfl, ?_⟩; (try simp (maxSteps := 400000) (disch := omega) only [push_cast, seval, Bool.false_eq_true, List.length_replicate, ↓allMem_nil, ↓allMem_cons, ↓List.map_cons, ↓List.map_nil, hv]); (first | done | (show AV.own _ _ _ = _ ∧ _)))))
      · refine ⟨k + 1, by omega, by omega, ?_⟩
        have e := filled_set (fun i : Nat => pr (xs.drop (i + 1))) xs.length k (by omega)
        (refine Sub.of_lists ?_ ?_ ?_ ?_ ?_ <;> simp [Vw.mkS, Vw.lk, Vw.hk, AV.inn, innL, innL_ints, innL_append, innL_rep, -List.map_set, -List.getD_eq_getElem?_getD, IL_set, e])
      · have e : k = xs.length := by omega
        rw [e, filled_all]
        simp [OI, rowS]


theorem clone_ok (xs : List Int) (n : Nat) (hn : xs.length = n) (hb : n ≤ 1099511627776) : BCall Try.prog 41 [.rows false (IL xs) n] [] (OI xs) := by
  subst hn
  refine bcall_of (pins := []) (pin := 0) l41_eq rfl rfl rfl ?_
  (repeat' (first
      | (first | refine awp_seq ?_ | refine awp_block ?_)
      | ((first | refine awp_reg ?_ | refine awp_condB ?_ | refine awp_skip ?_ | refine awp_exit ?_); simp (maxSteps := 400000) (disch := omega) only [push_cast, seval, Bool.false_eq_true, List.length_replicate, l41r0, l41r1, l41r2, l41r3])
      | ((first | refine condB_split (fun h => ?_) (fun h => ?_) | refine gIf_split (fun h => ?_) (fun h => ?_) | refine qIf_split (fun h => ?_) (fun h => ?_)) <;> (try simp only [h]) <;> (try simp only [decide_eq_true_eq, decide_eq_false_iff_not, Bool.not_eq_true', Bool.not_eq_false', Bool.and_eq_true, Bool.or_eq_true, Bool.and_eq_false_iff, Bool.or_eq_false_iff, Int.not_le, Int.not_lt, bne_iff_ne, ne_eq, beq_iff_eq, Bool.not_eq_true, Bool.not_eq_false] at h) <;> (try simp only [h]) <;> (first | (exfalso; omega) | (focus (exfalso; simp_all; done)) | (simp (maxSteps := 400000) (disch := omega) only [push_cast, seval, Bool.false_eq_true, List.length_replicate]) | skip))
      | (refine awp_ret ⟨.inr rfl, [80], [], _, by decide, rfl, ?_⟩; (try simp (maxSteps := 400000) (disch := omega) only [push_cast, seval, Bool.false_eq_true, List.length_replicate, ↓allMem_nil, ↓allMem_cons, ↓List.map_cons, ↓List.map_nil]); (first | done | (show AV.own _ _ _ = _ ∧ _)))
      | (refine awp_ret ⟨.inr rfl, [112], [], _, by decide, rfl, ?_⟩; (try simp (maxSteps := 400000) (disch := omega) only [push_cast, seval, Bool.false_eq_true, List.length_replicate, ↓allMem_nil, ↓allMem_cons, ↓List.map_cons, ↓List.map_nil]); (first | done | (show AV.own _ _ _ = _ ∧ _)))))
  refine nil_split (fun h0 => ?_) ?_
  · (try simp (maxSteps := 400000) (disch := omega) only [push_cast, seval, Bool.false_eq_true, List.length_replicate])
    (repeat' (first
      | (first | refine awp_seq ?_ | refine awp_block ?_)
      | ((first | refine awp_reg ?_ | refine awp_condB ?_ | refine awp_skip ?_ | refine awp_exit ?_); simp (maxSteps := 400000) (disch := omega) only [push_cast, seval, Bool.false_eq_true, List.length_replicate, l41r0, l41r1, l41r2, l41r3])
      | ((first | refine condB_split (fun h => ?_) (fun h => ?_) | refine gIf_split (fun h => ?_) (fun h => ?_) | refine qIf_split (fun h => ?_) (fun h => ?_)) <;> (try simp only [h]) <;> (try simp only [decide_eq_true_eq, decide_eq_false_iff_not, Bool.not_eq_true', Bool.not_eq_false', Bool.and_eq_true, Bool.or_eq_true, Bool.and_eq_false_iff, Bool.or_eq_false_iff, Int.not_le, Int.not_lt, bne_iff_ne, ne_eq, beq_iff_eq, Bool.not_eq_true, Bool.not_eq_false] at h) <;> (try simp only [h]) <;> (first | (exfalso; omega) | (focus (exfalso; simp_all; done)) | (simp (maxSteps := 400000) (disch := omega) only [push_cast, seval, Bool.false_eq_true, List.length_replicate]) | skip))
      | (refine awp_ret ⟨.inr rfl, [16000], [(16000, 1)], _, by decide, rfl, ?_⟩; (try simp (maxSteps := 400000) (disch := omega) only [push_cast, seval, Bool.false_eq_true, List.length_replicate, ↓allMem_nil, ↓allMem_cons, ↓List.map_cons, ↓List.map_nil]))))
    have : xs = [] := List.eq_nil_of_length_eq_zero h0
    simp [OI, this]
  · (try simp (maxSteps := 400000) (disch := omega) only [push_cast, seval, Bool.false_eq_true, List.length_replicate])
    (repeat' (first
      | (first | refine awp_seq ?_ | refine awp_block ?_)
      | ((first | refine awp_reg ?_ | refine awp_condB ?_ | refine awp_skip ?_ | refine awp_exit ?_); simp (maxSteps := 400000) (disch := omega) only [push_cast, seval, Bool.false_eq_true, List.length_replicate, l41r0, l41r1, l41r2, l41r3])
      | ((first | refine condB_split (fun h => ?_) (fun h => ?_) | refine gIf_split (fun h => ?_) (fun h => ?_) | refine qIf_split (fun h => ?_) (fun h => ?_)) <;> (try simp only [h]) <;> (try simp only [decide_eq_true_eq, decide_eq_false_iff_not, Bool.not_eq_true', Bool.not_eq_false', Bool.and_eq_true, Bool.or_eq_true, Bool.and_eq_false_iff, Bool.or_eq_false_iff, Int.not_le, Int.not_lt, bne_iff_ne, ne_eq, beq_iff_eq, Bool.not_eq_true, Bool.not_eq_false] at h) <;> (try simp only [h]) <;> (first | (exfalso; omega) | (focus (exfalso; simp_all; done)) | (simp (maxSteps := 400000) (disch := omega) only [push_cast, seval, Bool.false_eq_true, List.length_replicate]) | skip))
      | (refine awp_ret ⟨.inr rfl, [80], [], _, by decide, rfl, ?_⟩; (try simp (maxSteps := 400000) (disch := omega) only [push_cast, seval, Bool.false_eq_true, List.length_replicate, ↓allMem_nil, ↓allMem_cons, ↓List.map_cons, ↓List.map_nil]); (first | done | (show AV.own _ _ _ = _ ∧ _)))
      | (refine awp_ret ⟨.inr rfl, [112], [], _, by decide, rfl, ?_⟩; (try simp (maxSteps := 400000) (disch := omega) only [push_cast, seval, Bool.false_eq_true, List.length_replicate, ↓allMem_nil, ↓allMem_cons, ↓List.map_cons, ↓List.map_nil]); (first | done | (show AV.own _ _ _ = _ ∧ _)))))
    all_goals simp [OI]

end Go.Proofs.Ytjpgiapplhlpoaa
