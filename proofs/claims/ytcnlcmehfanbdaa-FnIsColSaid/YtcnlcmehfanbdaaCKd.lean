import Derived.Test.YtcnlcmehfanbdaaCKc
import Derived.Test.YtcnlcmehfanbdaaCM1

set_option linter.unusedSimpArgs false
set_option linter.unusedVariables false
set_option linter.unnecessarySimpa false
set_option maxRecDepth 4000
set_option maxHeartbeats 4000000
namespace Go.Proofs.Ytcnlcmehfanbdaa
open VwM Vw Go

theorem srowStrides_ok (xs : List Int) (n : Nat) (hn : xs.length = n) (hg : good4 xs) : BCall Try.prog 62 [.rows false (IL xs) n] [] (OI (rowS xs)) := by
  subst hn
  have hl := hg.2
  refine bcall_of (pins := []) (pin := 0) l62_eq rfl rfl rfl ?_
  (repeat' (first
      | (first | refine awp_seq ?_ | refine awp_block ?_)
      | ((first | refine awp_reg ?_ | refine awp_condB ?_ | refine awp_skip ?_ | refine awp_exit ?_); simp (maxSteps := 400000) (disch := omega) only [push_cast, seval, Bool.false_eq_true, List.length_replicate, l62r0, l62r1, l62r2, l62r3, l62r4, l62r5, l62r6, l62r7, l62r8])
      | ((first | refine condB_split (fun h => ?_) (fun h => ?_) | refine gIf_split (fun h => ?_) (fun h => ?_) | refine qIf_split (fun h => ?_) (fun h => ?_)) <;> (try simp only [h]) <;> (try simp only [decide_eq_true_eq, decide_eq_false_iff_not, Bool.not_eq_true', Bool.not_eq_false', Bool.and_eq_true, Bool.or_eq_true, Bool.and_eq_false_iff, Bool.or_eq_false_iff, Int.not_le, Int.not_lt, bne_iff_ne, ne_eq, beq_iff_eq, Bool.not_eq_true, Bool.not_eq_false] at h) <;> (try simp only [h]) <;> (first | (exfalso; omega) | (focus (exfalso; simp_all; done)) | (simp (maxSteps := 400000) (disch := omega) only [push_cast, seval, Bool.false_eq_true, List.length_replicate]) | skip))
      | (refine awp_ret ⟨.inr rfl, [128], [], _, by decide, rfl, ?_⟩; (try simp (maxSteps := 400000) (disch := omega) only [push_cast, seval, Bool.false_eq_true, List.length_replicate, ↓allMem_nil, ↓allMem_cons, ↓List.map_cons, ↓List.map_nil]); (first | done | (show AV.own _ _ _ = _ ∧ _)))))
  refine awp_loop (fun k : Nat => mkS [(0, RI xs), (5, .int .i64 ((xs.length : Int) - 1 - (k : Int))), (4, .int .i64 (pr (xs.drop (xs.length - k)))), (3, .own 128 xs.length 1)] [(128, IL (filledD (fun i : Nat => pr (xs.drop (i + 1))) xs.length k))])
    (fun k => k ≤ xs.length) (fun k => xs.length - k) 0 (Nat.zero_le _) ?_ ?_
  · (refine Sub.of_lists ?_ ?_ ?_ ?_ ?_ <;> simp [Vw.mkS, Vw.lk, Vw.hk, AV.inn, innL, innL_ints, innL_append, innL_rep, -List.map_set, -List.getD_eq_getElem?_getD, filledD_zero, pr_nil])
  · intro k hk
    by_cases hlt : k < xs.length
    · have e1 := down_nat xs.length k hlt
      have h1 := pr_bound (good4_drop hg (xs.length - 1 - k))
      have h2 := pr_drop xs (xs.length - 1 - k) (by omega)
      rw [Int.mul_comm, show xs.length - 1 - k + 1 = xs.length - k by omega] at h2
      have e3 := filledD_set (fun i : Nat => pr (xs.drop (i + 1))) xs.length k hlt
      simp only [show xs.length - 1 - k + 1 = xs.length - k by omega] at e3
      (repeat' (first
      | (first | refine awp_seq ?_ | refine awp_block ?_)
      | ((first | refine awp_reg ?_ | refine awp_condB ?_ | refine awp_skip ?_ | refine awp_exit ?_); simp (maxSteps := 400000) (disch := omega) only [push_cast, seval, Bool.false_eq_true, List.length_replicate, l62r0, l62r1, l62r2, l62r3, l62r4, l62r5, l62r6, l62r7, l62r8, e1])
      | ((first | refine condB_split (fun h => ?_) (fun h => ?_) | refine gIf_split (fun h => ?_) (fun h => ?_) | refine qIf_split (fun h => ?_) (fun h => ?_)) <;> (try simp only [h]) <;> (try simp only [decide_eq_true_eq, decide_eq_false_iff_not, Bool.not_eq_true', Bool.not_eq_false', Bool.and_eq_true, Bool.or_eq_true, Bool.and_eq_false_iff, Bool.or_eq_false_iff, Int.not_le, Int.not_lt, bne_iff_ne, ne_eq, beq_iff_eq, Bool.not_eq_true, Bool.not_eq_false] at h) <;> (try simp only [h]) <;> (first | (exfalso; omega) | (focus (exfalso; simp_all; done)) | (simp (maxSteps := 400000) (disch := omega) only [push_cast, seval, Bool.false_eq_true, List.length_replicate, e1]) | skip))
      | (refine awp_ret ⟨.inr rfl, [128], [], _, by decide, rfl, ?_⟩; (try simp (maxSteps := 400000) (disch := omega) only [push_cast, seval, Bool.false_eq_true, List.length_replicate, ↓allMem_nil, ↓allMem_cons, ↓List.map_cons, ↓List.map_nil, e1]); (first | done | (show AV.own _ _ _ = _ ∧ _)))))
      refine ⟨k + 1, by omega, by omega, ?_⟩
      have e4 : (xs.length : Int) - 1 - ((k : Int) + 1) = (xs.length : Int) - 1 - (k : Int) - 1 := by omega
      have e5 : xs.length - (k + 1) = xs.length - 1 - k := by omega
      (refine Sub.of_lists ?_ ?_ ?_ ?_ ?_ <;> simp [Vw.mkS, Vw.lk, Vw.hk, AV.inn, innL, innL_ints, innL_append, innL_rep, -List.map_set, -List.getD_eq_getElem?_getD, IL_set, e3, h2, e4, e5])
    · (repeat' (first
      | (first | refine awp_seq ?_ | refine awp_block ?_)
      | ((first | refine awp_reg ?_ | refine awp_condB ?_ | refine awp_skip ?_ | refine awp_exit ?_); simp (maxSteps := 400000) (disch := omega) only [push_cast, seval, Bool.false_eq_true, List.length_replicate, l62r0, l62r1, l62r2, l62r3, l62r4, l62r5, l62r6, l62r7, l62r8])
      | ((first | refine condB_split (fun h => ?_) (fun h => ?_) | refine gIf_split (fun h => ?_) (fun h => ?_) | refine qIf_split (fun h => ?_) (fun h => ?_)) <;> (try simp only [h]) <;> (try simp only [decide_eq_true_eq, decide_eq_false_iff_not, Bool.not_eq_true', Bool.not_eq_false', Bool.and_eq_true, Bool.or_eq_true, Bool.and_eq_false_iff, Bool.or_eq_false_iff, Int.not_le, Int.not_lt, bne_iff_ne, ne_eq, beq_iff_eq, Bool.not_eq_true, Bool.not_eq_false] at h) <;> (try simp only [h]) <;> (first | (exfalso; omega) | (focus (exfalso; simp_all; done)) | (simp (maxSteps := 400000) (disch := omega) only [push_cast, seval, Bool.false_eq_true, List.length_replicate]) | skip))
      | (refine awp_ret ⟨.inr rfl, [128], [], _, by decide, rfl, ?_⟩; (try simp (maxSteps := 400000) (disch := omega) only [push_cast, seval, Bool.false_eq_true, List.length_replicate, ↓allMem_nil, ↓allMem_cons, ↓List.map_cons, ↓List.map_nil]); (first | done | (show AV.own _ _ _ = _ ∧ _)))))
      have e : k = xs.length := by omega
      rw [e, filledD_all]
      simp [OI, rowS]


theorem iRowStrides_ok (xs : List Int) (n : Nat) (hn : xs.length = n) (hb : n ≤ 1099511627776) : BCall Try.prog 56 [.rows false (IL xs) n] [] (OI (if vSh xs = true then rowS xs else [])) := by
  subst hn
  refine bcall_of (pins := []) (pin := 0) l56_eq rfl rfl rfl ?_
  cases hv : vSh xs with
  | false =>
    (repeat' (first
      | (first | refine awp_seq ?_ | refine awp_block ?_)
      | ((first | refine awp_reg ?_ | refine awp_condB ?_ | refine awp_skip ?_ | refine awp_exit ?_); simp (maxSteps := 400000) (disch := omega) only [push_cast, seval, Bool.false_eq_true, List.length_replicate, l56r0, l56r1, l56r2, l56r3, l56r4, l56r5, l56r6, l56r7, l56r8, l56r9, hv])
      | ((first | refine condB_split (fun h => ?_) (fun h => ?_) | refine gIf_split (fun h => ?_) (fun h => ?_) | refine qIf_split (fun h => ?_) (fun h => ?_)) <;> (try simp only [h]) <;> (try simp only [decide_eq_true_eq, decide_eq_false_iff_not, Bool.not_eq_true', Bool.not_eq_false', Bool.and_eq_true, Bool.or_eq_true, Bool.and_eq_false_iff, Bool.or_eq_false_iff, Int.not_le, Int.not_lt, bne_iff_ne, ne_eq, beq_iff_eq, Bool.not_eq_true, Bool.not_eq_false] at h) <;> (try simp only [h]) <;> (first | (exfalso; omega) | (focus (exfalso; simp_all; done)) | (simp (maxSteps := 400000) (disch := omega) only [push_cast, seval, Bool.false_eq_true, List.length_replicate, hv]) | skip))
      | ((first | refine callD_of false ?_ | refine qcallD_of false ?_); simp (maxSteps := 400000) (disch := omega) only [push_cast, seval, Bool.false_eq_true, List.length_replicate, hv])
      | ((first | ((first | refine call0D (BCall.ofP (iValidShape_ok _ _ ?_ ?_)) ?_ | refine qcall0D (BCall.ofP (iValidShape_ok _ _ ?_ ?_)) ⟨_, _, rfl, rfl⟩ ?_); (iterate 2 (focus (first | assumption | rfl | omega | (simp; done) | (simp; omega) | (simp_all; done) | (simp_all; omega)))); rintro _ _ ⟨rfl, rfl⟩) | ((first | refine call0D (BCall.ofP (product_ok _ _ ?_ ?_)) ?_ | refine qcall0D (BCall.ofP (product_ok _ _ ?_ ?_)) ⟨_, _, rfl, rfl⟩ ?_); (iterate 2 (focus (first | assumption | rfl | omega | (simp; done) | (simp; omega) | (simp_all; done) | (simp_all; omega)))); rintro _ _ ⟨rfl, rfl⟩)); (try simp (maxSteps := 400000) (disch := omega) only [push_cast, seval, Bool.false_eq_true, List.length_replicate, hv]))
      | (refine awp_ret ⟨.inr rfl, [16000], [(16000, 1)], _, by decide, rfl, ?_⟩; (try simp (maxSteps := 400000) (disch := omega) only [push_cast, seval, Bool.false_eq_true, List.length_replicate, ↓allMem_nil, ↓allMem_cons, ↓List.map_cons, ↓List.map_nil, hv]))))
    all_goals simp [OI]
  | true =>
    have hg := (vSh_good hv).1
    have hl := hg.2
    (repeat' (first
      | (first | refine awp_seq ?_ | refine awp_block ?_)
      | ((first | refine awp_reg ?_ | refine awp_condB ?_ | refine awp_skip ?_ | refine awp_exit ?_); simp (maxSteps := 400000) (disch := omega) only [push_cast, seval, Bool.false_eq_true, List.length_replicate, l56r0, l56r1, l56r2, l56r3, l56r4, l56r5, l56r6, l56r7, l56r8, l56r9, hv])
      | ((first | refine condB_split (fun h => ?_) (fun h => ?_) | refine gIf_split (fun h => ?_) (fun h => ?_) | refine qIf_split (fun h => ?_) (fun h => ?_)) <;> (try simp only [h]) <;> (try simp only [decide_eq_true_eq, decide_eq_false_iff_not, Bool.not_eq_true', Bool.not_eq_false', Bool.and_eq_true, Bool.or_eq_true, Bool.and_eq_false_iff, Bool.or_eq_false_iff, Int.not_le, Int.not_lt, bne_iff_ne, ne_eq, beq_iff_eq, Bool.not_eq_true, Bool.not_eq_false] at h) <;> (try simp only [h]) <;> (first | (exfalso; omega) | (focus (exfalso; simp_all; done)) | (simp (maxSteps := 400000) (disch := omega) only [push_cast, seval, Bool.false_eq_true, List.length_replicate, hv]) | skip))
      | ((first | refine callD_of false ?_ | refine qcallD_of false ?_); simp (maxSteps := 400000) (disch := omega) only [push_cast, seval, Bool.false_eq_true, List.length_replicate, hv])
      | ((first | ((first | refine call0D (BCall.ofP (iValidShape_ok _ _ ?_ ?_)) ?_ | refine qcall0D (BCall.ofP (iValidShape_ok _ _ ?_ ?_)) ⟨_, _, rfl, rfl⟩ ?_); (iterate 2 (focus (first | assumption | rfl | omega | (simp; done) | (simp; omega) | (simp_all; done) | (simp_all; omega)))); rintro _ _ ⟨rfl, rfl⟩) | ((first | refine call0D (BCall.ofP (product_ok _ _ ?_ ?_)) ?_ | refine qcall0D (BCall.ofP (product_ok _ _ ?_ ?_)) ⟨_, _, rfl, rfl⟩ ?_); (iterate 2 (focus (first | assumption | rfl | omega | (simp; done) | (simp; omega) | (simp_all; done) | (simp_all; omega)))); rintro _ _ ⟨rfl, rfl⟩)); (try simp (maxSteps := 400000) (disch := omega) only [push_cast, seval, Bool.false_eq_true, List.length_replicate, hv]))
      | (refine awp_ret ⟨.inr rfl, [96], [], _, by decide, rfl, ?_⟩; (try simp (maxSteps := 400000) (disch := omega) only [push_cast, seval, Bool.false_eq_true, List.length_replicate, ↓allMem_nil, ↓allMem_cons, ↓List.map_cons, ↓List.map_nil, hv]); (first | done | (show AV.own _ _ _ = _ ∧ _)))
      | (refine awp_ret ⟨.inr rfl, [160], [], _, by decide, rfl, ?_⟩; (try simp (maxSteps := 400000) (disch := omega) only [push_cast, seval, Bool.false_eq_true, List.length_replicate, ↓allMem_nil, ↓allMem_cons, ↓List.map_cons, ↓List.map_nil, hv]); (first | done | (show AV.own _ _ _ = _ ∧ _)))
      | (refine awp_ret ⟨.inr rfl, [352], [], _, by decide, rfl, ?_⟩; (try simp (maxSteps := 400000) (disch := omega) only [push_cast, seval, Bool.false_eq_true, List.length_replicate, ↓allMem_nil, ↓allMem_cons, ↓List.map_cons, ↓List.map_nil, hv]); (first | done | (show AV.own _ _ _ = _ ∧ _)))))
    refine awp_loop (fun k : Nat => mkS [(0, RI xs), (13, .int .i64 k), (12, .int .i64 xs.length), (3, .own 160 xs.length 1)] [(160, IL (filled (fun i : Nat => pr (xs.drop (i + 1))) xs.length k))])
      (fun k => k ≤ xs.length) (fun k => xs.length - k) 0 (Nat.zero_le _) ?_ ?_
    · (refine Sub.of_lists ?_ ?_ ?_ ?_ ?_ <;> simp [Vw.mkS, Vw.lk, Vw.hk, AV.inn, innL, innL_ints, innL_append, innL_rep, -List.map_set, -List.getD_eq_getElem?_getD, filled_zero])
    · intro k hk
      have hgk := good4_drop hg (k + 1)
      have e1 : (xs.drop (k + 1)).length = xs.length - (k + 1) := by simp
      (repeat' (first
      | (first | refine awp_seq ?_ | refine awp_block ?_)
      | ((first | refine awp_reg ?_ | refine awp_condB ?_ | refine awp_skip ?_ | refine awp_exit ?_); simp (maxSteps := 400000) (disch := omega) only [push_cast, seval, Bool.false_eq_true, List.length_replicate, l56r0, l56r1, l56r2, l56r3, l56r4, l56r5, l56r6, l56r7, l56r8, l56r9, hv])
      | ((first | refine condB_split (fun h => ?_) (fun h => ?_) | refine gIf_split (fun h => ?_) (fun h => ?_) | refine qIf_split (fun h => ?_) (fun h => ?_)) <;> (try simp only [h]) <;> (try simp only [decide_eq_true_eq, decide_eq_false_iff_not, Bool.not_eq_true', Bool.not_eq_false', Bool.and_eq_true, Bool.or_eq_true, Bool.and_eq_false_iff, Bool.or_eq_false_iff, Int.not_le, Int.not_lt, bne_iff_ne, ne_eq, beq_iff_eq, Bool.not_eq_true, Bool.not_eq_false] at h) <;> (try simp only [h]) <;> (first | (exfalso; omega) | (focus (exfalso; simp_all; done)) | (simp (maxSteps := 400000) (disch := omega) only [push_cast, seval, Bool.false_eq_true, List.length_replicate, hv]) | skip))
      | ((first | refine callD_of false ?_ | refine qcallD_of false ?_); simp (maxSteps := 400000) (disch := omega) only [push_cast, seval, Bool.false_eq_true, List.length_replicate, hv])
      | ((first | ((first | refine call0D (BCall.ofP (iValidShape_ok _ _ ?_ ?_)) ?_ | refine qcall0D (BCall.ofP (iValidShape_ok _ _ ?_ ?_)) ⟨_, _, rfl, rfl⟩ ?_); (iterate 2 (focus (first | assumption | rfl | omega | (simp; done) | (simp; omega) | (simp_all; done) | (simp_all; omega)))); rintro _ _ ⟨rfl, rfl⟩) | ((first | refine call0D (BCall.ofP (product_ok _ _ ?_ ?_)) ?_ | refine qcall0D (BCall.ofP (product_ok _ _ ?_ ?_)) ⟨_, _, rfl, rfl⟩ ?_); (iterate 2 (focus (first | assumption | rfl | omega | (simp; done) | (simp; omega) | (simp_all; done) | (simp_all; omega)))); rintro _ _ ⟨rfl, rfl⟩)); (try simp (maxSteps := 400000) (disch := omega) only [push_cast, seval, Bool.false_eq_true, List.length_replicate, hv]))
      | (refine awp_ret ⟨.inr rfl, [96], [], _, by decide, rfl, ?_⟩; (try simp (maxSteps := 400000) (disch := omega) only [push_cast, seval, Bool.false_eq_true, List.length_replicate, ↓allMem_nil, ↓allMem_cons, ↓List.map_cons, ↓List.map_nil, hv]); (first | done | (show AV.own _ _ _ = _ ∧ _)))
      | (refine awp_ret ⟨.inr rfl, [160], [], _, by decide, rfl, ?_⟩; (try simp (maxSteps := 400000) (disch := omega) only [push_cast, seval, Bool.false_eq_true, List.length_replicate, ↓allMem_nil, ↓allMem_cons, ↓List.map_cons, ↓List.map_nil, hv]); (first | done | (show AV.own _ _ _ = _ ∧ _)))
      | (refine awp_ret ⟨.inr rfl, [352], [], _, by decide, rfl, ?_⟩; (try simp (maxSteps := 400000) (disch := omega) only [push_cast, seval, Bool.false_eq_true, List.length_replicate, ↓allMem_nil, ↓allMem_cons, ↓List.map_cons, ↓List.map_nil, hv]); (first | done | (show AV.own _ _ _ = _ ∧ _)))))
      · refine ⟨k + 1, by omega, by omega, ?_⟩
        have e := filled_set (fun i : Nat => pr (xs.drop (i + 1))) xs.length k (by omega)
        (refine Sub.of_lists ?_ ?_ ?_ ?_ ?_ <;> simp [Vw.mkS, Vw.lk, Vw.hk, AV.inn, innL, innL_ints, innL_append, innL_rep, -List.map_set, -List.getD_eq_getElem?_getD, IL_set, e])
      · have e : k = xs.length := by omega
        rw [e, filled_all]
        simp [OI, rowS]


theorem scolStrides_ok (xs : List Int) (n : Nat) (hn : xs.length = n) (hg : good4 xs) : BCall Try.prog 64 [.rows false (IL xs) n] [] (OI (colS xs)) := by
  subst hn
  have hl := hg.2
  refine bcall_of (pins := []) (pin := 0) l64_eq rfl rfl rfl ?_
  (repeat' (first
      | (first | refine awp_seq ?_ | refine awp_block ?_)
      | ((first | refine awp_reg ?_ | refine awp_condB ?_ | refine awp_skip ?_ | refine awp_exit ?_); simp (maxSteps := 400000) (disch := omega) only [push_cast, seval, Bool.false_eq_true, List.length_replicate, l64r0, l64r1, l64r2, l64r3, l64r4, l64r5, l64r6, l64r7, l64r8])
      | ((first | refine condB_split (fun h => ?_) (fun h => ?_) | refine gIf_split (fun h => ?_) (fun h => ?_) | refine qIf_split (fun h => ?_) (fun h => ?_)) <;> (try simp only [h]) <;> (try simp only [decide_eq_true_eq, decide_eq_false_iff_not, Bool.not_eq_true', Bool.not_eq_false', Bool.and_eq_true, Bool.or_eq_true, Bool.and_eq_false_iff, Bool.or_eq_false_iff, Int.not_le, Int.not_lt, bne_iff_ne, ne_eq, beq_iff_eq, Bool.not_eq_true, Bool.not_eq_false] at h) <;> (try simp only [h]) <;> (first | (exfalso; omega) | (focus (exfalso; simp_all; done)) | (simp (maxSteps := 400000) (disch := omega) only [push_cast, seval, Bool.false_eq_true, List.length_replicate]) | skip))
      | (refine awp_ret ⟨.inr rfl, [128], [], _, by decide, rfl, ?_⟩; (try simp (maxSteps := 400000) (disch := omega) only [push_cast, seval, Bool.false_eq_true, List.length_replicate, ↓allMem_nil, ↓allMem_cons, ↓List.map_cons, ↓List.map_nil]); (first | done | (show AV.own _ _ _ = _ ∧ _)))))
  refine awp_loop (fun k : Nat => mkS [(0, RI xs), (5, .int .i64 (k : Int)), (4, .int .i64 (pr (xs.take k))), (3, .own 128 xs.length 1)] [(128, IL (filled (fun i : Nat => pr (xs.take i)) xs.length k))])
    (fun k => k ≤ xs.length) (fun k => xs.length - k) 0 (Nat.zero_le _) ?_ ?_
  · (refine Sub.of_lists ?_ ?_ ?_ ?_ ?_ <;> simp [Vw.mkS, Vw.lk, Vw.hk, AV.inn, innL, innL_ints, innL_append, innL_rep, -List.map_set, -List.getD_eq_getElem?_getD, filled_zero, pr_nil])
  · intro k hk
    by_cases hlt : k < xs.length
    · have h1 := pr_bound (good4_take hg (k + 1))
      have h2 := pr_take_succ xs k hlt
      (repeat' (first
      | (first | refine awp_seq ?_ | refine awp_block ?_)
      | ((first | refine awp_reg ?_ | refine awp_condB ?_ | refine awp_skip ?_ | refine awp_exit ?_); simp (maxSteps := 400000) (disch := omega) only [push_cast, seval, Bool.false_eq_true, List.length_replicate, l64r0, l64r1, l64r2, l64r3, l64r4, l64r5, l64r6, l64r7, l64r8])
      | ((first | refine condB_split (fun h => ?_) (fun h => ?_) | refine gIf_split (fun h => ?_) (fun h => ?_) | refine qIf_split (fun h => ?_) (fun h => ?_)) <;> (try simp only [h]) <;> (try simp only [decide_eq_true_eq, decide_eq_false_iff_not, Bool.not_eq_true', Bool.not_eq_false', Bool.and_eq_true, Bool.or_eq_true, Bool.and_eq_false_iff, Bool.or_eq_false_iff, Int.not_le, Int.not_lt, bne_iff_ne, ne_eq, beq_iff_eq, Bool.not_eq_true, Bool.not_eq_false] at h) <;> (try simp only [h]) <;> (first | (exfalso; omega) | (focus (exfalso; simp_all; done)) | (simp (maxSteps := 400000) (disch := omega) only [push_cast, seval, Bool.false_eq_true, List.length_replicate]) | skip))
      | (refine awp_ret ⟨.inr rfl, [128], [], _, by decide, rfl, ?_⟩; (try simp (maxSteps := 400000) (disch := omega) only [push_cast, seval, Bool.false_eq_true, List.length_replicate, ↓allMem_nil, ↓allMem_cons, ↓List.map_cons, ↓List.map_nil]); (first | done | (show AV.own _ _ _ = _ ∧ _)))))
      refine ⟨k + 1, by omega, by omega, ?_⟩
      have e := filled_set (fun i : Nat => pr (xs.take i)) xs.length k hlt
      (refine Sub.of_lists ?_ ?_ ?_ ?_ ?_ <;> simp [Vw.mkS, Vw.lk, Vw.hk, AV.inn, innL, innL_ints, innL_append, innL_rep, -List.map_set, -List.getD_eq_getElem?_getD, IL_set, e, h2])
    · (repeat' (first
      | (first | refine awp_seq ?_ | refine awp_block ?_)
      | ((first | refine awp_reg ?_ | refine awp_condB ?_ | refine awp_skip ?_ | refine awp_exit ?_); simp (maxSteps := 400000) (disch := omega) only [push_cast, seval, Bool.false_eq_true, List.length_replicate, l64r0, l64r1, l64r2, l64r3, l64r4, l64r5, l64r6, l64r7, l64r8])
      | ((first | refine condB_split (fun h => ?_) (fun h => ?_) | refine gIf_split (fun h => ?_) (fun h => ?_) | refine qIf_split (fun h => ?_) (fun h => ?_)) <;> (try simp only [h]) <;> (try simp only [decide_eq_true_eq, decide_eq_false_iff_not, Bool.not_eq_true', Bool.not_eq_false', Bool.and_eq_true, Bool.or_eq_true, Bool.and_eq_false_iff, Bool.or_eq_false_iff, Int.not_le, Int.not_lt, bne_iff_ne, ne_eq, beq_iff_eq, Bool.not_eq_true, Bool.not_eq_false] at h) <;> (try simp only [h]) <;> (first | (exfalso; omega) | (focus (exfalso; simp_all; done)) | (simp (maxSteps := 400000) (disch := omega) only [push_cast, seval, Bool.false_eq_true, List.length_replicate]) | skip))
      | (refine awp_ret ⟨.inr rfl, [128], [], _, by decide, rfl, ?_⟩; (try simp (maxSteps := 400000) (disch := omega) only [push_cast, seval, Bool.false_eq_true, List.length_replicate, ↓allMem_nil, ↓allMem_cons, ↓List.map_cons, ↓List.map_nil]); (first | done | (show AV.own _ _ _ = _ ∧ _)))))
      have e : k = xs.length := by omega
      rw [e, filled_all]
      simp [OI, colS]


theorem iColStrides_ok (xs : List Int) (n : Nat) (hn : xs.length = n) (hb : n ≤ 1099511627776) : BCall Try.prog 63 [.rows false (IL xs) n] [] (OI (if vSh xs = true then colS xs else [])) := by
  subst hn
  refine bcall_of (pins := []) (pin := 0) l63_eq rfl rfl rfl ?_
  cases hv : vSh xs with
  | false =>
    (repeat' (first
      | (first | refine awp_seq ?_ | refine awp_block ?_)
      | ((first | refine awp_reg ?_ | refine awp_condB ?_ | refine awp_skip ?_ | refine awp_exit ?_); simp (maxSteps := 400000) (disch := omega) only [push_cast, seval, Bool.false_eq_true, List.length_replicate, l63r0, l63r1, l63r2, l63r3, l63r4, l63r5, l63r6, l63r7, l63r8, l63r9, hv])
      | ((first | refine condB_split (fun h => ?_) (fun h => ?_) | refine gIf_split (fun h => ?_) (fun h => ?_) | refine qIf_split (fun h => ?_) (fun h => ?_)) <;> (try simp only [h]) <;> (try simp only [decide_eq_true_eq, decide_eq_false_iff_not, Bool.not_eq_true', Bool.not_eq_false', Bool.and_eq_true, Bool.or_eq_true, Bool.and_eq_false_iff, Bool.or_eq_false_iff, Int.not_le, Int.not_lt, bne_iff_ne, ne_eq, beq_iff_eq, Bool.not_eq_true, Bool.not_eq_false] at h) <;> (try simp only [h]) <;> (first | (exfalso; omega) | (focus (exfalso; simp_all; done)) | (simp (maxSteps := 400000) (disch := omega) only [push_cast, seval, Bool.false_eq_true, List.length_replicate, hv]) | skip))
      | ((first | refine callD_of false ?_ | refine qcallD_of false ?_); simp (maxSteps := 400000) (disch := omega) only [push_cast, seval, Bool.false_eq_true, List.length_replicate, hv])
      | ((first | ((first | refine call0D (BCall.ofP (iValidShape_ok _ _ ?_ ?_)) ?_ | refine qcall0D (BCall.ofP (iValidShape_ok _ _ ?_ ?_)) ⟨_, _, rfl, rfl⟩ ?_); (iterate 2 (focus (first | assumption | rfl | omega | (simp; done) | (simp; omega) | (simp_all; done) | (simp_all; omega)))); rintro _ _ ⟨rfl, rfl⟩) | ((first | refine call0D (BCall.ofP (product_ok _ _ ?_ ?_)) ?_ | refine qcall0D (BCall.ofP (product_ok _ _ ?_ ?_)) ⟨_, _, rfl, rfl⟩ ?_); (iterate 2 (focus (first | assumption | rfl | omega | (simp; done) | (simp; omega) | (simp_all; done) | (simp_all; omega)))); rintro _ _ ⟨rfl, rfl⟩)); (try simp (maxSteps := 400000) (disch := omega) only [push_cast, seval, Bool.false_eq_true, List.length_replicate, hv]))
      | (refine awp_ret ⟨.inr rfl, [16000], [(16000, 1)], _, by decide, rfl, ?_⟩; (try simp (maxSteps := 400000) (disch := omega) only [push_cast, seval, Bool.false_eq_true, List.length_replicate, ↓allMem_nil, ↓allMem_cons, ↓List.map_cons, ↓List.map_nil, hv]))))
    all_goals simp [OI]
  | true =>
    have hg := (vSh_good hv).1
    have hl := hg.2
    (repeat' (first
      | (first | refine awp_seq ?_ | refine awp_block ?_)
      | ((first | refine awp_reg ?_ | refine awp_condB ?_ | refine awp_skip ?_ | refine awp_exit ?_); simp (maxSteps := 400000) (disch := omega) only [push_cast, seval, Bool.false_eq_true, List.length_replicate, l63r0, l63r1, l63r2, l63r3, l63r4, l63r5, l63r6, l63r7, l63r8, l63r9, hv])
      | ((first | refine condB_split (fun h => ?_) (fun h => ?_) | refine gIf_split (fun h => ?_) (fun h => ?_) | refine qIf_split (fun h => ?_) (fun h => ?_)) <;> (try simp only [h]) <;> (try simp only [decide_eq_true_eq, decide_eq_false_iff_not, Bool.not_eq_true', Bool.not_eq_false', Bool.and_eq_true, Bool.or_eq_true, Bool.and_eq_false_iff, Bool.or_eq_false_iff, Int.not_le, Int.not_lt, bne_iff_ne, ne_eq, beq_iff_eq, Bool.not_eq_true, Bool.not_eq_false] at h) <;> (try simp only [h]) <;> (first | (exfalso; omega) | (focus (exfalso; simp_all; done)) | (simp (maxSteps := 400000) (disch := omega) only [push_cast, seval, Bool.false_eq_true, List.length_replicate, hv]) | skip))
      | ((first | refine callD_of false ?_ | refine qcallD_of false ?_); simp (maxSteps := 400000) (disch := omega) only [push_cast, seval, Bool.false_eq_true, List.length_replicate, hv])
      | ((first | ((first | refine call0D (BCall.ofP (iValidShape_ok _ _ ?_ ?_)) ?_ | refine qcall0D (BCall.ofP (iValidShape_ok _ _ ?_ ?_)) ⟨_, _, rfl, rfl⟩ ?_); (iterate 2 (focus (first | assumption | rfl | omega | (simp; done) | (simp; omega) | (simp_all; done) | (simp_all; omega)))); rintro _ _ ⟨rfl, rfl⟩) | ((first | refine call0D (BCall.ofP (product_ok _ _ ?_ ?_)) ?_ | refine qcall0D (BCall.ofP (product_ok _ _ ?_ ?_)) ⟨_, _, rfl, rfl⟩ ?_); (iterate 2 (focus (first | assumption | rfl | omega | (simp; done) | (simp; omega) | (simp_all; done) | (simp_all; omega)))); rintro _ _ ⟨rfl, rfl⟩)); (try simp (maxSteps := 400000) (disch := omega) only [push_cast, seval, Bool.false_eq_true, List.length_replicate, hv]))
      | (refine awp_ret ⟨.inr rfl, [96], [], _, by decide, rfl, ?_⟩; (try simp (maxSteps := 400000) (disch := omega) only [push_cast, seval, Bool.false_eq_true, List.length_replicate, ↓allMem_nil, ↓allMem_cons, ↓List.map_cons, ↓List.map_nil, hv]); (first | done | (show AV.own _ _ _ = _ ∧ _)))
      | (refine awp_ret ⟨.inr rfl, [160], [], _, by decide, rfl, ?_⟩; (try simp (maxSteps := 400000) (disch := omega) only [push_cast, seval, Bool.false_eq_true, List.length_replicate, ↓allMem_nil, ↓allMem_cons, ↓List.map_cons, ↓List.map_nil, hv]); (first | done | (show AV.own _ _ _ = _ ∧ _)))
      | (refine awp_ret ⟨.inr rfl, [336], [], _, by decide, rfl, ?_⟩; (try simp (maxSteps := 400000) (disch := omega) only [push_cast, seval, Bool.false_eq_true, List.length_replicate, ↓allMem_nil, ↓allMem_cons, ↓List.map_cons, ↓List.map_nil, hv]); (first | done | (show AV.own _ _ _ = _ ∧ _)))))
    refine awp_loop (fun k : Nat => mkS [(0, RI xs), (13, .int .i64 k), (12, .int .i64 xs.length), (3, .own 160 xs.length 1)] [(160, IL (filled (fun i : Nat => pr (xs.take i)) xs.length k))])
      (fun k => k ≤ xs.length) (fun k => xs.length - k) 0 (Nat.zero_le _) ?_ ?_
    · (refine Sub.of_lists ?_ ?_ ?_ ?_ ?_ <;> simp [Vw.mkS, Vw.lk, Vw.hk, AV.inn, innL, innL_ints, innL_append, innL_rep, -List.map_set, -List.getD_eq_getElem?_getD, filled_zero])
    · intro k hk
      have hgk := good4_take hg k
      have e1 : (xs.take k).length = k := by simp; omega
      (repeat' (first
      | (first | refine awp_seq ?_ | refine awp_block ?_)
      | ((first | refine awp_reg ?_ | refine awp_condB ?_ | refine awp_skip ?_ | refine awp_exit ?_); simp (maxSteps := 400000) (disch := omega) only [push_cast, seval, Bool.false_eq_true, List.length_replicate, l63r0, l63r1, l63r2, l63r3, l63r4, l63r5, l63r6, l63r7, l63r8, l63r9, hv, IL_head])
      | ((first | refine condB_split (fun h => ?_) (fun h => ?_) | refine gIf_split (fun h => ?_) (fun h => ?_) | refine qIf_split (fun h => ?_) (fun h => ?_)) <;> (try simp only [h]) <;> (try simp only [decide_eq_true_eq, decide_eq_false_iff_not, Bool.not_eq_true', Bool.not_eq_false', Bool.and_eq_true, Bool.or_eq_true, Bool.and_eq_false_iff, Bool.or_eq_false_iff, Int.not_le, Int.not_lt, bne_iff_ne, ne_eq, beq_iff_eq, Bool.not_eq_true, Bool.not_eq_false] at h) <;> (try simp only [h]) <;> (first | (exfalso; omega) | (focus (exfalso; simp_all; done)) | (simp (maxSteps := 400000) (disch := omega) only [push_cast, seval, Bool.false_eq_true, List.length_replicate, hv, IL_head]) | skip))
      | ((first | refine callD_of false ?_ | refine qcallD_of false ?_); simp (maxSteps := 400000) (disch := omega) only [push_cast, seval, Bool.false_eq_true, List.length_replicate, hv, IL_head])
      | ((first | ((first | refine call0D (BCall.ofP (iValidShape_ok _ _ ?_ ?_)) ?_ | refine qcall0D (BCall.ofP (iValidShape_ok _ _ ?_ ?_)) ⟨_, _, rfl, rfl⟩ ?_); (iterate 2 (focus (first | assumption | rfl | omega | (simp; done) | (simp; omega) | (simp_all; done) | (simp_all; omega)))); rintro _ _ ⟨rfl, rfl⟩) | ((first | refine call0D (BCall.ofP (product_ok _ _ ?_ ?_)) ?_ | refine qcall0D (BCall.ofP (product_ok _ _ ?_ ?_)) ⟨_, _, rfl, rfl⟩ ?_); (iterate 2 (focus (first | assumption | rfl | omega | (simp; done) | (simp; omega) | (simp_all; done) | (simp_all; omega)))); rintro _ _ ⟨rfl, rfl⟩)); (try simp (maxSteps := 400000) (disch := omega) only [push_cast, seval, Bool.false_eq_true, List.length_replicate, hv, IL_head]))
      | (refine awp_ret ⟨.inr rfl, [96], [], _, by decide, rfl, ?_⟩; (try simp (maxSteps := 400000) (disch := omega) only [push_cast, seval, Bool.false_eq_true, List.length_replicate, ↓allMem_nil, ↓allMem_cons, ↓List.map_cons, ↓List.map_nil, hv, IL_head]); (first | done | (show AV.own _ _ _ = _ ∧ _)))
      | (refine awp_ret ⟨.inr rfl, [160], [], _, by decide, rfl, ?_⟩; (try simp (maxSteps := 400000) (disch := omega) only [push_cast, seval, Bool.false_eq_true, List.length_replicate, ↓allMem_nil, ↓allMem_cons, ↓List.map_cons, ↓List.map_nil, hv, IL_head]); (first | done | (show AV.own _ _ _ = _ ∧ _)))
      | (refine awp_ret ⟨.inr rfl, [336], [], _, by decide, rfl, ?_⟩; (try simp (maxSteps := 400000) (disch := omega) only [push_cast, seval, Bool.false_eq_true, List.length_replicate, ↓allMem_nil, ↓allMem_cons, ↓List.map_cons, ↓List.map_nil, hv, IL_head]); (first | done | (show AV.own _ _ _ = _ ∧ _)))))
      · refine ⟨k + 1, by omega, by omega, ?_⟩
        have e := filled_set (fun i : Nat => pr (xs.take i)) xs.length k (by omega)
        (refine Sub.of_lists ?_ ?_ ?_ ?_ ?_ <;> simp [Vw.mkS, Vw.lk, Vw.hk, AV.inn, innL, innL_ints, innL_append, innL_rep, -List.map_set, -List.getD_eq_getElem?_getD, IL_set, e])
      · have e : k = xs.length := by omega
        rw [e, filled_all]
        simp [OI, colS]


theorem unrank_ok (xs : List Int) (n : Nat) (k : Int) (hn : xs.length = n) (hg : good4 xs ∧ 0 ≤ k ∧ k < pr xs) : BCall Try.prog 75 [.rows false (IL xs) n, .int .i64 k] [] (OI (unr xs k)) := by
  subst hn
  obtain ⟨hg, hk0, hk1⟩ := hg
  have hl := hg.2
  have hprb := pr_bound hg
  have hp := pos_of_pr hg (by omega)
  refine bcall_of (pins := []) (pin := 0) l75_eq rfl rfl rfl ?_
  (repeat' (first
      | (first | refine awp_seq ?_ | refine awp_block ?_)
      | ((first | refine awp_reg ?_ | refine awp_condB ?_ | refine awp_skip ?_ | refine awp_exit ?_); simp (maxSteps := 400000) (disch := omega) only [push_cast, seval, Bool.false_eq_true, List.length_replicate, l75r0, l75r1, l75r2, l75r3, l75r4, l75r5, l75r6, l75r7])
      | ((first | refine condB_split (fun h => ?_) (fun h => ?_) | refine gIf_split (fun h => ?_) (fun h => ?_) | refine qIf_split (fun h => ?_) (fun h => ?_)) <;> (try simp only [h]) <;> (try simp only [decide_eq_true_eq, decide_eq_false_iff_not, Bool.not_eq_true', Bool.not_eq_false', Bool.and_eq_true, Bool.or_eq_true, Bool.and_eq_false_iff, Bool.or_eq_false_iff, Int.not_le, Int.not_lt, bne_iff_ne, ne_eq, beq_iff_eq, Bool.not_eq_true, Bool.not_eq_false] at h) <;> (try simp only [h]) <;> (first | (exfalso; omega) | (focus (exfalso; simp_all; done)) | (simp (maxSteps := 400000) (disch := omega) only [push_cast, seval, Bool.false_eq_true, List.length_replicate]) | skip))
      | (refine awp_ret ⟨.inr rfl, [144], [], _, by decide, rfl, ?_⟩; (try simp (maxSteps := 400000) (disch := omega) only [push_cast, seval, Bool.false_eq_true, List.length_replicate, ↓allMem_nil, ↓allMem_cons, ↓List.map_cons, ↓List.map_nil]); (first | done | (show AV.own _ _ _ = _ ∧ _)))))
  refine awp_loop (fun j : Nat => mkS [(0, RI xs), (6, .int .i64 ((xs.length : Int) - 1 - (j : Int))), (1, .int .i64 (kS xs k j)), (5, .own 144 xs.length 1)] [(144, IL (filledD (dig xs k) xs.length j))])
    (fun j => j ≤ xs.length) (fun j => xs.length - j) 0 (Nat.zero_le _) ?_ ?_
  · (refine Sub.of_lists ?_ ?_ ?_ ?_ ?_ <;> simp [Vw.mkS, Vw.lk, Vw.hk, AV.inn, innL, innL_ints, innL_append, innL_rep, -List.map_set, -List.getD_eq_getElem?_getD, filledD_zero, kS])
  · intro j hj
    by_cases hlt : j < xs.length
    · have e1 := down_nat xs.length j hlt
      have h1 := kS_bound hk0 hp j hj
      have h2 := kS_bound hk0 hp (j + 1) hlt
      have h3 := hp (xs.length - 1 - j) (by omega)
      have h4 : ¬ xs.getD (xs.length - 1 - j) 0 = 0 := by omega
      simp only [kS] at h2
      have e3 := filledD_set (dig xs k) xs.length j hlt
      have e6 : dig xs k (xs.length - 1 - j) = (kS xs k j).tmod (xs.getD (xs.length - 1 - j) 0) := by
        unfold dig
        rw [show xs.length - 1 - (xs.length - 1 - j) = j by omega]
      rw [e6] at e3
      (repeat' (first
      | (first | refine awp_seq ?_ | refine awp_block ?_)
      | ((first | refine awp_reg ?_ | refine awp_condB ?_ | refine awp_skip ?_ | refine awp_exit ?_); simp (maxSteps := 400000) (disch := omega) only [push_cast, seval, Bool.false_eq_true, List.length_replicate, l75r0, l75r1, l75r2, l75r3, l75r4, l75r5, l75r6, l75r7, e1, h4])
      | ((first | refine condB_split (fun h => ?_) (fun h => ?_) | refine gIf_split (fun h => ?_) (fun h => ?_) | refine qIf_split (fun h => ?_) (fun h => ?_)) <;> (try simp only [h]) <;> (try simp only [decide_eq_true_eq, decide_eq_false_iff_not, Bool.not_eq_true', Bool.not_eq_false', Bool.and_eq_true, Bool.or_eq_true, Bool.and_eq_false_iff, Bool.or_eq_false_iff, Int.not_le, Int.not_lt, bne_iff_ne, ne_eq, beq_iff_eq, Bool.not_eq_true, Bool.not_eq_false] at h) <;> (try simp only [h]) <;> (first | (exfalso; omega) | (focus (exfalso; simp_all; done)) | (simp (maxSteps := 400000) (disch := omega) only [push_cast, seval, Bool.false_eq_true, List.length_replicate, e1, h4]) | skip))
      | (refine awp_ret ⟨.inr rfl, [144], [], _, by decide, rfl, ?_⟩; (try simp (maxSteps := 400000) (disch := omega) only [push_cast, seval, Bool.false_eq_true, List.length_replicate, ↓allMem_nil, ↓allMem_cons, ↓List.map_cons, ↓List.map_nil, e1, h4]); (first | done | (show AV.own _ _ _ = _ ∧ _)))))
      refine ⟨j + 1, by omega, by omega, ?_⟩
      have e4 : (xs.length : Int) - 1 - ((j : Int) + 1) = (xs.length : Int) - 1 - (j : Int) - 1 := by omega
      (refine Sub.of_lists ?_ ?_ ?_ ?_ ?_ <;> simp [Vw.mkS, Vw.lk, Vw.hk, AV.inn, innL, innL_ints, innL_append, innL_rep, -List.map_set, -List.getD_eq_getElem?_getD, IL_set, e3, e4, kS])
    · (repeat' (first
      | (first | refine awp_seq ?_ | refine awp_block ?_)
      | ((first | refine awp_reg ?_ | refine awp_condB ?_ | refine awp_skip ?_ | refine awp_exit ?_); simp (maxSteps := 400000) (disch := omega) only [push_cast, seval, Bool.false_eq_true, List.length_replicate, l75r0, l75r1, l75r2, l75r3, l75r4, l75r5, l75r6, l75r7])
      | ((first | refine condB_split (fun h => ?_) (fun h => ?_) | refine gIf_split (fun h => ?_) (fun h => ?_) | refine qIf_split (fun h => ?_) (fun h => ?_)) <;> (try simp only [h]) <;> (try simp only [decide_eq_true_eq, decide_eq_false_iff_not, Bool.not_eq_true', Bool.not_eq_false', Bool.and_eq_true, Bool.or_eq_true, Bool.and_eq_false_iff, Bool.or_eq_false_iff, Int.not_le, Int.not_lt, bne_iff_ne, ne_eq, beq_iff_eq, Bool.not_eq_true, Bool.not_eq_false] at h) <;> (try simp only [h]) <;> (first | (exfalso; omega) | (focus (exfalso; simp_all; done)) | (simp (maxSteps := 400000) (disch := omega) only [push_cast, seval, Bool.false_eq_true, List.length_replicate]) | skip))
      | (refine awp_ret ⟨.inr rfl, [144], [], _, by decide, rfl, ?_⟩; (try simp (maxSteps := 400000) (disch := omega) only [push_cast, seval, Bool.false_eq_true, List.length_replicate, ↓allMem_nil, ↓allMem_cons, ↓List.map_cons, ↓List.map_nil]); (first | done | (show AV.own _ _ _ = _ ∧ _)))))
      have e : j = xs.length := by omega
      rw [e, filledD_all]
      simp [OI, unr]


theorem placesAt_ok (xs : List Int) (n : Nat) (k : Int) (hn : xs.length = n) (hg : good4 xs ∧ 0 ≤ k ∧ k < pr xs) : PCall Try.prog 58 [.rows false (IL xs) n, .int .i64 k] (fun r => r = AP (digP xs k)) := by
  subst hn
  obtain ⟨hg, hk0, hk1⟩ := hg
  have hl := hg.2
  have hprb := pr_bound hg
  have hp := pos_of_pr hg (by omega)
  refine pcall_of l58_eq rfl ?_
  (repeat' (first
      | (first | refine awp_seq ?_ | refine awp_block ?_)
      | ((first | refine awp_reg ?_ | refine awp_condB ?_ | refine awp_skip ?_ | refine awp_exit ?_); simp (maxSteps := 400000) (disch := omega) only [push_cast, seval, Bool.false_eq_true, List.length_replicate, l58r0, l58r1, l58r2, l58r3, l58r4, l58r5, l58r6, l58r7])
      | ((first | refine condB_split (fun h => ?_) (fun h => ?_) | refine gIf_split (fun h => ?_) (fun h => ?_) | refine qIf_split (fun h => ?_) (fun h => ?_)) <;> (try simp only [h]) <;> (try simp only [decide_eq_true_eq, decide_eq_false_iff_not, Bool.not_eq_true', Bool.not_eq_false', Bool.and_eq_true, Bool.or_eq_true, Bool.and_eq_false_iff, Bool.or_eq_false_iff, Int.not_le, Int.not_lt, bne_iff_ne, ne_eq, beq_iff_eq, Bool.not_eq_true, Bool.not_eq_false] at h) <;> (try simp only [h]) <;> (first | (exfalso; omega) | (focus (exfalso; simp_all; done)) | (simp (maxSteps := 400000) (disch := omega) only [push_cast, seval, Bool.false_eq_true, List.length_replicate]) | skip))
      | (refine awp_ret ⟨.inr rfl, _, rfl, ?_⟩; (try simp (maxSteps := 400000) (disch := omega) only [push_cast, seval, Bool.false_eq_true, List.length_replicate]))))
  refine awp_loop (fun j : Nat => mkS [(0, RI xs), (4, .ref 64 4 0), (5, .ref 80 4 0), (6, .int .i64 ((xs.length : Int) - 1 - (j : Int))), (1, .int .i64 (kS xs k j))] [(64, IL (pad4 fun _ => 0)), (80, IL (pad4 (padD xs k j)))])
    (fun j => j ≤ xs.length) (fun j => xs.length - j) 0 (Nat.zero_le _) ?_ ?_
  · have e : pad4 (padD xs k 0) = pad4 fun _ => 0 := pad4_congr fun i _ => by unfold padD; rw [if_neg (by omega)]
    rw [e]
    (refine Sub.of_lists ?_ ?_ ?_ ?_ ?_ <;> simp [Vw.mkS, Vw.lk, Vw.hk, AV.inn, innL, innL_ints, innL_append, innL_rep, -List.map_set, -List.getD_eq_getElem?_getD, pad4, kS])
  · intro j hj
    by_cases hlt : j < xs.length
    · have e1 := down_nat xs.length j hlt
      have h1 := kS_bound hk0 hp j hj
      have h2 := kS_bound hk0 hp (j + 1) hlt
      have h3 := hp (xs.length - 1 - j) (by omega)
      have h4 : ¬ xs.getD (xs.length - 1 - j) 0 = 0 := by omega
      simp only [kS] at h2
      have e6 : dig xs k (xs.length - 1 - j) = (kS xs k j).tmod (xs.getD (xs.length - 1 - j) 0) := by
        unfold dig
        rw [show xs.length - 1 - (xs.length - 1 - j) = j by omega]
      have e3 : (pad4 (padD xs k j)).set (xs.length - 1 - j) ((kS xs k j).tmod (xs.getD (xs.length - 1 - j) 0)) = pad4 (padD xs k (j + 1)) := by
        rw [pad4_set _ _ _ (by omega), ← e6]
        refine pad4_congr fun i hi => ?_
        unfold padD
        by_cases h : i = xs.length - 1 - j
        · subst h; rw [if_pos rfl, if_pos (by omega)]
        · rw [if_neg h]
          by_cases h5 : i < xs.length ∧ xs.length - j ≤ i
          · rw [if_pos h5, if_pos (by omega)]
          · rw [if_neg h5, if_neg (by omega)]
      (repeat' (first
      | (first | refine awp_seq ?_ | refine awp_block ?_)
      | ((first | refine awp_reg ?_ | refine awp_condB ?_ | refine awp_skip ?_ | refine awp_exit ?_); simp (maxSteps := 400000) (disch := omega) only [push_cast, seval, Bool.false_eq_true, List.length_replicate, l58r0, l58r1, l58r2, l58r3, l58r4, l58r5, l58r6, l58r7, e1, h4])
      | ((first | refine condB_split (fun h => ?_) (fun h => ?_) | refine gIf_split (fun h => ?_) (fun h => ?_) | refine qIf_split (fun h => ?_) (fun h => ?_)) <;> (try simp only [h]) <;> (try simp only [decide_eq_true_eq, decide_eq_false_iff_not, Bool.not_eq_true', Bool.not_eq_false', Bool.and_eq_true, Bool.or_eq_true, Bool.and_eq_false_iff, Bool.or_eq_false_iff, Int.not_le, Int.not_lt, bne_iff_ne, ne_eq, beq_iff_eq, Bool.not_eq_true, Bool.not_eq_false] at h) <;> (try simp only [h]) <;> (first | (exfalso; omega) | (focus (exfalso; simp_all; done)) | (simp (maxSteps := 400000) (disch := omega) only [push_cast, seval, Bool.false_eq_true, List.length_replicate, e1, h4]) | skip))
      | (refine awp_ret ⟨.inr rfl, _, rfl, ?_⟩; (try simp (maxSteps := 400000) (disch := omega) only [push_cast, seval, Bool.false_eq_true, List.length_replicate, e1, h4]))))
      refine ⟨j + 1, by omega, by omega, ?_⟩
      have e4 : (xs.length : Int) - 1 - ((j : Int) + 1) = (xs.length : Int) - 1 - (j : Int) - 1 := by omega
      (refine Sub.of_lists ?_ ?_ ?_ ?_ ?_ <;> simp [Vw.mkS, Vw.lk, Vw.hk, AV.inn, innL, innL_ints, innL_append, innL_rep, -List.map_set, -List.getD_eq_getElem?_getD, IL_set, e3, e4, kS])
    · have e : j = xs.length := by omega
      (repeat' (first
      | (first | refine awp_seq ?_ | refine awp_block ?_)
      | ((first | refine awp_reg ?_ | refine awp_condB ?_ | refine awp_skip ?_ | refine awp_exit ?_); simp (maxSteps := 400000) (disch := omega) only [push_cast, seval, Bool.false_eq_true, List.length_replicate, l58r0, l58r1, l58r2, l58r3, l58r4, l58r5, l58r6, l58r7])
      | ((first | refine condB_split (fun h => ?_) (fun h => ?_) | refine gIf_split (fun h => ?_) (fun h => ?_) | refine qIf_split (fun h => ?_) (fun h => ?_)) <;> (try simp only [h]) <;> (try simp only [decide_eq_true_eq, decide_eq_false_iff_not, Bool.not_eq_true', Bool.not_eq_false', Bool.and_eq_true, Bool.or_eq_true, Bool.and_eq_false_iff, Bool.or_eq_false_iff, Int.not_le, Int.not_lt, bne_iff_ne, ne_eq, beq_iff_eq, Bool.not_eq_true, Bool.not_eq_false] at h) <;> (try simp only [h]) <;> (first | (exfalso; omega) | (focus (exfalso; simp_all; done)) | (simp (maxSteps := 400000) (disch := omega) only [push_cast, seval, Bool.false_eq_true, List.length_replicate]) | skip))
      | (refine awp_ret ⟨.inr rfl, _, rfl, ?_⟩; (try simp (maxSteps := 400000) (disch := omega) only [push_cast, seval, Bool.false_eq_true, List.length_replicate]))))
      subst e
      have e2 : pad4 (padD xs k xs.length) = pad4 (digP xs k) := pad4_congr fun i _ => by
        unfold digP padD
        by_cases h : i < xs.length
        · rw [if_pos ⟨h, by omega⟩, if_pos h]
        · rw [if_neg (fun hh => h hh.1), if_neg h]
      rw [e2]

end Go.Proofs.Ytcnlcmehfanbdaa
