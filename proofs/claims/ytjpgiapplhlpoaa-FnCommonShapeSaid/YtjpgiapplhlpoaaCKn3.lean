import Derived.Test.YtjpgiapplhlpoaaCKn2
import Derived.Test.YtjpgiapplhlpoaaCM1
import Derived.Test.YtjpgiapplhlpoaaCW3
set_option linter.unusedSimpArgs false
set_option linter.unusedVariables false
set_option linter.unnecessarySimpa false
set_option maxRecDepth 4000
set_option maxHeartbeats 4000000
namespace Go.Proofs.Ytjpgiapplhlpoaa
open VwM Vw Go

abbrev TC (v : Bool) (l : List Int) : AV → List (List AV) → Prop := fun r H' => r = .tup [.own 0 (MVL v l).length 1, .bool v] ∧ H' = [IL (MVL v l)]


theorem behindOnes_ok (xs : List Int) (n m : Nat) (hx : xs.length = n) (hb : (n ≤ m ∧ 0 < m) ∧ m ≤ 1000) : BCall Try.prog 15 [.rows false (IL xs) n, .int .i64 m] [] (fun r H' => r = .osl 0 m 0 m 1 m ∧ H' = [IL (padO xs m)]) := by
  subst hx
  obtain ⟨⟨h0, h1⟩, h2⟩ := hb
  refine bcall_of (pins := []) (pin := 0) l15_eq rfl rfl rfl ?_
  obtain ⟨k, hk⟩ : ∃ k : Nat, m - xs.length = k := ⟨_, rfl⟩
  have hk' : (m : Int) - (xs.length : Int) = (k : Int) := by omega
  have hkm : k + xs.length = m := by omega
  have lr : (rpt [1] k).length = k := by rw [rpt_length]; simp
  have hq : 0 < k + xs.length ∧ k + xs.length ≤ 1000 := by omega
  unfold padO
  rw [hk]
  (repeat' (first
      | (first | refine awp_seq ?_ | refine awp_block ?_)
      | ((first | refine awp_reg ?_ | refine awp_condB ?_ | refine awp_skip ?_ | refine awp_exit ?_); simp (maxSteps := 400000) (disch := omega) only [push_cast, seval, Bool.false_eq_true, List.length_replicate, l15r0, l15r1, hk', hkm, lr])
      | ((first | refine condB_split (fun h => ?_) (fun h => ?_) | refine gIf_split (fun h => ?_) (fun h => ?_) | refine qIf_split (fun h => ?_) (fun h => ?_)) <;> (try simp only [h]) <;> (try simp only [decide_eq_true_eq, decide_eq_false_iff_not, Bool.not_eq_true', Bool.not_eq_false', Bool.and_eq_true, Bool.or_eq_true, Bool.and_eq_false_iff, Bool.or_eq_false_iff, Int.not_le, Int.not_lt, bne_iff_ne, ne_eq, beq_iff_eq, Bool.not_eq_true, Bool.not_eq_false] at h) <;> (try simp only [h]) <;> (first | (exfalso; omega) | (focus (exfalso; simp_all; done)) | (simp (maxSteps := 400000) (disch := omega) only [push_cast, seval, Bool.false_eq_true, List.length_replicate, hk', hkm, lr]) | skip))
      | ((first | refine callD_of false ?_ | refine qcallD_of false ?_); simp (maxSteps := 400000) (disch := omega) only [push_cast, seval, Bool.false_eq_true, List.length_replicate, hk', hkm, lr])
      | ((first | ((first | refine call0D (repI_ok _ _ ?_) ?_ | refine qcall0D (repI_ok _ _ ?_) ⟨_, _, rfl, rfl⟩ ?_); (focus (first | assumption | rfl | omega | (simp; done) | (simp; omega) | (simp_all; done) | (simp_all; omega))); rintro _ _ ⟨rfl, rfl⟩) | ((with_reducible refine call0D (catI_ok _ _ _ _ ?_ ?_ ?_) ?_); (iterate 3 (focus (first | assumption | rfl | omega | (simp; done) | (simp; omega) | (simp_all; done) | (simp_all; omega)))); rintro _ _ ⟨rfl, rfl⟩) | ((with_reducible refine qcall0D (catI_ok _ _ _ _ ?_ ?_ ?_) ⟨_, _, rfl, rfl⟩ ?_); (iterate 3 (focus (first | assumption | rfl | omega | (simp; done) | (simp; omega) | (simp_all; done) | (simp_all; omega)))); rintro _ _ ⟨rfl, rfl⟩) | ((with_reducible refine call0D (catI0_ok) ?_); rintro _ _ ⟨rfl, rfl⟩) | ((with_reducible refine qcall0D (catI0_ok) ⟨_, _, rfl, rfl⟩ ?_); rintro _ _ ⟨rfl, rfl⟩)); (try simp (maxSteps := 400000) (disch := omega) only [push_cast, seval, Bool.false_eq_true, List.length_replicate, hk', hkm, lr]))
      | (refine awp_ret ⟨.inr rfl, [208], [], _, by decide, rfl, ?_⟩; (try simp (maxSteps := 400000) (disch := omega) only [push_cast, seval, Bool.false_eq_true, List.length_replicate, ↓allMem_nil, ↓allMem_cons, ↓List.map_cons, ↓List.map_nil, hk', hkm, lr]))))
  all_goals (try exact ⟨rfl, rfl⟩)
theorem behindOnes0_ok (xs : List Int) (n : Nat) (hx : xs.length = n) (h0 : n = 0) : BCall Try.prog 15 [.rows false (IL xs) n, .int .i64 0] [] (fun r H' => r = .own 0 0 1 ∧ H' = [[]]) := by
  subst h0
  have hx0 : xs = [] := List.length_eq_zero_iff.1 hx
  subst hx0
  clear hx
  refine bcall_of (pins := []) (pin := 0) l15_eq rfl rfl rfl ?_
  have hk' : (0 : Int) - ((0 : Nat) : Int) = ((0 : Nat) : Int) := rfl
  have r0 : rpt [1] 0 = [] := rfl
  (repeat' (first
      | (first | refine awp_seq ?_ | refine awp_block ?_)
      | ((first | refine awp_reg ?_ | refine awp_condB ?_ | refine awp_skip ?_ | refine awp_exit ?_); simp (maxSteps := 400000) (disch := omega) only [push_cast, seval, Bool.false_eq_true, List.length_replicate, l15r0, l15r1, hk', r0])
      | ((first | refine condB_split (fun h => ?_) (fun h => ?_) | refine gIf_split (fun h => ?_) (fun h => ?_) | refine qIf_split (fun h => ?_) (fun h => ?_)) <;> (try simp only [h]) <;> (try simp only [decide_eq_true_eq, decide_eq_false_iff_not, Bool.not_eq_true', Bool.not_eq_false', Bool.and_eq_true, Bool.or_eq_true, Bool.and_eq_false_iff, Bool.or_eq_false_iff, Int.not_le, Int.not_lt, bne_iff_ne, ne_eq, beq_iff_eq, Bool.not_eq_true, Bool.not_eq_false] at h) <;> (try simp only [h]) <;> (first | (exfalso; omega) | (focus (exfalso; simp_all; done)) | (simp (maxSteps := 400000) (disch := omega) only [push_cast, seval, Bool.false_eq_true, List.length_replicate, hk', r0]) | skip))
      | ((first | refine callD_of false ?_ | refine qcallD_of false ?_); simp (maxSteps := 400000) (disch := omega) only [push_cast, seval, Bool.false_eq_true, List.length_replicate, hk', r0])
      | ((first | ((first | refine call0D (repI_ok _ _ ?_) ?_ | refine qcall0D (repI_ok _ _ ?_) ⟨_, _, rfl, rfl⟩ ?_); (focus (first | assumption | rfl | omega | (simp; done) | (simp; omega) | (simp_all; done) | (simp_all; omega))); rintro _ _ ⟨rfl, rfl⟩) | ((with_reducible refine call0D (catI_ok _ _ _ _ ?_ ?_ ?_) ?_); (iterate 3 (focus (first | assumption | rfl | omega | (simp; done) | (simp; omega) | (simp_all; done) | (simp_all; omega)))); rintro _ _ ⟨rfl, rfl⟩) | ((with_reducible refine qcall0D (catI_ok _ _ _ _ ?_ ?_ ?_) ⟨_, _, rfl, rfl⟩ ?_); (iterate 3 (focus (first | assumption | rfl | omega | (simp; done) | (simp; omega) | (simp_all; done) | (simp_all; omega)))); rintro _ _ ⟨rfl, rfl⟩) | ((with_reducible refine call0D (catI0_ok) ?_); rintro _ _ ⟨rfl, rfl⟩) | ((with_reducible refine qcall0D (catI0_ok) ⟨_, _, rfl, rfl⟩ ?_); rintro _ _ ⟨rfl, rfl⟩)); (try simp (maxSteps := 400000) (disch := omega) only [push_cast, seval, Bool.false_eq_true, List.length_replicate, hk', r0]))
      | (refine awp_ret ⟨.inr rfl, [208], [], _, by decide, rfl, ?_⟩; (try simp (maxSteps := 400000) (disch := omega) only [push_cast, seval, Bool.false_eq_true, List.length_replicate, ↓allMem_nil, ↓allMem_cons, ↓List.map_cons, ↓List.map_nil, hk', r0]))))
  all_goals (try exact ⟨rfl, rfl⟩)


theorem commonExtent_ok (x y : Int) : PCall Try.prog 16 [.int .i64 x, .int .i64 y] (fun r => r = .tup [.int .i64 (comX x y), .bool (comP x y)]) := by
  refine pcall_of l16_eq rfl ?_
  unfold comX comP
  by_cases h1 : x = 1
  · subst h1
    (repeat' (first
      | (first | refine awp_seq ?_ | refine awp_block ?_)
      | ((first | refine awp_reg ?_ | refine awp_condB ?_ | refine awp_skip ?_ | refine awp_exit ?_); simp (maxSteps := 400000) (disch := omega) only [push_cast, seval, Bool.false_eq_true, List.length_replicate, l16r0, l16r1, l16r2, l16r3])
      | ((first | refine condB_split (fun h => ?_) (fun h => ?_) | refine gIf_split (fun h => ?_) (fun h => ?_) | refine qIf_split (fun h => ?_) (fun h => ?_)) <;> (try simp only [h]) <;> (try simp only [decide_eq_true_eq, decide_eq_false_iff_not, Bool.not_eq_true', Bool.not_eq_false', Bool.and_eq_true, Bool.or_eq_true, Bool.and_eq_false_iff, Bool.or_eq_false_iff, Int.not_le, Int.not_lt, bne_iff_ne, ne_eq, beq_iff_eq, Bool.not_eq_true, Bool.not_eq_false] at h) <;> (try simp only [h]) <;> (first | (exfalso; omega) | (focus (exfalso; simp_all; done)) | (simp (maxSteps := 400000) (disch := omega) only [push_cast, seval, Bool.false_eq_true, List.length_replicate]) | skip))
      | (refine awp_ret ⟨.inr rfl, _, rfl, ?_⟩; (try simp (maxSteps := 400000) (disch := omega) only [push_cast, seval, Bool.false_eq_true, List.length_replicate]))))
    all_goals simp
  · (repeat' (first
      | (first | refine awp_seq ?_ | refine awp_block ?_)
      | ((first | refine awp_reg ?_ | refine awp_condB ?_ | refine awp_skip ?_ | refine awp_exit ?_); simp (maxSteps := 400000) (disch := omega) only [push_cast, seval, Bool.false_eq_true, List.length_replicate, l16r0, l16r1, l16r2, l16r3, h1])
      | ((first | refine condB_split (fun h => ?_) (fun h => ?_) | refine gIf_split (fun h => ?_) (fun h => ?_) | refine qIf_split (fun h => ?_) (fun h => ?_)) <;> (try simp only [h]) <;> (try simp only [decide_eq_true_eq, decide_eq_false_iff_not, Bool.not_eq_true', Bool.not_eq_false', Bool.and_eq_true, Bool.or_eq_true, Bool.and_eq_false_iff, Bool.or_eq_false_iff, Int.not_le, Int.not_lt, bne_iff_ne, ne_eq, beq_iff_eq, Bool.not_eq_true, Bool.not_eq_false] at h) <;> (try simp only [h]) <;> (first | (exfalso; omega) | (focus (exfalso; simp_all; done)) | (simp (maxSteps := 400000) (disch := omega) only [push_cast, seval, Bool.false_eq_true, List.length_replicate, h1]) | skip))
      | (refine awp_ret ⟨.inr rfl, _, rfl, ?_⟩; (try simp (maxSteps := 400000) (disch := omega) only [push_cast, seval, Bool.false_eq_true, List.length_replicate, h1]))))
    all_goals (simp [h1]; try grind)


theorem extentAt_ok (xs : List Int) (n i : Nat) (hn : xs.length = n) (hb : n ≤ 1000 ∧ i ≤ 1000) : PCall Try.prog 18 [.rows false (IL xs) n, .int .i64 i] (fun r => r = .int .i64 (extE xs i)) := by
  subst hn
  obtain ⟨h1, h2⟩ := hb
  refine pcall_of l18_eq rfl ?_
  unfold extE
  by_cases h : xs.length ≤ i
  · have h' : (xs.length : Int) ≤ (i : Int) := by omega
    rw [if_pos h]
    (repeat' (first
      | (first | refine awp_seq ?_ | refine awp_block ?_)
      | ((first | refine awp_reg ?_ | refine awp_condB ?_ | refine awp_skip ?_ | refine awp_exit ?_); simp (maxSteps := 400000) (disch := omega) only [push_cast, seval, Bool.false_eq_true, List.length_replicate, l18r0, l18r1, l18r2, l18r3, h'])
      | ((first | refine condB_split (fun h => ?_) (fun h => ?_) | refine gIf_split (fun h => ?_) (fun h => ?_) | refine qIf_split (fun h => ?_) (fun h => ?_)) <;> (try simp only [h]) <;> (try simp only [decide_eq_true_eq, decide_eq_false_iff_not, Bool.not_eq_true', Bool.not_eq_false', Bool.and_eq_true, Bool.or_eq_true, Bool.and_eq_false_iff, Bool.or_eq_false_iff, Int.not_le, Int.not_lt, bne_iff_ne, ne_eq, beq_iff_eq, Bool.not_eq_true, Bool.not_eq_false] at h) <;> (try simp only [h]) <;> (first | (exfalso; omega) | (focus (exfalso; simp_all; done)) | (simp (maxSteps := 400000) (disch := omega) only [push_cast, seval, Bool.false_eq_true, List.length_replicate, h']) | skip))
      | (refine awp_ret ⟨.inr rfl, _, rfl, ?_⟩; (try simp (maxSteps := 400000) (disch := omega) only [push_cast, seval, Bool.false_eq_true, List.length_replicate, h']))))
  · have h' : ¬ (xs.length : Int) ≤ (i : Int) := by omega
    rw [if_neg h]
    have e := down_nat xs.length i (by omega)
    (repeat' (first
      | (first | refine awp_seq ?_ | refine awp_block ?_)
      | ((first | refine awp_reg ?_ | refine awp_condB ?_ | refine awp_skip ?_ | refine awp_exit ?_); simp (maxSteps := 400000) (disch := omega) only [push_cast, seval, Bool.false_eq_true, List.length_replicate, l18r0, l18r1, l18r2, l18r3, h', e])
      | ((first | refine condB_split (fun h => ?_) (fun h => ?_) | refine gIf_split (fun h => ?_) (fun h => ?_) | refine qIf_split (fun h => ?_) (fun h => ?_)) <;> (try simp only [h]) <;> (try simp only [decide_eq_true_eq, decide_eq_false_iff_not, Bool.not_eq_true', Bool.not_eq_false', Bool.and_eq_true, Bool.or_eq_true, Bool.and_eq_false_iff, Bool.or_eq_false_iff, Int.not_le, Int.not_lt, bne_iff_ne, ne_eq, beq_iff_eq, Bool.not_eq_true, Bool.not_eq_false] at h) <;> (try simp only [h]) <;> (first | (exfalso; omega) | (focus (exfalso; simp_all; done)) | (simp (maxSteps := 400000) (disch := omega) only [push_cast, seval, Bool.false_eq_true, List.length_replicate, h', e]) | skip))
      | (refine awp_ret ⟨.inr rfl, _, rfl, ?_⟩; (try simp (maxSteps := 400000) (disch := omega) only [push_cast, seval, Bool.false_eq_true, List.length_replicate, h', e]))))


set_option maxHeartbeats 8000000 in
theorem sCom_ok (xs ys : List Int) (n m : Nat) (hn : xs.length = n) (hm : ys.length = m) (hb : n ≤ 1099511627776 ∧ m ≤ 1099511627776) : BCall Try.prog 6 [.rows false (IL xs) n, .rows false (IL ys) m] [] (TC (comOk xs ys) (comS xs ys)) := by
  subst hn hm
  obtain ⟨hb1, hb2⟩ := hb
  refine bcall_of (pins := []) (pin := 0) l6_eq rfl rfl rfl ?_
  cases hv : vSh xs with
  | false =>
    have e : comOk xs ys = false := by simp [comOk, hv]
    rw [e]
    (repeat' (first
      | (first | refine awp_seq ?_ | refine awp_block ?_)
      | ((first | refine awp_reg ?_ | refine awp_condB ?_ | refine awp_skip ?_ | refine awp_exit ?_); simp (maxSteps := 400000) (disch := omega) only [push_cast, seval, Bool.false_eq_true, List.length_replicate, l6r0, l6r1, l6r2, l6r3, l6r4, l6r5, l6r6, l6r7, l6r8, l6r9, l6r10, l6r11, l6r12, l6r13, l6r14, l6r15, l6r16, l6r17, hv])
      | ((first | refine condB_split (fun h => ?_) (fun h => ?_) | refine gIf_split (fun h => ?_) (fun h => ?_) | refine qIf_split (fun h => ?_) (fun h => ?_)) <;> (try simp only [h]) <;> (try simp only [decide_eq_true_eq, decide_eq_false_iff_not, Bool.not_eq_true', Bool.not_eq_false', Bool.and_eq_true, Bool.or_eq_true, Bool.and_eq_false_iff, Bool.or_eq_false_iff, Int.not_le, Int.not_lt, bne_iff_ne, ne_eq, beq_iff_eq, Bool.not_eq_true, Bool.not_eq_false] at h) <;> (try simp only [h]) <;> (first | (exfalso; omega) | (focus (exfalso; simp_all; done)) | (simp (maxSteps := 400000) (disch := omega) only [push_cast, seval, Bool.false_eq_true, List.length_replicate, hv]) | skip))
      | ((first | refine callD_of false ?_ | refine qcallD_of false ?_); simp (maxSteps := 400000) (disch := omega) only [push_cast, seval, Bool.false_eq_true, List.length_replicate, hv])
      | ((first | ((first | refine call0D (BCall.ofP (svalidShape_ok _ _ ?_ ?_)) ?_ | refine qcall0D (BCall.ofP (svalidShape_ok _ _ ?_ ?_)) ⟨_, _, rfl, rfl⟩ ?_); (iterate 2 (focus (first | assumption | rfl | omega | (simp; done) | (simp; omega) | (simp_all; done) | (simp_all; omega)))); rintro _ _ ⟨rfl, rfl⟩) | ((first | refine call0D (BCall.ofP (extentAt_ok _ _ _ ?_ ?_)) ?_ | refine qcall0D (BCall.ofP (extentAt_ok _ _ _ ?_ ?_)) ⟨_, _, rfl, rfl⟩ ?_); (iterate 2 (focus (first | assumption | rfl | omega | (simp; done) | (simp; omega) | (simp_all; done) | (simp_all; omega)))); rintro _ _ ⟨rfl, rfl⟩)); (try simp (maxSteps := 400000) (disch := omega) only [push_cast, seval, Bool.false_eq_true, List.length_replicate, hv]))
      | (refine awp_ret ⟨.inr rfl, [16000], [(16000, 1)], _, by decide, rfl, ?_⟩; (try simp (maxSteps := 400000) (disch := omega) only [push_cast, seval, Bool.false_eq_true, List.length_replicate, ↓allMem_nil, ↓allMem_cons, ↓List.map_cons, ↓List.map_nil, hv]))))
    all_goals simp [TC, MVL]
  | true =>
  cases hv2 : vSh ys with
  | false =>
    have e : comOk xs ys = false := by simp [comOk, hv2]
    rw [e]
    (repeat' (first
      | (first | refine awp_seq ?_ | refine awp_block ?_)
      | ((first | refine awp_reg ?_ | refine awp_condB ?_ | refine awp_skip ?_ | refine awp_exit ?_); simp (maxSteps := 400000) (disch := omega) only [push_cast, seval, Bool.false_eq_true, List.length_replicate, l6r0, l6r1, l6r2, l6r3, l6r4, l6r5, l6r6, l6r7, l6r8, l6r9, l6r10, l6r11, l6r12, l6r13, l6r14, l6r15, l6r16, l6r17, hv, hv2])
      | ((first | refine condB_split (fun h => ?_) (fun h => ?_) | refine gIf_split (fun h => ?_) (fun h => ?_) | refine qIf_split (fun h => ?_) (fun h => ?_)) <;> (try simp only [h]) <;> (try simp only [decide_eq_true_eq, decide_eq_false_iff_not, Bool.not_eq_true', Bool.not_eq_false', Bool.and_eq_true, Bool.or_eq_true, Bool.and_eq_false_iff, Bool.or_eq_false_iff, Int.not_le, Int.not_lt, bne_iff_ne, ne_eq, beq_iff_eq, Bool.not_eq_true, Bool.not_eq_false] at h) <;> (try simp only [h]) <;> (first | (exfalso; omega) | (focus (exfalso; simp_all; done)) | (simp (maxSteps := 400000) (disch := omega) only [push_cast, seval, Bool.false_eq_true, List.length_replicate, hv, hv2]) | skip))
      | ((first | refine callD_of false ?_ | refine qcallD_of false ?_); simp (maxSteps := 400000) (disch := omega) only [push_cast, seval, Bool.false_eq_true, List.length_replicate, hv, hv2])
      | ((first | ((first | refine call0D (BCall.ofP (svalidShape_ok _ _ ?_ ?_)) ?_ | refine qcall0D (BCall.ofP (svalidShape_ok _ _ ?_ ?_)) ⟨_, _, rfl, rfl⟩ ?_); (iterate 2 (focus (first | assumption | rfl | omega | (simp; done) | (simp; omega) | (simp_all; done) | (simp_all; omega)))); rintro _ _ ⟨rfl, rfl⟩) | ((first | refine call0D (BCall.ofP (extentAt_ok _ _ _ ?_ ?_)) ?_ | refine qcall0D (BCall.ofP (extentAt_ok _ _ _ ?_ ?_)) ⟨_, _, rfl, rfl⟩ ?_); (iterate 2 (focus (first | assumption | rfl | omega | (simp; done) | (simp; omega) | (simp_all; done) | (simp_all; omega)))); rintro _ _ ⟨rfl, rfl⟩)); (try simp (maxSteps := 400000) (disch := omega) only [push_cast, seval, Bool.false_eq_true, List.length_replicate, hv, hv2]))
      | (refine awp_ret ⟨.inr rfl, [16000], [(16000, 1)], _, by decide, rfl, ?_⟩; (try simp (maxSteps := 400000) (disch := omega) only [push_cast, seval, Bool.false_eq_true, List.length_replicate, ↓allMem_nil, ↓allMem_cons, ↓List.map_cons, ↓List.map_nil, hv, hv2]))))
    all_goals simp [TC, MVL]
  | true =>
  have h4 := (vSh_good hv).1.2
  have h5 := (vSh_good hv2).1.2
  have e1 : comOk xs ys = (comA xs ys && vSh (comS xs ys)) := by simp [comOk, hv, hv2]
  rw [e1]
  have hN : (max (xs.length : Int) (ys.length : Int)) = (comN xs ys : Int) := by unfold comN; omega
  have hN8 : comN xs ys ≤ 4 := by unfold comN; omega
  have hx8 : xs.length ≤ 1000 := by omega
  have hy8 : ys.length ≤ 1000 := by omega
  have hsl := comS_length xs ys
  obtain ⟨N, hNN⟩ : ∃ N, comN xs ys = N := ⟨_, rfl⟩
  rw [hNN] at hN hN8 hsl
  (repeat' (first
      | (first | refine awp_seq ?_ | refine awp_block ?_)
      | ((first | refine awp_reg ?_ | refine awp_condB ?_ | refine awp_skip ?_ | refine awp_exit ?_); simp (maxSteps := 400000) (disch := omega) only [push_cast, seval, Bool.false_eq_true, List.length_replicate, l6r0, l6r1, l6r2, l6r3, l6r4, l6r5, l6r6, l6r7, l6r8, l6r9, l6r10, l6r11, l6r12, l6r13, l6r14, l6r15, l6r16, l6r17, hv, hv2, hN])
      | ((first | refine condB_split (fun h => ?_) (fun h => ?_) | refine gIf_split (fun h => ?_) (fun h => ?_) | refine qIf_split (fun h => ?_) (fun h => ?_)) <;> (try simp only [h]) <;> (try simp only [decide_eq_true_eq, decide_eq_false_iff_not, Bool.not_eq_true', Bool.not_eq_false', Bool.and_eq_true, Bool.or_eq_true, Bool.and_eq_false_iff, Bool.or_eq_false_iff, Int.not_le, Int.not_lt, bne_iff_ne, ne_eq, beq_iff_eq, Bool.not_eq_true, Bool.not_eq_false] at h) <;> (try simp only [h]) <;> (first | (exfalso; omega) | (focus (exfalso; simp_all; done)) | (simp (maxSteps := 400000) (disch := omega) only [push_cast, seval, Bool.false_eq_true, List.length_replicate, hv, hv2, hN]) | skip))
      | ((first | refine callD_of false ?_ | refine qcallD_of false ?_); simp (maxSteps := 400000) (disch := omega) only [push_cast, seval, Bool.false_eq_true, List.length_replicate, hv, hv2, hN])
      | ((first | ((first | refine call0D (BCall.ofP (svalidShape_ok _ _ ?_ ?_)) ?_ | refine qcall0D (BCall.ofP (svalidShape_ok _ _ ?_ ?_)) ⟨_, _, rfl, rfl⟩ ?_); (iterate 2 (focus (first | assumption | rfl | omega | (simp; done) | (simp; omega) | (simp_all; done) | (simp_all; omega)))); rintro _ _ ⟨rfl, rfl⟩) | ((first | refine call0D (BCall.ofP (extentAt_ok _ _ _ ?_ ?_)) ?_ | refine qcall0D (BCall.ofP (extentAt_ok _ _ _ ?_ ?_)) ⟨_, _, rfl, rfl⟩ ?_); (iterate 2 (focus (first | assumption | rfl | omega | (simp; done) | (simp; omega) | (simp_all; done) | (simp_all; omega)))); rintro _ _ ⟨rfl, rfl⟩)); (try simp (maxSteps := 400000) (disch := omega) only [push_cast, seval, Bool.false_eq_true, List.length_replicate, hv, hv2, hN]))
      | (refine awp_ret ⟨.inr rfl, [400], [], _, by decide, rfl, ?_⟩; (try simp (maxSteps := 400000) (disch := omega) only [push_cast, seval, Bool.false_eq_true, List.length_replicate, ↓allMem_nil, ↓allMem_cons, ↓List.map_cons, ↓List.map_nil, hv, hv2, hN]))))
  refine awp_loop (fun k : Nat => mkS [(0, RI xs), (1, RI ys), (4, .val (.slice none 0 0)), (5, .bool false), (6, .int .i64 N), (7, .own 400 N 1), (8, .int .i64 k)] [(400, IL (filledD (comG xs ys N) N k))])
    (fun k => k ≤ N ∧ ∀ i, i < k → comP (extE xs i) (extE ys i) = true) (fun k => N - k) 0 ⟨Nat.zero_le _, fun i h => absurd h (Nat.not_lt_zero _)⟩ ?_ ?_
  · (refine Sub.of_lists ?_ ?_ ?_ ?_ ?_ <;> simp [Vw.mkS, Vw.lk, Vw.hk, AV.inn, innL, innL_ints, innL_append, innL_rep, -List.map_set, -List.getD_eq_getElem?_getD, filledD_zero])
  · rintro k ⟨hk, hj⟩
    have hfl := filledD_length (comG xs ys N) N k
    by_cases hlt : k < N
    · have hk8 : k ≤ 1000 := by omega
      have es := filledD_set (comG xs ys N) N k hlt
      have ed := down_nat N k hlt
      have eg : comG xs ys N (N - 1 - k) = comX (extE xs k) (extE ys k) := by unfold comG; rw [show N - 1 - (N - 1 - k) = k by omega]
      rw [eg] at es
      unfold comX at es
      have hp : comP (extE xs k) (extE ys k) = true ∨ comP (extE xs k) (extE ys k) = false := by cases comP (extE xs k) (extE ys k) <;> simp
      generalize hX : extE xs k = X at *
      generalize hY : extE ys k = Y at *
      generalize filledD (comG xs ys N) N k = F at *
      rcases hp with hp | hp
      · have hstep : ∀ i, i < k + 1 → comP (extE xs i) (extE ys i) = true := fun i hi => by
          by_cases h : i = k
          · rw [h, hX, hY]; exact hp
          · exact hj i (by omega)
        simp only [comP, Bool.or_eq_true, decide_eq_true_eq] at hp
        by_cases hX1 : X = 1
        · rw [if_pos hX1] at es
          by_cases hXY : X = Y
          · have hY1 : Y = 1 := by omega
            rw [hX1] at hX
            rw [hY1] at hY es
            clear hXY hX1 hY1 eg
            (repeat' (first
      | (first | refine awp_seq ?_ | refine awp_block ?_)
      | ((first | refine awp_reg ?_ | refine awp_condB ?_ | refine awp_skip ?_ | refine awp_exit ?_); simp (maxSteps := 400000) (disch := omega) only [push_cast, seval, Bool.false_eq_true, List.length_replicate, l6r0, l6r1, l6r2, l6r3, l6r4, l6r5, l6r6, l6r7, l6r8, l6r9, l6r10, l6r11, l6r12, l6r13, l6r14, l6r15, l6r16, l6r17, hX, hY, hfl, ed])
      | ((first | refine condB_split (fun h => ?_) (fun h => ?_) | refine gIf_split (fun h => ?_) (fun h => ?_) | refine qIf_split (fun h => ?_) (fun h => ?_)) <;> (try simp only [h]) <;> (try simp only [decide_eq_true_eq, decide_eq_false_iff_not, Bool.not_eq_true', Bool.not_eq_false', Bool.and_eq_true, Bool.or_eq_true, Bool.and_eq_false_iff, Bool.or_eq_false_iff, Int.not_le, Int.not_lt, bne_iff_ne, ne_eq, beq_iff_eq, Bool.not_eq_true, Bool.not_eq_false] at h) <;> (try simp only [h]) <;> (first | (exfalso; omega) | (focus (exfalso; simp_all; done)) | (simp (maxSteps := 400000) (disch := omega) only [push_cast, seval, Bool.false_eq_true, List.length_replicate, hX, hY, hfl, ed]) | skip))
      | ((first | refine callD_of false ?_ | refine qcallD_of false ?_); simp (maxSteps := 400000) (disch := omega) only [push_cast, seval, Bool.false_eq_true, List.length_replicate, hX, hY, hfl, ed])
      | ((first | ((first | refine call0D (BCall.ofP (svalidShape_ok _ _ ?_ ?_)) ?_ | refine qcall0D (BCall.ofP (svalidShape_ok _ _ ?_ ?_)) ⟨_, _, rfl, rfl⟩ ?_); (iterate 2 (focus (first | assumption | rfl | omega | (simp; done) | (simp; omega) | (simp_all; done) | (simp_all; omega)))); rintro _ _ ⟨rfl, rfl⟩) | ((first | refine call0D (BCall.ofP (extentAt_ok _ _ _ ?_ ?_)) ?_ | refine qcall0D (BCall.ofP (extentAt_ok _ _ _ ?_ ?_)) ⟨_, _, rfl, rfl⟩ ?_); (iterate 2 (focus (first | assumption | rfl | omega | (simp; done) | (simp; omega) | (simp_all; done) | (simp_all; omega)))); rintro _ _ ⟨rfl, rfl⟩)); (try simp (maxSteps := 400000) (disch := omega) only [push_cast, seval, Bool.false_eq_true, List.length_replicate, hX, hY, hfl, ed]))
      | (refine awp_ret ⟨.inr rfl, [400], [], _, by decide, rfl, ?_⟩; (try simp (maxSteps := 400000) (disch := omega) only [push_cast, seval, Bool.false_eq_true, List.length_replicate, ↓allMem_nil, ↓allMem_cons, ↓List.map_cons, ↓List.map_nil, hX, hY, hfl, ed]))))
            all_goals (refine ⟨k + 1, ⟨by omega, hstep⟩, by omega, ?_⟩; rw [← es]; (refine Sub.of_lists ?_ ?_ ?_ ?_ ?_ <;> simp [Vw.mkS, Vw.lk, Vw.hk, AV.inn, innL, innL_ints, innL_append, innL_rep, -List.map_set, -List.getD_eq_getElem?_getD, IL_set]))
          · (repeat' (first
      | (first | refine awp_seq ?_ | refine awp_block ?_)
      | ((first | refine awp_reg ?_ | refine awp_condB ?_ | refine awp_skip ?_ | refine awp_exit ?_); simp (maxSteps := 400000) (disch := omega) only [push_cast, seval, Bool.false_eq_true, List.length_replicate, l6r0, l6r1, l6r2, l6r3, l6r4, l6r5, l6r6, l6r7, l6r8, l6r9, l6r10, l6r11, l6r12, l6r13, l6r14, l6r15, l6r16, l6r17, hX, hY, hX1, hXY, hfl, ed])
      | ((first | refine condB_split (fun h => ?_) (fun h => ?_) | refine gIf_split (fun h => ?_) (fun h => ?_) | refine qIf_split (fun h => ?_) (fun h => ?_)) <;> (try simp only [h]) <;> (try simp only [decide_eq_true_eq, decide_eq_false_iff_not, Bool.not_eq_true', Bool.not_eq_false', Bool.and_eq_true, Bool.or_eq_true, Bool.and_eq_false_iff, Bool.or_eq_false_iff, Int.not_le, Int.not_lt, bne_iff_ne, ne_eq, beq_iff_eq, Bool.not_eq_true, Bool.not_eq_false] at h) <;> (try simp only [h]) <;> (first | (exfalso; omega) | (focus (exfalso; simp_all; done)) | (simp (maxSteps := 400000) (disch := omega) only [push_cast, seval, Bool.false_eq_true, List.length_replicate, hX, hY, hX1, hXY, hfl, ed]) | skip))
      | ((first | refine callD_of false ?_ | refine qcallD_of false ?_); simp (maxSteps := 400000) (disch := omega) only [push_cast, seval, Bool.false_eq_true, List.length_replicate, hX, hY, hX1, hXY, hfl, ed])
      | ((first | ((first | refine call0D (BCall.ofP (svalidShape_ok _ _ ?_ ?_)) ?_ | refine qcall0D (BCall.ofP (svalidShape_ok _ _ ?_ ?_)) ⟨_, _, rfl, rfl⟩ ?_); (iterate 2 (focus (first | assumption | rfl | omega | (simp; done) | (simp; omega) | (simp_all; done) | (simp_all; omega)))); rintro _ _ ⟨rfl, rfl⟩) | ((first | refine call0D (BCall.ofP (extentAt_ok _ _ _ ?_ ?_)) ?_ | refine qcall0D (BCall.ofP (extentAt_ok _ _ _ ?_ ?_)) ⟨_, _, rfl, rfl⟩ ?_); (iterate 2 (focus (first | assumption | rfl | omega | (simp; done) | (simp; omega) | (simp_all; done) | (simp_all; omega)))); rintro _ _ ⟨rfl, rfl⟩)); (try simp (maxSteps := 400000) (disch := omega) only [push_cast, seval, Bool.false_eq_true, List.length_replicate, hX, hY, hX1, hXY, hfl, ed]))
      | (refine awp_ret ⟨.inr rfl, [400], [], _, by decide, rfl, ?_⟩; (try simp (maxSteps := 400000) (disch := omega) only [push_cast, seval, Bool.false_eq_true, List.length_replicate, ↓allMem_nil, ↓allMem_cons, ↓List.map_cons, ↓List.map_nil, hX, hY, hX1, hXY, hfl, ed]))))
            all_goals (refine ⟨k + 1, ⟨by omega, hstep⟩, by omega, ?_⟩; rw [← es]; (refine Sub.of_lists ?_ ?_ ?_ ?_ ?_ <;> simp [Vw.mkS, Vw.lk, Vw.hk, AV.inn, innL, innL_ints, innL_append, innL_rep, -List.map_set, -List.getD_eq_getElem?_getD, IL_set, hX1, hXY]))
        · rw [if_neg hX1] at es
          by_cases hXY : X = Y
          · (repeat' (first
      | (first | refine awp_seq ?_ | refine awp_block ?_)
      | ((first | refine awp_reg ?_ | refine awp_condB ?_ | refine awp_skip ?_ | refine awp_exit ?_); simp (maxSteps := 400000) (disch := omega) only [push_cast, seval, Bool.false_eq_true, List.length_replicate, l6r0, l6r1, l6r2, l6r3, l6r4, l6r5, l6r6, l6r7, l6r8, l6r9, l6r10, l6r11, l6r12, l6r13, l6r14, l6r15, l6r16, l6r17, hX, hY, hX1, hXY, hfl, ed])
      | ((first | refine condB_split (fun h => ?_) (fun h => ?_) | refine gIf_split (fun h => ?_) (fun h => ?_) | refine qIf_split (fun h => ?_) (fun h => ?_)) <;> (try simp only [h]) <;> (try simp only [decide_eq_true_eq, decide_eq_false_iff_not, Bool.not_eq_true', Bool.not_eq_false', Bool.and_eq_true, Bool.or_eq_true, Bool.and_eq_false_iff, Bool.or_eq_false_iff, Int.not_le, Int.not_lt, bne_iff_ne, ne_eq, beq_iff_eq, Bool.not_eq_true, Bool.not_eq_false] at h) <;> (try simp only [h]) <;> (first | (exfalso; omega) | (focus (exfalso; simp_all; done)) | (simp (maxSteps := 400000) (disch := omega) only [push_cast, seval, Bool.false_eq_true, List.length_replicate, hX, hY, hX1, hXY, hfl, ed]) | skip))
      | ((first | refine callD_of false ?_ | refine qcallD_of false ?_); simp (maxSteps := 400000) (disch := omega) only [push_cast, seval, Bool.false_eq_true, List.length_replicate, hX, hY, hX1, hXY, hfl, ed])
      | ((first | ((first | refine call0D (BCall.ofP (svalidShape_ok _ _ ?_ ?_)) ?_ | refine qcall0D (BCall.ofP (svalidShape_ok _ _ ?_ ?_)) ⟨_, _, rfl, rfl⟩ ?_); (iterate 2 (focus (first | assumption | rfl | omega | (simp; done) | (simp; omega) | (simp_all; done) | (simp_all; omega)))); rintro _ _ ⟨rfl, rfl⟩) | ((first | refine call0D (BCall.ofP (extentAt_ok _ _ _ ?_ ?_)) ?_ | refine qcall0D (BCall.ofP (extentAt_ok _ _ _ ?_ ?_)) ⟨_, _, rfl, rfl⟩ ?_); (iterate 2 (focus (first | assumption | rfl | omega | (simp; done) | (simp; omega) | (simp_all; done) | (simp_all; omega)))); rintro _ _ ⟨rfl, rfl⟩)); (try simp (maxSteps := 400000) (disch := omega) only [push_cast, seval, Bool.false_eq_true, List.length_replicate, hX, hY, hX1, hXY, hfl, ed]))
      | (refine awp_ret ⟨.inr rfl, [400], [], _, by decide, rfl, ?_⟩; (try simp (maxSteps := 400000) (disch := omega) only [push_cast, seval, Bool.false_eq_true, List.length_replicate, ↓allMem_nil, ↓allMem_cons, ↓List.map_cons, ↓List.map_nil, hX, hY, hX1, hXY, hfl, ed]))))
            all_goals (refine ⟨k + 1, ⟨by omega, hstep⟩, by omega, ?_⟩; rw [← es]; (refine Sub.of_lists ?_ ?_ ?_ ?_ ?_ <;> simp [Vw.mkS, Vw.lk, Vw.hk, AV.inn, innL, innL_ints, innL_append, innL_rep, -List.map_set, -List.getD_eq_getElem?_getD, IL_set, hX1, hXY]))
          · have hY1 : Y = 1 := by rcases hp with (h | h) | h; exact absurd h hXY; exact absurd h hX1; exact h
            (repeat' (first
      | (first | refine awp_seq ?_ | refine awp_block ?_)
      | ((first | refine awp_reg ?_ | refine awp_condB ?_ | refine awp_skip ?_ | refine awp_exit ?_); simp (maxSteps := 400000) (disch := omega) only [push_cast, seval, Bool.false_eq_true, List.length_replicate, l6r0, l6r1, l6r2, l6r3, l6r4, l6r5, l6r6, l6r7, l6r8, l6r9, l6r10, l6r11, l6r12, l6r13, l6r14, l6r15, l6r16, l6r17, hX, hY, hX1, hXY, hY1, hfl, ed])
      | ((first | refine condB_split (fun h => ?_) (fun h => ?_) | refine gIf_split (fun h => ?_) (fun h => ?_) | refine qIf_split (fun h => ?_) (fun h => ?_)) <;> (try simp only [h]) <;> (try simp only [decide_eq_true_eq, decide_eq_false_iff_not, Bool.not_eq_true', Bool.not_eq_false', Bool.and_eq_true, Bool.or_eq_true, Bool.and_eq_false_iff, Bool.or_eq_false_iff, Int.not_le, Int.not_lt, bne_iff_ne, ne_eq, beq_iff_eq, Bool.not_eq_true, Bool.not_eq_false] at h) <;> (try simp only [h]) <;> (first | (exfalso; omega) | (focus (exfalso; simp_all; done)) | (simp (maxSteps := 400000) (disch := omega) only [push_cast, seval, Bool.false_eq_true, List.length_replicate, hX, hY, hX1, hXY, hY1, hfl, ed]) | skip))
      | ((first | refine callD_of false ?_ | refine qcallD_of false ?_); simp (maxSteps := 400000) (disch := omega) only [push_cast, seval, Bool.false_eq_true, List.length_replicate, hX, hY, hX1, hXY, hY1, hfl, ed])
      | ((first | ((first | refine call0D (BCall.ofP (svalidShape_ok _ _ ?_ ?_)) ?_ | refine qcall0D (BCall.ofP (svalidShape_ok _ _ ?_ ?_)) ⟨_, _, rfl, rfl⟩ ?_); (iterate 2 (focus (first | assumption | rfl | omega | (simp; done) | (simp; omega) | (simp_all; done) | (simp_all; omega)))); rintro _ _ ⟨rfl, rfl⟩) | ((first | refine call0D (BCall.ofP (extentAt_ok _ _ _ ?_ ?_)) ?_ | refine qcall0D (BCall.ofP (extentAt_ok _ _ _ ?_ ?_)) ⟨_, _, rfl, rfl⟩ ?_); (iterate 2 (focus (first | assumption | rfl | omega | (simp; done) | (simp; omega) | (simp_all; done) | (simp_all; omega)))); rintro _ _ ⟨rfl, rfl⟩)); (try simp (maxSteps := 400000) (disch := omega) only [push_cast, seval, Bool.false_eq_true, List.length_replicate, hX, hY, hX1, hXY, hY1, hfl, ed]))
      | (refine awp_ret ⟨.inr rfl, [400], [], _, by decide, rfl, ?_⟩; (try simp (maxSteps := 400000) (disch := omega) only [push_cast, seval, Bool.false_eq_true, List.length_replicate, ↓allMem_nil, ↓allMem_cons, ↓List.map_cons, ↓List.map_nil, hX, hY, hX1, hXY, hY1, hfl, ed]))))
            all_goals (refine ⟨k + 1, ⟨by omega, hstep⟩, by omega, ?_⟩; rw [← es]; (refine Sub.of_lists ?_ ?_ ?_ ?_ ?_ <;> simp [Vw.mkS, Vw.lk, Vw.hk, AV.inn, innL, innL_ints, innL_append, innL_rep, -List.map_set, -List.getD_eq_getElem?_getD, IL_set, hX1, hXY]))
      · have hA : comA xs ys = false := comA_false (i := k) (by omega) (by rw [hX, hY]; exact hp)
        simp only [comP, Bool.or_eq_false_iff, decide_eq_false_iff_not] at hp
        obtain ⟨⟨p1, p2⟩, p3⟩ := hp
        rw [hA]
        (repeat' (first
      | (first | refine awp_seq ?_ | refine awp_block ?_)
      | ((first | refine awp_reg ?_ | refine awp_condB ?_ | refine awp_skip ?_ | refine awp_exit ?_); simp (maxSteps := 400000) (disch := omega) only [push_cast, seval, Bool.false_eq_true, List.length_replicate, l6r0, l6r1, l6r2, l6r3, l6r4, l6r5, l6r6, l6r7, l6r8, l6r9, l6r10, l6r11, l6r12, l6r13, l6r14, l6r15, l6r16, l6r17, hX, hY, p1, p2, p3])
      | ((first | refine condB_split (fun h => ?_) (fun h => ?_) | refine gIf_split (fun h => ?_) (fun h => ?_) | refine qIf_split (fun h => ?_) (fun h => ?_)) <;> (try simp only [h]) <;> (try simp only [decide_eq_true_eq, decide_eq_false_iff_not, Bool.not_eq_true', Bool.not_eq_false', Bool.and_eq_true, Bool.or_eq_true, Bool.and_eq_false_iff, Bool.or_eq_false_iff, Int.not_le, Int.not_lt, bne_iff_ne, ne_eq, beq_iff_eq, Bool.not_eq_true, Bool.not_eq_false] at h) <;> (try simp only [h]) <;> (first | (exfalso; omega) | (focus (exfalso; simp_all; done)) | (simp (maxSteps := 400000) (disch := omega) only [push_cast, seval, Bool.false_eq_true, List.length_replicate, hX, hY, p1, p2, p3]) | skip))
      | ((first | refine callD_of false ?_ | refine qcallD_of false ?_); simp (maxSteps := 400000) (disch := omega) only [push_cast, seval, Bool.false_eq_true, List.length_replicate, hX, hY, p1, p2, p3])
      | ((first | ((first | refine call0D (BCall.ofP (svalidShape_ok _ _ ?_ ?_)) ?_ | refine qcall0D (BCall.ofP (svalidShape_ok _ _ ?_ ?_)) ⟨_, _, rfl, rfl⟩ ?_); (iterate 2 (focus (first | assumption | rfl | omega | (simp; done) | (simp; omega) | (simp_all; done) | (simp_all; omega)))); rintro _ _ ⟨rfl, rfl⟩) | ((first | refine call0D (BCall.ofP (extentAt_ok _ _ _ ?_ ?_)) ?_ | refine qcall0D (BCall.ofP (extentAt_ok _ _ _ ?_ ?_)) ⟨_, _, rfl, rfl⟩ ?_); (iterate 2 (focus (first | assumption | rfl | omega | (simp; done) | (simp; omega) | (simp_all; done) | (simp_all; omega)))); rintro _ _ ⟨rfl, rfl⟩)); (try simp (maxSteps := 400000) (disch := omega) only [push_cast, seval, Bool.false_eq_true, List.length_replicate, hX, hY, p1, p2, p3]))
      | (refine awp_ret ⟨.inr rfl, [16000], [(16000, 1)], _, by decide, rfl, ?_⟩; (try simp (maxSteps := 400000) (disch := omega) only [push_cast, seval, Bool.false_eq_true, List.length_replicate, ↓allMem_nil, ↓allMem_cons, ↓List.map_cons, ↓List.map_nil, hX, hY, p1, p2, p3]))))
        all_goals simp [TC, MVL]
    · have hke : k = N := by omega
      have hA : comA xs ys = true := comA_true fun i hi => hj i (by omega)
      have eS : filledD (comG xs ys N) N k = comS xs ys := by rw [hke, filledD_all, comS, hNN]
      rw [hA, eS]
      rw [eS] at hfl
      have hS8 : (comS xs ys).length ≤ 1000 := by omega
      cases hv3 : vSh (comS xs ys) with
      | false =>
        (repeat' (first
      | (first | refine awp_seq ?_ | refine awp_block ?_)
      | ((first | refine awp_reg ?_ | refine awp_condB ?_ | refine awp_skip ?_ | refine awp_exit ?_); simp (maxSteps := 400000) (disch := omega) only [push_cast, seval, Bool.false_eq_true, List.length_replicate, l6r0, l6r1, l6r2, l6r3, l6r4, l6r5, l6r6, l6r7, l6r8, l6r9, l6r10, l6r11, l6r12, l6r13, l6r14, l6r15, l6r16, l6r17, hv3, hfl])
      | ((first | refine condB_split (fun h => ?_) (fun h => ?_) | refine gIf_split (fun h => ?_) (fun h => ?_) | refine qIf_split (fun h => ?_) (fun h => ?_)) <;> (try simp only [h]) <;> (try simp only [decide_eq_true_eq, decide_eq_false_iff_not, Bool.not_eq_true', Bool.not_eq_false', Bool.and_eq_true, Bool.or_eq_true, Bool.and_eq_false_iff, Bool.or_eq_false_iff, Int.not_le, Int.not_lt, bne_iff_ne, ne_eq, beq_iff_eq, Bool.not_eq_true, Bool.not_eq_false] at h) <;> (try simp only [h]) <;> (first | (exfalso; omega) | (focus (exfalso; simp_all; done)) | (simp (maxSteps := 400000) (disch := omega) only [push_cast, seval, Bool.false_eq_true, List.length_replicate, hv3, hfl]) | skip))
      | ((first | refine callD_of false ?_ | refine qcallD_of false ?_); simp (maxSteps := 400000) (disch := omega) only [push_cast, seval, Bool.false_eq_true, List.length_replicate, hv3, hfl])
      | ((first | ((first | refine call0D (BCall.ofP (svalidShape_ok _ _ ?_ ?_)) ?_ | refine qcall0D (BCall.ofP (svalidShape_ok _ _ ?_ ?_)) ⟨_, _, rfl, rfl⟩ ?_); (iterate 2 (focus (first | assumption | rfl | omega | (simp; done) | (simp; omega) | (simp_all; done) | (simp_all; omega)))); rintro _ _ ⟨rfl, rfl⟩) | ((first | refine call0D (BCall.ofP (extentAt_ok _ _ _ ?_ ?_)) ?_ | refine qcall0D (BCall.ofP (extentAt_ok _ _ _ ?_ ?_)) ⟨_, _, rfl, rfl⟩ ?_); (iterate 2 (focus (first | assumption | rfl | omega | (simp; done) | (simp; omega) | (simp_all; done) | (simp_all; omega)))); rintro _ _ ⟨rfl, rfl⟩)); (try simp (maxSteps := 400000) (disch := omega) only [push_cast, seval, Bool.false_eq_true, List.length_replicate, hv3, hfl]))
      | (refine awp_ret ⟨.inr rfl, [16000], [(16000, 1)], _, by decide, rfl, ?_⟩; (try simp (maxSteps := 400000) (disch := omega) only [push_cast, seval, Bool.false_eq_true, List.length_replicate, ↓allMem_nil, ↓allMem_cons, ↓List.map_cons, ↓List.map_nil, hv3, hfl]))))
        all_goals simp [TC, MVL]
      | true =>
        (repeat' (first
      | (first | refine awp_seq ?_ | refine awp_block ?_)
      | ((first | refine awp_reg ?_ | refine awp_condB ?_ | refine awp_skip ?_ | refine awp_exit ?_); simp (maxSteps := 400000) (disch := omega) only [push_cast, seval, Bool.false_eq_true, List.length_replicate, l6r0, l6r1, l6r2, l6r3, l6r4, l6r5, l6r6, l6r7, l6r8, l6r9, l6r10, l6r11, l6r12, l6r13, l6r14, l6r15, l6r16, l6r17, hv3, hfl])
      | ((first | refine condB_split (fun h => ?_) (fun h => ?_) | refine gIf_split (fun h => ?_) (fun h => ?_) | refine qIf_split (fun h => ?_) (fun h => ?_)) <;> (try simp only [h]) <;> (try simp only [decide_eq_true_eq, decide_eq_false_iff_not, Bool.not_eq_true', Bool.not_eq_false', Bool.and_eq_true, Bool.or_eq_true, Bool.and_eq_false_iff, Bool.or_eq_false_iff, Int.not_le, Int.not_lt, bne_iff_ne, ne_eq, beq_iff_eq, Bool.not_eq_true, Bool.not_eq_false] at h) <;> (try simp only [h]) <;> (first | (exfalso; omega) | (focus (exfalso; simp_all; done)) | (simp (maxSteps := 400000) (disch := omega) only [push_cast, seval, Bool.false_eq_true, List.length_replicate, hv3, hfl]) | skip))
      | ((first | refine callD_of false ?_ | refine qcallD_of false ?_); simp (maxSteps := 400000) (disch := omega) only [push_cast, seval, Bool.false_eq_true, List.length_replicate, hv3, hfl])
      | ((first | ((first | refine call0D (BCall.ofP (svalidShape_ok _ _ ?_ ?_)) ?_ | refine qcall0D (BCall.ofP (svalidShape_ok _ _ ?_ ?_)) ⟨_, _, rfl, rfl⟩ ?_); (iterate 2 (focus (first | assumption | rfl | omega | (simp; done) | (simp; omega) | (simp_all; done) | (simp_all; omega)))); rintro _ _ ⟨rfl, rfl⟩) | ((first | refine call0D (BCall.ofP (extentAt_ok _ _ _ ?_ ?_)) ?_ | refine qcall0D (BCall.ofP (extentAt_ok _ _ _ ?_ ?_)) ⟨_, _, rfl, rfl⟩ ?_); (iterate 2 (focus (first | assumption | rfl | omega | (simp; done) | (simp; omega) | (simp_all; done) | (simp_all; omega)))); rintro _ _ ⟨rfl, rfl⟩)); (try simp (maxSteps := 400000) (disch := omega) only [push_cast, seval, Bool.false_eq_true, List.length_replicate, hv3, hfl]))
      | (refine awp_ret ⟨.inr rfl, [400], [], _, by decide, rfl, ?_⟩; (try simp (maxSteps := 400000) (disch := omega) only [push_cast, seval, Bool.false_eq_true, List.length_replicate, ↓allMem_nil, ↓allMem_cons, ↓List.map_cons, ↓List.map_nil, hv3, hfl]))))
        all_goals simp [TC, MVL, hfl]

end Go.Proofs.Ytjpgiapplhlpoaa
