import Derived.Test.YtlldjeggalkpgaaCKm3
import Derived.Test.YtlldjeggalkpgaaCM1
import Derived.Test.YtlldjeggalkpgaaCW3
set_option linter.unusedSimpArgs false
set_option linter.unusedVariables false
set_option linter.unnecessarySimpa false
set_option maxRecDepth 4000
set_option maxHeartbeats 4000000
namespace Go.Proofs.Ytlldjeggalkpgaa
open VwM Vw Go

theorem nums_at {n k : Nat} (h : k < n) : (nums 0 1 n).getD k 0 = (k : Int) := by rw [nums_getD 0 1 n k h]; omega
theorem nums_rev_at {n k : Nat} (h : k < n) : (nums 0 1 n).reverse.getD k 0 = ((n - 1 - k : Nat) : Int) := by
  have hl := nums_length 0 1 n
  rw [List.getD, List.getElem?_reverse (by omega), hl]
  have := nums_at (n := n) (k := n - 1 - k) (by omega)
  rw [List.getD] at this
  rw [this]
/-- The memory after cells were carried in an order. -/
def stpK (mem to fr : List Int) (g : Nat → Nat) : Nat → List Int
  | 0 => mem
  | k + 1 => (stpK mem to fr g k).set (to.getD (g k) 0).toNat ((stpK mem to fr g k).getD (fr.getD (g k) 0).toNat 0)
theorem stpK_length (mem to fr : List Int) (g : Nat → Nat) : ∀ k, (stpK mem to fr g k).length = mem.length
  | 0 => rfl
  | k + 1 => by simp [stpK, stpK_length mem to fr g k]
theorem stpK_up (mem to fr : List Int) : ∀ k, stpK mem to fr (fun j => j) k = carK mem to fr k
  | 0 => rfl
  | k + 1 => by simp only [stpK, carK, stpK_up mem to fr k]
theorem stpK_down {mem to fr : List Int} (hl : to.length = fr.length) : ∀ k, k ≤ fr.length → stpK mem to fr (fun j => fr.length - 1 - j) k = carK mem to.reverse fr.reverse k
  | 0, _ => rfl
  | k + 1, h => by
    simp only [stpK, carK, stpK_down hl k (by omega)]
    have e1 : to.reverse.getD k 0 = to.getD (fr.length - 1 - k) 0 := by rw [List.getD, List.getD, List.getElem?_reverse (by omega), hl]
    have e2 : fr.reverse.getD k 0 = fr.getD (fr.length - 1 - k) 0 := by rw [List.getD, List.getD, List.getElem?_reverse (by omega)]
    rw [e1, e2]


theorem sstep_ok (mem to fr od : List Int) (g : Nat → Nat) (q n m p : Nat) (hq : mem.length = q) (hn : to.length = n) (hm : fr.length = m) (hp : od.length = p) (hb : (n = m ∧ p = m ∧ q ≤ 60 ∧ m ≤ 60) ∧ (∀ x ∈ to, 0 ≤ x ∧ x ≤ (q : Int) - 1) ∧ (∀ x ∈ fr, 0 ≤ x ∧ x ≤ (q : Int) - 1) ∧ ∀ k, k < m → g k < m ∧ od.getD k 0 = (g k : Int)) : BCall Try.prog 67 [.rows false (IL mem) q, .rows false (IL to) n, .rows false (IL fr) m, .rows false (IL od) p] [] (OI (stpK mem to fr g fr.length)) := by
  subst hq hn hm hp
  obtain ⟨⟨hl, hlo, h60, hm60⟩, ht, hf, ho⟩ := hb
  have hml : mem.length ≤ 1099511627776 := by omega
  refine bcall_of (pins := []) (pin := 0) l67_eq rfl rfl rfl ?_
  (repeat' (first
      | (first | refine awp_seq ?_ | refine awp_block ?_)
      | ((first | refine awp_reg ?_ | refine awp_draw (mid := l67r4a) (post := l67r4b) mixed (by decide) ?_ | refine awp_condB ?_ | refine awp_skip ?_ | refine awp_exit ?_); simp (maxSteps := 400000) (disch := omega) only [push_cast, seval, Bool.false_eq_true, List.length_replicate, l67r0, l67r1, l67r2, l67r3, l67r4a, l67r4b, l67r4, l67r5, l67r6])
      | ((first | refine condB_split (fun h => ?_) (fun h => ?_) | refine gIf_split (fun h => ?_) (fun h => ?_) | refine qIf_split (fun h => ?_) (fun h => ?_)) <;> (try simp only [h]) <;> (try simp only [decide_eq_true_eq, decide_eq_false_iff_not, Bool.not_eq_true', Bool.not_eq_false', Bool.and_eq_true, Bool.or_eq_true, Bool.and_eq_false_iff, Bool.or_eq_false_iff, Int.not_le, Int.not_lt, bne_iff_ne, ne_eq, beq_iff_eq, Bool.not_eq_true, Bool.not_eq_false] at h) <;> (try simp only [h]) <;> (first | (exfalso; omega) | (focus (exfalso; simp_all; done)) | (simp (maxSteps := 400000) (disch := omega) only [push_cast, seval, Bool.false_eq_true, List.length_replicate]) | skip))
      | ((first | refine callD_of false ?_ | refine qcallD_of false ?_); simp (maxSteps := 400000) (disch := omega) only [push_cast, seval, Bool.false_eq_true, List.length_replicate])
      | ((first | ((first | refine call0D (copyInts_ok _ _ ?_ ?_) ?_ | refine qcall0D (copyInts_ok _ _ ?_ ?_) ⟨_, _, rfl, rfl⟩ ?_); (iterate 2 (focus (first | assumption | rfl | omega | (simp; done) | (simp; omega) | (simp_all; done) | (simp_all; omega)))); rintro _ _ ⟨rfl, rfl⟩)); (try simp (maxSteps := 400000) (disch := omega) only [push_cast, seval, Bool.false_eq_true, List.length_replicate]))
      | (refine awp_ret ⟨.inr rfl, [192], [], _, by decide, rfl, ?_⟩; (try simp (maxSteps := 400000) (disch := omega) only [push_cast, seval, Bool.false_eq_true, List.length_replicate, ↓allMem_nil, ↓allMem_cons, ↓List.map_cons, ↓List.map_nil]))))
  refine awp_loop (fun k : Nat => mkS [(1, RI to), (2, RI fr), (3, RI od), (9, .own 192 mem.length 1), (10, .int .i64 k)] [(192, IL (stpK mem to fr g k))])
    (fun k => k ≤ fr.length) (fun k => fr.length - k) 0 (Nat.zero_le _) ?_ ?_
  · have e0 : stpK mem to fr g 0 = mem := rfl
    (refine Sub.of_lists ?_ ?_ ?_ ?_ ?_ <;> simp [Vw.mkS, Vw.lk, Vw.hk, AV.inn, innL, innL_ints, innL_append, innL_rep, -List.map_set, -List.getD_eq_getElem?_getD, e0])
  · intro k hk
    have e1 := stpK_length mem to fr g k
    by_cases hlt : k < fr.length
    · obtain ⟨g1, g2⟩ := ho k hlt
      have h1 := ht _ (getD_mem (xs := to) (j := g k) (by omega))
      have h2 := hf _ (getD_mem g1)
      have h3 : (to.getD (g k) 0).toNat < mem.length := by omega
      have h4 : (fr.getD (g k) 0).toNat < mem.length := by omega
      have h5 : g k < to.length := by omega
      have h6 : k < od.length := by omega
      have e2 : stpK mem to fr g (k + 1) = (stpK mem to fr g k).set (to.getD (g k) 0).toNat ((stpK mem to fr g k).getD (fr.getD (g k) 0).toNat 0) := rfl
      generalize stpK mem to fr g k = z at *
      generalize g k = j at *
      obtain ⟨h11, h12⟩ := h1
      obtain ⟨h21, h22⟩ := h2
      (repeat' (first
      | (first | refine awp_seq ?_ | refine awp_block ?_)
      | ((first | refine awp_reg ?_ | refine awp_draw (mid := l67r4a) (post := l67r4b) mixed (by decide) ?_ | refine awp_condB ?_ | refine awp_skip ?_ | refine awp_exit ?_); simp (maxSteps := 400000) (disch := omega) only [push_cast, seval, Bool.false_eq_true, List.length_replicate, l67r0, l67r1, l67r2, l67r3, l67r4a, l67r4b, l67r4, l67r5, l67r6, e1, g2])
      | ((first | refine condB_split (fun h => ?_) (fun h => ?_) | refine gIf_split (fun h => ?_) (fun h => ?_) | refine qIf_split (fun h => ?_) (fun h => ?_)) <;> (try simp only [h]) <;> (try simp only [decide_eq_true_eq, decide_eq_false_iff_not, Bool.not_eq_true', Bool.not_eq_false', Bool.and_eq_true, Bool.or_eq_true, Bool.and_eq_false_iff, Bool.or_eq_false_iff, Int.not_le, Int.not_lt, bne_iff_ne, ne_eq, beq_iff_eq, Bool.not_eq_true, Bool.not_eq_false] at h) <;> (try simp only [h]) <;> (first | (exfalso; omega) | (focus (exfalso; simp_all; done)) | (simp (maxSteps := 400000) (disch := omega) only [push_cast, seval, Bool.false_eq_true, List.length_replicate, e1, g2]) | skip))
      | ((first | refine callD_of false ?_ | refine qcallD_of false ?_); simp (maxSteps := 400000) (disch := omega) only [push_cast, seval, Bool.false_eq_true, List.length_replicate, e1, g2])
      | ((first | ((first | refine call0D (copyInts_ok _ _ ?_ ?_) ?_ | refine qcall0D (copyInts_ok _ _ ?_ ?_) ⟨_, _, rfl, rfl⟩ ?_); (iterate 2 (focus (first | assumption | rfl | omega | (simp; done) | (simp; omega) | (simp_all; done) | (simp_all; omega)))); rintro _ _ ⟨rfl, rfl⟩)); (try simp (maxSteps := 400000) (disch := omega) only [push_cast, seval, Bool.false_eq_true, List.length_replicate, e1, g2]))
      | (refine awp_ret ⟨.inr rfl, [192], [], _, by decide, rfl, ?_⟩; (try simp (maxSteps := 400000) (disch := omega) only [push_cast, seval, Bool.false_eq_true, List.length_replicate, ↓allMem_nil, ↓allMem_cons, ↓List.map_cons, ↓List.map_nil, e1, g2]))))
      refine ⟨k + 1, by omega, by omega, ?_⟩
      (refine Sub.of_lists ?_ ?_ ?_ ?_ ?_ <;> simp [Vw.mkS, Vw.lk, Vw.hk, AV.inn, innL, innL_ints, innL_append, innL_rep, -List.map_set, -List.getD_eq_getElem?_getD, e2, IL_set])
    · have hke : k = fr.length := by omega
      subst hke
      have hlt2 : ¬ (fr.length : Int) < (od.length : Int) := by omega
      (repeat' (first
      | (first | refine awp_seq ?_ | refine awp_block ?_)
      | ((first | refine awp_reg ?_ | refine awp_draw (mid := l67r4a) (post := l67r4b) mixed (by decide) ?_ | refine awp_condB ?_ | refine awp_skip ?_ | refine awp_exit ?_); simp (maxSteps := 400000) (disch := omega) only [push_cast, seval, Bool.false_eq_true, List.length_replicate, l67r0, l67r1, l67r2, l67r3, l67r4a, l67r4b, l67r4, l67r5, l67r6, e1, hlt2])
      | ((first | refine condB_split (fun h => ?_) (fun h => ?_) | refine gIf_split (fun h => ?_) (fun h => ?_) | refine qIf_split (fun h => ?_) (fun h => ?_)) <;> (try simp only [h]) <;> (try simp only [decide_eq_true_eq, decide_eq_false_iff_not, Bool.not_eq_true', Bool.not_eq_false', Bool.and_eq_true, Bool.or_eq_true, Bool.and_eq_false_iff, Bool.or_eq_false_iff, Int.not_le, Int.not_lt, bne_iff_ne, ne_eq, beq_iff_eq, Bool.not_eq_true, Bool.not_eq_false] at h) <;> (try simp only [h]) <;> (first | (exfalso; omega) | (focus (exfalso; simp_all; done)) | (simp (maxSteps := 400000) (disch := omega) only [push_cast, seval, Bool.false_eq_true, List.length_replicate, e1, hlt2]) | skip))
      | ((first | refine callD_of false ?_ | refine qcallD_of false ?_); simp (maxSteps := 400000) (disch := omega) only [push_cast, seval, Bool.false_eq_true, List.length_replicate, e1, hlt2])
      | ((first | ((first | refine call0D (copyInts_ok _ _ ?_ ?_) ?_ | refine qcall0D (copyInts_ok _ _ ?_ ?_) ⟨_, _, rfl, rfl⟩ ?_); (iterate 2 (focus (first | assumption | rfl | omega | (simp; done) | (simp; omega) | (simp_all; done) | (simp_all; omega)))); rintro _ _ ⟨rfl, rfl⟩)); (try simp (maxSteps := 400000) (disch := omega) only [push_cast, seval, Bool.false_eq_true, List.length_replicate, e1, hlt2]))
      | (refine awp_ret ⟨.inr rfl, [192], [], _, by decide, rfl, ?_⟩; (try simp (maxSteps := 400000) (disch := omega) only [push_cast, seval, Bool.false_eq_true, List.length_replicate, ↓allMem_nil, ↓allMem_cons, ↓List.map_cons, ↓List.map_nil, e1, hlt2]))))
      all_goals simp [OI, e1]
theorem sstepUp_ok (mem to fr : List Int) (q n m p : Nat) (hq : mem.length = q) (hn : to.length = n) (hm : fr.length = m) (hb : (n = m ∧ p = m ∧ q ≤ 60 ∧ m ≤ 60) ∧ (∀ x ∈ to, 0 ≤ x ∧ x ≤ (q : Int) - 1) ∧ (∀ x ∈ fr, 0 ≤ x ∧ x ≤ (q : Int) - 1)) : BCall Try.prog 67 [.rows false (IL mem) q, .rows false (IL to) n, .rows false (IL fr) m, .rows false (IL (nums 0 1 p)) p] [] (OI (carL mem to fr)) := by
  have := sstep_ok mem to fr (nums 0 1 p) (fun j => j) q n m p hq hn hm (nums_length 0 1 p) ⟨hb.1, hb.2.1, hb.2.2, fun k hk => ⟨hk, nums_at (by omega)⟩⟩
  rw [stpK_up] at this
  exact this
theorem sstepDown_ok (mem to fr : List Int) (q n m p : Nat) (hq : mem.length = q) (hn : to.length = n) (hm : fr.length = m) (hb : (n = m ∧ p = m ∧ q ≤ 60 ∧ m ≤ 60) ∧ (∀ x ∈ to, 0 ≤ x ∧ x ≤ (q : Int) - 1) ∧ (∀ x ∈ fr, 0 ≤ x ∧ x ≤ (q : Int) - 1)) : BCall Try.prog 67 [.rows false (IL mem) q, .rows false (IL to) n, .rows false (IL fr) m, .rows false (IL (nums 0 1 p).reverse) p] [] (OI (carL mem to.reverse fr.reverse)) := by
  obtain ⟨⟨h1, h2, h3⟩, h4, h5⟩ := hb
  have := sstep_ok mem to fr (nums 0 1 p).reverse (fun j => m - 1 - j) q n m p hq hn hm (by simp) ⟨⟨h1, h2, h3⟩, h4, h5, fun k hk => ⟨by omega, by rw [nums_rev_at (by omega), h2]⟩⟩
  rw [← hm, stpK_down (by omega) _ (Nat.le_refl _)] at this
  rw [← hm]
  unfold carL
  rw [List.length_reverse]
  exact this

end Go.Proofs.Ytlldjeggalkpgaa
