import Derived.Test.YtlnlppeecmnmbaaCKg
import Derived.Test.YtlnlppeecmnmbaaCVwR

set_option linter.unusedSimpArgs false
set_option linter.unusedVariables false
set_option linter.unnecessarySimpa false
set_option maxRecDepth 4000
namespace Go.Proofs.Ytlnlppeecmnmbaa
open Vw Go

/-- The range in normal form of k numbers from a, c apart. -/
def pS (a k : Int) : Int := if k < 1 then 0 else a
def pE (a c k : Int) : Int := if k < 1 then 0 else if k = 1 then a + 1 else if c < 0 then a + (k - 1) * c - 1 else a + (k - 1) * c + 1
def pC (c k : Int) : Int := if k ≤ 1 then 1 else c
abbrev PR (a c k : Int) : AV := rng (pS a k) (pE a c k) (pC c k)


theorem progression_ok (a c k : Int) (h1 : -100000 ≤ a ∧ a ≤ 100000 ∧ -100000 ≤ c ∧ c ≤ 100000 ∧ -1000 ≤ k ∧ k ≤ 1000) (h2 : 1 ≤ k → -1000000 ≤ (k - 1) * c ∧ (k - 1) * c ≤ 1000000) : PCall Try.prog 58 [.int .i64 a, .int .i64 c, .int .i64 k] (fun r => r = PR a c k) := by
  obtain ⟨h3, h4, h5, h6, h7, h8⟩ := h1
  refine pcall_of l58_eq rfl ?_
  by_cases g1 : k < 1
  · (repeat' (first
      | (first | refine awp_seq ?_ | refine awp_block ?_)
      | ((first | refine awp_reg ?_ | refine awp_condB ?_ | refine awp_skip ?_ | refine awp_exit ?_); simp (maxSteps := 400000) (disch := omega) only [push_cast, List.reduceReplicate, List.length_replicate, ↓reduceIte, Nat.reduceEqDiff, Nat.reduceMul, Nat.reduceAdd, Nat.reduceSub, Nat.reduceLeDiff, Nat.reduceBEq, Nat.reduceDiv, Nat.reduceMod, Int.reduceToNat, l58r0, l58r1, l58r2, l58r3, l58r4, l58r5, l58r6, l58r7, l58r8, g1])
      | ((first | refine condB_split (fun h => ?_) (fun h => ?_) | refine gIf_split (fun h => ?_) (fun h => ?_) | refine qIf_split (fun h => ?_) (fun h => ?_)) <;> (try simp only [h]) <;> (try simp only [decide_eq_true_eq, decide_eq_false_iff_not, Bool.not_eq_true', Bool.not_eq_false', Bool.and_eq_true, Bool.or_eq_true, Bool.and_eq_false_iff, Bool.or_eq_false_iff, Int.not_le, Int.not_lt, bne_iff_ne, ne_eq, beq_iff_eq, Bool.not_eq_true, Bool.not_eq_false] at h) <;> (try simp only [h]) <;> (first | (exfalso; omega) | (focus (exfalso; simp_all; done)) | (simp (maxSteps := 400000) (disch := omega) only [push_cast, List.reduceReplicate, List.length_replicate, ↓reduceIte, Nat.reduceEqDiff, Nat.reduceMul, Nat.reduceAdd, Nat.reduceSub, Nat.reduceLeDiff, Nat.reduceBEq, Nat.reduceDiv, Nat.reduceMod, Int.reduceToNat, g1]) | skip))
      | (refine awp_ret ⟨.inr rfl, _, rfl, ?_⟩; (try simp (maxSteps := 400000) (disch := omega) only [push_cast, List.reduceReplicate, List.length_replicate, ↓reduceIte, Nat.reduceEqDiff, Nat.reduceMul, Nat.reduceAdd, Nat.reduceSub, Nat.reduceLeDiff, Nat.reduceBEq, Nat.reduceDiv, Nat.reduceMod, Int.reduceToNat, g1]))))
    all_goals (have : k ≤ 1 := by omega); simp [pS, pE, pC, g1, this]
  · have h2 := h2 (by omega)
    by_cases g2 : k = 1
    · subst g2
      (repeat' (first
      | (first | refine awp_seq ?_ | refine awp_block ?_)
      | ((first | refine awp_reg ?_ | refine awp_condB ?_ | refine awp_skip ?_ | refine awp_exit ?_); simp (maxSteps := 400000) (disch := omega) only [push_cast, List.reduceReplicate, List.length_replicate, ↓reduceIte, Nat.reduceEqDiff, Nat.reduceMul, Nat.reduceAdd, Nat.reduceSub, Nat.reduceLeDiff, Nat.reduceBEq, Nat.reduceDiv, Nat.reduceMod, Int.reduceToNat, l58r0, l58r1, l58r2, l58r3, l58r4, l58r5, l58r6, l58r7, l58r8])
      | ((first | refine condB_split (fun h => ?_) (fun h => ?_) | refine gIf_split (fun h => ?_) (fun h => ?_) | refine qIf_split (fun h => ?_) (fun h => ?_)) <;> (try simp only [h]) <;> (try simp only [decide_eq_true_eq, decide_eq_false_iff_not, Bool.not_eq_true', Bool.not_eq_false', Bool.and_eq_true, Bool.or_eq_true, Bool.and_eq_false_iff, Bool.or_eq_false_iff, Int.not_le, Int.not_lt, bne_iff_ne, ne_eq, beq_iff_eq, Bool.not_eq_true, Bool.not_eq_false] at h) <;> (try simp only [h]) <;> (first | (exfalso; omega) | (focus (exfalso; simp_all; done)) | (simp (maxSteps := 400000) (disch := omega) only [push_cast, List.reduceReplicate, List.length_replicate, ↓reduceIte, Nat.reduceEqDiff, Nat.reduceMul, Nat.reduceAdd, Nat.reduceSub, Nat.reduceLeDiff, Nat.reduceBEq, Nat.reduceDiv, Nat.reduceMod, Int.reduceToNat]) | skip))
      | (refine awp_ret ⟨.inr rfl, _, rfl, ?_⟩; (try simp (maxSteps := 400000) (disch := omega) only [push_cast, List.reduceReplicate, List.length_replicate, ↓reduceIte, Nat.reduceEqDiff, Nat.reduceMul, Nat.reduceAdd, Nat.reduceSub, Nat.reduceLeDiff, Nat.reduceBEq, Nat.reduceDiv, Nat.reduceMod, Int.reduceToNat]))))
      all_goals simp [pS, pE, pC]
    · have g3 : ¬ k ≤ 1 := by omega
      by_cases g4 : c < 0
      · (repeat' (first
      | (first | refine awp_seq ?_ | refine awp_block ?_)
      | ((first | refine awp_reg ?_ | refine awp_condB ?_ | refine awp_skip ?_ | refine awp_exit ?_); simp (maxSteps := 400000) (disch := omega) only [push_cast, List.reduceReplicate, List.length_replicate, ↓reduceIte, Nat.reduceEqDiff, Nat.reduceMul, Nat.reduceAdd, Nat.reduceSub, Nat.reduceLeDiff, Nat.reduceBEq, Nat.reduceDiv, Nat.reduceMod, Int.reduceToNat, l58r0, l58r1, l58r2, l58r3, l58r4, l58r5, l58r6, l58r7, l58r8, g1, g2, g4])
      | ((first | refine condB_split (fun h => ?_) (fun h => ?_) | refine gIf_split (fun h => ?_) (fun h => ?_) | refine qIf_split (fun h => ?_) (fun h => ?_)) <;> (try simp only [h]) <;> (try simp only [decide_eq_true_eq, decide_eq_false_iff_not, Bool.not_eq_true', Bool.not_eq_false', Bool.and_eq_true, Bool.or_eq_true, Bool.and_eq_false_iff, Bool.or_eq_false_iff, Int.not_le, Int.not_lt, bne_iff_ne, ne_eq, beq_iff_eq, Bool.not_eq_true, Bool.not_eq_false] at h) <;> (try simp only [h]) <;> (first | (exfalso; omega) | (focus (exfalso; simp_all; done)) | (simp (maxSteps := 400000) (disch := omega) only [push_cast, List.reduceReplicate, List.length_replicate, ↓reduceIte, Nat.reduceEqDiff, Nat.reduceMul, Nat.reduceAdd, Nat.reduceSub, Nat.reduceLeDiff, Nat.reduceBEq, Nat.reduceDiv, Nat.reduceMod, Int.reduceToNat, g1, g2, g4]) | skip))
      | (refine awp_ret ⟨.inr rfl, _, rfl, ?_⟩; (try simp (maxSteps := 400000) (disch := omega) only [push_cast, List.reduceReplicate, List.length_replicate, ↓reduceIte, Nat.reduceEqDiff, Nat.reduceMul, Nat.reduceAdd, Nat.reduceSub, Nat.reduceLeDiff, Nat.reduceBEq, Nat.reduceDiv, Nat.reduceMod, Int.reduceToNat, g1, g2, g4]))))
        all_goals simp [pS, pE, pC, g1, g2, g3, g4]
      · (repeat' (first
      | (first | refine awp_seq ?_ | refine awp_block ?_)
      | ((first | refine awp_reg ?_ | refine awp_condB ?_ | refine awp_skip ?_ | refine awp_exit ?_); simp (maxSteps := 400000) (disch := omega) only [push_cast, List.reduceReplicate, List.length_replicate, ↓reduceIte, Nat.reduceEqDiff, Nat.reduceMul, Nat.reduceAdd, Nat.reduceSub, Nat.reduceLeDiff, Nat.reduceBEq, Nat.reduceDiv, Nat.reduceMod, Int.reduceToNat, l58r0, l58r1, l58r2, l58r3, l58r4, l58r5, l58r6, l58r7, l58r8, g1, g2, g4])
      | ((first | refine condB_split (fun h => ?_) (fun h => ?_) | refine gIf_split (fun h => ?_) (fun h => ?_) | refine qIf_split (fun h => ?_) (fun h => ?_)) <;> (try simp only [h]) <;> (try simp only [decide_eq_true_eq, decide_eq_false_iff_not, Bool.not_eq_true', Bool.not_eq_false', Bool.and_eq_true, Bool.or_eq_true, Bool.and_eq_false_iff, Bool.or_eq_false_iff, Int.not_le, Int.not_lt, bne_iff_ne, ne_eq, beq_iff_eq, Bool.not_eq_true, Bool.not_eq_false] at h) <;> (try simp only [h]) <;> (first | (exfalso; omega) | (focus (exfalso; simp_all; done)) | (simp (maxSteps := 400000) (disch := omega) only [push_cast, List.reduceReplicate, List.length_replicate, ↓reduceIte, Nat.reduceEqDiff, Nat.reduceMul, Nat.reduceAdd, Nat.reduceSub, Nat.reduceLeDiff, Nat.reduceBEq, Nat.reduceDiv, Nat.reduceMod, Int.reduceToNat, g1, g2, g4]) | skip))
      | (refine awp_ret ⟨.inr rfl, _, rfl, ?_⟩; (try simp (maxSteps := 400000) (disch := omega) only [push_cast, List.reduceReplicate, List.length_replicate, ↓reduceIte, Nat.reduceEqDiff, Nat.reduceMul, Nat.reduceAdd, Nat.reduceSub, Nat.reduceLeDiff, Nat.reduceBEq, Nat.reduceDiv, Nat.reduceMod, Int.reduceToNat, g1, g2, g4]))))
        all_goals simp [pS, pE, pC, g1, g2, g3, g4]


theorem snormal_ok (a c : Int) (n : Nat) (hn : n ≤ 1000) (hb : ∀ i : Nat, i < n → -1000 ≤ a + (i : Int) * c ∧ a + (i : Int) * c ≤ 1000) : PCall Try.prog 44 [.rows false (IL (nums a c n)) n] (fun r => r = PR a c n) := by
  refine pcall_of l44_eq rfl ?_
  by_cases hz : n = 0
  · subst hz
    (repeat' (first
      | (first | refine awp_seq ?_ | refine awp_block ?_)
      | ((first | refine awp_reg ?_ | refine awp_draw (mid := l44r5a) (post := l44r5b) mixed (by decide) ?_ | refine awp_draw (mid := l44r6a) (post := l44r6b) mixed (by decide) ?_ | refine awp_condB ?_ | refine awp_skip ?_ | refine awp_exit ?_); simp (maxSteps := 400000) (disch := omega) only [push_cast, List.reduceReplicate, List.length_replicate, ↓reduceIte, Nat.reduceEqDiff, Nat.reduceMul, Nat.reduceAdd, Nat.reduceSub, Nat.reduceLeDiff, Nat.reduceBEq, Nat.reduceDiv, Nat.reduceMod, Int.reduceToNat, l44r0, l44r1, l44r2, l44r3, l44r4, l44r5a, l44r5b, l44r5, l44r6a, l44r6b, l44r6, l44r7, l44r8, l44r9, l44r10, nums_zero])
      | ((first | refine condB_split (fun h => ?_) (fun h => ?_) | refine gIf_split (fun h => ?_) (fun h => ?_) | refine qIf_split (fun h => ?_) (fun h => ?_)) <;> (try simp only [h]) <;> (try simp only [decide_eq_true_eq, decide_eq_false_iff_not, Bool.not_eq_true', Bool.not_eq_false', Bool.and_eq_true, Bool.or_eq_true, Bool.and_eq_false_iff, Bool.or_eq_false_iff, Int.not_le, Int.not_lt, bne_iff_ne, ne_eq, beq_iff_eq, Bool.not_eq_true, Bool.not_eq_false] at h) <;> (try simp only [h]) <;> (first | (exfalso; omega) | (focus (exfalso; simp_all; done)) | (simp (maxSteps := 400000) (disch := omega) only [push_cast, List.reduceReplicate, List.length_replicate, ↓reduceIte, Nat.reduceEqDiff, Nat.reduceMul, Nat.reduceAdd, Nat.reduceSub, Nat.reduceLeDiff, Nat.reduceBEq, Nat.reduceDiv, Nat.reduceMod, Int.reduceToNat, nums_zero]) | skip))
      | (refine awp_ret ⟨.inr rfl, _, rfl, ?_⟩; (try simp (maxSteps := 400000) (disch := omega) only [push_cast, List.reduceReplicate, List.length_replicate, ↓reduceIte, Nat.reduceEqDiff, Nat.reduceMul, Nat.reduceAdd, Nat.reduceSub, Nat.reduceLeDiff, Nat.reduceBEq, Nat.reduceDiv, Nat.reduceMod, Int.reduceToNat, nums_zero]))))
    all_goals simp [pS, pE, pC]
  have b0 := hb 0 (by omega)
  simp only [Int.natCast_zero, Int.zero_mul, Int.add_zero] at b0
  have g0 : (nums a c n).getD 0 0 = a := by rw [nums_getD a c n 0 (by omega)]; simp
  by_cases ho : n = 1
  · subst ho
    (repeat' (first
      | (first | refine awp_seq ?_ | refine awp_block ?_)
      | ((first | refine awp_reg ?_ | refine awp_draw (mid := l44r5a) (post := l44r5b) mixed (by decide) ?_ | refine awp_draw (mid := l44r6a) (post := l44r6b) mixed (by decide) ?_ | refine awp_condB ?_ | refine awp_skip ?_ | refine awp_exit ?_); simp (maxSteps := 400000) (disch := omega) only [push_cast, List.reduceReplicate, List.length_replicate, ↓reduceIte, Nat.reduceEqDiff, Nat.reduceMul, Nat.reduceAdd, Nat.reduceSub, Nat.reduceLeDiff, Nat.reduceBEq, Nat.reduceDiv, Nat.reduceMod, Int.reduceToNat, l44r0, l44r1, l44r2, l44r3, l44r4, l44r5a, l44r5b, l44r5, l44r6a, l44r6b, l44r6, l44r7, l44r8, l44r9, l44r10, g0])
      | ((first | refine condB_split (fun h => ?_) (fun h => ?_) | refine gIf_split (fun h => ?_) (fun h => ?_) | refine qIf_split (fun h => ?_) (fun h => ?_)) <;> (try simp only [h]) <;> (try simp only [decide_eq_true_eq, decide_eq_false_iff_not, Bool.not_eq_true', Bool.not_eq_false', Bool.and_eq_true, Bool.or_eq_true, Bool.and_eq_false_iff, Bool.or_eq_false_iff, Int.not_le, Int.not_lt, bne_iff_ne, ne_eq, beq_iff_eq, Bool.not_eq_true, Bool.not_eq_false] at h) <;> (try simp only [h]) <;> (first | (exfalso; omega) | (focus (exfalso; simp_all; done)) | (simp (maxSteps := 400000) (disch := omega) only [push_cast, List.reduceReplicate, List.length_replicate, ↓reduceIte, Nat.reduceEqDiff, Nat.reduceMul, Nat.reduceAdd, Nat.reduceSub, Nat.reduceLeDiff, Nat.reduceBEq, Nat.reduceDiv, Nat.reduceMod, Int.reduceToNat, g0]) | skip))
      | (refine awp_ret ⟨.inr rfl, _, rfl, ?_⟩; (try simp (maxSteps := 400000) (disch := omega) only [push_cast, List.reduceReplicate, List.length_replicate, ↓reduceIte, Nat.reduceEqDiff, Nat.reduceMul, Nat.reduceAdd, Nat.reduceSub, Nat.reduceLeDiff, Nat.reduceBEq, Nat.reduceDiv, Nat.reduceMod, Int.reduceToNat, g0]))))
    all_goals simp [pS, pE, pC]
  have b1 := hb 1 (by omega)
  simp only [Int.natCast_one, Int.one_mul] at b1
  have bl := hb (n - 1) (by omega)
  rw [show (((n - 1 : Nat) : Nat) : Int) = (n : Int) - 1 by omega] at bl
  have ho' : ¬ (n : Int) = 1 := by omega
  have hz' : ¬ (n : Int) = 0 := by omega
  have g1 : (nums a c n).getD 1 0 = a + c := by rw [nums_getD a c n 1 (by omega)]; simp
  have gl : (nums a c n).getD ((n : Int) - 1).toNat 0 = a + ((n : Int) - 1) * c := by
    rw [nums_getD a c n _ (by omega)]
    rw [show ((((n : Int) - 1).toNat : Nat) : Int) = (n : Int) - 1 by omega]
  have hlen : 0 < n ∧ 1 < n := by omega
  have e : a + c - a = c := by omega
  have p1 : ¬ (n : Int) < 1 := by omega
  have p2 : ¬ (n : Int) ≤ 1 := by omega
  by_cases hc : c < 0
  · (repeat' (first
      | (first | refine awp_seq ?_ | refine awp_block ?_)
      | ((first | refine awp_reg ?_ | refine awp_draw (mid := l44r5a) (post := l44r5b) mixed (by decide) ?_ | refine awp_draw (mid := l44r6a) (post := l44r6b) mixed (by decide) ?_ | refine awp_condB ?_ | refine awp_skip ?_ | refine awp_exit ?_); simp (maxSteps := 400000) (disch := omega) only [push_cast, List.reduceReplicate, List.length_replicate, ↓reduceIte, Nat.reduceEqDiff, Nat.reduceMul, Nat.reduceAdd, Nat.reduceSub, Nat.reduceLeDiff, Nat.reduceBEq, Nat.reduceDiv, Nat.reduceMod, Int.reduceToNat, l44r0, l44r1, l44r2, l44r3, l44r4, l44r5a, l44r5b, l44r5, l44r6a, l44r6b, l44r6, l44r7, l44r8, l44r9, l44r10, g0, g1, gl, hlen, e, hz', ho', hc])
      | ((first | refine condB_split (fun h => ?_) (fun h => ?_) | refine gIf_split (fun h => ?_) (fun h => ?_) | refine qIf_split (fun h => ?_) (fun h => ?_)) <;> (try simp only [h]) <;> (try simp only [decide_eq_true_eq, decide_eq_false_iff_not, Bool.not_eq_true', Bool.not_eq_false', Bool.and_eq_true, Bool.or_eq_true, Bool.and_eq_false_iff, Bool.or_eq_false_iff, Int.not_le, Int.not_lt, bne_iff_ne, ne_eq, beq_iff_eq, Bool.not_eq_true, Bool.not_eq_false] at h) <;> (try simp only [h]) <;> (first | (exfalso; omega) | (focus (exfalso; simp_all; done)) | (simp (maxSteps := 400000) (disch := omega) only [push_cast, List.reduceReplicate, List.length_replicate, ↓reduceIte, Nat.reduceEqDiff, Nat.reduceMul, Nat.reduceAdd, Nat.reduceSub, Nat.reduceLeDiff, Nat.reduceBEq, Nat.reduceDiv, Nat.reduceMod, Int.reduceToNat, g0, g1, gl, hlen, e, hz', ho', hc]) | skip))
      | (refine awp_ret ⟨.inr rfl, _, rfl, ?_⟩; (try simp (maxSteps := 400000) (disch := omega) only [push_cast, List.reduceReplicate, List.length_replicate, ↓reduceIte, Nat.reduceEqDiff, Nat.reduceMul, Nat.reduceAdd, Nat.reduceSub, Nat.reduceLeDiff, Nat.reduceBEq, Nat.reduceDiv, Nat.reduceMod, Int.reduceToNat, g0, g1, gl, hlen, e, hz', ho', hc]))))
    all_goals simp [pS, pE, pC, p1, p2, ho', hc]
  · (repeat' (first
      | (first | refine awp_seq ?_ | refine awp_block ?_)
      | ((first | refine awp_reg ?_ | refine awp_draw (mid := l44r5a) (post := l44r5b) mixed (by decide) ?_ | refine awp_draw (mid := l44r6a) (post := l44r6b) mixed (by decide) ?_ | refine awp_condB ?_ | refine awp_skip ?_ | refine awp_exit ?_); simp (maxSteps := 400000) (disch := omega) only [push_cast, List.reduceReplicate, List.length_replicate, ↓reduceIte, Nat.reduceEqDiff, Nat.reduceMul, Nat.reduceAdd, Nat.reduceSub, Nat.reduceLeDiff, Nat.reduceBEq, Nat.reduceDiv, Nat.reduceMod, Int.reduceToNat, l44r0, l44r1, l44r2, l44r3, l44r4, l44r5a, l44r5b, l44r5, l44r6a, l44r6b, l44r6, l44r7, l44r8, l44r9, l44r10, g0, g1, gl, hlen, e, hz', ho', hc])
      | ((first | refine condB_split (fun h => ?_) (fun h => ?_) | refine gIf_split (fun h => ?_) (fun h => ?_) | refine qIf_split (fun h => ?_) (fun h => ?_)) <;> (try simp only [h]) <;> (try simp only [decide_eq_true_eq, decide_eq_false_iff_not, Bool.not_eq_true', Bool.not_eq_false', Bool.and_eq_true, Bool.or_eq_true, Bool.and_eq_false_iff, Bool.or_eq_false_iff, Int.not_le, Int.not_lt, bne_iff_ne, ne_eq, beq_iff_eq, Bool.not_eq_true, Bool.not_eq_false] at h) <;> (try simp only [h]) <;> (first | (exfalso; omega) | (focus (exfalso; simp_all; done)) | (simp (maxSteps := 400000) (disch := omega) only [push_cast, List.reduceReplicate, List.length_replicate, ↓reduceIte, Nat.reduceEqDiff, Nat.reduceMul, Nat.reduceAdd, Nat.reduceSub, Nat.reduceLeDiff, Nat.reduceBEq, Nat.reduceDiv, Nat.reduceMod, Int.reduceToNat, g0, g1, gl, hlen, e, hz', ho', hc]) | skip))
      | (refine awp_ret ⟨.inr rfl, _, rfl, ?_⟩; (try simp (maxSteps := 400000) (disch := omega) only [push_cast, List.reduceReplicate, List.length_replicate, ↓reduceIte, Nat.reduceEqDiff, Nat.reduceMul, Nat.reduceAdd, Nat.reduceSub, Nat.reduceLeDiff, Nat.reduceBEq, Nat.reduceDiv, Nat.reduceMod, Int.reduceToNat, g0, g1, gl, hlen, e, hz', ho', hc]))))
    all_goals simp [pS, pE, pC, p1, p2, ho', hc]


/-- The indices that a slice takes of n things are indices. -/
theorem idx_in {f t b n : Int} {hf ht : Bool} (hn : 0 ≤ n ∧ n ≤ 60) (hs : vS f t b hf ht = true) {i : Nat} (h : i < cntN (sFrom f n b hf) (sTo t n b ht) b) : 0 ≤ sFrom f n b hf + (i : Int) * b ∧ sFrom f n b hf + (i : Int) * b < n := by
  have h1 := (cntN_lt (over_valid hn hs) i).1 h
  rcases h1 with ⟨hb, h2⟩ | ⟨hb, h2⟩
  · have p : 0 ≤ (i : Int) * b := Int.mul_nonneg (by omega) (by omega)
    have q1 : 0 ≤ sFrom f n b hf := by unfold sFrom endI; split <;> (try split) <;> omega
    have q2 : sTo t n b ht ≤ n := by unfold sTo endI; split <;> (try split) <;> omega
    omega
  · have p : 0 ≤ (i : Int) * (0 - b) := Int.mul_nonneg (by omega) (by omega)
    rw [Int.zero_sub, Int.mul_neg] at p
    have q1 : sFrom f n b hf ≤ n - 1 := by unfold sFrom endI; split <;> (try split) <;> omega
    have q2 : -1 ≤ sTo t n b ht := by unfold sTo endI; split <;> (try split) <;> omega
    omega
theorem idx_le {f t b n : Int} {hf ht : Bool} (hn : 0 ≤ n ∧ n ≤ 60) (hs : vS f t b hf ht = true) : (cntN (sFrom f n b hf) (sTo t n b ht) b : Int) ≤ n := by
  by_cases hz : cntN (sFrom f n b hf) (sTo t n b ht) b = 0
  · omega
  · have h0 := idx_in hn hs (i := 0) (by omega)
    have hl := idx_in hn hs (i := cntN (sFrom f n b hf) (sTo t n b ht) b - 1) (by omega)
    have hb := (vS_spec.1 hs).2.2.2.1
    generalize cntN (sFrom f n b hf) (sTo t n b ht) b = k at *
    rw [show ((k - 1 : Nat) : Int) = (k : Int) - 1 by omega] at hl
    simp only [Int.natCast_zero, Int.zero_mul, Int.add_zero] at h0
    by_cases hp : 0 < b
    · have : ((k : Int) - 1) * 1 ≤ ((k : Int) - 1) * b := Int.mul_le_mul_of_nonneg_left (by omega) (by omega)
      omega
    · have : ((k : Int) - 1) * 1 ≤ ((k : Int) - 1) * (0 - b) := Int.mul_le_mul_of_nonneg_left (by omega) (by omega)
      rw [Int.zero_sub, Int.mul_neg] at this
      omega
/-- What a slice takes of a progression. -/
theorem nums_of {a c u b : Int} {n k : Nat} (i : Nat) (hi : i < k) (h : 0 ≤ u + (i : Int) * b ∧ u + (i : Int) * b < n) : (nums a c n).getD (u + (i : Int) * b).toNat 0 = (a + u * c) + (i : Int) * (c * b) := by
  rw [nums_getD a c n _ (by omega), show (((u + (i : Int) * b).toNat : Nat) : Int) = u + (i : Int) * b by omega, Int.add_mul, Int.mul_assoc, Int.mul_comm b c]
  omega

end Go.Proofs.Ytlnlppeecmnmbaa
