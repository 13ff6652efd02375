import Derived.Test.YtigcjdblggjmjaaS12
namespace Go.Proofs.Ytigcjdblggjmjaa
open Vw Go
set_option linter.unusedSimpArgs false
set_option linter.unusedVariables false

/-- The sum of the first k numbers. -/
def sumN (a c : Int) : Nat → Int
  | 0 => 0
  | k + 1 => sumN a c k + (a + (k : Int) * c)

theorem sumN_two (a c : Int) : ∀ k : Nat, 2 * sumN a c k = (k : Int) * (a + 0 * c + (a + ((k : Int) - 1) * c))
  | 0 => by simp [sumN]
  | k + 1 => by
    have ih := sumN_two a c k
    simp only [sumN, Int.mul_add, ih, Int.natCast_add, Int.zero_mul, Int.add_mul, Int.sub_mul, Int.mul_sub]
    simp only [Int.cast_ofNat_Int, Int.one_mul]
    have e : (k : Int) * ((k : Int) * c) = (k : Int) * (k : Int) * c := by rw [Int.mul_assoc]
    omega

theorem sumN_bound {a b c : Int} (hv : vR a b c = true) : ∀ k : Nat, k ≤ cntN a b c → -(100 * (k : Int)) ≤ sumN a c k ∧ sumN a c k ≤ 100 * k
  | 0, _ => by simp [sumN]
  | k + 1, h => by
    have ih := sumN_bound hv k (by omega)
    have := num_bound hv (i := k) (by omega)
    simp only [sumN]
    omega

theorem sSumOf_ok (a b c : Int) : PCall Try.prog 30 [rng a b c] (fun r => r = .int .i64 (if vR a b c = true then sumN a c (cntN a b c) else 0)) := by
  refine pcall_of l30_eq rfl ?_
  (first | refine awp_seq (awp_seq (awp_reg ?_)) | refine awp_seq (awp_reg ?_) | refine awp_reg ?_); simp (disch := omega) only [push_cast, List.reduceReplicate, List.length_replicate, ↓reduceIte, Nat.reduceEqDiff, Nat.reduceMul, Nat.reduceAdd, Nat.reduceSub, Nat.reduceLeDiff, Nat.reduceBEq, l30r0]
  (first | refine awp_seq (awp_seq (awp_reg ?_)) | refine awp_seq (awp_reg ?_) | refine awp_reg ?_); simp (disch := omega) only [push_cast, List.reduceReplicate, List.length_replicate, ↓reduceIte, Nat.reduceEqDiff, Nat.reduceMul, Nat.reduceAdd, Nat.reduceSub, Nat.reduceLeDiff, Nat.reduceBEq, l30r1]
  refine pcall_step (svalidRange_ok a b c) (by simp (disch := omega) only [push_cast, List.reduceReplicate, List.length_replicate, ↓reduceIte, Nat.reduceEqDiff, Nat.reduceMul, Nat.reduceAdd, Nat.reduceSub, Nat.reduceLeDiff, Nat.reduceBEq]) ?_
  rintro _ rfl
  simp (disch := omega) only [push_cast, List.reduceReplicate, List.length_replicate, ↓reduceIte, Nat.reduceEqDiff, Nat.reduceMul, Nat.reduceAdd, Nat.reduceSub, Nat.reduceLeDiff, Nat.reduceBEq]
  cases hv : vR a b c with
  | false =>
    simp (disch := omega) only [push_cast, List.reduceReplicate, List.length_replicate, ↓reduceIte, Nat.reduceEqDiff, Nat.reduceMul, Nat.reduceAdd, Nat.reduceSub, Nat.reduceLeDiff, Nat.reduceBEq]
    refine awp_cond true rfl (fun _ => ?_) (fun h => (by cases h))
    (first | refine awp_seq (awp_seq (awp_reg ?_)) | refine awp_seq (awp_reg ?_) | refine awp_reg ?_); simp (disch := omega) only [push_cast, List.reduceReplicate, List.length_replicate, ↓reduceIte, Nat.reduceEqDiff, Nat.reduceMul, Nat.reduceAdd, Nat.reduceSub, Nat.reduceLeDiff, Nat.reduceBEq, l30r2]
    (refine awp_ret ⟨.inr rfl, _, rfl, ?_⟩; try simp (disch := omega) only [push_cast, List.reduceReplicate, List.length_replicate, ↓reduceIte, Nat.reduceEqDiff, Nat.reduceMul, Nat.reduceAdd, Nat.reduceSub, Nat.reduceLeDiff, Nat.reduceBEq])
    simp
  | true =>
    have h2 := cntN_cast hv
    have h3 := cnt_bound hv
    simp (disch := omega) only [push_cast, List.reduceReplicate, List.length_replicate, ↓reduceIte, Nat.reduceEqDiff, Nat.reduceMul, Nat.reduceAdd, Nat.reduceSub, Nat.reduceLeDiff, Nat.reduceBEq]
    refine awp_cond false rfl (fun h => (by cases h)) (fun _ => awp_skip ?_); simp (disch := omega) only [push_cast, List.reduceReplicate, List.length_replicate, ↓reduceIte, Nat.reduceEqDiff, Nat.reduceMul, Nat.reduceAdd, Nat.reduceSub, Nat.reduceLeDiff, Nat.reduceBEq]
    (first | refine awp_seq (awp_seq (awp_reg ?_)) | refine awp_seq (awp_reg ?_) | refine awp_reg ?_); simp (disch := omega) only [push_cast, List.reduceReplicate, List.length_replicate, ↓reduceIte, Nat.reduceEqDiff, Nat.reduceMul, Nat.reduceAdd, Nat.reduceSub, Nat.reduceLeDiff, Nat.reduceBEq, l30r3]
    (first | refine awp_seq (awp_seq (awp_reg ?_)) | refine awp_seq (awp_reg ?_) | refine awp_reg ?_); simp (disch := omega) only [push_cast, List.reduceReplicate, List.length_replicate, ↓reduceIte, Nat.reduceEqDiff, Nat.reduceMul, Nat.reduceAdd, Nat.reduceSub, Nat.reduceLeDiff, Nat.reduceBEq, l30r4]
    refine pcall_step (snumbers_ok a b c hv) (by simp (disch := omega) only [push_cast, List.reduceReplicate, List.length_replicate, ↓reduceIte, Nat.reduceEqDiff, Nat.reduceMul, Nat.reduceAdd, Nat.reduceSub, Nat.reduceLeDiff, Nat.reduceBEq]) ?_
    rintro _ rfl
    simp (disch := omega) only [push_cast, List.reduceReplicate, List.length_replicate, ↓reduceIte, Nat.reduceEqDiff, Nat.reduceMul, Nat.reduceAdd, Nat.reduceSub, Nat.reduceLeDiff, Nat.reduceBEq, ints, nums_length]
    (first | refine awp_seq (awp_seq (awp_reg ?_)) | refine awp_seq (awp_reg ?_) | refine awp_reg ?_); simp (disch := omega) only [push_cast, List.reduceReplicate, List.length_replicate, ↓reduceIte, Nat.reduceEqDiff, Nat.reduceMul, Nat.reduceAdd, Nat.reduceSub, Nat.reduceLeDiff, Nat.reduceBEq, l30r5]
    refine awp_block ?_
    refine awp_loop (fun k : Nat => mkS [(4, .rows true ((nums a c (cntN a b c)).map (AV.int .i64)) (cntN a b c)), (3, .int .i64 (sumN a c k)), (5, .int .i64 k)] [])
      (fun k => k ≤ cntN a b c) (fun k => cntN a b c - k) 0 (Nat.zero_le _) ?_ ?_
    · (refine Sub.of_lists ?_ ?_ ?_ ?_ ?_ <;> simp [Vw.mkS, Vw.lk, Vw.hk, AV.inn, innL, innL_ints, innL_append, sumN])
    · intro k hk
      have hs := sumN_bound hv k hk
      refine awp_seq (awp_seq (awp_reg ?_))
      by_cases hlt : k < cntN a b c
      · have ht : (k : Int) < (cntN a b c : Int) := by omega
        have hs2 := sumN_bound hv (k + 1) (by omega)
        simp only [sumN] at hs2
        have gl : (nums a c (cntN a b c)).getD k 0 = a + (k : Int) * c := nums_getD a c _ _ hlt
        simp (disch := omega) only [push_cast, List.reduceReplicate, List.length_replicate, ↓reduceIte, Nat.reduceEqDiff, Nat.reduceMul, Nat.reduceAdd, Nat.reduceSub, Nat.reduceLeDiff, Nat.reduceBEq, l30r6, ht]
        refine awp_cond true rfl (fun _ => ?_) (fun h => (by cases h))
        refine awp_skip ?_
        simp (disch := omega) only [push_cast, List.reduceReplicate, List.length_replicate, ↓reduceIte, Nat.reduceEqDiff, Nat.reduceMul, Nat.reduceAdd, Nat.reduceSub, Nat.reduceLeDiff, Nat.reduceBEq]
        refine awp_seq (awp_block (awp_reg ?_))
        simp (disch := omega) only [push_cast, List.reduceReplicate, List.length_replicate, ↓reduceIte, Nat.reduceEqDiff, Nat.reduceMul, Nat.reduceAdd, Nat.reduceSub, Nat.reduceLeDiff, Nat.reduceBEq, l30r7, mkAV_ints, nums_length, gl, hlt]
        (first | refine awp_seq (awp_seq (awp_reg ?_)) | refine awp_seq (awp_reg ?_) | refine awp_reg ?_); simp (disch := omega) only [push_cast, List.reduceReplicate, List.length_replicate, ↓reduceIte, Nat.reduceEqDiff, Nat.reduceMul, Nat.reduceAdd, Nat.reduceSub, Nat.reduceLeDiff, Nat.reduceBEq, l30r8]
        refine ⟨k + 1, by omega, by omega, ?_⟩
        (refine Sub.of_lists ?_ ?_ ?_ ?_ ?_ <;> simp [Vw.mkS, Vw.lk, Vw.hk, AV.inn, innL, innL_ints, innL_append, sumN])
      · have ht : ¬ (k : Int) < (cntN a b c : Int) := by omega
        have hk' : k = cntN a b c := by omega
        simp (disch := omega) only [push_cast, List.reduceReplicate, List.length_replicate, ↓reduceIte, Nat.reduceEqDiff, Nat.reduceMul, Nat.reduceAdd, Nat.reduceSub, Nat.reduceLeDiff, Nat.reduceBEq, l30r6, ht]
        refine awp_cond false rfl (fun h => (by cases h)) (fun _ => awp_exit ?_)
        simp (disch := omega) only [push_cast, List.reduceReplicate, List.length_replicate, ↓reduceIte, Nat.reduceEqDiff, Nat.reduceMul, Nat.reduceAdd, Nat.reduceSub, Nat.reduceLeDiff, Nat.reduceBEq]
        (first | refine awp_seq (awp_seq (awp_reg ?_)) | refine awp_seq (awp_reg ?_) | refine awp_reg ?_); simp (disch := omega) only [push_cast, List.reduceReplicate, List.length_replicate, ↓reduceIte, Nat.reduceEqDiff, Nat.reduceMul, Nat.reduceAdd, Nat.reduceSub, Nat.reduceLeDiff, Nat.reduceBEq, l30r9]
        (refine awp_ret ⟨.inr rfl, _, rfl, ?_⟩; try simp (disch := omega) only [push_cast, List.reduceReplicate, List.length_replicate, ↓reduceIte, Nat.reduceEqDiff, Nat.reduceMul, Nat.reduceAdd, Nat.reduceSub, Nat.reduceLeDiff, Nat.reduceBEq])
        try simp [hk']

theorem iSumOf_ok (a b c : Int) : PCall Try.prog 31 [rng a b c] (fun r => r = .int .i64 (if vR a b c = true then sumN a c (cntN a b c) else 0)) := by
  refine pcall_of l31_eq rfl ?_
  (first | refine awp_seq (awp_seq (awp_reg ?_)) | refine awp_seq (awp_reg ?_) | refine awp_reg ?_); simp (disch := omega) only [push_cast, List.reduceReplicate, List.length_replicate, ↓reduceIte, Nat.reduceEqDiff, Nat.reduceMul, Nat.reduceAdd, Nat.reduceSub, Nat.reduceLeDiff, Nat.reduceBEq, l31r0]
  (first | refine awp_seq (awp_seq (awp_reg ?_)) | refine awp_seq (awp_reg ?_) | refine awp_reg ?_); simp (disch := omega) only [push_cast, List.reduceReplicate, List.length_replicate, ↓reduceIte, Nat.reduceEqDiff, Nat.reduceMul, Nat.reduceAdd, Nat.reduceSub, Nat.reduceLeDiff, Nat.reduceBEq, l31r1]
  refine pcall_step (iValidRange_ok a b c) (by simp (disch := omega) only [push_cast, List.reduceReplicate, List.length_replicate, ↓reduceIte, Nat.reduceEqDiff, Nat.reduceMul, Nat.reduceAdd, Nat.reduceSub, Nat.reduceLeDiff, Nat.reduceBEq]) ?_
  rintro _ rfl
  simp (disch := omega) only [push_cast, List.reduceReplicate, List.length_replicate, ↓reduceIte, Nat.reduceEqDiff, Nat.reduceMul, Nat.reduceAdd, Nat.reduceSub, Nat.reduceLeDiff, Nat.reduceBEq]
  cases hv : vR a b c with
  | false =>
    simp (disch := omega) only [push_cast, List.reduceReplicate, List.length_replicate, ↓reduceIte, Nat.reduceEqDiff, Nat.reduceMul, Nat.reduceAdd, Nat.reduceSub, Nat.reduceLeDiff, Nat.reduceBEq]
    refine awp_cond true rfl (fun _ => ?_) (fun h => (by cases h))
    (first | refine awp_seq (awp_seq (awp_reg ?_)) | refine awp_seq (awp_reg ?_) | refine awp_reg ?_); simp (disch := omega) only [push_cast, List.reduceReplicate, List.length_replicate, ↓reduceIte, Nat.reduceEqDiff, Nat.reduceMul, Nat.reduceAdd, Nat.reduceSub, Nat.reduceLeDiff, Nat.reduceBEq, l31r2]
    (refine awp_ret ⟨.inr rfl, _, rfl, ?_⟩; try simp (disch := omega) only [push_cast, List.reduceReplicate, List.length_replicate, ↓reduceIte, Nat.reduceEqDiff, Nat.reduceMul, Nat.reduceAdd, Nat.reduceSub, Nat.reduceLeDiff, Nat.reduceBEq])
    simp
  | true =>
    obtain ⟨ha, hb, hc, h0⟩ := vR_spec.1 hv
    have h2 := cntN_cast hv
    have h3 := cnt_bound hv
    have hl : -1000 ≤ (cntI a b c - 1) * c ∧ (cntI a b c - 1) * c ≤ 1000 := by
      by_cases h : 1 ≤ cntN a b c
      · have := last_bound hv h; rw [h2] at this; omega
      · rw [show cntI a b c = 0 by omega]; omega
    have hs := sumN_bound hv _ (Nat.le_refl _)
    have h4 : cntI a b c * (a + 0 * c + (a + (cntI a b c - 1) * c)) = 2 * sumN a c (cntN a b c) := by rw [sumN_two, h2]
    have h5 : (2 * sumN a c (cntN a b c)).tdiv 2 = sumN a c (cntN a b c) := Int.mul_tdiv_cancel_left _ (by omega)
    simp (disch := omega) only [push_cast, List.reduceReplicate, List.length_replicate, ↓reduceIte, Nat.reduceEqDiff, Nat.reduceMul, Nat.reduceAdd, Nat.reduceSub, Nat.reduceLeDiff, Nat.reduceBEq]
    refine awp_cond false rfl (fun h => (by cases h)) (fun _ => awp_skip ?_); simp (disch := omega) only [push_cast, List.reduceReplicate, List.length_replicate, ↓reduceIte, Nat.reduceEqDiff, Nat.reduceMul, Nat.reduceAdd, Nat.reduceSub, Nat.reduceLeDiff, Nat.reduceBEq]
    (first | refine awp_seq (awp_seq (awp_reg ?_)) | refine awp_seq (awp_reg ?_) | refine awp_reg ?_); simp (disch := omega) only [push_cast, List.reduceReplicate, List.length_replicate, ↓reduceIte, Nat.reduceEqDiff, Nat.reduceMul, Nat.reduceAdd, Nat.reduceSub, Nat.reduceLeDiff, Nat.reduceBEq, l31r3]
    refine pcall_step (count_ok a b c hv) (by simp (disch := omega) only [push_cast, List.reduceReplicate, List.length_replicate, ↓reduceIte, Nat.reduceEqDiff, Nat.reduceMul, Nat.reduceAdd, Nat.reduceSub, Nat.reduceLeDiff, Nat.reduceBEq]) ?_
    rintro _ rfl
    simp (disch := omega) only [push_cast, List.reduceReplicate, List.length_replicate, ↓reduceIte, Nat.reduceEqDiff, Nat.reduceMul, Nat.reduceAdd, Nat.reduceSub, Nat.reduceLeDiff, Nat.reduceBEq]
    refine awp_seq ?_
    refine awp_draw (mid := l31r4a) (post := l31r4b) mixed (by decide) ?_
    simp (disch := omega) only [push_cast, List.reduceReplicate, List.length_replicate, ↓reduceIte, Nat.reduceEqDiff, Nat.reduceMul, Nat.reduceAdd, Nat.reduceSub, Nat.reduceLeDiff, Nat.reduceBEq, l31r4a]
    refine qcall_step (at_ok a b c 0 (by omega) (by omega)) (by simp (disch := omega) only [push_cast, List.reduceReplicate, List.length_replicate, ↓reduceIte, Nat.reduceEqDiff, Nat.reduceMul, Nat.reduceAdd, Nat.reduceSub, Nat.reduceLeDiff, Nat.reduceBEq]) ?_
    simp (disch := omega) only [push_cast, List.reduceReplicate, List.length_replicate, ↓reduceIte, Nat.reduceEqDiff, Nat.reduceMul, Nat.reduceAdd, Nat.reduceSub, Nat.reduceLeDiff, Nat.reduceBEq]
    refine qcall_step (at_ok a b c (cntI a b c - 1) (by omega) (by omega)) (by simp (disch := omega) only [push_cast, List.reduceReplicate, List.length_replicate, ↓reduceIte, Nat.reduceEqDiff, Nat.reduceMul, Nat.reduceAdd, Nat.reduceSub, Nat.reduceLeDiff, Nat.reduceBEq]) ?_
    simp (disch := omega) only [push_cast, List.reduceReplicate, List.length_replicate, ↓reduceIte, Nat.reduceEqDiff, Nat.reduceMul, Nat.reduceAdd, Nat.reduceSub, Nat.reduceLeDiff, Nat.reduceBEq, h4, h5]
    simp (disch := omega) only [push_cast, List.reduceReplicate, List.length_replicate, ↓reduceIte, Nat.reduceEqDiff, Nat.reduceMul, Nat.reduceAdd, Nat.reduceSub, Nat.reduceLeDiff, Nat.reduceBEq, l31r4b]
    (refine awp_ret ⟨.inr rfl, _, rfl, ?_⟩; try simp (disch := omega) only [push_cast, List.reduceReplicate, List.length_replicate, ↓reduceIte, Nat.reduceEqDiff, Nat.reduceMul, Nat.reduceAdd, Nat.reduceSub, Nat.reduceLeDiff, Nat.reduceBEq])

theorem law10_ok (a b c : Int) : PCall Try.prog 10 [rng a b c] (fun r => r = .bool true) := by
  refine pcall_of l10_eq rfl ?_
  (first | refine awp_seq (awp_seq (awp_reg ?_)) | refine awp_seq (awp_reg ?_) | refine awp_reg ?_); simp (disch := omega) only [push_cast, List.reduceReplicate, List.length_replicate, ↓reduceIte, Nat.reduceEqDiff, Nat.reduceMul, Nat.reduceAdd, Nat.reduceSub, Nat.reduceLeDiff, Nat.reduceBEq, l10r0]
  (first | refine awp_seq (awp_seq (awp_reg ?_)) | refine awp_seq (awp_reg ?_) | refine awp_reg ?_); simp (disch := omega) only [push_cast, List.reduceReplicate, List.length_replicate, ↓reduceIte, Nat.reduceEqDiff, Nat.reduceMul, Nat.reduceAdd, Nat.reduceSub, Nat.reduceLeDiff, Nat.reduceBEq, l10r1]
  refine pcall_step (toRange_ok a b c) (by simp (disch := omega) only [push_cast, List.reduceReplicate, List.length_replicate, ↓reduceIte, Nat.reduceEqDiff, Nat.reduceMul, Nat.reduceAdd, Nat.reduceSub, Nat.reduceLeDiff, Nat.reduceBEq]) ?_
  rintro _ rfl
  simp (disch := omega) only [push_cast, List.reduceReplicate, List.length_replicate, ↓reduceIte, Nat.reduceEqDiff, Nat.reduceMul, Nat.reduceAdd, Nat.reduceSub, Nat.reduceLeDiff, Nat.reduceBEq]
  refine pcall_step (sSumOf_ok a b c) (by simp (disch := omega) only [push_cast, List.reduceReplicate, List.length_replicate, ↓reduceIte, Nat.reduceEqDiff, Nat.reduceMul, Nat.reduceAdd, Nat.reduceSub, Nat.reduceLeDiff, Nat.reduceBEq]) ?_
  rintro _ rfl
  simp (disch := omega) only [push_cast, List.reduceReplicate, List.length_replicate, ↓reduceIte, Nat.reduceEqDiff, Nat.reduceMul, Nat.reduceAdd, Nat.reduceSub, Nat.reduceLeDiff, Nat.reduceBEq]
  (first | refine awp_seq (awp_seq (awp_reg ?_)) | refine awp_seq (awp_reg ?_) | refine awp_reg ?_); simp (disch := omega) only [push_cast, List.reduceReplicate, List.length_replicate, ↓reduceIte, Nat.reduceEqDiff, Nat.reduceMul, Nat.reduceAdd, Nat.reduceSub, Nat.reduceLeDiff, Nat.reduceBEq, l10r2]
  refine pcall_step (toRange_ok a b c) (by simp (disch := omega) only [push_cast, List.reduceReplicate, List.length_replicate, ↓reduceIte, Nat.reduceEqDiff, Nat.reduceMul, Nat.reduceAdd, Nat.reduceSub, Nat.reduceLeDiff, Nat.reduceBEq]) ?_
  rintro _ rfl
  simp (disch := omega) only [push_cast, List.reduceReplicate, List.length_replicate, ↓reduceIte, Nat.reduceEqDiff, Nat.reduceMul, Nat.reduceAdd, Nat.reduceSub, Nat.reduceLeDiff, Nat.reduceBEq]
  refine pcall_step (iSumOf_ok a b c) (by simp (disch := omega) only [push_cast, List.reduceReplicate, List.length_replicate, ↓reduceIte, Nat.reduceEqDiff, Nat.reduceMul, Nat.reduceAdd, Nat.reduceSub, Nat.reduceLeDiff, Nat.reduceBEq]) ?_
  rintro _ rfl
  simp (disch := omega) only [push_cast, List.reduceReplicate, List.length_replicate, ↓reduceIte, Nat.reduceEqDiff, Nat.reduceMul, Nat.reduceAdd, Nat.reduceSub, Nat.reduceLeDiff, Nat.reduceBEq]
  (first | refine awp_seq (awp_seq (awp_reg ?_)) | refine awp_seq (awp_reg ?_) | refine awp_reg ?_); simp (disch := omega) only [push_cast, List.reduceReplicate, List.length_replicate, ↓reduceIte, Nat.reduceEqDiff, Nat.reduceMul, Nat.reduceAdd, Nat.reduceSub, Nat.reduceLeDiff, Nat.reduceBEq, l10r3]
  refine awp_cond false rfl (fun h => (by cases h)) (fun _ => awp_skip ?_); simp (disch := omega) only [push_cast, List.reduceReplicate, List.length_replicate, ↓reduceIte, Nat.reduceEqDiff, Nat.reduceMul, Nat.reduceAdd, Nat.reduceSub, Nat.reduceLeDiff, Nat.reduceBEq]
  (first | refine awp_seq (awp_seq (awp_reg ?_)) | refine awp_seq (awp_reg ?_) | refine awp_reg ?_); simp (disch := omega) only [push_cast, List.reduceReplicate, List.length_replicate, ↓reduceIte, Nat.reduceEqDiff, Nat.reduceMul, Nat.reduceAdd, Nat.reduceSub, Nat.reduceLeDiff, Nat.reduceBEq, l10r5]
  (refine awp_ret ⟨.inr rfl, _, rfl, ?_⟩; try simp (disch := omega) only [push_cast, List.reduceReplicate, List.length_replicate, ↓reduceIte, Nat.reduceEqDiff, Nat.reduceMul, Nat.reduceAdd, Nat.reduceSub, Nat.reduceLeDiff, Nat.reduceBEq])
end Go.Proofs.Ytigcjdblggjmjaa
