import Derived.Test.YtigcjdblggjmjaaS9
namespace Go.Proofs.Ytigcjdblggjmjaa
open Vw Go
set_option linter.unusedSimpArgs false
set_option linter.unusedVariables false

theorem sreversed_ok (a c : Int) (n : Nat) (h1 : -1000 ≤ a ∧ a ≤ 1000) (h2 : -1000 ≤ c ∧ c ≤ 1000) (hn : n ≤ 1000) : PCall Try.prog 44 [.rows false ((nums a c n).map (AV.int .i64)) n] (fun r => r = ints (nums (a + ((n : Int) - 1) * c) (0 - c) n)) := by
  refine pcall_of l44_eq rfl ?_
  (first | refine awp_seq (awp_seq (awp_reg ?_)) | refine awp_seq (awp_reg ?_) | refine awp_reg ?_); simp (disch := omega) only [push_cast, List.reduceReplicate, List.length_replicate, ↓reduceIte, Nat.reduceEqDiff, Nat.reduceMul, Nat.reduceAdd, Nat.reduceSub, Nat.reduceLeDiff, Nat.reduceBEq, l44r0]
  (first | refine awp_seq (awp_seq (awp_reg ?_)) | refine awp_seq (awp_reg ?_) | refine awp_reg ?_); simp (disch := omega) only [push_cast, List.reduceReplicate, List.length_replicate, ↓reduceIte, Nat.reduceEqDiff, Nat.reduceMul, Nat.reduceAdd, Nat.reduceSub, Nat.reduceLeDiff, Nat.reduceBEq, l44r1]
  (first | refine awp_seq (awp_seq (awp_reg ?_)) | refine awp_seq (awp_reg ?_) | refine awp_reg ?_); simp (disch := omega) only [push_cast, List.reduceReplicate, List.length_replicate, ↓reduceIte, Nat.reduceEqDiff, Nat.reduceMul, Nat.reduceAdd, Nat.reduceSub, Nat.reduceLeDiff, Nat.reduceBEq, l44r2]
  refine awp_block ?_
  refine awp_loop (fun k : Nat => mkS [(0, .rows false ((nums a c n).map (AV.int .i64)) n), (4, .int .i64 ((n : Int) - 1 - k)), (3, .own 80 k 1)] [(80, (nums (a + ((n : Int) - 1) * c) (0 - c) k).map (AV.int .i64))])
    (fun k => k ≤ n) (fun k => n - k) 0 (Nat.zero_le _) ?_ ?_
  · (refine Sub.of_lists ?_ ?_ ?_ ?_ ?_ <;> simp [Vw.mkS, Vw.lk, Vw.hk, AV.inn, innL, innL_ints, innL_append, nums_zero])
  · intro k hk
    refine awp_seq (awp_seq (awp_reg ?_))
    by_cases hlt : k < n
    · have ht : (0 : Int) ≤ (n : Int) - 1 - k := by omega
      have ht2 : (n : Int) - 1 - k < n := by omega
      have ht3 : ((n : Int) - 1 - k).toNat < n := by omega
      have gl : (nums a c n).getD ((n : Int) - 1 - k).toNat 0 = a + ((n : Int) - 1 - k) * c := by
        rw [nums_getD a c n _ (by omega)]
        rw [show ((((n : Int) - 1 - k).toNat : Nat) : Int) = (n : Int) - 1 - k by omega]
      simp (disch := omega) only [push_cast, List.reduceReplicate, List.length_replicate, ↓reduceIte, Nat.reduceEqDiff, Nat.reduceMul, Nat.reduceAdd, Nat.reduceSub, Nat.reduceLeDiff, Nat.reduceBEq, l44r3, ht]
      refine awp_cond true rfl (fun _ => ?_) (fun h => (by cases h))
      refine awp_skip ?_
      simp (disch := omega) only [push_cast, List.reduceReplicate, List.length_replicate, ↓reduceIte, Nat.reduceEqDiff, Nat.reduceMul, Nat.reduceAdd, Nat.reduceSub, Nat.reduceLeDiff, Nat.reduceBEq]
      refine awp_seq (awp_block (awp_reg ?_))
      simp (disch := omega) only [push_cast, List.reduceReplicate, List.length_replicate, ↓reduceIte, Nat.reduceEqDiff, Nat.reduceMul, Nat.reduceAdd, Nat.reduceSub, Nat.reduceLeDiff, Nat.reduceBEq, l44r4, mkAV_ints, nums_length, gl, ht, ht2, ht3]
      refine awp_reg ?_
      simp (disch := omega) only [push_cast, List.reduceReplicate, List.length_replicate, ↓reduceIte, Nat.reduceEqDiff, Nat.reduceMul, Nat.reduceAdd, Nat.reduceSub, Nat.reduceLeDiff, Nat.reduceBEq, l44r5]
      refine ⟨k + 1, by omega, by omega, ?_⟩
      have e1 : a + ((n : Int) - 1 - k) * c = a + (((n : Int) - 1) * c + -((k : Int) * c)) := by rw [Int.sub_mul ((n : Int) - 1) k c]; omega
      have e2 : (n : Int) - 1 - ((k : Int) + 1) = (n : Int) - 1 - k - 1 := by omega
      (refine Sub.of_lists ?_ ?_ ?_ ?_ ?_ <;> simp [Vw.mkS, Vw.lk, Vw.hk, AV.inn, innL, innL_ints, innL_append, nums_succ, e1, e2, Int.mul_neg, Int.add_assoc])
    · have ht : ¬ (0 : Int) ≤ (n : Int) - 1 - k := by omega
      have hk' : k = n := by omega
      simp (disch := omega) only [push_cast, List.reduceReplicate, List.length_replicate, ↓reduceIte, Nat.reduceEqDiff, Nat.reduceMul, Nat.reduceAdd, Nat.reduceSub, Nat.reduceLeDiff, Nat.reduceBEq, l44r3, ht]
      refine awp_cond false rfl (fun h => (by cases h)) (fun _ => awp_exit ?_)
      simp (disch := omega) only [push_cast, List.reduceReplicate, List.length_replicate, ↓reduceIte, Nat.reduceEqDiff, Nat.reduceMul, Nat.reduceAdd, Nat.reduceSub, Nat.reduceLeDiff, Nat.reduceBEq]
      (first | refine awp_seq (awp_seq (awp_reg ?_)) | refine awp_seq (awp_reg ?_) | refine awp_reg ?_); simp (disch := omega) only [push_cast, List.reduceReplicate, List.length_replicate, ↓reduceIte, Nat.reduceEqDiff, Nat.reduceMul, Nat.reduceAdd, Nat.reduceSub, Nat.reduceLeDiff, Nat.reduceBEq, l44r6]
      (refine awp_ret ⟨.inr rfl, _, rfl, ?_⟩; try simp (disch := omega) only [push_cast, List.reduceReplicate, List.length_replicate, ↓reduceIte, Nat.reduceEqDiff, Nat.reduceMul, Nat.reduceAdd, Nat.reduceSub, Nat.reduceLeDiff, Nat.reduceBEq, nums_length])
      rw [hk']
      try simp [ints, nums_length]

theorem prog3_rev (a b c : Int) (hv : vR a b c = true) : prog3 (a + ((cntN a b c : Int) - 1) * c) (0 - c) (cntN a b c) = prog3 (a + (cntI a b c - 1) * c) (0 - c) (cntI a b c) := by
  rw [cntN_cast hv]

theorem sReverseRange_ok (a b c : Int) : PCall Try.prog 28 [rng a b c] (fun r => r = if vR a b c = true then prog3 (a + (cntI a b c - 1) * c) (0 - c) (cntI a b c) else rng 0 0 0) := by
  refine pcall_of l28_eq rfl ?_
  (first | refine awp_seq (awp_seq (awp_reg ?_)) | refine awp_seq (awp_reg ?_) | refine awp_reg ?_); simp (disch := omega) only [push_cast, List.reduceReplicate, List.length_replicate, ↓reduceIte, Nat.reduceEqDiff, Nat.reduceMul, Nat.reduceAdd, Nat.reduceSub, Nat.reduceLeDiff, Nat.reduceBEq, l28r0]
  (first | refine awp_seq (awp_seq (awp_reg ?_)) | refine awp_seq (awp_reg ?_) | refine awp_reg ?_); simp (disch := omega) only [push_cast, List.reduceReplicate, List.length_replicate, ↓reduceIte, Nat.reduceEqDiff, Nat.reduceMul, Nat.reduceAdd, Nat.reduceSub, Nat.reduceLeDiff, Nat.reduceBEq, l28r1]
  refine pcall_step (svalidRange_ok a b c) (by simp (disch := omega) only [push_cast, List.reduceReplicate, List.length_replicate, ↓reduceIte, Nat.reduceEqDiff, Nat.reduceMul, Nat.reduceAdd, Nat.reduceSub, Nat.reduceLeDiff, Nat.reduceBEq]) ?_
  rintro _ rfl
  simp (disch := omega) only [push_cast, List.reduceReplicate, List.length_replicate, ↓reduceIte, Nat.reduceEqDiff, Nat.reduceMul, Nat.reduceAdd, Nat.reduceSub, Nat.reduceLeDiff, Nat.reduceBEq]
  cases hv : vR a b c with
  | false =>
    simp (disch := omega) only [push_cast, List.reduceReplicate, List.length_replicate, ↓reduceIte, Nat.reduceEqDiff, Nat.reduceMul, Nat.reduceAdd, Nat.reduceSub, Nat.reduceLeDiff, Nat.reduceBEq]
    refine awp_cond true rfl (fun _ => ?_) (fun h => (by cases h))
    (first | refine awp_seq (awp_seq (awp_reg ?_)) | refine awp_seq (awp_reg ?_) | refine awp_reg ?_); simp (disch := omega) only [push_cast, List.reduceReplicate, List.length_replicate, ↓reduceIte, Nat.reduceEqDiff, Nat.reduceMul, Nat.reduceAdd, Nat.reduceSub, Nat.reduceLeDiff, Nat.reduceBEq, l28r2]
    (refine awp_ret ⟨.inr rfl, _, rfl, ?_⟩; try simp (disch := omega) only [push_cast, List.reduceReplicate, List.length_replicate, ↓reduceIte, Nat.reduceEqDiff, Nat.reduceMul, Nat.reduceAdd, Nat.reduceSub, Nat.reduceLeDiff, Nat.reduceBEq])
    simp
  | true =>
    obtain ⟨ha, hb, hc, h0⟩ := vR_spec.1 hv
    have h2 := cntN_cast hv
    have h3 := cnt_bound hv
    have hl : -1000 ≤ a + ((cntN a b c : Int) - 1) * c ∧ a + ((cntN a b c : Int) - 1) * c ≤ 1000 := by
      by_cases h : 1 ≤ cntN a b c
      · have := last_bound hv h; omega
      · rw [show (cntN a b c : Int) = 0 by omega]; omega
    simp (disch := omega) only [push_cast, List.reduceReplicate, List.length_replicate, ↓reduceIte, Nat.reduceEqDiff, Nat.reduceMul, Nat.reduceAdd, Nat.reduceSub, Nat.reduceLeDiff, Nat.reduceBEq]
    refine awp_cond false rfl (fun h => (by cases h)) (fun _ => awp_skip ?_); simp (disch := omega) only [push_cast, List.reduceReplicate, List.length_replicate, ↓reduceIte, Nat.reduceEqDiff, Nat.reduceMul, Nat.reduceAdd, Nat.reduceSub, Nat.reduceLeDiff, Nat.reduceBEq]
    (first | refine awp_seq (awp_seq (awp_reg ?_)) | refine awp_seq (awp_reg ?_) | refine awp_reg ?_); simp (disch := omega) only [push_cast, List.reduceReplicate, List.length_replicate, ↓reduceIte, Nat.reduceEqDiff, Nat.reduceMul, Nat.reduceAdd, Nat.reduceSub, Nat.reduceLeDiff, Nat.reduceBEq, l28r3]
    refine pcall_step (snumbers_ok a b c hv) (by simp (disch := omega) only [push_cast, List.reduceReplicate, List.length_replicate, ↓reduceIte, Nat.reduceEqDiff, Nat.reduceMul, Nat.reduceAdd, Nat.reduceSub, Nat.reduceLeDiff, Nat.reduceBEq]) ?_
    rintro _ rfl
    simp (disch := omega) only [push_cast, List.reduceReplicate, List.length_replicate, ↓reduceIte, Nat.reduceEqDiff, Nat.reduceMul, Nat.reduceAdd, Nat.reduceSub, Nat.reduceLeDiff, Nat.reduceBEq, ints, nums_length]
    refine pcall_step (sreversed_ok a c (cntN a b c) (by omega) (by omega) (by omega)) (by simp (disch := omega) only [push_cast, List.reduceReplicate, List.length_replicate, ↓reduceIte, Nat.reduceEqDiff, Nat.reduceMul, Nat.reduceAdd, Nat.reduceSub, Nat.reduceLeDiff, Nat.reduceBEq]) ?_
    rintro _ rfl
    simp (disch := omega) only [push_cast, List.reduceReplicate, List.length_replicate, ↓reduceIte, Nat.reduceEqDiff, Nat.reduceMul, Nat.reduceAdd, Nat.reduceSub, Nat.reduceLeDiff, Nat.reduceBEq, ints, nums_length]
    refine pcall_step (snormal_ok (a + ((cntN a b c : Int) - 1) * c) (0 - c) (cntN a b c) (by omega) hl (by omega) (by omega) (fun h => (by have := last_bound hv h; rw [Int.zero_sub, Int.mul_neg]; omega))) (by simp (disch := omega) only [push_cast, List.reduceReplicate, List.length_replicate, ↓reduceIte, Nat.reduceEqDiff, Nat.reduceMul, Nat.reduceAdd, Nat.reduceSub, Nat.reduceLeDiff, Nat.reduceBEq]) ?_
    rintro _ rfl
    rw [h2]
    obtain ⟨x, y, z, hxyz⟩ := prog3_rng (a + (cntI a b c - 1) * c) (0 - c) (cntI a b c)
    rw [hxyz]
    simp (disch := omega) only [push_cast, List.reduceReplicate, List.length_replicate, ↓reduceIte, Nat.reduceEqDiff, Nat.reduceMul, Nat.reduceAdd, Nat.reduceSub, Nat.reduceLeDiff, Nat.reduceBEq]
    (refine awp_ret ⟨.inr rfl, _, rfl, ?_⟩; try simp (disch := omega) only [push_cast, List.reduceReplicate, List.length_replicate, ↓reduceIte, Nat.reduceEqDiff, Nat.reduceMul, Nat.reduceAdd, Nat.reduceSub, Nat.reduceLeDiff, Nat.reduceBEq])

theorem iReverseRange_ok (a b c : Int) : PCall Try.prog 29 [rng a b c] (fun r => r = if vR a b c = true then prog3 (a + (cntI a b c - 1) * c) (0 - c) (cntI a b c) else rng 0 0 0) := by
  refine pcall_of l29_eq rfl ?_
  (first | refine awp_seq (awp_seq (awp_reg ?_)) | refine awp_seq (awp_reg ?_) | refine awp_reg ?_); simp (disch := omega) only [push_cast, List.reduceReplicate, List.length_replicate, ↓reduceIte, Nat.reduceEqDiff, Nat.reduceMul, Nat.reduceAdd, Nat.reduceSub, Nat.reduceLeDiff, Nat.reduceBEq, l29r0]
  (first | refine awp_seq (awp_seq (awp_reg ?_)) | refine awp_seq (awp_reg ?_) | refine awp_reg ?_); simp (disch := omega) only [push_cast, List.reduceReplicate, List.length_replicate, ↓reduceIte, Nat.reduceEqDiff, Nat.reduceMul, Nat.reduceAdd, Nat.reduceSub, Nat.reduceLeDiff, Nat.reduceBEq, l29r1]
  refine pcall_step (iValidRange_ok a b c) (by simp (disch := omega) only [push_cast, List.reduceReplicate, List.length_replicate, ↓reduceIte, Nat.reduceEqDiff, Nat.reduceMul, Nat.reduceAdd, Nat.reduceSub, Nat.reduceLeDiff, Nat.reduceBEq]) ?_
  rintro _ rfl
  simp (disch := omega) only [push_cast, List.reduceReplicate, List.length_replicate, ↓reduceIte, Nat.reduceEqDiff, Nat.reduceMul, Nat.reduceAdd, Nat.reduceSub, Nat.reduceLeDiff, Nat.reduceBEq]
  cases hv : vR a b c with
  | false =>
    simp (disch := omega) only [push_cast, List.reduceReplicate, List.length_replicate, ↓reduceIte, Nat.reduceEqDiff, Nat.reduceMul, Nat.reduceAdd, Nat.reduceSub, Nat.reduceLeDiff, Nat.reduceBEq]
    refine awp_cond true rfl (fun _ => ?_) (fun h => (by cases h))
    (first | refine awp_seq (awp_seq (awp_reg ?_)) | refine awp_seq (awp_reg ?_) | refine awp_reg ?_); simp (disch := omega) only [push_cast, List.reduceReplicate, List.length_replicate, ↓reduceIte, Nat.reduceEqDiff, Nat.reduceMul, Nat.reduceAdd, Nat.reduceSub, Nat.reduceLeDiff, Nat.reduceBEq, l29r2]
    (refine awp_ret ⟨.inr rfl, _, rfl, ?_⟩; try simp (disch := omega) only [push_cast, List.reduceReplicate, List.length_replicate, ↓reduceIte, Nat.reduceEqDiff, Nat.reduceMul, Nat.reduceAdd, Nat.reduceSub, Nat.reduceLeDiff, Nat.reduceBEq])
    simp
  | true =>
    simp (disch := omega) only [push_cast, List.reduceReplicate, List.length_replicate, ↓reduceIte, Nat.reduceEqDiff, Nat.reduceMul, Nat.reduceAdd, Nat.reduceSub, Nat.reduceLeDiff, Nat.reduceBEq]
    refine awp_cond false rfl (fun h => (by cases h)) (fun _ => awp_skip ?_); simp (disch := omega) only [push_cast, List.reduceReplicate, List.length_replicate, ↓reduceIte, Nat.reduceEqDiff, Nat.reduceMul, Nat.reduceAdd, Nat.reduceSub, Nat.reduceLeDiff, Nat.reduceBEq]
    (first | refine awp_seq (awp_seq (awp_reg ?_)) | refine awp_seq (awp_reg ?_) | refine awp_reg ?_); simp (disch := omega) only [push_cast, List.reduceReplicate, List.length_replicate, ↓reduceIte, Nat.reduceEqDiff, Nat.reduceMul, Nat.reduceAdd, Nat.reduceSub, Nat.reduceLeDiff, Nat.reduceBEq, l29r3]
    refine pcall_step (reversed_ok a b c hv) (by simp (disch := omega) only [push_cast, List.reduceReplicate, List.length_replicate, ↓reduceIte, Nat.reduceEqDiff, Nat.reduceMul, Nat.reduceAdd, Nat.reduceSub, Nat.reduceLeDiff, Nat.reduceBEq]) ?_
    rintro _ rfl
    obtain ⟨x, y, z, hxyz⟩ := prog3_rng (a + (cntI a b c - 1) * c) (0 - c) (cntI a b c)
    rw [hxyz]
    simp (disch := omega) only [push_cast, List.reduceReplicate, List.length_replicate, ↓reduceIte, Nat.reduceEqDiff, Nat.reduceMul, Nat.reduceAdd, Nat.reduceSub, Nat.reduceLeDiff, Nat.reduceBEq]
    (refine awp_ret ⟨.inr rfl, _, rfl, ?_⟩; try simp (disch := omega) only [push_cast, List.reduceReplicate, List.length_replicate, ↓reduceIte, Nat.reduceEqDiff, Nat.reduceMul, Nat.reduceAdd, Nat.reduceSub, Nat.reduceLeDiff, Nat.reduceBEq])

theorem law9_ok (a b c : Int) : PCall Try.prog 9 [rng a b c] (fun r => r = .bool true) := by
  have hag : ∃ x y z, (if vR a b c = true then prog3 (a + (cntI a b c - 1) * c) (0 - c) (cntI a b c) else rng 0 0 0) = rng x y z := by
    split
    · exact prog3_rng _ _ _
    · exact ⟨_, _, _, rfl⟩
  obtain ⟨x, y, z, hxyz⟩ := hag
  refine pcall_of l9_eq rfl ?_
  (first | refine awp_seq (awp_seq (awp_reg ?_)) | refine awp_seq (awp_reg ?_) | refine awp_reg ?_); simp (disch := omega) only [push_cast, List.reduceReplicate, List.length_replicate, ↓reduceIte, Nat.reduceEqDiff, Nat.reduceMul, Nat.reduceAdd, Nat.reduceSub, Nat.reduceLeDiff, Nat.reduceBEq, l9r0]
  (first | refine awp_seq (awp_seq (awp_reg ?_)) | refine awp_seq (awp_reg ?_) | refine awp_reg ?_); simp (disch := omega) only [push_cast, List.reduceReplicate, List.length_replicate, ↓reduceIte, Nat.reduceEqDiff, Nat.reduceMul, Nat.reduceAdd, Nat.reduceSub, Nat.reduceLeDiff, Nat.reduceBEq, l9r1]
  refine pcall_step (toRange_ok a b c) (by simp (disch := omega) only [push_cast, List.reduceReplicate, List.length_replicate, ↓reduceIte, Nat.reduceEqDiff, Nat.reduceMul, Nat.reduceAdd, Nat.reduceSub, Nat.reduceLeDiff, Nat.reduceBEq]) ?_
  rintro _ rfl
  simp (disch := omega) only [push_cast, List.reduceReplicate, List.length_replicate, ↓reduceIte, Nat.reduceEqDiff, Nat.reduceMul, Nat.reduceAdd, Nat.reduceSub, Nat.reduceLeDiff, Nat.reduceBEq]
  refine pcall_step (sReverseRange_ok a b c) (by simp (disch := omega) only [push_cast, List.reduceReplicate, List.length_replicate, ↓reduceIte, Nat.reduceEqDiff, Nat.reduceMul, Nat.reduceAdd, Nat.reduceSub, Nat.reduceLeDiff, Nat.reduceBEq]) ?_
  rintro _ rfl
  rw [hxyz]
  simp (disch := omega) only [push_cast, List.reduceReplicate, List.length_replicate, ↓reduceIte, Nat.reduceEqDiff, Nat.reduceMul, Nat.reduceAdd, Nat.reduceSub, Nat.reduceLeDiff, Nat.reduceBEq]
  (first | refine awp_seq (awp_seq (awp_reg ?_)) | refine awp_seq (awp_reg ?_) | refine awp_reg ?_); simp (disch := omega) only [push_cast, List.reduceReplicate, List.length_replicate, ↓reduceIte, Nat.reduceEqDiff, Nat.reduceMul, Nat.reduceAdd, Nat.reduceSub, Nat.reduceLeDiff, Nat.reduceBEq, l9r2]
  refine pcall_step (toRange_ok a b c) (by simp (disch := omega) only [push_cast, List.reduceReplicate, List.length_replicate, ↓reduceIte, Nat.reduceEqDiff, Nat.reduceMul, Nat.reduceAdd, Nat.reduceSub, Nat.reduceLeDiff, Nat.reduceBEq]) ?_
  rintro _ rfl
  simp (disch := omega) only [push_cast, List.reduceReplicate, List.length_replicate, ↓reduceIte, Nat.reduceEqDiff, Nat.reduceMul, Nat.reduceAdd, Nat.reduceSub, Nat.reduceLeDiff, Nat.reduceBEq]
  refine pcall_step (iReverseRange_ok a b c) (by simp (disch := omega) only [push_cast, List.reduceReplicate, List.length_replicate, ↓reduceIte, Nat.reduceEqDiff, Nat.reduceMul, Nat.reduceAdd, Nat.reduceSub, Nat.reduceLeDiff, Nat.reduceBEq]) ?_
  rintro _ rfl
  rw [hxyz]
  simp (disch := omega) only [push_cast, List.reduceReplicate, List.length_replicate, ↓reduceIte, Nat.reduceEqDiff, Nat.reduceMul, Nat.reduceAdd, Nat.reduceSub, Nat.reduceLeDiff, Nat.reduceBEq]
  (first | refine awp_seq (awp_seq (awp_reg ?_)) | refine awp_seq (awp_reg ?_) | refine awp_reg ?_); simp (disch := omega) only [push_cast, List.reduceReplicate, List.length_replicate, ↓reduceIte, Nat.reduceEqDiff, Nat.reduceMul, Nat.reduceAdd, Nat.reduceSub, Nat.reduceLeDiff, Nat.reduceBEq, l9r3]
  refine pcall_step (eqRange_ok x y z) (by simp (disch := omega) only [push_cast, List.reduceReplicate, List.length_replicate, ↓reduceIte, Nat.reduceEqDiff, Nat.reduceMul, Nat.reduceAdd, Nat.reduceSub, Nat.reduceLeDiff, Nat.reduceBEq]) ?_
  rintro _ rfl
  simp (disch := omega) only [push_cast, List.reduceReplicate, List.length_replicate, ↓reduceIte, Nat.reduceEqDiff, Nat.reduceMul, Nat.reduceAdd, Nat.reduceSub, Nat.reduceLeDiff, Nat.reduceBEq]
  refine awp_cond false rfl (fun h => (by cases h)) (fun _ => awp_skip ?_); simp (disch := omega) only [push_cast, List.reduceReplicate, List.length_replicate, ↓reduceIte, Nat.reduceEqDiff, Nat.reduceMul, Nat.reduceAdd, Nat.reduceSub, Nat.reduceLeDiff, Nat.reduceBEq]
  (first | refine awp_seq (awp_seq (awp_reg ?_)) | refine awp_seq (awp_reg ?_) | refine awp_reg ?_); simp (disch := omega) only [push_cast, List.reduceReplicate, List.length_replicate, ↓reduceIte, Nat.reduceEqDiff, Nat.reduceMul, Nat.reduceAdd, Nat.reduceSub, Nat.reduceLeDiff, Nat.reduceBEq, l9r5]
  (refine awp_ret ⟨.inr rfl, _, rfl, ?_⟩; try simp (disch := omega) only [push_cast, List.reduceReplicate, List.length_replicate, ↓reduceIte, Nat.reduceEqDiff, Nat.reduceMul, Nat.reduceAdd, Nat.reduceSub, Nat.reduceLeDiff, Nat.reduceBEq])
end Go.Proofs.Ytigcjdblggjmjaa
