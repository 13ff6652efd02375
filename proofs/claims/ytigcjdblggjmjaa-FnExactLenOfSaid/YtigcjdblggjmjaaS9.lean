import Derived.Test.YtigcjdblggjmjaaS8
namespace Go.Proofs.Ytigcjdblggjmjaa
open Vw Go
set_option linter.unusedSimpArgs false
set_option linter.unusedVariables false

theorem nums_zero (a c : Int) : nums a c 0 = [] := rfl

theorem mkAV_ints0 (k : IntKind) (xs : List Int) : mkAV false ((xs.map (AV.int k)).take 1) = if 0 < xs.length then some (.int k (xs.getD 0 0)) else none := by
  have := mkAV_ints k xs 0
  rwa [List.drop_zero] at this

theorem snormal_ok (a c : Int) (n : Nat) (h0 : c ≠ 0) (h1 : -1000 ≤ a ∧ a ≤ 1000) (h2 : -1000 ≤ c ∧ c ≤ 1000) (hn : n ≤ 1000) (h3 : 1 ≤ n → -1000 ≤ ((n : Int) - 1) * c ∧ ((n : Int) - 1) * c ≤ 1000) : PCall Try.prog 42 [.rows false ((nums a c n).map (AV.int .i64)) n] (fun r => r = prog3 a c n) := by
  refine pcall_of l42_eq rfl ?_
  (first | refine awp_seq (awp_seq (awp_reg ?_)) | refine awp_seq (awp_reg ?_) | refine awp_reg ?_); simp (disch := omega) only [push_cast, List.reduceReplicate, List.length_replicate, ↓reduceIte, Nat.reduceEqDiff, Nat.reduceMul, Nat.reduceAdd, Nat.reduceSub, Nat.reduceLeDiff, Nat.reduceBEq, l42r0]
  (first | refine awp_seq (awp_seq (awp_reg ?_)) | refine awp_seq (awp_reg ?_) | refine awp_reg ?_); simp (disch := omega) only [push_cast, List.reduceReplicate, List.length_replicate, ↓reduceIte, Nat.reduceEqDiff, Nat.reduceMul, Nat.reduceAdd, Nat.reduceSub, Nat.reduceLeDiff, Nat.reduceBEq, l42r1]
  refine awp_block ?_
  by_cases hz : n = 0
  · subst hz
    (first | refine awp_seq (awp_seq (awp_reg ?_)) | refine awp_seq (awp_reg ?_) | refine awp_reg ?_); simp (disch := omega) only [push_cast, List.reduceReplicate, List.length_replicate, ↓reduceIte, Nat.reduceEqDiff, Nat.reduceMul, Nat.reduceAdd, Nat.reduceSub, Nat.reduceLeDiff, Nat.reduceBEq, l42r2]
    refine awp_cond true rfl (fun _ => ?_) (fun h => (by cases h))
    (first | refine awp_seq (awp_seq (awp_reg ?_)) | refine awp_seq (awp_reg ?_) | refine awp_reg ?_); simp (disch := omega) only [push_cast, List.reduceReplicate, List.length_replicate, ↓reduceIte, Nat.reduceEqDiff, Nat.reduceMul, Nat.reduceAdd, Nat.reduceSub, Nat.reduceLeDiff, Nat.reduceBEq, l42r3]
    (refine awp_ret ⟨.inr rfl, _, rfl, ?_⟩; try simp (disch := omega) only [push_cast, List.reduceReplicate, List.length_replicate, ↓reduceIte, Nat.reduceEqDiff, Nat.reduceMul, Nat.reduceAdd, Nat.reduceSub, Nat.reduceLeDiff, Nat.reduceBEq])
    simp [prog3]
  have hz' : ¬ (n : Int) = 0 := by omega
  have g0 : (nums a c n).getD 0 0 = a := by rw [nums_getD a c n 0 (by omega)]; simp
  by_cases ho : n = 1
  · subst ho
    (first | refine awp_seq (awp_seq (awp_reg ?_)) | refine awp_seq (awp_reg ?_) | refine awp_reg ?_); simp (disch := omega) only [push_cast, List.reduceReplicate, List.length_replicate, ↓reduceIte, Nat.reduceEqDiff, Nat.reduceMul, Nat.reduceAdd, Nat.reduceSub, Nat.reduceLeDiff, Nat.reduceBEq, l42r2]
    refine awp_cond false rfl (fun h => (by cases h)) (fun _ => ?_)
    (first | refine awp_seq (awp_seq (awp_reg ?_)) | refine awp_seq (awp_reg ?_) | refine awp_reg ?_); simp (disch := omega) only [push_cast, List.reduceReplicate, List.length_replicate, ↓reduceIte, Nat.reduceEqDiff, Nat.reduceMul, Nat.reduceAdd, Nat.reduceSub, Nat.reduceLeDiff, Nat.reduceBEq, l42r4]
    refine awp_cond true rfl (fun _ => ?_) (fun h => (by cases h))
    refine awp_seq ?_
    refine awp_draw (mid := l42r5a) (post := l42r5b) mixed (by decide) ?_
    simp (disch := omega) only [push_cast, List.reduceReplicate, List.length_replicate, ↓reduceIte, Nat.reduceEqDiff, Nat.reduceMul, Nat.reduceAdd, Nat.reduceSub, Nat.reduceLeDiff, Nat.reduceBEq, l42r5a, mkAV_ints, mkAV_ints0, nums_length, g0, Int.reduceToNat]
    simp (disch := omega) only [push_cast, List.reduceReplicate, List.length_replicate, ↓reduceIte, Nat.reduceEqDiff, Nat.reduceMul, Nat.reduceAdd, Nat.reduceSub, Nat.reduceLeDiff, Nat.reduceBEq, l42r5b]
    (refine awp_ret ⟨.inr rfl, _, rfl, ?_⟩; try simp (disch := omega) only [push_cast, List.reduceReplicate, List.length_replicate, ↓reduceIte, Nat.reduceEqDiff, Nat.reduceMul, Nat.reduceAdd, Nat.reduceSub, Nat.reduceLeDiff, Nat.reduceBEq])
    simp [prog3]
  have ho' : ¬ (n : Int) = 1 := by omega
  have g1 : (nums a c n).getD 1 0 = a + c := by rw [nums_getD a c n 1 (by omega)]; simp
  have h3 := h3 (by omega)
  have gl : (nums a c n).getD ((n : Int) - 1).toNat 0 = a + ((n : Int) - 1) * c := by
    rw [nums_getD a c n _ (by omega)]
    rw [show ((((n : Int) - 1).toNat : Nat) : Int) = (n : Int) - 1 by omega]
  (first | refine awp_seq (awp_seq (awp_reg ?_)) | refine awp_seq (awp_reg ?_) | refine awp_reg ?_); simp (disch := omega) only [push_cast, List.reduceReplicate, List.length_replicate, ↓reduceIte, Nat.reduceEqDiff, Nat.reduceMul, Nat.reduceAdd, Nat.reduceSub, Nat.reduceLeDiff, Nat.reduceBEq, l42r2, hz']
  refine awp_cond false rfl (fun h => (by cases h)) (fun _ => ?_)
  (first | refine awp_seq (awp_seq (awp_reg ?_)) | refine awp_seq (awp_reg ?_) | refine awp_reg ?_); simp (disch := omega) only [push_cast, List.reduceReplicate, List.length_replicate, ↓reduceIte, Nat.reduceEqDiff, Nat.reduceMul, Nat.reduceAdd, Nat.reduceSub, Nat.reduceLeDiff, Nat.reduceBEq, l42r4, ho']
  refine awp_cond false rfl (fun h => (by cases h)) (fun _ => awp_skip ?_); simp (disch := omega) only [push_cast, List.reduceReplicate, List.length_replicate, ↓reduceIte, Nat.reduceEqDiff, Nat.reduceMul, Nat.reduceAdd, Nat.reduceSub, Nat.reduceLeDiff, Nat.reduceBEq]
  refine awp_seq ?_
  refine awp_draw (mid := l42r6a) (post := l42r6b) mixed (by decide) ?_
  have hlen : 0 < n ∧ 1 < n := by omega
  simp (disch := omega) only [push_cast, List.reduceReplicate, List.length_replicate, ↓reduceIte, Nat.reduceEqDiff, Nat.reduceMul, Nat.reduceAdd, Nat.reduceSub, Nat.reduceLeDiff, Nat.reduceBEq, l42r6a, mkAV_ints, mkAV_ints0, nums_length, g0, g1, hlen, Int.reduceToNat]
  have e : a + c - a = c := by omega
  simp (disch := omega) only [push_cast, List.reduceReplicate, List.length_replicate, ↓reduceIte, Nat.reduceEqDiff, Nat.reduceMul, Nat.reduceAdd, Nat.reduceSub, Nat.reduceLeDiff, Nat.reduceBEq, l42r6b, e]
  (first | refine awp_seq (awp_seq (awp_reg ?_)) | refine awp_seq (awp_reg ?_) | refine awp_reg ?_); simp (disch := omega) only [push_cast, List.reduceReplicate, List.length_replicate, ↓reduceIte, Nat.reduceEqDiff, Nat.reduceMul, Nat.reduceAdd, Nat.reduceSub, Nat.reduceLeDiff, Nat.reduceBEq, l42r7, mkAV_ints, nums_length, gl]
  (first | refine awp_seq (awp_seq (awp_reg ?_)) | refine awp_seq (awp_reg ?_) | refine awp_reg ?_); simp (disch := omega) only [push_cast, List.reduceReplicate, List.length_replicate, ↓reduceIte, Nat.reduceEqDiff, Nat.reduceMul, Nat.reduceAdd, Nat.reduceSub, Nat.reduceLeDiff, Nat.reduceBEq, l42r8]
  by_cases hc : c < 0
  · simp only [hc]
    simp (disch := omega) only [push_cast, List.reduceReplicate, List.length_replicate, ↓reduceIte, Nat.reduceEqDiff, Nat.reduceMul, Nat.reduceAdd, Nat.reduceSub, Nat.reduceLeDiff, Nat.reduceBEq]
    refine awp_cond true rfl (fun _ => ?_) (fun h => (by cases h))
    (first | refine awp_seq (awp_seq (awp_reg ?_)) | refine awp_seq (awp_reg ?_) | refine awp_reg ?_); simp (disch := omega) only [push_cast, List.reduceReplicate, List.length_replicate, ↓reduceIte, Nat.reduceEqDiff, Nat.reduceMul, Nat.reduceAdd, Nat.reduceSub, Nat.reduceLeDiff, Nat.reduceBEq, l42r9, mkAV_ints, nums_length, gl]
    (first | refine awp_seq (awp_seq (awp_reg ?_)) | refine awp_seq (awp_reg ?_) | refine awp_reg ?_); simp (disch := omega) only [push_cast, List.reduceReplicate, List.length_replicate, ↓reduceIte, Nat.reduceEqDiff, Nat.reduceMul, Nat.reduceAdd, Nat.reduceSub, Nat.reduceLeDiff, Nat.reduceBEq, l42r10, mkAV_ints, mkAV_ints0, nums_length, g0, hlen, Int.reduceToNat]
    (refine awp_ret ⟨.inr rfl, _, rfl, ?_⟩; try simp (disch := omega) only [push_cast, List.reduceReplicate, List.length_replicate, ↓reduceIte, Nat.reduceEqDiff, Nat.reduceMul, Nat.reduceAdd, Nat.reduceSub, Nat.reduceLeDiff, Nat.reduceBEq])
    unfold prog3
    rw [if_neg (by omega), if_neg (by omega), if_pos hc]
  · simp only [hc]
    simp (disch := omega) only [push_cast, List.reduceReplicate, List.length_replicate, ↓reduceIte, Nat.reduceEqDiff, Nat.reduceMul, Nat.reduceAdd, Nat.reduceSub, Nat.reduceLeDiff, Nat.reduceBEq]
    refine awp_cond false rfl (fun h => (by cases h)) (fun _ => awp_skip ?_); simp (disch := omega) only [push_cast, List.reduceReplicate, List.length_replicate, ↓reduceIte, Nat.reduceEqDiff, Nat.reduceMul, Nat.reduceAdd, Nat.reduceSub, Nat.reduceLeDiff, Nat.reduceBEq]
    (first | refine awp_seq (awp_seq (awp_reg ?_)) | refine awp_seq (awp_reg ?_) | refine awp_reg ?_); simp (disch := omega) only [push_cast, List.reduceReplicate, List.length_replicate, ↓reduceIte, Nat.reduceEqDiff, Nat.reduceMul, Nat.reduceAdd, Nat.reduceSub, Nat.reduceLeDiff, Nat.reduceBEq, l42r10, mkAV_ints, mkAV_ints0, nums_length, g0, hlen, Int.reduceToNat]
    (refine awp_ret ⟨.inr rfl, _, rfl, ?_⟩; try simp (disch := omega) only [push_cast, List.reduceReplicate, List.length_replicate, ↓reduceIte, Nat.reduceEqDiff, Nat.reduceMul, Nat.reduceAdd, Nat.reduceSub, Nat.reduceLeDiff, Nat.reduceBEq])
    unfold prog3
    rw [if_neg (by omega), if_neg (by omega), if_neg hc]

theorem last_bound {a b c : Int} (hv : vR a b c = true) (h : 1 ≤ cntN a b c) : -201 ≤ ((cntN a b c : Int) - 1) * c ∧ ((cntN a b c : Int) - 1) * c ≤ 201 ∧ -100 ≤ a + ((cntN a b c : Int) - 1) * c ∧ a + ((cntN a b c : Int) - 1) * c ≤ 100 := by
  have := num_bound hv (i := cntN a b c - 1) (by omega)
  rwa [show ((cntN a b c - 1 : Nat) : Int) = (cntN a b c : Int) - 1 by omega] at this

theorem sNormalRange_ok (a b c : Int) : PCall Try.prog 25 [rng a b c] (fun r => r = if vR a b c = true then prog3 a c (cntI a b c) else rng 0 0 0) := by
  refine pcall_of l25_eq rfl ?_
  (first | refine awp_seq (awp_seq (awp_reg ?_)) | refine awp_seq (awp_reg ?_) | refine awp_reg ?_); simp (disch := omega) only [push_cast, List.reduceReplicate, List.length_replicate, ↓reduceIte, Nat.reduceEqDiff, Nat.reduceMul, Nat.reduceAdd, Nat.reduceSub, Nat.reduceLeDiff, Nat.reduceBEq, l25r0]
  (first | refine awp_seq (awp_seq (awp_reg ?_)) | refine awp_seq (awp_reg ?_) | refine awp_reg ?_); simp (disch := omega) only [push_cast, List.reduceReplicate, List.length_replicate, ↓reduceIte, Nat.reduceEqDiff, Nat.reduceMul, Nat.reduceAdd, Nat.reduceSub, Nat.reduceLeDiff, Nat.reduceBEq, l25r1]
  refine pcall_step (svalidRange_ok a b c) (by simp (disch := omega) only [push_cast, List.reduceReplicate, List.length_replicate, ↓reduceIte, Nat.reduceEqDiff, Nat.reduceMul, Nat.reduceAdd, Nat.reduceSub, Nat.reduceLeDiff, Nat.reduceBEq]) ?_
  rintro _ rfl
  simp (disch := omega) only [push_cast, List.reduceReplicate, List.length_replicate, ↓reduceIte, Nat.reduceEqDiff, Nat.reduceMul, Nat.reduceAdd, Nat.reduceSub, Nat.reduceLeDiff, Nat.reduceBEq]
  cases hv : vR a b c with
  | false =>
    simp (disch := omega) only [push_cast, List.reduceReplicate, List.length_replicate, ↓reduceIte, Nat.reduceEqDiff, Nat.reduceMul, Nat.reduceAdd, Nat.reduceSub, Nat.reduceLeDiff, Nat.reduceBEq]
    refine awp_cond true rfl (fun _ => ?_) (fun h => (by cases h))
    (first | refine awp_seq (awp_seq (awp_reg ?_)) | refine awp_seq (awp_reg ?_) | refine awp_reg ?_); simp (disch := omega) only [push_cast, List.reduceReplicate, List.length_replicate, ↓reduceIte, Nat.reduceEqDiff, Nat.reduceMul, Nat.reduceAdd, Nat.reduceSub, Nat.reduceLeDiff, Nat.reduceBEq, l25r2]
    (refine awp_ret ⟨.inr rfl, _, rfl, ?_⟩; try simp (disch := omega) only [push_cast, List.reduceReplicate, List.length_replicate, ↓reduceIte, Nat.reduceEqDiff, Nat.reduceMul, Nat.reduceAdd, Nat.reduceSub, Nat.reduceLeDiff, Nat.reduceBEq])
    simp
  | true =>
    obtain ⟨ha, hb, hc, h0⟩ := vR_spec.1 hv
    have h2 := cntN_cast hv
    have h3 := cnt_bound hv
    simp (disch := omega) only [push_cast, List.reduceReplicate, List.length_replicate, ↓reduceIte, Nat.reduceEqDiff, Nat.reduceMul, Nat.reduceAdd, Nat.reduceSub, Nat.reduceLeDiff, Nat.reduceBEq]
    refine awp_cond false rfl (fun h => (by cases h)) (fun _ => awp_skip ?_); simp (disch := omega) only [push_cast, List.reduceReplicate, List.length_replicate, ↓reduceIte, Nat.reduceEqDiff, Nat.reduceMul, Nat.reduceAdd, Nat.reduceSub, Nat.reduceLeDiff, Nat.reduceBEq]
    (first | refine awp_seq (awp_seq (awp_reg ?_)) | refine awp_seq (awp_reg ?_) | refine awp_reg ?_); simp (disch := omega) only [push_cast, List.reduceReplicate, List.length_replicate, ↓reduceIte, Nat.reduceEqDiff, Nat.reduceMul, Nat.reduceAdd, Nat.reduceSub, Nat.reduceLeDiff, Nat.reduceBEq, l25r3]
    refine pcall_step (snumbers_ok a b c hv) (by simp (disch := omega) only [push_cast, List.reduceReplicate, List.length_replicate, ↓reduceIte, Nat.reduceEqDiff, Nat.reduceMul, Nat.reduceAdd, Nat.reduceSub, Nat.reduceLeDiff, Nat.reduceBEq]) ?_
    rintro _ rfl
    simp (disch := omega) only [push_cast, List.reduceReplicate, List.length_replicate, ↓reduceIte, Nat.reduceEqDiff, Nat.reduceMul, Nat.reduceAdd, Nat.reduceSub, Nat.reduceLeDiff, Nat.reduceBEq, ints, nums_length]
    refine pcall_step (snormal_ok a c (cntN a b c) h0 (by omega) (by omega) (by omega) (fun h => (by have := last_bound hv h; omega))) (by simp (disch := omega) only [push_cast, List.reduceReplicate, List.length_replicate, ↓reduceIte, Nat.reduceEqDiff, Nat.reduceMul, Nat.reduceAdd, Nat.reduceSub, Nat.reduceLeDiff, Nat.reduceBEq]) ?_
    rintro _ rfl
    rw [h2]
    obtain ⟨x, y, z, hxyz⟩ := prog3_rng a c (cntI a b c)
    rw [hxyz]
    simp (disch := omega) only [push_cast, List.reduceReplicate, List.length_replicate, ↓reduceIte, Nat.reduceEqDiff, Nat.reduceMul, Nat.reduceAdd, Nat.reduceSub, Nat.reduceLeDiff, Nat.reduceBEq]
    (refine awp_ret ⟨.inr rfl, _, rfl, ?_⟩; try simp (disch := omega) only [push_cast, List.reduceReplicate, List.length_replicate, ↓reduceIte, Nat.reduceEqDiff, Nat.reduceMul, Nat.reduceAdd, Nat.reduceSub, Nat.reduceLeDiff, Nat.reduceBEq])

theorem iNormalRange_ok (a b c : Int) : PCall Try.prog 26 [rng a b c] (fun r => r = if vR a b c = true then prog3 a c (cntI a b c) else rng 0 0 0) := by
  refine pcall_of l26_eq rfl ?_
  (first | refine awp_seq (awp_seq (awp_reg ?_)) | refine awp_seq (awp_reg ?_) | refine awp_reg ?_); simp (disch := omega) only [push_cast, List.reduceReplicate, List.length_replicate, ↓reduceIte, Nat.reduceEqDiff, Nat.reduceMul, Nat.reduceAdd, Nat.reduceSub, Nat.reduceLeDiff, Nat.reduceBEq, l26r0]
  (first | refine awp_seq (awp_seq (awp_reg ?_)) | refine awp_seq (awp_reg ?_) | refine awp_reg ?_); simp (disch := omega) only [push_cast, List.reduceReplicate, List.length_replicate, ↓reduceIte, Nat.reduceEqDiff, Nat.reduceMul, Nat.reduceAdd, Nat.reduceSub, Nat.reduceLeDiff, Nat.reduceBEq, l26r1]
  refine pcall_step (iValidRange_ok a b c) (by simp (disch := omega) only [push_cast, List.reduceReplicate, List.length_replicate, ↓reduceIte, Nat.reduceEqDiff, Nat.reduceMul, Nat.reduceAdd, Nat.reduceSub, Nat.reduceLeDiff, Nat.reduceBEq]) ?_
  rintro _ rfl
  simp (disch := omega) only [push_cast, List.reduceReplicate, List.length_replicate, ↓reduceIte, Nat.reduceEqDiff, Nat.reduceMul, Nat.reduceAdd, Nat.reduceSub, Nat.reduceLeDiff, Nat.reduceBEq]
  cases hv : vR a b c with
  | false =>
    simp (disch := omega) only [push_cast, List.reduceReplicate, List.length_replicate, ↓reduceIte, Nat.reduceEqDiff, Nat.reduceMul, Nat.reduceAdd, Nat.reduceSub, Nat.reduceLeDiff, Nat.reduceBEq]
    refine awp_cond true rfl (fun _ => ?_) (fun h => (by cases h))
    (first | refine awp_seq (awp_seq (awp_reg ?_)) | refine awp_seq (awp_reg ?_) | refine awp_reg ?_); simp (disch := omega) only [push_cast, List.reduceReplicate, List.length_replicate, ↓reduceIte, Nat.reduceEqDiff, Nat.reduceMul, Nat.reduceAdd, Nat.reduceSub, Nat.reduceLeDiff, Nat.reduceBEq, l26r2]
    (refine awp_ret ⟨.inr rfl, _, rfl, ?_⟩; try simp (disch := omega) only [push_cast, List.reduceReplicate, List.length_replicate, ↓reduceIte, Nat.reduceEqDiff, Nat.reduceMul, Nat.reduceAdd, Nat.reduceSub, Nat.reduceLeDiff, Nat.reduceBEq])
    simp
  | true =>
    simp (disch := omega) only [push_cast, List.reduceReplicate, List.length_replicate, ↓reduceIte, Nat.reduceEqDiff, Nat.reduceMul, Nat.reduceAdd, Nat.reduceSub, Nat.reduceLeDiff, Nat.reduceBEq]
    refine awp_cond false rfl (fun h => (by cases h)) (fun _ => awp_skip ?_); simp (disch := omega) only [push_cast, List.reduceReplicate, List.length_replicate, ↓reduceIte, Nat.reduceEqDiff, Nat.reduceMul, Nat.reduceAdd, Nat.reduceSub, Nat.reduceLeDiff, Nat.reduceBEq]
    (first | refine awp_seq (awp_seq (awp_reg ?_)) | refine awp_seq (awp_reg ?_) | refine awp_reg ?_); simp (disch := omega) only [push_cast, List.reduceReplicate, List.length_replicate, ↓reduceIte, Nat.reduceEqDiff, Nat.reduceMul, Nat.reduceAdd, Nat.reduceSub, Nat.reduceLeDiff, Nat.reduceBEq, l26r3]
    refine pcall_step (normal_ok a b c hv) (by simp (disch := omega) only [push_cast, List.reduceReplicate, List.length_replicate, ↓reduceIte, Nat.reduceEqDiff, Nat.reduceMul, Nat.reduceAdd, Nat.reduceSub, Nat.reduceLeDiff, Nat.reduceBEq]) ?_
    rintro _ rfl
    obtain ⟨x, y, z, hxyz⟩ := prog3_rng a c (cntI a b c)
    rw [hxyz]
    simp (disch := omega) only [push_cast, List.reduceReplicate, List.length_replicate, ↓reduceIte, Nat.reduceEqDiff, Nat.reduceMul, Nat.reduceAdd, Nat.reduceSub, Nat.reduceLeDiff, Nat.reduceBEq]
    (refine awp_ret ⟨.inr rfl, _, rfl, ?_⟩; try simp (disch := omega) only [push_cast, List.reduceReplicate, List.length_replicate, ↓reduceIte, Nat.reduceEqDiff, Nat.reduceMul, Nat.reduceAdd, Nat.reduceSub, Nat.reduceLeDiff, Nat.reduceBEq])

theorem law8_ok (a b c : Int) : PCall Try.prog 8 [rng a b c] (fun r => r = .bool true) := by
  have hag : ∃ x y z, (if vR a b c = true then prog3 a c (cntI a b c) else rng 0 0 0) = rng x y z := by
    split
    · exact prog3_rng _ _ _
    · exact ⟨_, _, _, rfl⟩
  obtain ⟨x, y, z, hxyz⟩ := hag
  refine pcall_of l8_eq rfl ?_
  (first | refine awp_seq (awp_seq (awp_reg ?_)) | refine awp_seq (awp_reg ?_) | refine awp_reg ?_); simp (disch := omega) only [push_cast, List.reduceReplicate, List.length_replicate, ↓reduceIte, Nat.reduceEqDiff, Nat.reduceMul, Nat.reduceAdd, Nat.reduceSub, Nat.reduceLeDiff, Nat.reduceBEq, l8r0]
  (first | refine awp_seq (awp_seq (awp_reg ?_)) | refine awp_seq (awp_reg ?_) | refine awp_reg ?_); simp (disch := omega) only [push_cast, List.reduceReplicate, List.length_replicate, ↓reduceIte, Nat.reduceEqDiff, Nat.reduceMul, Nat.reduceAdd, Nat.reduceSub, Nat.reduceLeDiff, Nat.reduceBEq, l8r1]
  refine pcall_step (toRange_ok a b c) (by simp (disch := omega) only [push_cast, List.reduceReplicate, List.length_replicate, ↓reduceIte, Nat.reduceEqDiff, Nat.reduceMul, Nat.reduceAdd, Nat.reduceSub, Nat.reduceLeDiff, Nat.reduceBEq]) ?_
  rintro _ rfl
  simp (disch := omega) only [push_cast, List.reduceReplicate, List.length_replicate, ↓reduceIte, Nat.reduceEqDiff, Nat.reduceMul, Nat.reduceAdd, Nat.reduceSub, Nat.reduceLeDiff, Nat.reduceBEq]
  refine pcall_step (sNormalRange_ok a b c) (by simp (disch := omega) only [push_cast, List.reduceReplicate, List.length_replicate, ↓reduceIte, Nat.reduceEqDiff, Nat.reduceMul, Nat.reduceAdd, Nat.reduceSub, Nat.reduceLeDiff, Nat.reduceBEq]) ?_
  rintro _ rfl
  rw [hxyz]
  simp (disch := omega) only [push_cast, List.reduceReplicate, List.length_replicate, ↓reduceIte, Nat.reduceEqDiff, Nat.reduceMul, Nat.reduceAdd, Nat.reduceSub, Nat.reduceLeDiff, Nat.reduceBEq]
  (first | refine awp_seq (awp_seq (awp_reg ?_)) | refine awp_seq (awp_reg ?_) | refine awp_reg ?_); simp (disch := omega) only [push_cast, List.reduceReplicate, List.length_replicate, ↓reduceIte, Nat.reduceEqDiff, Nat.reduceMul, Nat.reduceAdd, Nat.reduceSub, Nat.reduceLeDiff, Nat.reduceBEq, l8r2]
  refine pcall_step (toRange_ok a b c) (by simp (disch := omega) only [push_cast, List.reduceReplicate, List.length_replicate, ↓reduceIte, Nat.reduceEqDiff, Nat.reduceMul, Nat.reduceAdd, Nat.reduceSub, Nat.reduceLeDiff, Nat.reduceBEq]) ?_
  rintro _ rfl
  simp (disch := omega) only [push_cast, List.reduceReplicate, List.length_replicate, ↓reduceIte, Nat.reduceEqDiff, Nat.reduceMul, Nat.reduceAdd, Nat.reduceSub, Nat.reduceLeDiff, Nat.reduceBEq]
  refine pcall_step (iNormalRange_ok a b c) (by simp (disch := omega) only [push_cast, List.reduceReplicate, List.length_replicate, ↓reduceIte, Nat.reduceEqDiff, Nat.reduceMul, Nat.reduceAdd, Nat.reduceSub, Nat.reduceLeDiff, Nat.reduceBEq]) ?_
  rintro _ rfl
  rw [hxyz]
  simp (disch := omega) only [push_cast, List.reduceReplicate, List.length_replicate, ↓reduceIte, Nat.reduceEqDiff, Nat.reduceMul, Nat.reduceAdd, Nat.reduceSub, Nat.reduceLeDiff, Nat.reduceBEq]
  (first | refine awp_seq (awp_seq (awp_reg ?_)) | refine awp_seq (awp_reg ?_) | refine awp_reg ?_); simp (disch := omega) only [push_cast, List.reduceReplicate, List.length_replicate, ↓reduceIte, Nat.reduceEqDiff, Nat.reduceMul, Nat.reduceAdd, Nat.reduceSub, Nat.reduceLeDiff, Nat.reduceBEq, l8r3]
  refine pcall_step (eqRange_ok x y z) (by simp (disch := omega) only [push_cast, List.reduceReplicate, List.length_replicate, ↓reduceIte, Nat.reduceEqDiff, Nat.reduceMul, Nat.reduceAdd, Nat.reduceSub, Nat.reduceLeDiff, Nat.reduceBEq]) ?_
  rintro _ rfl
  simp (disch := omega) only [push_cast, List.reduceReplicate, List.length_replicate, ↓reduceIte, Nat.reduceEqDiff, Nat.reduceMul, Nat.reduceAdd, Nat.reduceSub, Nat.reduceLeDiff, Nat.reduceBEq]
  refine awp_cond false rfl (fun h => (by cases h)) (fun _ => awp_skip ?_); simp (disch := omega) only [push_cast, List.reduceReplicate, List.length_replicate, ↓reduceIte, Nat.reduceEqDiff, Nat.reduceMul, Nat.reduceAdd, Nat.reduceSub, Nat.reduceLeDiff, Nat.reduceBEq]
  (first | refine awp_seq (awp_seq (awp_reg ?_)) | refine awp_seq (awp_reg ?_) | refine awp_reg ?_); simp (disch := omega) only [push_cast, List.reduceReplicate, List.length_replicate, ↓reduceIte, Nat.reduceEqDiff, Nat.reduceMul, Nat.reduceAdd, Nat.reduceSub, Nat.reduceLeDiff, Nat.reduceBEq, l8r5]
  (refine awp_ret ⟨.inr rfl, _, rfl, ?_⟩; try simp (disch := omega) only [push_cast, List.reduceReplicate, List.length_replicate, ↓reduceIte, Nat.reduceEqDiff, Nat.reduceMul, Nat.reduceAdd, Nat.reduceSub, Nat.reduceLeDiff, Nat.reduceBEq])
end Go.Proofs.Ytigcjdblggjmjaa
