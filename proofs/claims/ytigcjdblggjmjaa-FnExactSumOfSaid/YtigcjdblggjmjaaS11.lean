import Derived.Test.YtigcjdblggjmjaaS10
namespace Go.Proofs.Ytigcjdblggjmjaa
open Vw Go
set_option linter.unusedSimpArgs false
set_option linter.unusedVariables false

/-- The place of a number in a list of them. -/
def Placed (a c : Int) (n : Nat) (x : Int) (r : AV) : Prop := (∃ k : Nat, k < n ∧ a + (k : Int) * c = x ∧ r = .int .i64 k) ∨ ((∀ k : Nat, k < n → a + (k : Int) * c ≠ x) ∧ r = .int .i64 (-1))

theorem Placed.one {a c x : Int} {n : Nat} {r r' : AV} (h0 : c ≠ 0) (h : Placed a c n x r) (h' : Placed a c n x r') : r = r' := by
  rcases h with ⟨k, h1, h2, rfl⟩ | ⟨h1, rfl⟩ <;> rcases h' with ⟨k', h3, h4, rfl⟩ | ⟨h3, rfl⟩
  · have : (k : Int) * c = (k' : Int) * c := by omega
    have := Int.eq_of_mul_eq_mul_right h0 this
    rw [this]
  · exact absurd h2 (h3 k h1)
  · exact absurd h4 (h1 k' h3)
  · rfl

theorem placeIn_ok (a c x : Int) (n : Nat) (hn : n ≤ 1000) : PCall Try.prog 40 [.rows false ((nums a c n).map (AV.int .i64)) n, .int .i64 x] (Placed a c n x) := by
  refine pcall_of l40_eq rfl ?_
  (first | refine awp_seq (awp_seq (awp_reg ?_)) | refine awp_seq (awp_reg ?_) | refine awp_reg ?_); simp (disch := omega) only [push_cast, List.reduceReplicate, List.length_replicate, ↓reduceIte, Nat.reduceEqDiff, Nat.reduceMul, Nat.reduceAdd, Nat.reduceSub, Nat.reduceLeDiff, Nat.reduceBEq, l40r0]
  (first | refine awp_seq (awp_seq (awp_reg ?_)) | refine awp_seq (awp_reg ?_) | refine awp_reg ?_); simp (disch := omega) only [push_cast, List.reduceReplicate, List.length_replicate, ↓reduceIte, Nat.reduceEqDiff, Nat.reduceMul, Nat.reduceAdd, Nat.reduceSub, Nat.reduceLeDiff, Nat.reduceBEq, l40r1]
  refine awp_block ?_
  refine awp_loop (fun k : Nat => mkS [(0, .rows false ((nums a c n).map (AV.int .i64)) n), (1, .int .i64 x), (5, .int .i64 k)] [])
    (fun k => k ≤ n ∧ ∀ j : Nat, j < k → a + (j : Int) * c ≠ x) (fun k => n - k) 0 ⟨Nat.zero_le _, fun j h => absurd h (Nat.not_lt_zero _)⟩ ?_ ?_
  · (refine Sub.of_lists ?_ ?_ ?_ ?_ ?_ <;> simp [Vw.mkS, Vw.lk, Vw.hk, AV.inn, innL, innL_ints, innL_append])
  · rintro k ⟨hk, hno⟩
    refine awp_seq (awp_seq (awp_reg ?_))
    by_cases hlt : k < n
    · have ht : (k : Int) < n := by omega
      have gl : (nums a c n).getD k 0 = a + (k : Int) * c := nums_getD a c n _ hlt
      simp (disch := omega) only [push_cast, List.reduceReplicate, List.length_replicate, ↓reduceIte, Nat.reduceEqDiff, Nat.reduceMul, Nat.reduceAdd, Nat.reduceSub, Nat.reduceLeDiff, Nat.reduceBEq, l40r2, ht]
      refine awp_cond true rfl (fun _ => ?_) (fun h => (by cases h))
      refine awp_skip ?_
      simp (disch := omega) only [push_cast, List.reduceReplicate, List.length_replicate, ↓reduceIte, Nat.reduceEqDiff, Nat.reduceMul, Nat.reduceAdd, Nat.reduceSub, Nat.reduceLeDiff, Nat.reduceBEq]
      refine awp_seq (awp_block ?_)
      (first | refine awp_seq (awp_seq (awp_reg ?_)) | refine awp_seq (awp_reg ?_) | refine awp_reg ?_); simp (disch := omega) only [push_cast, List.reduceReplicate, List.length_replicate, ↓reduceIte, Nat.reduceEqDiff, Nat.reduceMul, Nat.reduceAdd, Nat.reduceSub, Nat.reduceLeDiff, Nat.reduceBEq, l40r3, mkAV_ints, nums_length, gl, hlt]
      by_cases hx : a + (k : Int) * c = x
      · refine awp_cond true (by simp only [hx]; simp (disch := omega) only [push_cast, List.reduceReplicate, List.length_replicate, ↓reduceIte, Nat.reduceEqDiff, Nat.reduceMul, Nat.reduceAdd, Nat.reduceSub, Nat.reduceLeDiff, Nat.reduceBEq]) (fun _ => ?_) (fun h => (by cases h))
        (first | refine awp_seq (awp_seq (awp_reg ?_)) | refine awp_seq (awp_reg ?_) | refine awp_reg ?_); simp (disch := omega) only [push_cast, List.reduceReplicate, List.length_replicate, ↓reduceIte, Nat.reduceEqDiff, Nat.reduceMul, Nat.reduceAdd, Nat.reduceSub, Nat.reduceLeDiff, Nat.reduceBEq, l40r4]
        (refine awp_ret ⟨.inr rfl, _, rfl, ?_⟩; try simp (disch := omega) only [push_cast, List.reduceReplicate, List.length_replicate, ↓reduceIte, Nat.reduceEqDiff, Nat.reduceMul, Nat.reduceAdd, Nat.reduceSub, Nat.reduceLeDiff, Nat.reduceBEq])
        exact .inl ⟨k, hlt, hx, rfl⟩
      · refine awp_cond false (by simp only [hx]; simp (disch := omega) only [push_cast, List.reduceReplicate, List.length_replicate, ↓reduceIte, Nat.reduceEqDiff, Nat.reduceMul, Nat.reduceAdd, Nat.reduceSub, Nat.reduceLeDiff, Nat.reduceBEq]) (fun h => (by cases h)) (fun _ => awp_skip ?_)
        simp (disch := omega) only [push_cast, List.reduceReplicate, List.length_replicate, ↓reduceIte, Nat.reduceEqDiff, Nat.reduceMul, Nat.reduceAdd, Nat.reduceSub, Nat.reduceLeDiff, Nat.reduceBEq]
        (first | refine awp_seq (awp_seq (awp_reg ?_)) | refine awp_seq (awp_reg ?_) | refine awp_reg ?_); simp (disch := omega) only [push_cast, List.reduceReplicate, List.length_replicate, ↓reduceIte, Nat.reduceEqDiff, Nat.reduceMul, Nat.reduceAdd, Nat.reduceSub, Nat.reduceLeDiff, Nat.reduceBEq, l40r5]
        refine ⟨k + 1, ⟨by omega, fun j hj => ?_⟩, by omega, ?_⟩
        · by_cases hjk : j = k
          · subst hjk; exact hx
          · exact hno j (by omega)
        · (refine Sub.of_lists ?_ ?_ ?_ ?_ ?_ <;> simp [Vw.mkS, Vw.lk, Vw.hk, AV.inn, innL, innL_ints, innL_append])
    · have ht : ¬ (k : Int) < n := by omega
      have hk' : k = n := by omega
      simp (disch := omega) only [push_cast, List.reduceReplicate, List.length_replicate, ↓reduceIte, Nat.reduceEqDiff, Nat.reduceMul, Nat.reduceAdd, Nat.reduceSub, Nat.reduceLeDiff, Nat.reduceBEq, l40r2, ht]
      refine awp_cond false rfl (fun h => (by cases h)) (fun _ => awp_exit ?_)
      simp (disch := omega) only [push_cast, List.reduceReplicate, List.length_replicate, ↓reduceIte, Nat.reduceEqDiff, Nat.reduceMul, Nat.reduceAdd, Nat.reduceSub, Nat.reduceLeDiff, Nat.reduceBEq]
      (first | refine awp_seq (awp_seq (awp_reg ?_)) | refine awp_seq (awp_reg ?_) | refine awp_reg ?_); simp (disch := omega) only [push_cast, List.reduceReplicate, List.length_replicate, ↓reduceIte, Nat.reduceEqDiff, Nat.reduceMul, Nat.reduceAdd, Nat.reduceSub, Nat.reduceLeDiff, Nat.reduceBEq, l40r6]
      (refine awp_ret ⟨.inr rfl, _, rfl, ?_⟩; try simp (disch := omega) only [push_cast, List.reduceReplicate, List.length_replicate, ↓reduceIte, Nat.reduceEqDiff, Nat.reduceMul, Nat.reduceAdd, Nat.reduceSub, Nat.reduceLeDiff, Nat.reduceBEq])
      exact .inr ⟨fun j hj => hno j (by omega), rfl⟩

theorem place_ok (a b c x : Int) (hv : vR a b c = true) : PCall Try.prog 41 [rng a b c, .int .i64 x] (Placed a c (cntN a b c) x) := by
  obtain ⟨ha, hb, hc, h0⟩ := vR_spec.1 hv
  have h2 := cntN_cast hv
  refine pcall_of l41_eq rfl ?_
  (first | refine awp_seq (awp_seq (awp_reg ?_)) | refine awp_seq (awp_reg ?_) | refine awp_reg ?_); simp (disch := omega) only [push_cast, List.reduceReplicate, List.length_replicate, ↓reduceIte, Nat.reduceEqDiff, Nat.reduceMul, Nat.reduceAdd, Nat.reduceSub, Nat.reduceLeDiff, Nat.reduceBEq, l41r0]
  (first | refine awp_seq (awp_seq (awp_reg ?_)) | refine awp_seq (awp_reg ?_) | refine awp_reg ?_); simp (disch := omega) only [push_cast, List.reduceReplicate, List.length_replicate, ↓reduceIte, Nat.reduceEqDiff, Nat.reduceMul, Nat.reduceAdd, Nat.reduceSub, Nat.reduceLeDiff, Nat.reduceBEq, l41r1]
  refine pcall_step (within_ok x 100 (by omega) (by omega)) (by simp (disch := omega) only [push_cast, List.reduceReplicate, List.length_replicate, ↓reduceIte, Nat.reduceEqDiff, Nat.reduceMul, Nat.reduceAdd, Nat.reduceSub, Nat.reduceLeDiff, Nat.reduceBEq]) ?_
  rintro _ rfl
  simp (disch := omega) only [push_cast, List.reduceReplicate, List.length_replicate, ↓reduceIte, Nat.reduceEqDiff, Nat.reduceMul, Nat.reduceAdd, Nat.reduceSub, Nat.reduceLeDiff, Nat.reduceBEq]
  by_cases hx : -100 ≤ x ∧ x ≤ 100
  · have hx1 := hx.1
    have hx2 := hx.2
    simp only [hx1, hx2]
    simp (disch := omega) only [push_cast, List.reduceReplicate, List.length_replicate, ↓reduceIte, Nat.reduceEqDiff, Nat.reduceMul, Nat.reduceAdd, Nat.reduceSub, Nat.reduceLeDiff, Nat.reduceBEq]
    by_cases hr : (x - a).tmod c = 0
    · have hd : (x - a).tdiv c * c = x - a := by
        have := Int.mul_tdiv_add_tmod (x - a) c
        rw [Int.mul_comm]
        omega
      have hq : -200 ≤ (x - a).tdiv c ∧ (x - a).tdiv c ≤ 200 := by
        have h5 : ((x - a).tdiv c).natAbs ≤ (x - a).natAbs := by rw [Int.natAbs_tdiv]; exact Nat.div_le_self _ _
        omega
      simp only [hr]
      simp (disch := omega) only [push_cast, List.reduceReplicate, List.length_replicate, ↓reduceIte, Nat.reduceEqDiff, Nat.reduceMul, Nat.reduceAdd, Nat.reduceSub, Nat.reduceLeDiff, Nat.reduceBEq]
      refine awp_cond false rfl (fun h => (by cases h)) (fun _ => awp_skip ?_)
      simp (disch := omega) only [push_cast, List.reduceReplicate, List.length_replicate, ↓reduceIte, Nat.reduceEqDiff, Nat.reduceMul, Nat.reduceAdd, Nat.reduceSub, Nat.reduceLeDiff, Nat.reduceBEq]
      (first | refine awp_seq (awp_seq (awp_reg ?_)) | refine awp_seq (awp_reg ?_) | refine awp_reg ?_); simp (disch := omega) only [push_cast, List.reduceReplicate, List.length_replicate, ↓reduceIte, Nat.reduceEqDiff, Nat.reduceMul, Nat.reduceAdd, Nat.reduceSub, Nat.reduceLeDiff, Nat.reduceBEq, l41r3]
      (first | refine awp_seq (awp_seq (awp_reg ?_)) | refine awp_seq (awp_reg ?_) | refine awp_reg ?_); simp (disch := omega) only [push_cast, List.reduceReplicate, List.length_replicate, ↓reduceIte, Nat.reduceEqDiff, Nat.reduceMul, Nat.reduceAdd, Nat.reduceSub, Nat.reduceLeDiff, Nat.reduceBEq, l41r4]
      by_cases hneg : (x - a).tdiv c < 0
      · simp only [hneg]
        simp (disch := omega) only [push_cast, List.reduceReplicate, List.length_replicate, ↓reduceIte, Nat.reduceEqDiff, Nat.reduceMul, Nat.reduceAdd, Nat.reduceSub, Nat.reduceLeDiff, Nat.reduceBEq]
        refine awp_cond true rfl (fun _ => ?_) (fun h => (by cases h))
        (first | refine awp_seq (awp_seq (awp_reg ?_)) | refine awp_seq (awp_reg ?_) | refine awp_reg ?_); simp (disch := omega) only [push_cast, List.reduceReplicate, List.length_replicate, ↓reduceIte, Nat.reduceEqDiff, Nat.reduceMul, Nat.reduceAdd, Nat.reduceSub, Nat.reduceLeDiff, Nat.reduceBEq, l41r5]
        (refine awp_ret ⟨.inr rfl, _, rfl, ?_⟩; try simp (disch := omega) only [push_cast, List.reduceReplicate, List.length_replicate, ↓reduceIte, Nat.reduceEqDiff, Nat.reduceMul, Nat.reduceAdd, Nat.reduceSub, Nat.reduceLeDiff, Nat.reduceBEq])
        refine .inr ⟨fun k hk hkx => ?_, rfl⟩
        have : (k : Int) * c = (x - a).tdiv c * c := by omega
        have := Int.eq_of_mul_eq_mul_right h0 this
        omega
      · simp only [hneg]
        simp (disch := omega) only [push_cast, List.reduceReplicate, List.length_replicate, ↓reduceIte, Nat.reduceEqDiff, Nat.reduceMul, Nat.reduceAdd, Nat.reduceSub, Nat.reduceLeDiff, Nat.reduceBEq]
        refine pcall_step (count_ok a b c hv) (by simp (disch := omega) only [push_cast, List.reduceReplicate, List.length_replicate, ↓reduceIte, Nat.reduceEqDiff, Nat.reduceMul, Nat.reduceAdd, Nat.reduceSub, Nat.reduceLeDiff, Nat.reduceBEq]) ?_
        rintro _ rfl
        simp (disch := omega) only [push_cast, List.reduceReplicate, List.length_replicate, ↓reduceIte, Nat.reduceEqDiff, Nat.reduceMul, Nat.reduceAdd, Nat.reduceSub, Nat.reduceLeDiff, Nat.reduceBEq]
        by_cases hge : cntI a b c ≤ (x - a).tdiv c
        · simp only [hge]
          simp (disch := omega) only [push_cast, List.reduceReplicate, List.length_replicate, ↓reduceIte, Nat.reduceEqDiff, Nat.reduceMul, Nat.reduceAdd, Nat.reduceSub, Nat.reduceLeDiff, Nat.reduceBEq]
          refine awp_cond true rfl (fun _ => ?_) (fun h => (by cases h))
          (first | refine awp_seq (awp_seq (awp_reg ?_)) | refine awp_seq (awp_reg ?_) | refine awp_reg ?_); simp (disch := omega) only [push_cast, List.reduceReplicate, List.length_replicate, ↓reduceIte, Nat.reduceEqDiff, Nat.reduceMul, Nat.reduceAdd, Nat.reduceSub, Nat.reduceLeDiff, Nat.reduceBEq, l41r5]
          (refine awp_ret ⟨.inr rfl, _, rfl, ?_⟩; try simp (disch := omega) only [push_cast, List.reduceReplicate, List.length_replicate, ↓reduceIte, Nat.reduceEqDiff, Nat.reduceMul, Nat.reduceAdd, Nat.reduceSub, Nat.reduceLeDiff, Nat.reduceBEq])
          refine .inr ⟨fun k hk hkx => ?_, rfl⟩
          have : (k : Int) * c = (x - a).tdiv c * c := by omega
          have := Int.eq_of_mul_eq_mul_right h0 this
          omega
        · simp only [hge]
          simp (disch := omega) only [push_cast, List.reduceReplicate, List.length_replicate, ↓reduceIte, Nat.reduceEqDiff, Nat.reduceMul, Nat.reduceAdd, Nat.reduceSub, Nat.reduceLeDiff, Nat.reduceBEq]
          refine awp_cond false rfl (fun h => (by cases h)) (fun _ => awp_skip ?_); simp (disch := omega) only [push_cast, List.reduceReplicate, List.length_replicate, ↓reduceIte, Nat.reduceEqDiff, Nat.reduceMul, Nat.reduceAdd, Nat.reduceSub, Nat.reduceLeDiff, Nat.reduceBEq]
          (first | refine awp_seq (awp_seq (awp_reg ?_)) | refine awp_seq (awp_reg ?_) | refine awp_reg ?_); simp (disch := omega) only [push_cast, List.reduceReplicate, List.length_replicate, ↓reduceIte, Nat.reduceEqDiff, Nat.reduceMul, Nat.reduceAdd, Nat.reduceSub, Nat.reduceLeDiff, Nat.reduceBEq, l41r6]
          (refine awp_ret ⟨.inr rfl, _, rfl, ?_⟩; try simp (disch := omega) only [push_cast, List.reduceReplicate, List.length_replicate, ↓reduceIte, Nat.reduceEqDiff, Nat.reduceMul, Nat.reduceAdd, Nat.reduceSub, Nat.reduceLeDiff, Nat.reduceBEq])
          refine .inl ⟨((x - a).tdiv c).toNat, by omega, ?_, ?_⟩
          · rw [show ((((x - a).tdiv c).toNat : Nat) : Int) = (x - a).tdiv c by omega, hd]
            omega
          · rw [show ((((x - a).tdiv c).toNat : Nat) : Int) = (x - a).tdiv c by omega]
    · simp only [hr]
      simp (disch := omega) only [push_cast, List.reduceReplicate, List.length_replicate, ↓reduceIte, Nat.reduceEqDiff, Nat.reduceMul, Nat.reduceAdd, Nat.reduceSub, Nat.reduceLeDiff, Nat.reduceBEq]
      refine awp_cond true rfl (fun _ => ?_) (fun h => (by cases h))
      (first | refine awp_seq (awp_seq (awp_reg ?_)) | refine awp_seq (awp_reg ?_) | refine awp_reg ?_); simp (disch := omega) only [push_cast, List.reduceReplicate, List.length_replicate, ↓reduceIte, Nat.reduceEqDiff, Nat.reduceMul, Nat.reduceAdd, Nat.reduceSub, Nat.reduceLeDiff, Nat.reduceBEq, l41r2]
      (refine awp_ret ⟨.inr rfl, _, rfl, ?_⟩; try simp (disch := omega) only [push_cast, List.reduceReplicate, List.length_replicate, ↓reduceIte, Nat.reduceEqDiff, Nat.reduceMul, Nat.reduceAdd, Nat.reduceSub, Nat.reduceLeDiff, Nat.reduceBEq])
      refine .inr ⟨fun k hk hkx => hr ?_, rfl⟩
      rw [show x - a = (k : Int) * c by omega]
      exact Int.mul_tmod_left _ _
  · have hw : (decide (-100 ≤ x) && decide (x ≤ 100)) = false := by
      rw [Bool.and_eq_false_iff]
      by_cases h1 : -100 ≤ x
      · exact .inr (by simp; omega)
      · exact .inl (by simpa using h1)
    rw [hw]
    simp (disch := omega) only [push_cast, List.reduceReplicate, List.length_replicate, ↓reduceIte, Nat.reduceEqDiff, Nat.reduceMul, Nat.reduceAdd, Nat.reduceSub, Nat.reduceLeDiff, Nat.reduceBEq]
    refine awp_cond true rfl (fun _ => ?_) (fun h => (by cases h))
    (first | refine awp_seq (awp_seq (awp_reg ?_)) | refine awp_seq (awp_reg ?_) | refine awp_reg ?_); simp (disch := omega) only [push_cast, List.reduceReplicate, List.length_replicate, ↓reduceIte, Nat.reduceEqDiff, Nat.reduceMul, Nat.reduceAdd, Nat.reduceSub, Nat.reduceLeDiff, Nat.reduceBEq, l41r2]
    (refine awp_ret ⟨.inr rfl, _, rfl, ?_⟩; try simp (disch := omega) only [push_cast, List.reduceReplicate, List.length_replicate, ↓reduceIte, Nat.reduceEqDiff, Nat.reduceMul, Nat.reduceAdd, Nat.reduceSub, Nat.reduceLeDiff, Nat.reduceBEq])
    refine .inr ⟨fun k hk hkx => hx ?_, rfl⟩
    have := num_bound hv hk
    omega

def PlaceAt (a b c x : Int) (r : AV) : Prop := if vR a b c = true then Placed a c (cntN a b c) x r else r = .int .i64 (-1)

theorem PlaceAt.one {a b c x : Int} {r r' : AV} (h : PlaceAt a b c x r) (h' : PlaceAt a b c x r') : r = r' := by
  unfold PlaceAt at *
  by_cases hv : vR a b c = true
  · rw [if_pos hv] at h h'
    exact h.one (vR_spec.1 hv).2.2.2 h'
  · rw [if_neg hv] at h h'
    rw [h, h']

theorem PlaceAt.int {a b c x : Int} {r : AV} (h : PlaceAt a b c x r) : ∃ k : Int, r = .int .i64 k := by
  unfold PlaceAt at h
  split at h
  · rcases h with ⟨k, _, _, h⟩ | ⟨_, h⟩ <;> exact ⟨_, h⟩
  · exact ⟨_, h⟩

theorem sPlaceOf_ok (a b c x : Int) : PCall Try.prog 23 [rng a b c, .int .i64 x] (PlaceAt a b c x) := by
  refine pcall_of l23_eq rfl ?_
  (first | refine awp_seq (awp_seq (awp_reg ?_)) | refine awp_seq (awp_reg ?_) | refine awp_reg ?_); simp (disch := omega) only [push_cast, List.reduceReplicate, List.length_replicate, ↓reduceIte, Nat.reduceEqDiff, Nat.reduceMul, Nat.reduceAdd, Nat.reduceSub, Nat.reduceLeDiff, Nat.reduceBEq, l23r0]
  (first | refine awp_seq (awp_seq (awp_reg ?_)) | refine awp_seq (awp_reg ?_) | refine awp_reg ?_); simp (disch := omega) only [push_cast, List.reduceReplicate, List.length_replicate, ↓reduceIte, Nat.reduceEqDiff, Nat.reduceMul, Nat.reduceAdd, Nat.reduceSub, Nat.reduceLeDiff, Nat.reduceBEq, l23r1]
  refine pcall_step (svalidRange_ok a b c) (by simp (disch := omega) only [push_cast, List.reduceReplicate, List.length_replicate, ↓reduceIte, Nat.reduceEqDiff, Nat.reduceMul, Nat.reduceAdd, Nat.reduceSub, Nat.reduceLeDiff, Nat.reduceBEq]) ?_
  rintro _ rfl
  simp (disch := omega) only [push_cast, List.reduceReplicate, List.length_replicate, ↓reduceIte, Nat.reduceEqDiff, Nat.reduceMul, Nat.reduceAdd, Nat.reduceSub, Nat.reduceLeDiff, Nat.reduceBEq]
  unfold PlaceAt
  cases hv : vR a b c with
  | false =>
    simp (disch := omega) only [push_cast, List.reduceReplicate, List.length_replicate, ↓reduceIte, Nat.reduceEqDiff, Nat.reduceMul, Nat.reduceAdd, Nat.reduceSub, Nat.reduceLeDiff, Nat.reduceBEq]
    refine awp_cond true rfl (fun _ => ?_) (fun h => (by cases h))
    (first | refine awp_seq (awp_seq (awp_reg ?_)) | refine awp_seq (awp_reg ?_) | refine awp_reg ?_); simp (disch := omega) only [push_cast, List.reduceReplicate, List.length_replicate, ↓reduceIte, Nat.reduceEqDiff, Nat.reduceMul, Nat.reduceAdd, Nat.reduceSub, Nat.reduceLeDiff, Nat.reduceBEq, l23r2]
    (refine awp_ret ⟨.inr rfl, _, rfl, ?_⟩; try simp (disch := omega) only [push_cast, List.reduceReplicate, List.length_replicate, ↓reduceIte, Nat.reduceEqDiff, Nat.reduceMul, Nat.reduceAdd, Nat.reduceSub, Nat.reduceLeDiff, Nat.reduceBEq])
    simp
  | true =>
    have h2 := cntN_cast hv
    have h3 := cnt_bound hv
    simp (disch := omega) only [push_cast, List.reduceReplicate, List.length_replicate, ↓reduceIte, Nat.reduceEqDiff, Nat.reduceMul, Nat.reduceAdd, Nat.reduceSub, Nat.reduceLeDiff, Nat.reduceBEq]
    refine awp_cond false rfl (fun h => (by cases h)) (fun _ => awp_skip ?_); simp (disch := omega) only [push_cast, List.reduceReplicate, List.length_replicate, ↓reduceIte, Nat.reduceEqDiff, Nat.reduceMul, Nat.reduceAdd, Nat.reduceSub, Nat.reduceLeDiff, Nat.reduceBEq]
    (first | refine awp_seq (awp_seq (awp_reg ?_)) | refine awp_seq (awp_reg ?_) | refine awp_reg ?_); simp (disch := omega) only [push_cast, List.reduceReplicate, List.length_replicate, ↓reduceIte, Nat.reduceEqDiff, Nat.reduceMul, Nat.reduceAdd, Nat.reduceSub, Nat.reduceLeDiff, Nat.reduceBEq, l23r3]
    refine pcall_step (snumbers_ok a b c hv) (by simp (disch := omega) only [push_cast, List.reduceReplicate, List.length_replicate, ↓reduceIte, Nat.reduceEqDiff, Nat.reduceMul, Nat.reduceAdd, Nat.reduceSub, Nat.reduceLeDiff, Nat.reduceBEq]) ?_
    rintro _ rfl
    simp (disch := omega) only [push_cast, List.reduceReplicate, List.length_replicate, ↓reduceIte, Nat.reduceEqDiff, Nat.reduceMul, Nat.reduceAdd, Nat.reduceSub, Nat.reduceLeDiff, Nat.reduceBEq, ints, nums_length]
    refine pcall_step (placeIn_ok a c x (cntN a b c) (by omega)) (by simp (disch := omega) only [push_cast, List.reduceReplicate, List.length_replicate, ↓reduceIte, Nat.reduceEqDiff, Nat.reduceMul, Nat.reduceAdd, Nat.reduceSub, Nat.reduceLeDiff, Nat.reduceBEq]) ?_
    intro r hr
    have hk : ∃ k : Int, r = .int .i64 k := by rcases hr with ⟨k, _, _, h⟩ | ⟨_, h⟩ <;> exact ⟨_, h⟩
    obtain ⟨k, rfl⟩ := hk
    simp (disch := omega) only [push_cast, List.reduceReplicate, List.length_replicate, ↓reduceIte, Nat.reduceEqDiff, Nat.reduceMul, Nat.reduceAdd, Nat.reduceSub, Nat.reduceLeDiff, Nat.reduceBEq]
    (refine awp_ret ⟨.inr rfl, _, rfl, ?_⟩; try simp (disch := omega) only [push_cast, List.reduceReplicate, List.length_replicate, ↓reduceIte, Nat.reduceEqDiff, Nat.reduceMul, Nat.reduceAdd, Nat.reduceSub, Nat.reduceLeDiff, Nat.reduceBEq])
    exact hr

theorem iPlaceOf_ok (a b c x : Int) : PCall Try.prog 24 [rng a b c, .int .i64 x] (PlaceAt a b c x) := by
  refine pcall_of l24_eq rfl ?_
  (first | refine awp_seq (awp_seq (awp_reg ?_)) | refine awp_seq (awp_reg ?_) | refine awp_reg ?_); simp (disch := omega) only [push_cast, List.reduceReplicate, List.length_replicate, ↓reduceIte, Nat.reduceEqDiff, Nat.reduceMul, Nat.reduceAdd, Nat.reduceSub, Nat.reduceLeDiff, Nat.reduceBEq, l24r0]
  (first | refine awp_seq (awp_seq (awp_reg ?_)) | refine awp_seq (awp_reg ?_) | refine awp_reg ?_); simp (disch := omega) only [push_cast, List.reduceReplicate, List.length_replicate, ↓reduceIte, Nat.reduceEqDiff, Nat.reduceMul, Nat.reduceAdd, Nat.reduceSub, Nat.reduceLeDiff, Nat.reduceBEq, l24r1]
  refine pcall_step (iValidRange_ok a b c) (by simp (disch := omega) only [push_cast, List.reduceReplicate, List.length_replicate, ↓reduceIte, Nat.reduceEqDiff, Nat.reduceMul, Nat.reduceAdd, Nat.reduceSub, Nat.reduceLeDiff, Nat.reduceBEq]) ?_
  rintro _ rfl
  simp (disch := omega) only [push_cast, List.reduceReplicate, List.length_replicate, ↓reduceIte, Nat.reduceEqDiff, Nat.reduceMul, Nat.reduceAdd, Nat.reduceSub, Nat.reduceLeDiff, Nat.reduceBEq]
  unfold PlaceAt
  cases hv : vR a b c with
  | false =>
    simp (disch := omega) only [push_cast, List.reduceReplicate, List.length_replicate, ↓reduceIte, Nat.reduceEqDiff, Nat.reduceMul, Nat.reduceAdd, Nat.reduceSub, Nat.reduceLeDiff, Nat.reduceBEq]
    refine awp_cond true rfl (fun _ => ?_) (fun h => (by cases h))
    (first | refine awp_seq (awp_seq (awp_reg ?_)) | refine awp_seq (awp_reg ?_) | refine awp_reg ?_); simp (disch := omega) only [push_cast, List.reduceReplicate, List.length_replicate, ↓reduceIte, Nat.reduceEqDiff, Nat.reduceMul, Nat.reduceAdd, Nat.reduceSub, Nat.reduceLeDiff, Nat.reduceBEq, l24r2]
    (refine awp_ret ⟨.inr rfl, _, rfl, ?_⟩; try simp (disch := omega) only [push_cast, List.reduceReplicate, List.length_replicate, ↓reduceIte, Nat.reduceEqDiff, Nat.reduceMul, Nat.reduceAdd, Nat.reduceSub, Nat.reduceLeDiff, Nat.reduceBEq])
    simp
  | true =>
    simp (disch := omega) only [push_cast, List.reduceReplicate, List.length_replicate, ↓reduceIte, Nat.reduceEqDiff, Nat.reduceMul, Nat.reduceAdd, Nat.reduceSub, Nat.reduceLeDiff, Nat.reduceBEq]
    refine awp_cond false rfl (fun h => (by cases h)) (fun _ => awp_skip ?_); simp (disch := omega) only [push_cast, List.reduceReplicate, List.length_replicate, ↓reduceIte, Nat.reduceEqDiff, Nat.reduceMul, Nat.reduceAdd, Nat.reduceSub, Nat.reduceLeDiff, Nat.reduceBEq]
    (first | refine awp_seq (awp_seq (awp_reg ?_)) | refine awp_seq (awp_reg ?_) | refine awp_reg ?_); simp (disch := omega) only [push_cast, List.reduceReplicate, List.length_replicate, ↓reduceIte, Nat.reduceEqDiff, Nat.reduceMul, Nat.reduceAdd, Nat.reduceSub, Nat.reduceLeDiff, Nat.reduceBEq, l24r3]
    refine pcall_step (place_ok a b c x hv) (by simp (disch := omega) only [push_cast, List.reduceReplicate, List.length_replicate, ↓reduceIte, Nat.reduceEqDiff, Nat.reduceMul, Nat.reduceAdd, Nat.reduceSub, Nat.reduceLeDiff, Nat.reduceBEq]) ?_
    intro r hr
    have hk : ∃ k : Int, r = .int .i64 k := by rcases hr with ⟨k, _, _, h⟩ | ⟨_, h⟩ <;> exact ⟨_, h⟩
    obtain ⟨k, rfl⟩ := hk
    simp (disch := omega) only [push_cast, List.reduceReplicate, List.length_replicate, ↓reduceIte, Nat.reduceEqDiff, Nat.reduceMul, Nat.reduceAdd, Nat.reduceSub, Nat.reduceLeDiff, Nat.reduceBEq]
    (refine awp_ret ⟨.inr rfl, _, rfl, ?_⟩; try simp (disch := omega) only [push_cast, List.reduceReplicate, List.length_replicate, ↓reduceIte, Nat.reduceEqDiff, Nat.reduceMul, Nat.reduceAdd, Nat.reduceSub, Nat.reduceLeDiff, Nat.reduceBEq])
    exact hr

theorem law7_ok (a b c x : Int) : PCall Try.prog 7 [rng a b c, .int .i64 x] (fun r => r = .bool true) := by
  refine pcall_of l7_eq rfl ?_
  (first | refine awp_seq (awp_seq (awp_reg ?_)) | refine awp_seq (awp_reg ?_) | refine awp_reg ?_); simp (disch := omega) only [push_cast, List.reduceReplicate, List.length_replicate, ↓reduceIte, Nat.reduceEqDiff, Nat.reduceMul, Nat.reduceAdd, Nat.reduceSub, Nat.reduceLeDiff, Nat.reduceBEq, l7r0]
  (first | refine awp_seq (awp_seq (awp_reg ?_)) | refine awp_seq (awp_reg ?_) | refine awp_reg ?_); simp (disch := omega) only [push_cast, List.reduceReplicate, List.length_replicate, ↓reduceIte, Nat.reduceEqDiff, Nat.reduceMul, Nat.reduceAdd, Nat.reduceSub, Nat.reduceLeDiff, Nat.reduceBEq, l7r1]
  refine pcall_step (toRange_ok a b c) (by simp (disch := omega) only [push_cast, List.reduceReplicate, List.length_replicate, ↓reduceIte, Nat.reduceEqDiff, Nat.reduceMul, Nat.reduceAdd, Nat.reduceSub, Nat.reduceLeDiff, Nat.reduceBEq]) ?_
  rintro _ rfl
  simp (disch := omega) only [push_cast, List.reduceReplicate, List.length_replicate, ↓reduceIte, Nat.reduceEqDiff, Nat.reduceMul, Nat.reduceAdd, Nat.reduceSub, Nat.reduceLeDiff, Nat.reduceBEq]
  refine pcall_step (sPlaceOf_ok a b c x) (by simp (disch := omega) only [push_cast, List.reduceReplicate, List.length_replicate, ↓reduceIte, Nat.reduceEqDiff, Nat.reduceMul, Nat.reduceAdd, Nat.reduceSub, Nat.reduceLeDiff, Nat.reduceBEq]) ?_
  intro r hr
  obtain ⟨k, rfl⟩ := hr.int
  simp (disch := omega) only [push_cast, List.reduceReplicate, List.length_replicate, ↓reduceIte, Nat.reduceEqDiff, Nat.reduceMul, Nat.reduceAdd, Nat.reduceSub, Nat.reduceLeDiff, Nat.reduceBEq]
  (first | refine awp_seq (awp_seq (awp_reg ?_)) | refine awp_seq (awp_reg ?_) | refine awp_reg ?_); simp (disch := omega) only [push_cast, List.reduceReplicate, List.length_replicate, ↓reduceIte, Nat.reduceEqDiff, Nat.reduceMul, Nat.reduceAdd, Nat.reduceSub, Nat.reduceLeDiff, Nat.reduceBEq, l7r2]
  refine pcall_step (toRange_ok a b c) (by simp (disch := omega) only [push_cast, List.reduceReplicate, List.length_replicate, ↓reduceIte, Nat.reduceEqDiff, Nat.reduceMul, Nat.reduceAdd, Nat.reduceSub, Nat.reduceLeDiff, Nat.reduceBEq]) ?_
  rintro _ rfl
  simp (disch := omega) only [push_cast, List.reduceReplicate, List.length_replicate, ↓reduceIte, Nat.reduceEqDiff, Nat.reduceMul, Nat.reduceAdd, Nat.reduceSub, Nat.reduceLeDiff, Nat.reduceBEq]
  refine pcall_step (iPlaceOf_ok a b c x) (by simp (disch := omega) only [push_cast, List.reduceReplicate, List.length_replicate, ↓reduceIte, Nat.reduceEqDiff, Nat.reduceMul, Nat.reduceAdd, Nat.reduceSub, Nat.reduceLeDiff, Nat.reduceBEq]) ?_
  intro r' hr'
  obtain rfl := hr.one hr'
  simp (disch := omega) only [push_cast, List.reduceReplicate, List.length_replicate, ↓reduceIte, Nat.reduceEqDiff, Nat.reduceMul, Nat.reduceAdd, Nat.reduceSub, Nat.reduceLeDiff, Nat.reduceBEq]
  (first | refine awp_seq (awp_seq (awp_reg ?_)) | refine awp_seq (awp_reg ?_) | refine awp_reg ?_); simp (disch := omega) only [push_cast, List.reduceReplicate, List.length_replicate, ↓reduceIte, Nat.reduceEqDiff, Nat.reduceMul, Nat.reduceAdd, Nat.reduceSub, Nat.reduceLeDiff, Nat.reduceBEq, l7r3]
  refine awp_cond false rfl (fun h => (by cases h)) (fun _ => awp_skip ?_); simp (disch := omega) only [push_cast, List.reduceReplicate, List.length_replicate, ↓reduceIte, Nat.reduceEqDiff, Nat.reduceMul, Nat.reduceAdd, Nat.reduceSub, Nat.reduceLeDiff, Nat.reduceBEq]
  (first | refine awp_seq (awp_seq (awp_reg ?_)) | refine awp_seq (awp_reg ?_) | refine awp_reg ?_); simp (disch := omega) only [push_cast, List.reduceReplicate, List.length_replicate, ↓reduceIte, Nat.reduceEqDiff, Nat.reduceMul, Nat.reduceAdd, Nat.reduceSub, Nat.reduceLeDiff, Nat.reduceBEq, l7r5]
  (refine awp_ret ⟨.inr rfl, _, rfl, ?_⟩; try simp (disch := omega) only [push_cast, List.reduceReplicate, List.length_replicate, ↓reduceIte, Nat.reduceEqDiff, Nat.reduceMul, Nat.reduceAdd, Nat.reduceSub, Nat.reduceLeDiff, Nat.reduceBEq])
end Go.Proofs.Ytigcjdblggjmjaa
