import Derived.Test.YtigcjdblggjmjaaS6
namespace Go.Proofs.Ytigcjdblggjmjaa
open Vw Go
set_option linter.unusedSimpArgs false
set_option linter.unusedVariables false

/-- The first k numbers of a progression. -/
def nums (a c : Int) (k : Nat) : List Int := (List.range k).map fun i : Nat => a + (i : Int) * c

theorem nums_succ (a c : Int) (k : Nat) : nums a c (k + 1) = nums a c k ++ [a + (k : Int) * c] := by simp [nums, List.range_succ]
theorem nums_length (a c : Int) (k : Nat) : (nums a c k).length = k := by simp [nums]
theorem nums_get (a c : Int) (k i : Nat) (h : i < k) : (nums a c k)[i]? = some (a + (i : Int) * c) := by simp [nums, h]
theorem nums_getD (a c : Int) (k i : Nat) (h : i < k) : (nums a c k).getD i 0 = a + (i : Int) * c := by simp [nums, h, List.getD]

theorem cnt_lt {a b c i : Int} (h0 : c ≠ 0) (hi : 0 ≤ i) : i < cntI a b c ↔ (0 < c ∧ a + i * c < b) ∨ (c < 0 ∧ b < a + i * c) := by
  unfold cntI
  by_cases hc : c < 0
  · rw [if_pos hc]
    have hp : 0 ≤ i * (0 - c) := Int.mul_nonneg hi (by omega)
    have e : i * (0 - c) = - (i * c) := by rw [Int.zero_sub, Int.mul_neg]
    by_cases hw : 0 - (b - a) ≤ 0
    · rw [if_pos hw]
      constructor
      · intro h; omega
      · rintro (h | h) <;> omega
    · rw [if_neg hw, Int.tdiv_eq_ediv_of_nonneg (by omega), Int.lt_iff_add_one_le, Int.le_ediv_iff_mul_le (by omega), Int.add_mul]
      constructor
      · intro h; right; omega
      · rintro (h | h) <;> omega
  · rw [if_neg hc]
    have hp : 0 ≤ i * c := Int.mul_nonneg hi (by omega)
    by_cases hw : b - a ≤ 0
    · rw [if_pos hw]
      constructor
      · intro h; omega
      · rintro (h | h) <;> omega
    · rw [if_neg hw, Int.tdiv_eq_ediv_of_nonneg (by omega), Int.lt_iff_add_one_le, Int.le_ediv_iff_mul_le (by omega), Int.add_mul]
      constructor
      · intro h; left; omega
      · rintro (h | h) <;> omega

theorem cnt_bound {a b c : Int} (hv : vR a b c = true) : 0 ≤ cntI a b c ∧ cntI a b c ≤ 500 := by
  obtain ⟨ha, hb, hc, h0⟩ := vR_spec.1 hv
  unfold cntI
  by_cases hc : c < 0
  · rw [if_pos hc]
    by_cases hw : 0 - (b - a) ≤ 0
    · rw [if_pos hw]; omega
    · rw [if_neg hw]
      have := tdiv_bound (x := 0 - (b - a) + (0 - c) - 1) (y := 0 - c) (by omega) (by omega)
      omega
  · rw [if_neg hc]
    by_cases hw : b - a ≤ 0
    · rw [if_pos hw]; omega
    · rw [if_neg hw]
      have := tdiv_bound (x := b - a + c - 1) (y := c) (by omega) (by omega)
      omega

/-- How many numbers a range has. -/
def cntN (a b c : Int) : Nat := (cntI a b c).toNat

theorem cntN_cast {a b c : Int} (hv : vR a b c = true) : (cntN a b c : Int) = cntI a b c := by
  unfold cntN; have := cnt_bound hv; omega

theorem cntN_lt {a b c : Int} (hv : vR a b c = true) (i : Nat) : i < cntN a b c ↔ (0 < c ∧ a + i * c < b) ∨ (c < 0 ∧ b < a + i * c) := by
  rw [← cnt_lt (vR_spec.1 hv).2.2.2 (by omega : (0 : Int) ≤ i), ← cntN_cast hv]
  omega

/-- The numbers of a range lie in the bound, and the products too. -/
theorem num_bound {a b c : Int} (hv : vR a b c = true) {i : Nat} (h : i < cntN a b c) : -201 ≤ (i : Int) * c ∧ (i : Int) * c ≤ 201 ∧ -100 ≤ a + i * c ∧ a + i * c ≤ 100 := by
  obtain ⟨ha, hb, hc, h0⟩ := vR_spec.1 hv
  rcases (cntN_lt hv i).1 h with ⟨h1, h2⟩ | ⟨h1, h2⟩
  · have : 0 ≤ (i : Int) * c := Int.mul_nonneg (by omega) (by omega)
    omega
  · have : 0 ≤ (i : Int) * (0 - c) := Int.mul_nonneg (by omega) (by omega)
    rw [Int.zero_sub, Int.mul_neg] at this
    omega

theorem next_bound {a b c : Int} (hv : vR a b c = true) {i : Nat} (h : i ≤ cntN a b c) : -1000 ≤ (i : Int) * c ∧ (i : Int) * c ≤ 1000 := by
  obtain ⟨ha, hb, hc, h0⟩ := vR_spec.1 hv
  cases i with
  | zero => simp
  | succ i =>
    have := num_bound hv (i := i) (by omega)
    rw [show ((i + 1 : Nat) : Int) * c = (i : Int) * c + c by rw [Int.natCast_add, Int.add_mul]; simp]
    omega

def ints (xs : List Int) : AV := .rows true (xs.map (AV.int .i64)) xs.length

theorem snumbers_ok (a b c : Int) (hv : vR a b c = true) : PCall Try.prog 35 [rng a b c] (fun r => r = ints (nums a c (cntN a b c))) := by
  obtain ⟨ha, hb, hc, h0⟩ := vR_spec.1 hv
  refine pcall_of l35_eq rfl ?_
  refine awp_seq (awp_reg ?_)
  simp (disch := omega) only [push_cast, List.reduceReplicate, List.length_replicate, ↓reduceIte, Nat.reduceEqDiff, Nat.reduceMul, Nat.reduceAdd, Nat.reduceSub, Nat.reduceLeDiff, Nat.reduceBEq, l35r0]
  refine awp_seq (awp_reg ?_)
  simp (disch := omega) only [push_cast, List.reduceReplicate, List.length_replicate, ↓reduceIte, Nat.reduceEqDiff, Nat.reduceMul, Nat.reduceAdd, Nat.reduceSub, Nat.reduceLeDiff, Nat.reduceBEq, l35r1]
  refine awp_seq (awp_seq (awp_reg ?_))
  simp (disch := omega) only [push_cast, List.reduceReplicate, List.length_replicate, ↓reduceIte, Nat.reduceEqDiff, Nat.reduceMul, Nat.reduceAdd, Nat.reduceSub, Nat.reduceLeDiff, Nat.reduceBEq, l35r2]
  refine awp_block ?_
  refine awp_loop (fun k : Nat => mkS [(1, .ref 16 3 0), (4, .int .i64 (a + (k : Int) * c)), (3, .own 80 k 1)] [(16, [.int .i64 a, .int .i64 b, .int .i64 c]), (80, (nums a c k).map (AV.int .i64))])
    (fun k => k ≤ cntN a b c) (fun k => cntN a b c - k) 0 (Nat.zero_le _) ?_ ?_
  · (refine Sub.of_lists ?_ ?_ ?_ ?_ ?_ <;> simp [Vw.mkS, Vw.lk, Vw.hk, AV.inn, innL, innL_ints, innL_append, nums])
  · intro k hk
    have hb1 := next_bound hv hk
    have hb3 : (cntN a b c : Int) ≤ 500 := by rw [cntN_cast hv]; exact (cnt_bound hv).2
    refine awp_seq (awp_seq (awp_reg ?_))
    by_cases hlt : k < cntN a b c
    · have hb2 := num_bound hv hlt
      have hcase := (cntN_lt hv k).1 hlt
      rcases hcase with ⟨hp, ht⟩ | ⟨hp, ht⟩
      · simp (disch := omega) only [push_cast, List.reduceReplicate, List.length_replicate, ↓reduceIte, Nat.reduceEqDiff, Nat.reduceMul, Nat.reduceAdd, Nat.reduceSub, Nat.reduceLeDiff, Nat.reduceBEq, l35r3, hp, ht]
        refine awp_cond true rfl (fun _ => awp_skip ?_) (fun h => (by cases h))
        simp (disch := omega) only [push_cast, List.reduceReplicate, List.length_replicate, ↓reduceIte, Nat.reduceEqDiff, Nat.reduceMul, Nat.reduceAdd, Nat.reduceSub, Nat.reduceLeDiff, Nat.reduceBEq]
        refine awp_seq (awp_block (awp_reg ?_))
        simp (disch := omega) only [push_cast, List.reduceReplicate, List.length_replicate, ↓reduceIte, Nat.reduceEqDiff, Nat.reduceMul, Nat.reduceAdd, Nat.reduceSub, Nat.reduceLeDiff, Nat.reduceBEq, l35r4, nums_length]
        refine awp_reg ?_
        simp (disch := omega) only [push_cast, List.reduceReplicate, List.length_replicate, ↓reduceIte, Nat.reduceEqDiff, Nat.reduceMul, Nat.reduceAdd, Nat.reduceSub, Nat.reduceLeDiff, Nat.reduceBEq, l35r5]
        refine ⟨k + 1, by omega, by omega, ?_⟩
        (refine Sub.of_lists ?_ ?_ ?_ ?_ ?_ <;> simp [Vw.mkS, Vw.lk, Vw.hk, AV.inn, innL, innL_ints, innL_append, nums_succ, Int.add_mul, Int.add_assoc])
      · have hn : ¬ 0 < c := by omega
        simp (disch := omega) only [push_cast, List.reduceReplicate, List.length_replicate, ↓reduceIte, Nat.reduceEqDiff, Nat.reduceMul, Nat.reduceAdd, Nat.reduceSub, Nat.reduceLeDiff, Nat.reduceBEq, l35r3, hp, hn, ht]
        refine awp_cond true rfl (fun _ => awp_skip ?_) (fun h => (by cases h))
        simp (disch := omega) only [push_cast, List.reduceReplicate, List.length_replicate, ↓reduceIte, Nat.reduceEqDiff, Nat.reduceMul, Nat.reduceAdd, Nat.reduceSub, Nat.reduceLeDiff, Nat.reduceBEq]
        refine awp_seq (awp_block (awp_reg ?_))
        simp (disch := omega) only [push_cast, List.reduceReplicate, List.length_replicate, ↓reduceIte, Nat.reduceEqDiff, Nat.reduceMul, Nat.reduceAdd, Nat.reduceSub, Nat.reduceLeDiff, Nat.reduceBEq, l35r4, nums_length]
        refine awp_reg ?_
        simp (disch := omega) only [push_cast, List.reduceReplicate, List.length_replicate, ↓reduceIte, Nat.reduceEqDiff, Nat.reduceMul, Nat.reduceAdd, Nat.reduceSub, Nat.reduceLeDiff, Nat.reduceBEq, l35r5]
        refine ⟨k + 1, by omega, by omega, ?_⟩
        (refine Sub.of_lists ?_ ?_ ?_ ?_ ?_ <;> simp [Vw.mkS, Vw.lk, Vw.hk, AV.inn, innL, innL_ints, innL_append, nums_succ, Int.add_mul, Int.add_assoc])
    · have hk' : k = cntN a b c := by omega
      have hno := fun h => hlt ((cntN_lt hv k).2 h)
      by_cases hp : 0 < c
      · have hn : ¬ c < 0 := by omega
        have ht : ¬ a + (k : Int) * c < b := fun h => hno (.inl ⟨hp, h⟩)
        simp (disch := omega) only [push_cast, List.reduceReplicate, List.length_replicate, ↓reduceIte, Nat.reduceEqDiff, Nat.reduceMul, Nat.reduceAdd, Nat.reduceSub, Nat.reduceLeDiff, Nat.reduceBEq, l35r3, hp, hn, ht]
        refine awp_cond false rfl (fun h => (by cases h)) (fun _ => awp_exit ?_)
        simp (disch := omega) only [push_cast, List.reduceReplicate, List.length_replicate, ↓reduceIte, Nat.reduceEqDiff, Nat.reduceMul, Nat.reduceAdd, Nat.reduceSub, Nat.reduceLeDiff, Nat.reduceBEq]
        refine awp_seq (awp_reg ?_)
        simp (disch := omega) only [push_cast, List.reduceReplicate, List.length_replicate, ↓reduceIte, Nat.reduceEqDiff, Nat.reduceMul, Nat.reduceAdd, Nat.reduceSub, Nat.reduceLeDiff, Nat.reduceBEq, l35r6]
        refine awp_ret ⟨.inr rfl, _, rfl, ?_⟩
        simp (disch := omega) only [push_cast, List.reduceReplicate, List.length_replicate, ↓reduceIte, Nat.reduceEqDiff, Nat.reduceMul, Nat.reduceAdd, Nat.reduceSub, Nat.reduceLeDiff, Nat.reduceBEq, nums_length]
        rw [← hk']
        try simp [ints, nums_length]
      · have hn : c < 0 := by omega
        have ht : ¬ b < a + (k : Int) * c := fun h => hno (.inr ⟨hn, h⟩)
        simp (disch := omega) only [push_cast, List.reduceReplicate, List.length_replicate, ↓reduceIte, Nat.reduceEqDiff, Nat.reduceMul, Nat.reduceAdd, Nat.reduceSub, Nat.reduceLeDiff, Nat.reduceBEq, l35r3, hp, hn, ht]
        refine awp_cond false rfl (fun h => (by cases h)) (fun _ => awp_exit ?_)
        simp (disch := omega) only [push_cast, List.reduceReplicate, List.length_replicate, ↓reduceIte, Nat.reduceEqDiff, Nat.reduceMul, Nat.reduceAdd, Nat.reduceSub, Nat.reduceLeDiff, Nat.reduceBEq]
        refine awp_seq (awp_reg ?_)
        simp (disch := omega) only [push_cast, List.reduceReplicate, List.length_replicate, ↓reduceIte, Nat.reduceEqDiff, Nat.reduceMul, Nat.reduceAdd, Nat.reduceSub, Nat.reduceLeDiff, Nat.reduceBEq, l35r6]
        refine awp_ret ⟨.inr rfl, _, rfl, ?_⟩
        simp (disch := omega) only [push_cast, List.reduceReplicate, List.length_replicate, ↓reduceIte, Nat.reduceEqDiff, Nat.reduceMul, Nat.reduceAdd, Nat.reduceSub, Nat.reduceLeDiff, Nat.reduceBEq, nums_length]
        rw [← hk']
        try simp [ints, nums_length]
end Go.Proofs.Ytigcjdblggjmjaa
