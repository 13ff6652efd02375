/- Properties of slices and of sums. -/
import Derived.Test.YtniddegncklgpaaCVwM8
set_option linter.unusedVariables false
set_option linter.unusedSimpArgs false
set_option linter.unnecessarySimpa false
set_option maxRecDepth 4000
namespace VwM
open Vw
open Go

/-- The sum of the first k numbers. -/
def sumT (xs : List Int) : Nat → Int
  | 0 => 0
  | k + 1 => sumT xs k + xs.getD k 0
theorem sumT_nums (a c : Int) (n : Nat) : ∀ k, k ≤ n → 2 * sumT (nums a c n) k = (k : Int) * (a + (a + ((k : Int) - 1) * c))
  | 0, _ => by simp [sumT]
  | k + 1, h => by
    have ih := sumT_nums a c n k (by omega)
    simp only [sumT]
    have e1 : ((k : Int) - 1) * c = (k : Int) * c - c := by rw [Int.sub_mul, Int.one_mul]
    rw [nums_getD a c n k (by omega), Int.mul_add, ih, show ((k + 1 : Nat) : Int) - 1 = (k : Int) by omega, show ((k + 1 : Nat) : Int) = (k : Int) + 1 by omega, e1]
    simp only [Int.mul_add, Int.add_mul, Int.mul_sub, Int.one_mul]
    omega
def sumI (a b c : Int) : Int := if vR a b c = true then sumT (nums a c (cntN a b c)) (cntN a b c) else 0
theorem sumI_pos {a b c : Int} (h : vR a b c = true) : sumI a b c = sumT (nums a c (cntN a b c)) (cntN a b c) := if_pos h
theorem sumI_neg {a b c : Int} (h : vR a b c = false) : sumI a b c = 0 := if_neg (by simp [h])
theorem sum_half {a c : Int} {n : Nat} : ((n : Int) * (a + (a + ((n : Int) - 1) * c))).tdiv 2 = sumT (nums a c n) n := by
  rw [← sumT_nums a c n n (Nat.le_refl _)]
  exact Int.mul_tdiv_cancel_left _ (by omega)
theorem sumT_bound {xs : List Int} (h : ∀ x ∈ xs, -100 ≤ x ∧ x ≤ 100) : ∀ k, k ≤ xs.length → -100 * (k : Int) ≤ sumT xs k ∧ sumT xs k ≤ 100 * (k : Int)
  | 0, _ => by simp [sumT]
  | k + 1, hk => by
    have ih := sumT_bound h k (by omega)
    have := h _ (getD_mem (xs := xs) (j := k) (by omega))
    simp only [sumT]
    omega
/-- What is at some places of a list. -/
def takesL (xs at_ : List Int) : List Int := at_.map fun i => xs.getD i.toNat 0
theorem takesL_nums {a c u w : Int} {n k : Nat} (h : ∀ i : Nat, i < k → 0 ≤ u + (i : Int) * w ∧ u + (i : Int) * w < n) : takesL (nums a c n) (nums u w k) = nums (a + u * c) (c * w) k := by
  refine list_eq_of (by simp [takesL]) fun j hj => ?_
  have hj' : j < k := by simpa [takesL] using hj
  rw [nums_getD _ _ _ _ hj']
  have : (takesL (nums a c n) (nums u w k)).getD j 0 = (nums a c n).getD (u + (j : Int) * w).toNat 0 := by
    simp [takesL, nums, List.getD, hj']
  rw [this, nums_of j hj' (h j hj')]
theorem nums_app (e n : Nat) (h : e ≤ n) : nums 0 1 e ++ nums e 1 (n - e) = nums 0 1 n := by
  refine list_eq_of (by simp; omega) fun j hj => ?_
  rw [nums_getD 0 1 n j (by simp at hj; omega)]
  rcases Nat.lt_or_ge j e with h1 | h1
  · have := nums_getD 0 1 e j h1
    rw [← this, List.getD, List.getD, List.getElem?_append_left (by simpa using h1)]
  · have := nums_getD e 1 (n - e) (j - e) (by simp at hj; omega)
    have h2 : (nums 0 1 e ++ nums (e : Int) 1 (n - e)).getD j 0 = (nums (e : Int) 1 (n - e)).getD (j - e) 0 := by
      rw [List.getD, List.getD, List.getElem?_append_right (by simpa using h1), nums_length]
    rw [h2, this]
    omega
theorem cntN_up (e n : Int) (h : e ≤ n) : cntN e n 1 = (n - e).toNat := by
  unfold cntN cntI
  rw [if_neg (by omega)]
  by_cases h1 : n - e ≤ 0
  · rw [if_pos h1]; omega
  · rw [if_neg h1, Int.tdiv_one]; omega
theorem cntN_down (n : Nat) : cntN ((n : Int) - 1) (-1) (-1) = n := by
  unfold cntN cntI
  rw [if_pos (by omega)]
  by_cases h1 : 0 - (-1 - ((n : Int) - 1)) ≤ 0
  · rw [if_pos h1]; omega
  · rw [if_neg h1, show (0 : Int) - -1 = 1 by omega, Int.tdiv_one]; omega
theorem idx_all (n : Nat) (hn : n ≤ 60) : idxOf n 0 0 1 false false = nums 0 1 n := by
  rw [idxOf_good ⟨by omega, by omega⟩ (by decide)]
  simp only [sFrom, sTo]
  rw [if_neg (by simp), if_neg (by omega), if_neg (by simp), if_neg (by omega), cntN_all]
theorem idx_back (n : Nat) (hn : n ≤ 60) : idxOf n 0 0 (-1) false false = (nums 0 1 n).reverse := by
  rw [idxOf_good ⟨by omega, by omega⟩ (by decide), nums_reverse]
  simp only [sFrom, sTo]
  rw [if_neg (by simp), if_pos (by omega), if_neg (by simp), if_pos (by omega), cntN_down]
  congr 1
  omega
theorem idx_to {n f : Int} (hn : 0 ≤ n ∧ n ≤ 60) (hf : -100 ≤ f ∧ f ≤ 100) : idxOf n 0 f 1 false true = nums 0 1 (endI f n 1).toNat := by
  rw [idxOf_good hn (vS_spec.2 ⟨by omega, hf, by omega, by omega, .inr rfl, .inl rfl⟩)]
  have := endI_bound (x := f) (b := 1) hn
  have h0 : 0 ≤ endI f n 1 := by unfold endI; split <;> split <;> omega
  simp only [sFrom, sTo]
  simp only [if_true]
  rw [if_neg (by simp), if_neg (by omega), cntN_up _ _ h0, Int.sub_zero]
theorem idx_from {n f : Int} (hn : 0 ≤ n ∧ n ≤ 60) (hf : -100 ≤ f ∧ f ≤ 100) : idxOf n f 0 1 true false = nums (endI f n 1) 1 (n - endI f n 1).toNat := by
  rw [idxOf_good hn (vS_spec.2 ⟨hf, by omega, by omega, by omega, .inl rfl, .inr rfl⟩)]
  have h0 : endI f n 1 ≤ n := by unfold endI; split <;> split <;> omega
  simp only [sFrom, sTo]
  simp only [if_true]
  rw [if_neg (by simp), if_neg (by omega), cntN_up _ _ h0]
theorem idx_split {n f : Int} (hn : 0 ≤ n ∧ n ≤ 60) (hf : -100 ≤ f ∧ f ≤ 100) : idxOf n 0 f 1 false true ++ idxOf n f 0 1 true false = nums 0 1 n.toNat := by
  rw [idx_to hn hf, idx_from hn hf]
  have h0 : 0 ≤ endI f n 1 ∧ endI f n 1 ≤ n := by unfold endI; split <;> split <;> omega
  have := nums_app (endI f n 1).toNat n.toNat (by omega)
  rw [show (((endI f n 1).toNat : Nat) : Int) = endI f n 1 by omega, show n.toNat - (endI f n 1).toNat = (n - endI f n 1).toNat by omega] at this
  exact this
end VwM
