import Derived.Test.YticgaegkhcjeeaaCKa
import Derived.Test.YticgaegkhcjeeaaCVwR

set_option linter.unusedSimpArgs false
set_option linter.unusedVariables false
set_option linter.unnecessarySimpa false
set_option maxRecDepth 4000
namespace Go.Proofs.Yticgaegkhcjeeaa
open Vw Go

/-- How many numbers a range has, as the program reckons. -/
def cntI (a b c : Int) : Int :=
  if c < 0 then (if 0 - (b - a) ≤ 0 then 0 else (0 - (b - a) + (0 - c) - 1).tdiv (0 - c)) else (if b - a ≤ 0 then 0 else (b - a + c - 1).tdiv c)
theorem tdiv_bound {x y : Int} (hy : 0 < y) (hx : 0 ≤ x) : 0 ≤ x.tdiv y ∧ x.tdiv y ≤ x := by
  rw [Int.tdiv_eq_ediv_of_nonneg hx]
  exact ⟨Int.ediv_nonneg hx (by omega), Int.ediv_le_self _ hx⟩
/-- The first k numbers of a progression. -/
def nums (a c : Int) (k : Nat) : List Int := (List.range k).map fun i : Nat => a + (i : Int) * c
theorem nums_zero (a c : Int) : nums a c 0 = [] := rfl
theorem nums_succ (a c : Int) (k : Nat) : nums a c (k + 1) = nums a c k ++ [a + (k : Int) * c] := by simp [nums, List.range_succ]
theorem nums_length (a c : Int) (k : Nat) : (nums a c k).length = k := by simp [nums]
theorem nums_get (a c : Int) (k i : Nat) (h : i < k) : (nums a c k)[i]? = some (a + (i : Int) * c) := by simp [nums, h]
theorem nums_getD (a c : Int) (k i : Nat) (h : i < k) : (nums a c k).getD i 0 = a + (i : Int) * c := by simp [nums, h, List.getD]
attribute [simp] nums_length
attribute [push_cast] nums_length
theorem cnt_lt {a b c i : Int} (h0 : c ≠ 0) (hi : 0 ≤ i) : i < cntI a b c ↔ (0 < c ∧ a + i * c < b) ∨ (c < 0 ∧ b < a + i * c) := by
  unfold cntI
  by_cases hc : c < 0
  · rw [if_pos hc]
    have hp : 0 ≤ i * (0 - c) := Int.mul_nonneg hi (by omega)
    have e : i * (0 - c) = - (i * c) := by rw [Int.zero_sub, Int.mul_neg]
    by_cases hw : 0 - (b - a) ≤ 0
    · rw [if_pos hw]
      constructor
      · intro h; omega
      · rintro (h | h) <;> omega
    · rw [if_neg hw, Int.tdiv_eq_ediv_of_nonneg (by omega), Int.lt_iff_add_one_le, Int.le_ediv_iff_mul_le (by omega), Int.add_mul]
      constructor
      · intro h; right; omega
      · rintro (h | h) <;> omega
  · rw [if_neg hc]
    have hp : 0 ≤ i * c := Int.mul_nonneg hi (by omega)
    by_cases hw : b - a ≤ 0
    · rw [if_pos hw]
      constructor
      · intro h; omega
      · rintro (h | h) <;> omega
    · rw [if_neg hw, Int.tdiv_eq_ediv_of_nonneg (by omega), Int.lt_iff_add_one_le, Int.le_ediv_iff_mul_le (by omega), Int.add_mul]
      constructor
      · intro h; left; omega
      · rintro (h | h) <;> omega
theorem cnt_bound {a b c : Int} (hv : vR a b c = true) : 0 ≤ cntI a b c ∧ cntI a b c ≤ 500 := by
  obtain ⟨ha, hb, hc, h0⟩ := vR_spec.1 hv
  unfold cntI
  by_cases hc : c < 0
  · rw [if_pos hc]
    by_cases hw : 0 - (b - a) ≤ 0
    · rw [if_pos hw]; omega
    · rw [if_neg hw]
      have := tdiv_bound (x := 0 - (b - a) + (0 - c) - 1) (y := 0 - c) (by omega) (by omega)
      omega
  · rw [if_neg hc]
    by_cases hw : b - a ≤ 0
    · rw [if_pos hw]; omega
    · rw [if_neg hw]
      have := tdiv_bound (x := b - a + c - 1) (y := c) (by omega) (by omega)
      omega
/-- How many numbers a range has. -/
def cntN (a b c : Int) : Nat := (cntI a b c).toNat
theorem cntN_cast {a b c : Int} (hv : vR a b c = true) : (cntN a b c : Int) = cntI a b c := by
  unfold cntN; have := cnt_bound hv; omega
theorem cntN_lt {a b c : Int} (hv : vR a b c = true) (i : Nat) : i < cntN a b c ↔ (0 < c ∧ a + i * c < b) ∨ (c < 0 ∧ b < a + i * c) := by
  rw [← cnt_lt (vR_spec.1 hv).2.2.2 (by omega : (0 : Int) ≤ i), ← cntN_cast hv]
  omega
/-- The numbers of a range lie in the bound, and the products too. -/
theorem num_bound {a b c : Int} (hv : vR a b c = true) {i : Nat} (h : i < cntN a b c) : -201 ≤ (i : Int) * c ∧ (i : Int) * c ≤ 201 ∧ -100 ≤ a + i * c ∧ a + i * c ≤ 100 := by
  obtain ⟨ha, hb, hc, h0⟩ := vR_spec.1 hv
  rcases (cntN_lt hv i).1 h with ⟨h1, h2⟩ | ⟨h1, h2⟩
  · have : 0 ≤ (i : Int) * c := Int.mul_nonneg (by omega) (by omega)
    omega
  · have : 0 ≤ (i : Int) * (0 - c) := Int.mul_nonneg (by omega) (by omega)
    rw [Int.zero_sub, Int.mul_neg] at this
    omega
theorem next_bound {a b c : Int} (hv : vR a b c = true) {i : Nat} (h : i ≤ cntN a b c) : -1000 ≤ (i : Int) * c ∧ (i : Int) * c ≤ 1000 := by
  obtain ⟨ha, hb, hc, h0⟩ := vR_spec.1 hv
  cases i with
  | zero => simp
  | succ i =>
    have := num_bound hv (i := i) (by omega)
    rw [show ((i + 1 : Nat) : Int) * c = (i : Int) * c + c by rw [Int.natCast_add, Int.add_mul]; simp]
    omega
theorem last_bound {a b c : Int} (hv : vR a b c = true) (h : 1 ≤ cntN a b c) : -201 ≤ ((cntN a b c : Int) - 1) * c ∧ ((cntN a b c : Int) - 1) * c ≤ 201 ∧ -100 ≤ a + ((cntN a b c : Int) - 1) * c ∧ a + ((cntN a b c : Int) - 1) * c ≤ 100 := by
  have := num_bound hv (i := cntN a b c - 1) (by omega)
  rwa [show ((cntN a b c - 1 : Nat) : Int) = (cntN a b c : Int) - 1 by omega] at this
/-- What a loop has stored so far. -/
def filled (g : Nat → Int) (n j : Nat) : List Int := (List.range n).map fun i => if i < j then g i else 0
theorem filled_zero (g : Nat → Int) (n : Nat) : filled g n 0 = List.replicate n 0 := by
  refine List.ext_getElem? fun i => ?_
  by_cases h : i < n <;> simp [filled, h]
theorem filled_length (g : Nat → Int) (n j : Nat) : (filled g n j).length = n := by simp [filled]
attribute [simp] filled_length
attribute [push_cast] filled_length
theorem filled_set (g : Nat → Int) (n j : Nat) (h : j < n) : (filled g n j).set j (g j) = filled g n (j + 1) := by
  refine List.ext_getElem? fun i => ?_
  simp only [filled, List.getElem?_set, List.length_map, List.length_range, List.getElem?_map]
  by_cases h1 : j = i
  · subst h1; simp [h]
  · by_cases h2 : i < n
    · simp only [List.getElem?_range h2, Option.map_some, if_neg h1]
      congr 1
      by_cases h3 : i < j
      · rw [if_pos h3, if_pos (by omega)]
      · rw [if_neg h3, if_neg (by omega)]
    · simp [h1, h2]
theorem filled_all (g : Nat → Int) (n : Nat) : filled g n n = (List.range n).map g := by
  refine List.map_congr_left fun i hi => ?_
  rw [if_pos (List.mem_range.1 hi)]
theorem IL_set (xs : List Int) (j : Nat) (v : Int) : (IL xs).set j (.int .i64 v) = IL (xs.set j v) := by simp [IL, List.map_set]
theorem IL_append (xs ys : List Int) : IL xs ++ IL ys = IL (xs ++ ys) := by simp [IL]
theorem IL_snoc (xs : List Int) (v : Int) : IL xs ++ [.int .i64 v] = IL (xs ++ [v]) := by simp [IL]
theorem IL_replicate (n : Nat) (v : Int) : List.replicate n (AV.int .i64 v) = IL (List.replicate n v) := by simp [IL]



def numsOf (a b c : Int) : List Int := if vR a b c = true then nums a c (cntN a b c) else []

end Go.Proofs.Yticgaegkhcjeeaa
