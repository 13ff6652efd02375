/- The mathematics of lists of ranges. -/
import Derived.Test.YtjhamlapjiadaaaCVwM2
set_option linter.unusedVariables false
set_option linter.unusedSimpArgs false
set_option linter.unnecessarySimpa false
set_option maxRecDepth 4000
namespace VwM
open Vw
open Go

theorem take3 (xs : List Int) (off : Nat) (h : off + 3 ≤ xs.length) : ((xs.map (AV.int .i64)).drop off).take 3 = [.int .i64 (xs.getD off 0), .int .i64 (xs.getD (off + 1) 0), .int .i64 (xs.getD (off + 2) 0)] := by
  rw [List.drop_eq_getElem_cons (by simp; omega), List.drop_eq_getElem_cons (by simp; omega), List.drop_eq_getElem_cons (by simp; omega)]
  have h1 : off < xs.length := by omega
  have h2 : off + 1 < xs.length := by omega
  have h3 : off + 2 < xs.length := by omega
  have e3 : off + 1 + 1 = off + 2 := rfl
  simp only [e3]
  simp [h1, h2, h3, List.getD]
attribute [push_cast] take3
/-- Three cells for each of k ranges. -/
def fl3 (f : Nat → Int × Int × Int) : Nat → List Int
  | 0 => []
  | k + 1 => fl3 f k ++ [(f k).1, (f k).2.1, (f k).2.2]
theorem fl3_length (f : Nat → Int × Int × Int) : ∀ k, (fl3 f k).length = k * 3
  | 0 => rfl
  | k + 1 => by simp [fl3, fl3_length f k]; omega
/-- The same, and zeros for those that are not stored yet. -/
def fz3 (f : Nat → Int × Int × Int) (n k : Nat) : List Int := fl3 f k ++ List.replicate ((n - k) * 3) 0
theorem fz3_length (f : Nat → Int × Int × Int) (n k : Nat) (h : k ≤ n) : (fz3 f n k).length = n * 3 := by simp [fz3, fl3_length]; omega
theorem fz3_zero (f : Nat → Int × Int × Int) (n : Nat) : fz3 f n 0 = List.replicate (n * 3) 0 := by simp [fz3, fl3]
theorem fz3_all (f : Nat → Int × Int × Int) (n : Nat) : fz3 f n n = fl3 f n := by simp [fz3]
theorem fz3_set (f : Nat → Int × Int × Int) (n k : Nat) (h : k < n) (a b c : Int) (e : f k = (a, b, c)) : (((fz3 f n k).set (k * 3) a).set (k * 3 + 1) b).set (k * 3 + 2) c = fz3 f n (k + 1) := by
  have hl := fl3_length f k
  unfold fz3
  rw [show (n - k) * 3 = (n - (k + 1)) * 3 + 1 + 1 + 1 by omega, List.replicate_succ, List.replicate_succ, List.replicate_succ]
  rw [List.set_append_right (h := by omega), hl, Nat.sub_self]
  simp only [List.set_cons_zero]
  rw [List.set_append_right (h := by omega), hl, show k * 3 + 1 - k * 3 = 1 by omega]
  simp only [List.set_cons_zero, List.set_cons_succ]
  rw [List.set_append_right (h := by omega), hl, show k * 3 + 2 - k * 3 = 2 by omega]
  simp only [List.set_cons_zero, List.set_cons_succ, fl3, e]
  simp
theorem setRange3 (xs : List Int) (o : Nat) (a b c : Int) : setRange (xs.map (AV.int .i64)) o [.int .i64 a, .int .i64 b, .int .i64 c] = IL (((xs.set o a).set (o + 1) b).set (o + 2) c) := by
  simp [setRange, List.map_set]
/-- The ranges that numbers are dealt to. -/
def dealF (a b c w : Int) (k : Nat) : Int × Int × Int :=
  let m : Nat := cntN k (cntN a b c) w
  (pS (a + (k : Int) * c) m, pE (a + (k : Int) * c) (c * w) m, pC (c * w) m)
def dealL (a b c w : Int) : List Int := if vR a b c = true ∧ 1 ≤ w ∧ w ≤ 6 then fl3 (dealF a b c w) w.toNat else []
def dealN (a b c w : Int) : Nat := if vR a b c = true ∧ 1 ≤ w ∧ w ≤ 6 then w.toNat else 0
theorem dealL_length (a b c w : Int) : (dealL a b c w).length = dealN a b c w * 3 := by
  unfold dealL dealN
  split
  · rw [fl3_length]
  · rfl
theorem dealN_le (a b c w : Int) : dealN a b c w ≤ 6 := by unfold dealN; split <;> omega
theorem deal_pos {a b c w : Int} (h : vR a b c = true ∧ 1 ≤ w ∧ w ≤ 6) : dealL a b c w = fl3 (dealF a b c w) w.toNat ∧ dealN a b c w = w.toNat := ⟨if_pos h, if_pos h⟩
theorem deal_neg {a b c w : Int} (h : ¬ (vR a b c = true ∧ 1 ≤ w ∧ w ≤ 6)) : dealL a b c w = [] ∧ dealN a b c w = 0 := ⟨if_neg h, if_neg h⟩
theorem zcells3 (n : Nat) : zcells [AV.int .i64 0, .int .i64 0, .int .i64 0] n = IL (List.replicate (n * 3) 0) := by
  rw [IL, List.map_replicate]
  refine List.ext_getElem (by simp [zcells]) fun i h1 h2 => ?_
  have : i % 3 = 0 ∨ i % 3 = 1 ∨ i % 3 = 2 := by omega
  rcases this with h | h | h <;> simp [zcells, h]
theorem zcells3_1 : zcells [AV.int .i64 0, .int .i64 0, .int .i64 0] 1 = [AV.int .i64 0, .int .i64 0, .int .i64 0] := rfl
attribute [push_cast] zcells3_1
/-- The numbers that are dealt to one are some of the range. -/
theorem deal_num {a b c : Int} {n k j : Nat} (hv : vR a b c = true) (hn : 1 ≤ n) (h : j < cntN k (cntN a b c) n) : (k + j * n < cntN a b c) ∧ (a + (k : Int) * c) + (j : Int) * (c * n) = a + ((k + j * n : Nat) : Int) * c ∧ -100 ≤ (a + (k : Int) * c) + (j : Int) * (c * n) ∧ (a + (k : Int) * c) + (j : Int) * (c * n) ≤ 100 := by
  have h1 : (j : Int) < cntI k (cntN a b c) n := by have h' : j < (cntI k (cntN a b c) n).toNat := h; omega
  have h2 : (k : Int) + (j : Int) * n < cntN a b c := by
    rcases (cnt_lt (by omega) (by omega)).1 h1 with h | h
    · exact h.2
    · omega
  have e0 : ((k + j * n : Nat) : Int) = (k : Int) + (j : Int) * n := by simp
  have h3 : k + j * n < cntN a b c := by omega
  have h4 := num_bound hv h3
  have h5 : (a + (k : Int) * c) + (j : Int) * (c * n) = a + ((k + j * n : Nat) : Int) * c := by
    rw [e0, Int.add_mul, Int.mul_assoc, Int.mul_comm c (n : Int)]
    omega
  rw [h5]
  exact ⟨h3, rfl, h4.2.2⟩
theorem deal_more {N n k j : Nat} (hn : 1 ≤ n) : j < cntN k N n ↔ (k : Int) + (j : Int) * n < N := by
  have h0 : (j < cntN (k : Int) (N : Int) (n : Int)) ↔ (j : Int) < cntI k N n := by
    show j < (cntI k N n).toNat ↔ _
    omega
  rw [h0, cnt_lt (by omega) (by omega)]
  omega
theorem cntW_bound {a b c : Int} (h : -1000 ≤ a ∧ a ≤ 1000 ∧ -1000 ≤ b ∧ b ≤ 1000 ∧ -200 ≤ c ∧ c ≤ 200 ∧ c ≠ 0) : 0 ≤ cntI a b c ∧ cntI a b c ≤ 3000 := by
  unfold cntI
  by_cases hc : c < 0
  · rw [if_pos hc]
    by_cases hw : 0 - (b - a) ≤ 0
    · rw [if_pos hw]; omega
    · rw [if_neg hw]
      have := tdiv_bound (x := 0 - (b - a) + (0 - c) - 1) (y := 0 - c) (by omega) (by omega)
      omega
  · rw [if_neg hc]
    by_cases hw : b - a ≤ 0
    · rw [if_pos hw]; omega
    · rw [if_neg hw]
      have := tdiv_bound (x := b - a + c - 1) (y := c) (by omega) (by omega)
      omega
end VwM
