/- Numbers that are dealt in turn. -/
import Derived.Test.YtjhamlapjiadaaaCVwM3
import Derived.Test.YtjhamlapjiadaaaCVwM10
import Derived.Test.YtjhamlapjiadaaaCVwM12
set_option linter.unusedVariables false
set_option linter.unusedSimpArgs false
set_option linter.unnecessarySimpa false
set_option maxRecDepth 4000
namespace VwM
open Vw
open Go

theorem fl3_get (f : Nat → Int × Int × Int) : ∀ (n k : Nat), k < n → (fl3 f n).getD (k * 3) 0 = (f k).1 ∧ (fl3 f n).getD (k * 3 + 1) 0 = (f k).2.1 ∧ (fl3 f n).getD (k * 3 + 2) 0 = (f k).2.2
  | 0, k, h => absurd h (Nat.not_lt_zero _)
  | n + 1, k, h => by
    have hl := fl3_length f n
    rcases Nat.lt_or_ge k n with h' | h'
    · obtain ⟨a, b, c⟩ := fl3_get f n k h'
      simp only [fl3]
      simp only [List.getD_eq_getElem?_getD] at a b c ⊢
      rw [List.getElem?_append_left (by omega), List.getElem?_append_left (by omega), List.getElem?_append_left (by omega)]
      exact ⟨a, b, c⟩
    · obtain rfl : k = n := by omega
      simp only [fl3, List.getD_eq_getElem?_getD]
      rw [List.getElem?_append_right (by omega), List.getElem?_append_right (by omega), List.getElem?_append_right (by omega), hl]
      simp
/-- How many of N numbers the k-th of n is dealt. -/
theorem deal_cnt {N n k : Nat} (hk : k < n) : cntN k N n = N / n + (if k < N % n then 1 else 0) := by
  have h0 : 1 ≤ n := by omega
  have e := Nat.div_add_mod N n
  have hr := Nat.mod_lt N h0
  have key : ∀ j : Nat, j < cntN (k : Int) (N : Int) (n : Int) ↔ k + j * n < N := fun j => by
    rw [deal_more h0]
    have : ((j * n : Nat) : Int) = (j : Int) * n := by simp
    omega
  generalize cntN (k : Int) (N : Int) (n : Int) = m at *
  generalize N / n = q at *
  generalize N % n = r at *
  have a1 : n * (q + 1) = n * q + n := by rw [Nat.mul_add, Nat.mul_one]
  have c1 : q * n = n * q := Nat.mul_comm _ _
  have c2 : (q + 1) * n = n * q + n := by rw [Nat.mul_comm, a1]
  by_cases hd : k < r
  · rw [if_pos hd]
    have u1 := (key q).2 (by rw [c1]; omega)
    have u2 : ¬ q + 1 < m := fun h => by have := (key (q + 1)).1 h; rw [c2] at this; omega
    omega
  · rw [if_neg hd]
    have u2 : ¬ q < m := fun h => by have := (key q).1 h; rw [c1] at this; omega
    rcases Nat.eq_zero_or_pos q with hq | hq
    · omega
    · obtain ⟨p, rfl⟩ : ∃ p, q = p + 1 := ⟨q - 1, by omega⟩
      have a2 : n * (p + 1) = n * p + n := by rw [Nat.mul_add, Nat.mul_one]
      have u1 := (key p).2 (by rw [Nat.mul_comm p n]; omega)
      omega
/-- How many of N numbers the first k of n are dealt. -/
def dealS (N n k : Nat) : Nat := k * (N / n) + min k (N % n)
theorem dealS_zero (N n : Nat) : dealS N n 0 = 0 := by simp [dealS]
theorem dealS_succ {N n k : Nat} (hk : k < n) : dealS N n (k + 1) = dealS N n k + cntN k N n := by
  rw [deal_cnt hk, dealS, dealS, Nat.add_mul, Nat.one_mul]
  split <;> omega
theorem dealS_all {N n : Nat} (hn : 1 ≤ n) : dealS N n n = N := by
  have e := Nat.div_add_mod N n
  have hr := Nat.mod_lt N hn
  rw [dealS]
  omega
theorem dealS_le {N n k : Nat} (hn : 1 ≤ n) (hk : k ≤ n) : dealS N n k ≤ N := by
  have e := Nat.div_add_mod N n
  have h1 : k * (N / n) ≤ n * (N / n) := Nat.mul_le_mul_right _ hk
  rw [dealS]
  omega
/-- The ranges dealt are valid, and hold the numbers dealt. -/
theorem dealF_ok {a b c : Int} {n k : Nat} (hv : vR a b c = true) (hn : 1 ≤ n) : vR (dealF a b c n k).1 (dealF a b c n k).2.1 (dealF a b c n k).2.2 = true ∧ cntN (dealF a b c n k).1 (dealF a b c n k).2.1 (dealF a b c n k).2.2 = cntN k (cntN a b c) n ∧ ∀ j : Nat, j < cntN k (cntN a b c) n → (dealF a b c n k).1 + (j : Int) * (dealF a b c n k).2.2 = a + ((k + j * n : Nat) : Int) * c := by
  have hc := (vR_spec.1 hv).2.2.2
  have h0 : c * (n : Int) ≠ 0 := Int.mul_ne_zero hc (by omega)
  have hp := PRg_valid (s := a + (k : Int) * c) (c := c * (n : Int)) (n := cntN k (cntN a b c) n) h0 fun i hi => (deal_num hv hn hi).2.2
  refine ⟨hp.1, hp.2.1, fun j hj => ?_⟩
  have e := nums_PR (a + (k : Int) * c) (c * (n : Int)) (cntN k (cntN a b c) n)
  have e2 := congrArg (fun l => l.getD j 0) e
  simp only [nums_getD _ _ _ _ hj] at e2
  show pS _ _ + (j : Int) * pC _ _ = _
  rw [e2]
  exact (deal_num hv hn hj).2.1
/-- Number i of a range is number i / n of the range that is dealt it. -/
theorem deal_at {a b c : Int} {n i : Nat} (hv : vR a b c = true) (hn : 1 ≤ n) (hi : i < cntN a b c) : naB (dealF a b c n (i % n)).1 (dealF a b c n (i % n)).2.1 (dealF a b c n (i % n)).2.2 ((i / n : Nat) : Int) = true ∧ naI (dealF a b c n (i % n)).1 (dealF a b c n (i % n)).2.1 (dealF a b c n (i % n)).2.2 ((i / n : Nat) : Int) = a + (i : Int) * c := by
  obtain ⟨h1, h2, h3⟩ := dealF_ok (k := i % n) hv hn
  have e := Nat.div_add_mod i n
  have hj : i / n < cntN ((i % n : Nat) : Int) (cntN a b c) n := by
    rw [deal_more hn]
    have : ((n * (i / n) : Nat) : Int) = ((i / n : Nat) : Int) * (n : Int) := by rw [Nat.mul_comm]; simp
    omega
  have h4 := h3 _ hj
  have e5 : i % n + i / n * n = i := by rw [Nat.mul_comm]; omega
  rw [e5] at h4
  rw [← h4]
  have hnn : (0 : Int) ≤ ((i / n : Nat) : Int) := Int.natCast_nonneg _
  generalize i / n = j at *
  exact na_eq h1 (by unfold fromEnd; rw [if_neg (by omega)]) (by omega) (by omega)
theorem tmod_cast (i n : Nat) : (i : Int).tmod n = ((i % n : Nat) : Int) := by
  rw [Int.tmod_eq_emod_of_nonneg (by omega)]; simp
theorem tdiv_cast (i n : Nat) : (i : Int).tdiv n = ((i / n : Nat) : Int) := by
  rw [Int.tdiv_eq_ediv_of_nonneg (by omega)]; simp
end VwM
