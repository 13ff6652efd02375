/- Normal forms whatever their step, for what slices take. -/
import Derived.Test.YtniddegncklgpaaCVwM9
set_option linter.unusedVariables false
set_option linter.unusedSimpArgs false
set_option linter.unnecessarySimpa false
set_option maxRecDepth 4000
namespace VwM
open Vw
open Go

theorem norm_step {s c : Int} {n : Nat} (h0 : c ≠ 0) (hb : ∀ i : Nat, i < n → -100 ≤ s + (i : Int) * c ∧ s + (i : Int) * c ≤ 100) :
    ∃ c', c' ≠ 0 ∧ (-200 ≤ c' ∧ c' ≤ 200) ∧ pE s c n = pE s c' n ∧ pC c n = pC c' n ∧ nums s c n = nums s c' n ∧ ∀ i : Nat, i < n → -100 ≤ s + (i : Int) * c' ∧ s + (i : Int) * c' ≤ 100 := by
  match n with
  | 0 => exact ⟨1, by omega, by omega, by simp [pE], by simp [pC], rfl, fun i h => by omega⟩
  | 1 =>
    refine ⟨1, by omega, by omega, by simp [pE], by simp [pC], by simp [nums], fun i h => ?_⟩
    have := hb 0 (by omega)
    obtain rfl : i = 0 := by omega
    simpa using this
  | n + 2 =>
    have a0 := hb 0 (by omega)
    have a1 := hb 1 (by omega)
    simp only [Int.natCast_zero, Int.zero_mul, Int.add_zero, Int.natCast_one, Int.one_mul] at a0 a1
    exact ⟨c, h0, by omega, rfl, rfl, rfl, hb⟩
theorem PRg_valid {s c : Int} {n : Nat} (h0 : c ≠ 0) (hb : ∀ i : Nat, i < n → -100 ≤ s + (i : Int) * c ∧ s + (i : Int) * c ≤ 100) : vR (pS s n) (pE s c n) (pC c n) = true ∧ cntN (pS s n) (pE s c n) (pC c n) = n ∧ nrR (pS s n) (pE s c n) (pC c n) = PR s c n ∧ numsOf (pS s n) (pE s c n) (pC c n) = nums s c n := by
  obtain ⟨c', h1, h2, e1, e2, e3, h3⟩ := norm_step h0 hb
  rw [PR, e1, e2, e3]
  exact ⟨PR_valid h1 h2 h3, cntN_PR h1 h2 h3, nrR_PR h1 h2 h3, numsOf_PR h1 h2 h3⟩
/-- A range has the numbers of another one. -/
theorem cvB_true {a b c s c' : Int} {n : Nat} (hv : vR a b c = true) (h0 : c' ≠ 0) (hb : ∀ i : Nat, i < n → -100 ≤ s + (i : Int) * c' ∧ s + (i : Int) * c' ≤ 100) (h : ∀ x ∈ nums s c' n, x ∈ nums a c (cntN a b c)) : cvB a b c (pS s n) (pE s c' n) (pC c' n) = true := by
  obtain ⟨h1, h2, h3, h4⟩ := PRg_valid h0 hb
  have e : nums (pS s n) (pC c' n) n = nums s c' n := nums_PR s c' n
  simp only [cvB, hv, h1, h2, e, Bool.and_self, Bool.true_and, decide_eq_true_eq]
  exact h
/-- What a slice takes of a range are numbers of it. -/
theorem taken_in {a c u w : Int} {n k : Nat} (h : ∀ i : Nat, i < k → 0 ≤ u + (i : Int) * w ∧ u + (i : Int) * w < n) : ∀ x ∈ nums (a + u * c) (c * w) k, x ∈ nums a c n := by
  intro x hx
  obtain ⟨i, hi, rfl⟩ := mem_nums.1 hx
  have := h i hi
  refine mem_nums.2 ⟨(u + (i : Int) * w).toNat, by omega, ?_⟩
  rw [show (((u + (i : Int) * w).toNat : Nat) : Int) = u + (i : Int) * w by omega, Int.add_mul, Int.mul_assoc, Int.mul_comm w c]
  omega
theorem pC_zero {c n : Int} (h : c ≠ 0) : ¬ pC c n = 0 := by unfold pC; split <;> omega
theorem mul_ne {c w : Int} (h : c ≠ 0) (h' : w ≠ 0) : c * w ≠ 0 := fun e => by rcases Int.mul_eq_zero.1 e with e | e <;> omega
theorem sum_rev {a c : Int} {n : Nat} : sumT (nums (a + ((n : Int) - 1) * c) (0 - c) n) n = sumT (nums a c n) n := by
  have h1 := sumT_nums a c n n (Nat.le_refl _)
  have h2 := sumT_nums (a + ((n : Int) - 1) * c) (0 - c) n n (Nat.le_refl _)
  have e : (a + ((n : Int) - 1) * c) + ((a + ((n : Int) - 1) * c) + ((n : Int) - 1) * (0 - c)) = a + (a + ((n : Int) - 1) * c) := by
    rw [Int.mul_sub, Int.mul_zero]; omega
  rw [e] at h2
  omega
end VwM
