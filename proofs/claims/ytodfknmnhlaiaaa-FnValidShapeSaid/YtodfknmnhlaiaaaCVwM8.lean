/- Properties of what the functions of ranges answer. -/
import Derived.Test.YtodfknmnhlaiaaaCVwM7
set_option linter.unusedVariables false
set_option linter.unusedSimpArgs false
set_option linter.unnecessarySimpa false
set_option maxRecDepth 4000
namespace VwM
open Vw
open Go

theorem PR_PR (s c : Int) (n : Nat) (h0 : c ≠ 0) : PR (pS s n) (pC c n) n = PR s c n := by
  match n with
  | 0 => simp [PR, pS, pE, pC]
  | 1 => simp [PR, pS, pE, pC]
  | n + 2 =>
    have p1 : ¬ ((n + 2 : Nat) : Int) < 1 := by omega
    have p2 : ¬ ((n + 2 : Nat) : Int) ≤ 1 := by omega
    have p3 : ¬ ((n + 2 : Nat) : Int) = 1 := by omega
    simp only [PR, pS, pE, pC, if_neg p1, if_neg p2, if_neg p3]
theorem nrR_PR {s c : Int} {n : Nat} (h0 : c ≠ 0) (hc : -200 ≤ c ∧ c ≤ 200) (hb : ∀ i : Nat, i < n → -100 ≤ s + (i : Int) * c ∧ s + (i : Int) * c ≤ 100) : nrR (pS s n) (pE s c n) (pC c n) = PR s c n := by
  rw [nrR_pos (PR_valid h0 hc hb), cntN_PR h0 hc hb, PR_PR s c n h0]
theorem rvR_PR {s c : Int} {n : Nat} (h0 : c ≠ 0) (hc : -200 ≤ c ∧ c ≤ 200) (hb : ∀ i : Nat, i < n → -100 ≤ s + (i : Int) * c ∧ s + (i : Int) * c ≤ 100) : rvR (pS s n) (pE s c n) (pC c n) = PR (s + ((n : Int) - 1) * c) (0 - c) n := by
  rw [rvR_pos (PR_valid h0 hc hb), cntN_PR h0 hc hb]
  match n with
  | 0 => simp [PR, pS, pE, pC]
  | 1 => simp [PR, pS, pE, pC]
  | n + 2 =>
    have p1 : ¬ ((n + 2 : Nat) : Int) < 1 := by omega
    have p2 : ¬ ((n + 2 : Nat) : Int) ≤ 1 := by omega
    have p3 : ¬ ((n + 2 : Nat) : Int) = 1 := by omega
    simp only [PR, pS, pE, pC, if_neg p1, if_neg p2, if_neg p3]
theorem numsOf_PR {s c : Int} {n : Nat} (h0 : c ≠ 0) (hc : -200 ≤ c ∧ c ≤ 200) (hb : ∀ i : Nat, i < n → -100 ≤ s + (i : Int) * c ∧ s + (i : Int) * c ≤ 100) : numsOf (pS s n) (pE s c n) (pC c n) = nums s c n := by
  rw [numsOf, if_pos (PR_valid h0 hc hb), cntN_PR h0 hc hb, nums_PR]
theorem back_back {a c : Int} {n : Nat} : PR ((a + ((n : Int) - 1) * c) + ((n : Int) - 1) * (0 - c)) (0 - (0 - c)) n = PR a c n := by
  rw [Int.mul_sub, Int.mul_zero, show (a + ((n : Int) - 1) * c) + (0 - ((n : Int) - 1) * c) = a by omega, show 0 - (0 - c) = c by omega]
theorem cntN_all (n : Nat) : cntN 0 n 1 = n := by
  unfold cntN cntI
  rw [if_neg (by omega)]
  by_cases h : (n : Int) - 0 ≤ 0
  · rw [if_pos h]; omega
  · rw [if_neg h, Int.tdiv_one]; omega
/-- A slice by one without ends takes all. -/
theorem slRg_all {a b c : Int} (hv : vR a b c = true) (h : cntN a b c ≤ 60) : slRg a b c 0 0 1 false false = PR a c (cntN a b c) := by
  have hs : vS 0 0 1 false false = true := by decide
  rw [slR_pos ⟨hv, hs, h⟩]
  have e1 : sFrom 0 (cntN a b c) 1 false = 0 := by simp [sFrom]
  have e2 : sTo 0 (cntN a b c) 1 false = cntN a b c := by simp [sTo]
  rw [e1, e2, cntN_all, Int.zero_mul, Int.add_zero, Int.mul_one]
theorem fromEnd_in {k n : Int} (h : 0 ≤ k) : fromEnd k n = k := if_neg (by omega)
theorem fromEnd_back {k n : Int} (h : k < n) : fromEnd (k - n) n = k := by unfold fromEnd; rw [if_pos (by omega)]; omega
theorem naB_spec {a b c i : Int} : naB a b c i = true ↔ vR a b c = true ∧ 0 ≤ fromEnd i (cntN a b c) ∧ fromEnd i (cntN a b c) < cntN a b c := by
  simp only [naB, Bool.and_eq_true, decide_eq_true_eq, and_assoc]
/-- What an index in the range yields, by whatever end it is told. -/
theorem na_eq {a b c i k : Int} (hv : vR a b c = true) (h : fromEnd i (cntN a b c) = k) (h0 : 0 ≤ k) (h1 : k < cntN a b c) : naB a b c i = true ∧ naI a b c i = a + k * c := by
  have hb : naB a b c i = true := naB_spec.2 ⟨hv, by omega, by omega⟩
  exact ⟨hb, by unfold naI; rw [if_pos hb, h]⟩
/-- The place of a number, told by division. -/
theorem pl_div {a b c x : Int} (hv : vR a b c = true) : plI a b c x = if (x - a).tmod c = 0 ∧ 0 ≤ (x - a).tdiv c ∧ (x - a).tdiv c < cntN a b c then (x - a).tdiv c else -1 := by
  have h0 := (vR_spec.1 hv).2.2.2
  rw [plI_pos hv]
  by_cases hr : (x - a).tmod c = 0
  · have hx := Int.tdiv_mul_cancel (Int.dvd_of_tmod_eq_zero hr)
    generalize (x - a).tdiv c = i at *
    by_cases hi : 0 ≤ i ∧ i < cntN a b c
    · rw [if_pos ⟨hr, hi⟩, placeI_nums (i := i) h0 (by omega) hi.1 hi.2]
    · rw [if_neg (fun h => hi h.2), placeI_nums_none]
      intro k hk h
      have : ((k : Int) - i) * c = 0 := by rw [Int.sub_mul]; omega
      rcases Int.mul_eq_zero.1 this with h | h <;> omega
  · rw [if_neg (fun h => hr h.1), placeI_nums_none]
    intro k hk h
    exact hr (by rw [← h, show a + (k : Int) * c - a = (k : Int) * c by omega, Int.mul_tmod_left])
end VwM
