/- What the functions of ranges answer. -/
import Derived.Test.YtodfknmnhlaiaaaCVwM6
set_option linter.unusedVariables false
set_option linter.unusedSimpArgs false
set_option linter.unnecessarySimpa false
set_option maxRecDepth 4000
namespace VwM
open Vw
open Go

def lenI (a b c : Int) : Int := if vR a b c = true then cntN a b c else -1
def nrR (a b c : Int) : AV := if vR a b c = true then PR a c (cntN a b c) else rng 0 0 0
def rvR (a b c : Int) : AV := if vR a b c = true then PR (a + ((cntN a b c : Int) - 1) * c) (0 - c) (cntN a b c) else rng 0 0 0
def plI (a b c x : Int) : Int := if vR a b c = true then placeI (nums a c (cntN a b c)) x else -1
/-- The index that is meant by one from the end. -/
def fromEnd (i n : Int) : Int := if i < 0 then i + n else i
def naB (a b c i : Int) : Bool := vR a b c && decide (0 ≤ fromEnd i (cntN a b c)) && decide (fromEnd i (cntN a b c) < cntN a b c)
def naI (a b c i : Int) : Int := if naB a b c i = true then a + fromEnd i (cntN a b c) * c else 0
theorem lenI_pos {a b c : Int} (h : vR a b c = true) : lenI a b c = cntN a b c := if_pos h
theorem lenI_neg {a b c : Int} (h : vR a b c = false) : lenI a b c = -1 := if_neg (by simp [h])
theorem nrR_pos {a b c : Int} (h : vR a b c = true) : nrR a b c = PR a c (cntN a b c) := if_pos h
theorem nrR_neg {a b c : Int} (h : vR a b c = false) : nrR a b c = rng 0 0 0 := if_neg (by simp [h])
theorem rvR_pos {a b c : Int} (h : vR a b c = true) : rvR a b c = PR (a + ((cntN a b c : Int) - 1) * c) (0 - c) (cntN a b c) := if_pos h
theorem rvR_neg {a b c : Int} (h : vR a b c = false) : rvR a b c = rng 0 0 0 := if_neg (by simp [h])
theorem plI_pos {a b c x : Int} (h : vR a b c = true) : plI a b c x = placeI (nums a c (cntN a b c)) x := if_pos h
theorem plI_neg {a b c x : Int} (h : vR a b c = false) : plI a b c x = -1 := if_neg (by simp [h])
theorem nrR_rng (a b c : Int) : ∃ x y z, nrR a b c = rng x y z := by unfold nrR; split <;> exact ⟨_, _, _, rfl⟩
theorem rvR_rng (a b c : Int) : ∃ x y z, rvR a b c = rng x y z := by unfold rvR; split <;> exact ⟨_, _, _, rfl⟩
theorem numb {a b c : Int} (hv : vR a b c = true) : ∀ i : Nat, i < cntN a b c → -100 ≤ a + (i : Int) * c ∧ a + (i : Int) * c ≤ 100 := fun i h => (num_bound hv h).2.2
/-- The numbers backward. -/
theorem numb_rev {a b c : Int} (hv : vR a b c = true) : ∀ i : Nat, i < cntN a b c → -100 ≤ (a + ((cntN a b c : Int) - 1) * c) + (i : Int) * (0 - c) ∧ (a + ((cntN a b c : Int) - 1) * c) + (i : Int) * (0 - c) ≤ 100 := fun i h => by
  have := num_bound hv (i := cntN a b c - 1 - i) (by omega)
  rw [show ((cntN a b c - 1 - i : Nat) : Int) = (cntN a b c : Int) - 1 - i by omega, Int.sub_mul] at this
  rw [Int.mul_sub, Int.mul_zero]
  omega
theorem nr_valid {a b c : Int} (hv : vR a b c = true) : vR (pS a (cntN a b c)) (pE a c (cntN a b c)) (pC c (cntN a b c)) = true ∧ cntN (pS a (cntN a b c)) (pE a c (cntN a b c)) (pC c (cntN a b c)) = cntN a b c := by
  obtain ⟨h1, h2, h3, h4⟩ := vR_spec.1 hv
  exact ⟨PR_valid h4 h3 (numb hv), cntN_PR h4 h3 (numb hv)⟩
theorem rv_valid {a b c : Int} (hv : vR a b c = true) : vR (pS (a + ((cntN a b c : Int) - 1) * c) (cntN a b c)) (pE (a + ((cntN a b c : Int) - 1) * c) (0 - c) (cntN a b c)) (pC (0 - c) (cntN a b c)) = true ∧ cntN (pS (a + ((cntN a b c : Int) - 1) * c) (cntN a b c)) (pE (a + ((cntN a b c : Int) - 1) * c) (0 - c) (cntN a b c)) (pC (0 - c) (cntN a b c)) = cntN a b c := by
  obtain ⟨h1, h2, h3, h4⟩ := vR_spec.1 hv
  exact ⟨PR_valid (by omega) (by omega) (numb_rev hv), cntN_PR (by omega) (by omega) (numb_rev hv)⟩
theorem cnt_up {a b c : Int} (hc : c > 0) (h : b > a) : (b - a - 1).tdiv c + 1 = cntI a b c := by
  unfold cntI
  rw [if_neg (by omega), if_neg (by omega), Int.tdiv_eq_ediv_of_nonneg (by omega), Int.tdiv_eq_ediv_of_nonneg (by omega), show b - a + c - 1 = (b - a - 1) + 1 * c by omega, Int.add_mul_ediv_right _ _ (by omega)]
theorem cnt_down {a b c : Int} (hc : c < 0) (h : b < a) : (a - b - 1).tdiv (0 - c) + 1 = cntI a b c := by
  unfold cntI
  rw [if_pos hc, if_neg (by omega), Int.tdiv_eq_ediv_of_nonneg (by omega), Int.tdiv_eq_ediv_of_nonneg (by omega), show 0 - (b - a) + (0 - c) - 1 = (a - b - 1) + 1 * (0 - c) by omega, Int.add_mul_ediv_right _ _ (by omega)]
theorem cnt_none {a b c : Int} (h : ¬ (c > 0 ∧ b > a)) (h' : ¬ (c < 0 ∧ b < a)) (h0 : c ≠ 0) : cntI a b c = 0 := by
  unfold cntI
  by_cases hc : c < 0
  · rw [if_pos hc, if_pos (by omega)]
  · rw [if_neg hc, if_pos (by omega)]
end VwM
