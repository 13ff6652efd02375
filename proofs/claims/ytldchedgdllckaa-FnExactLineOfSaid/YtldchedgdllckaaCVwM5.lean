/- The mathematics of different cells. -/
import Derived.Test.YtldchedgdllckaaCVwM4
set_option linter.unusedVariables false
set_option linter.unusedSimpArgs false
set_option linter.unnecessarySimpa false
set_option maxRecDepth 4000
namespace VwM
open Vw
open Go

theorem mkAV_bools (bs : List Bool) (off : Nat) : mkAV false (((bs.map AV.bool).drop off).take 1) = if off < bs.length then some (.bool (bs.getD off false)) else none := by
  by_cases h : off < bs.length
  · rw [if_pos h, List.drop_eq_getElem_cons (by simpa using h)]
    simp [mkAV, h, List.getD]
  · rw [if_neg h, List.drop_eq_nil_of_le (by simp; omega)]
    rfl
theorem innL_boolsM (p : Nat → Bool) (bs : List Bool) : innL p (bs.map AV.bool) = true := by
  induction bs with
  | nil => rfl
  | cons x r ih => simp [innL, AV.inn, ih]
attribute [push_cast] mkAV_bools
/-- Which of the first 60 cells are met among the first k. -/
def met (xs : List Int) (k : Nat) : List Bool := (List.range 60).map fun c : Nat => decide ((c : Int) ∈ xs.take k)
theorem met_length (xs : List Int) (k : Nat) : (met xs k).length = 60 := by simp [met]
theorem met_zero (xs : List Int) : (met xs 0).map AV.bool = List.replicate 60 (AV.bool false) := by
  rfl
theorem met_getD {xs : List Int} {k c : Nat} (h : c < 60) : (met xs k).getD c false = decide ((c : Int) ∈ xs.take k) := by simp [met, List.getD, h]
theorem met_set {xs : List Int} {k c : Nat} (hk : k < xs.length) (hc : xs.getD k 0 = c) (h : c < 60) : (met xs k).set c true = met xs (k + 1) := by
  refine List.ext_getElem (by simp [met]) fun i h1 h2 => ?_
  have hi : i < 60 := by simpa [met] using h2
  rw [List.getElem_set]
  simp only [met, List.getElem_map, List.getElem_range]
  rw [take_succ_getD _ _ hk, hc]
  by_cases e : c = i
  · subst e; simp
  · rw [if_neg e]
    have : ¬ (i : Int) = c := by omega
    simp [this]
theorem nodup_iff {xs : List Int} : xs.Nodup ↔ ∀ j, j < xs.length → xs.getD j 0 ∉ xs.take j := by
  have key : ∀ k, k ≤ xs.length → ((xs.take k).Nodup ↔ ∀ j, j < k → xs.getD j 0 ∉ xs.take j) := by
    intro k
    induction k with
    | zero => intro _; simp
    | succ k ih =>
      intro hk
      rw [take_succ_getD _ _ (by omega), List.nodup_append]
      rw [ih (by omega)]
      constructor
      · rintro ⟨h1, _, h3⟩ j hj
        by_cases e : j = k
        · subst e
          intro hm
          exact h3 _ hm _ (by simp) rfl
        · exact h1 j (by omega)
      · intro h
        refine ⟨fun j hj => h j (by omega), by simp, ?_⟩
        intro a ha b hb e
        simp only [List.mem_singleton] at hb
        subst hb e
        exact h k (by omega) ha
  have := key xs.length (Nat.le_refl _)
  rwa [List.take_length] at this
theorem not_nodup {xs : List Int} {j : Nat} (h : j < xs.length) (hm : xs.getD j 0 ∈ xs.take j) : ¬ xs.Nodup := fun hn => nodup_iff.1 hn j h hm
/-- Whether all indices of a view have different cells. -/
def oneB (b : Int) (sh st : List Int) : Bool := vV b sh st && decide (offs b sh st).Nodup
end VwM
