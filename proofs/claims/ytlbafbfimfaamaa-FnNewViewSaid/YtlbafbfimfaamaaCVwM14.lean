/- New views. -/
import Derived.Test.YtlbafbfimfaamaaCVwM12
set_option linter.unusedVariables false
set_option linter.unusedSimpArgs false
set_option linter.unnecessarySimpa false
set_option maxRecDepth 4000
namespace VwM
open Vw
open Go

theorem pr_split (xs : List Int) (i : Nat) : pr xs = pr (xs.take i) * pr (xs.drop i) := by
  have e : xs = xs.take i ++ xs.drop i := (List.take_append_drop i xs).symm
  conv => lhs; rw [e, pr, List.foldl_append, foldl_mul]
  rfl
theorem pr_take_pos {xs : List Int} (h : ∀ i, i < xs.length → 1 ≤ xs.getD i 0) : ∀ k, k ≤ xs.length → 1 ≤ pr (xs.take k)
  | 0, _ => by simp [pr_nil]
  | k + 1, hk => by
    have ih := pr_take_pos h k (by omega)
    have h1 := h k (by omega)
    rw [pr_take_succ xs k (by omega)]
    have := Int.mul_le_mul ih h1 (by omega) (by omega : (0 : Int) ≤ pr (xs.take k))
    omega
theorem rowS_le {sh : List Int} (hs : vSh sh = true) (hp : 1 ≤ pr sh) (i : Nat) (hi : i < sh.length) : 0 ≤ (rowS sh).getD i 0 ∧ (rowS sh).getD i 0 ≤ 60 := by
  obtain ⟨hg, h0, h60⟩ := vSh_good hs
  have hb := rowS_bound hg i hi
  rw [rowS_getD sh i hi] at hb ⊢
  have ht := pr_take_pos (pos_of_pr hg hp) (i + 1) (by omega)
  have e := pr_split sh (i + 1)
  have : 1 * pr (sh.drop (i + 1)) ≤ pr (sh.take (i + 1)) * pr (sh.drop (i + 1)) := Int.mul_le_mul_of_nonneg_right ht (by omega)
  omega
theorem offs_row {b : Int} {sh : List Int} (hs : vSh sh = true) : offs b sh (rowS sh) = nums b 1 (pr sh).toNat := by
  have hg := (vSh_good hs).1
  refine list_eq_of (by simp [offs]) fun k hk => ?_
  rw [offs_length] at hk
  rw [offs_getD hk, nums_getD _ _ _ _ hk, cellK, Int.mul_one]
  have h1 := rank_unr hs (k := k) (by omega) (by omega)
  rw [rankD, if_pos ⟨hs, unr_isIx hg (by omega) (by omega)⟩] at h1
  rw [← dot_congr (f := fun i => (unr sh k).getD i 0) (g := dig sh k) fun i hi => by simp [unr, List.getD, hi]]
  rw [h1]
/-- A new view has the cells 0, 1, and so on. -/
theorem newV_ok {sh : List Int} (hs : vSh sh = true) : vV 0 sh (newSt sh) = true ∧ offs 0 sh (newSt sh) = nums 0 1 (pr sh).toNat ∧ offs 0 sh (newSt sh) = offs 0 sh (rowS sh) := by
  obtain ⟨hg, h0, h60⟩ := vSh_good hs
  by_cases hz : pr sh = 0
  · have e1 : ∀ st, offs 0 sh st = [] := fun st => by simp [offs, hz]
    refine ⟨vV_spec.2 ⟨hs, vSt_spec.2 ⟨newSt_length sh, fun x hx => ?_⟩, by omega, .inl hz⟩, ?_, ?_⟩
    · rw [newSt, if_pos hz] at hx
      have := List.eq_of_mem_replicate hx
      omega
    · rw [e1, hz]; rfl
    · rw [e1, e1]
  · have e : newSt sh = rowS sh := if_neg hz
    rw [e]
    refine ⟨vV_spec.2 ⟨hs, vSt_spec.2 ⟨rowS_length sh, fun x hx => ?_⟩, by omega, .inr fun x hx => ?_⟩, offs_row hs, rfl⟩
    · obtain ⟨i, hi, rfl⟩ := mem_getD.1 hx
      have := rowS_le hs (by omega) i (by simpa using hi)
      omega
    · rw [offs_row hs] at hx
      obtain ⟨i, hi, rfl⟩ := mem_getD.1 hx
      rw [nums_length] at hi
      rw [nums_getD _ _ _ _ hi]
      omega
end VwM
