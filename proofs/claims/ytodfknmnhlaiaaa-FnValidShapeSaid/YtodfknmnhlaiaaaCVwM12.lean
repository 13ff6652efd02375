/- Properties of shapes, ranks and strides. -/
import Derived.Test.YtodfknmnhlaiaaaCVwM4
import Derived.Test.YtodfknmnhlaiaaaCVwM8
set_option linter.unusedVariables false
set_option linter.unusedSimpArgs false
set_option linter.unnecessarySimpa false
set_option maxRecDepth 4000
namespace VwM
open Vw
open Go

theorem pr_zero_iff {xs : List Int} : pr xs = 0 ↔ (0 : Int) ∈ xs := by
  induction xs with
  | nil => simp [pr]
  | cons x r ih =>
    rw [pr_cons, Int.mul_eq_zero, ih]
    simp only [List.mem_cons]
    constructor
    · rintro (h | h)
      · exact .inl h.symm
      · exact .inr h
    · rintro (h | h)
      · exact .inl h.symm
      · exact .inr h
theorem hor_horF {sh idx : List Int} : ∀ k, hor sh idx k = horF sh (fun i => idx.getD i 0) k
  | 0 => rfl
  | k + 1 => by simp only [hor, horF, hor_horF k]
theorem unr_isIx {sh : List Int} (hg : good4 sh) {k : Int} (hk : 0 ≤ k) (h : k < pr sh) : vIx sh (unr sh k) = true := by
  refine vIx_spec.2 ⟨by simp, fun i hi => ?_⟩
  have hi' : i < sh.length := by simpa using hi
  have := dig_isIx hg hk h i hi'
  have e : (unr sh k).getD i 0 = dig sh k i := by simp [unr, List.getD, hi']
  rw [e]
  omega
/-- The rank of the index with a rank is it. -/
theorem rank_unr {sh : List Int} (hs : vSh sh = true) {k : Int} (hk : 0 ≤ k) (h : k < pr sh) : rankD sh (unr sh k) = k := by
  have hg := (vSh_good hs).1
  unfold rankD
  rw [if_pos ⟨hs, unr_isIx hg hk h⟩, ← hor_all, hor_horF]
  rw [horF_congr (g := dig sh k) fun i hi => by simp [unr, List.getD, hi]]
  exact horF_dig_all hk (pos_of_pr hg (by omega)) h
theorem vIx_isIx' {sh idx : List Int} (h : vIx sh idx = true) : isIx sh (fun i => idx.getD i 0) := fun i hi => by
  obtain ⟨h1, h2⟩ := vIx_spec.1 h
  have := h2 i (by omega)
  simp only
  omega
/-- The index with the rank of an index is it. -/
theorem unr_rank {sh idx : List Int} (hs : vSh sh = true) (hi : vIx sh idx = true) : unr sh (rankD sh idx) = idx ∧ 0 ≤ rankD sh idx ∧ rankD sh idx < pr sh := by
  have hg := (vSh_good hs).1
  have hx := vIx_isIx' hi
  have e : rankD sh idx = horF sh (fun i => idx.getD i 0) sh.length := by
    unfold rankD
    rw [if_pos ⟨hs, hi⟩, ← hor_all, hor_horF]
  have hb := horF_bound hx sh.length (Nat.le_refl _)
  rw [List.take_length] at hb
  rw [e]
  refine ⟨?_, by omega, by omega⟩
  refine list_eq_of (by rw [unr_length]; exact (vIx_spec.1 hi).1.symm) fun j hj => ?_
  have hj' : j < sh.length := by simpa using hj
  have e2 : (unr sh (horF sh (fun i => idx.getD i 0) sh.length)).getD j 0 = dig sh (horF sh (fun i => idx.getD i 0) sh.length) j := by simp [unr, List.getD, hj']
  rw [e2, dig_horF hx hj']
theorem rankD_neg {sh idx : List Int} (h : rankD sh idx < 0) : rankD sh idx = -1 := by
  unfold rankD at h ⊢
  split
  · rename_i hh
    rw [if_pos hh] at h
    have := (unr_rank hh.1 hh.2).2.1
    unfold rankD at this
    rw [if_pos hh] at this
    omega
  · rfl
theorem rankD_nn {sh idx : List Int} (h : ¬ rankD sh idx < 0) : vSh sh = true ∧ vIx sh idx = true := by
  unfold rankD at h
  split at h
  · rename_i hh; exact hh
  · omega
theorem row_step {sh : List Int} {i : Nat} (h : i + 1 < sh.length) : (rowS sh).getD i 0 = (rowS sh).getD (i + 1) 0 * sh.getD (i + 1) 0 := by
  rw [rowS_getD sh i (by omega), rowS_getD sh (i + 1) h, pr_drop sh (i + 1) h, Int.mul_comm]
theorem row_last {sh : List Int} (h : 0 < sh.length) : (rowS sh).getD (sh.length - 1) 0 = 1 := by
  rw [rowS_getD sh _ (by omega), show sh.length - 1 + 1 = sh.length by omega, List.drop_length, pr_nil]
theorem pr_append (xs ys : List Int) : pr (xs ++ ys) = pr xs * pr ys := by
  induction xs with
  | nil => rw [List.nil_append, pr_nil, Int.one_mul]
  | cons x r ih => rw [List.cons_append, pr_cons, pr_cons, ih, Int.mul_assoc]
theorem pr_reverse (xs : List Int) : pr xs.reverse = pr xs := by
  induction xs with
  | nil => rfl
  | cons x r ih => rw [List.reverse_cons, pr_append, ih, pr_cons, pr_cons, pr_nil, Int.mul_one, Int.mul_comm]
theorem vSh_reverse (xs : List Int) : vSh xs.reverse = vSh xs := by
  simp [vSh, pr_reverse, allI]
theorem row_col (sh : List Int) : (rowS sh.reverse).reverse = colS sh := by
  refine list_eq_of (by simp) fun j hj => ?_
  have hj' : j < sh.length := by simpa using hj
  have e : (rowS sh.reverse).reverse.getD j 0 = (rowS sh.reverse).getD (sh.length - 1 - j) 0 := by
    rw [List.getD, List.getD, List.getElem?_reverse (by simpa using hj')]
    simp
  rw [e, rowS_getD _ _ (by simp; omega), colS_getD sh j hj', show sh.length - 1 - j + 1 = sh.length - j by omega, List.drop_reverse, pr_reverse, show sh.length - (sh.length - j) = j by omega]
end VwM
