/- The mathematics of views: cells of indices, ranks, bounds. -/
import Derived.Test.YtodfknmnhlaiaaaCVwM2
set_option linter.unusedVariables false
set_option linter.unusedSimpArgs false
set_option linter.unnecessarySimpa false
set_option maxRecDepth 4000
namespace VwM
open Vw
open Go

/-- The rank so far of the index with the numbers f. -/
def horF (sh : List Int) (f : Nat → Int) : Nat → Int
  | 0 => 0
  | k + 1 => horF sh f k * sh.getD k 0 + f k
theorem horF_congr {sh : List Int} {f g : Nat → Int} : ∀ {k : Nat}, (∀ i, i < k → f i = g i) → horF sh f k = horF sh g k
  | 0, _ => rfl
  | k + 1, h => by simp only [horF]; rw [horF_congr fun i hi => h i (by omega), h k (by omega)]
/-- The numbers f are an index of the shape. -/
def isIx (sh : List Int) (f : Nat → Int) : Prop := ∀ i, i < sh.length → 0 ≤ f i ∧ f i < sh.getD i 0
theorem horF_bound {sh : List Int} {f : Nat → Int} (hf : isIx sh f) : ∀ k, k ≤ sh.length → 0 ≤ horF sh f k ∧ horF sh f k + 1 ≤ pr (sh.take k)
  | 0, _ => by simp [horF, pr_nil]
  | k + 1, h => by
    have ih := horF_bound hf k (by omega)
    have h3 := hf k (by omega)
    rw [pr_take_succ sh k (by omega)]
    have h5 : (horF sh f k + 1) * sh.getD k 0 ≤ pr (sh.take k) * sh.getD k 0 := Int.mul_le_mul_of_nonneg_right ih.2 (by omega)
    have h6 : 0 ≤ horF sh f k * sh.getD k 0 := Int.mul_nonneg ih.1 (by omega)
    rw [Int.add_mul, Int.one_mul] at h5
    simp only [horF]
    omega
theorem kS_horF {sh : List Int} {f : Nat → Int} (hf : isIx sh f) : ∀ j, j ≤ sh.length → kS sh (horF sh f sh.length) j = horF sh f (sh.length - j)
  | 0, _ => by simp [kS]
  | j + 1, h => by
    have ih := kS_horF hf j (by omega)
    have h1 := hf (sh.length - 1 - j) (by omega)
    have h2 := horF_bound hf (sh.length - 1 - j) (by omega)
    simp only [kS]
    rw [ih, show sh.length - j = sh.length - 1 - j + 1 by omega, show sh.length - (j + 1) = sh.length - 1 - j by omega]
    simp only [horF]
    have h3 : 0 ≤ horF sh f (sh.length - 1 - j) * sh.getD (sh.length - 1 - j) 0 := Int.mul_nonneg h2.1 (by omega)
    rw [Int.tdiv_eq_ediv_of_nonneg (by omega), Int.add_comm, Int.add_mul_ediv_right _ _ (by omega), Int.ediv_eq_zero_of_lt h1.1 h1.2]
    omega
theorem dig_horF {sh : List Int} {f : Nat → Int} (hf : isIx sh f) {i : Nat} (hi : i < sh.length) : dig sh (horF sh f sh.length) i = f i := by
  unfold dig
  have h1 := hf i hi
  have h2 := horF_bound hf i (by omega)
  rw [kS_horF hf _ (by omega), show sh.length - (sh.length - 1 - i) = i + 1 by omega]
  simp only [horF]
  have h3 : 0 ≤ horF sh f i * sh.getD i 0 := Int.mul_nonneg h2.1 (by omega)
  rw [Int.tmod_eq_emod_of_nonneg (by omega), Int.add_comm, Int.add_mul_emod_self_right, Int.emod_eq_of_lt h1.1 h1.2]
theorem kS_lt {sh : List Int} {k : Int} (hk : 0 ≤ k) (hp : ∀ i, i < sh.length → 1 ≤ sh.getD i 0) (h : k < pr sh) : ∀ j, j ≤ sh.length → kS sh k j < pr (sh.take (sh.length - j))
  | 0, _ => by simpa [kS] using h
  | j + 1, hj => by
    have ih := kS_lt hk hp h j (by omega)
    have h1 := hp (sh.length - 1 - j) (by omega)
    have h2 := kS_bound hk hp j (by omega)
    rw [show sh.length - j = sh.length - 1 - j + 1 by omega, pr_take_succ _ _ (by omega)] at ih
    simp only [kS]
    rw [show sh.length - (j + 1) = sh.length - 1 - j by omega, Int.tdiv_eq_ediv_of_nonneg h2.1]
    exact Int.ediv_lt_of_lt_mul (by omega) ih
theorem horF_dig {sh : List Int} {k : Int} (hk : 0 ≤ k) (hp : ∀ i, i < sh.length → 1 ≤ sh.getD i 0) (h : k < pr sh) : ∀ m, m ≤ sh.length → horF sh (dig sh k) m = kS sh k (sh.length - m)
  | 0, _ => by
    have h1 := kS_lt hk hp h sh.length (Nat.le_refl _)
    have h2 := kS_bound hk hp sh.length (Nat.le_refl _)
    simp only [Nat.sub_self, List.take_zero, pr_nil] at h1
    simp only [horF, Nat.sub_zero]
    omega
  | m + 1, hm => by
    have ih := horF_dig hk hp h m (by omega)
    simp only [horF]
    rw [ih, show sh.length - m = (sh.length - (m + 1)) + 1 by omega]
    have h2 := kS_bound hk hp (sh.length - (m + 1)) (by omega)
    simp only [kS, dig]
    rw [show sh.length - 1 - (sh.length - (m + 1)) = m by omega, show sh.length - 1 - m = sh.length - (m + 1) by omega]
    have := Int.tdiv_mul_add_tmod (kS sh k (sh.length - (m + 1))) (sh.getD m 0)
    omega
theorem horF_dig_all {sh : List Int} {k : Int} (hk : 0 ≤ k) (hp : ∀ i, i < sh.length → 1 ≤ sh.getD i 0) (h : k < pr sh) : horF sh (dig sh k) sh.length = k := by
  rw [horF_dig hk hp h _ (Nat.le_refl _)]; simp [kS]
theorem dig_isIx {sh : List Int} (hg : good4 sh) {k : Int} (hk : 0 ≤ k) (h : k < pr sh) : isIx sh (dig sh k) := fun i hi =>
  dig_bound hk (pos_of_pr hg (by omega)) (fun i hi => (good4_at hg hi).2) hi

/-- The cell of the index with the rank k. -/
def cellK (b : Int) (sh st : List Int) (k : Int) : Int := b + dot (dig sh k) st sh.length
/-- The cells of a view, in order. -/
def offs (b : Int) (sh st : List Int) : List Int := (List.range (pr sh).toNat).map fun k : Nat => cellK b sh st k
theorem offs_length (b : Int) (sh st : List Int) : (offs b sh st).length = (pr sh).toNat := by simp [offs]
theorem offs_getD {b : Int} {sh st : List Int} {k : Nat} (h : k < (pr sh).toNat) : (offs b sh st).getD k 0 = cellK b sh st k := by simp [offs, List.getD, h]
theorem mem_offs {b : Int} {sh st : List Int} {x : Int} : x ∈ offs b sh st ↔ ∃ k : Nat, k < (pr sh).toNat ∧ cellK b sh st k = x := by simp [offs]
/-- The cells are those of the indices. -/
theorem mem_offs_ix {b : Int} {sh st : List Int} (hg : good4 sh) {x : Int} : x ∈ offs b sh st ↔ ∃ f, isIx sh f ∧ b + dot f st sh.length = x := by
  rw [mem_offs]
  constructor
  · rintro ⟨k, hk, rfl⟩
    exact ⟨dig sh k, dig_isIx hg (by omega) (by omega), rfl⟩
  · rintro ⟨f, hf, rfl⟩
    have h := horF_bound hf sh.length (Nat.le_refl _)
    rw [List.take_length] at h
    refine ⟨(horF sh f sh.length).toNat, by omega, ?_⟩
    unfold cellK
    rw [show (((horF sh f sh.length).toNat : Nat) : Int) = horF sh f sh.length by omega, dot_congr fun i hi => dig_horF hf hi]
def vSt (st : List Int) (n : Nat) : Bool := decide (st.length = n) && allI st (-60) 60
theorem vSt_spec {st : List Int} {n : Nat} : vSt st n = true ↔ st.length = n ∧ ∀ x ∈ st, -60 ≤ x ∧ x ≤ 60 := by
  simp only [vSt, Bool.and_eq_true, decide_eq_true_eq, allI_iff]
theorem vSt_at {st : List Int} {n i : Nat} (h : vSt st n = true) (hi : i < n) : -60 ≤ st.getD i 0 ∧ st.getD i 0 ≤ 60 := by
  obtain ⟨h1, h2⟩ := vSt_spec.1 h
  exact h2 _ (getD_mem (by omega))
/-- A valid view. -/
def vV (b : Int) (sh st : List Int) : Bool := vSh sh && vSt st sh.length && (decide (0 ≤ b) && decide (b ≤ 60)) && (decide (pr sh = 0) || allI (offs b sh st) 0 59)
theorem vV_spec {b : Int} {sh st : List Int} : vV b sh st = true ↔ vSh sh = true ∧ vSt st sh.length = true ∧ (0 ≤ b ∧ b ≤ 60) ∧ (pr sh = 0 ∨ ∀ x ∈ offs b sh st, 0 ≤ x ∧ x ≤ 59) := by
  simp only [vV, Bool.and_eq_true, Bool.or_eq_true, decide_eq_true_eq, allI_iff, and_assoc]
theorem vV_cells {b : Int} {sh st : List Int} (h : vV b sh st = true) : ∀ x ∈ offs b sh st, 0 ≤ x ∧ x ≤ 59 := by
  obtain ⟨h1, h2, h3, h4⟩ := vV_spec.1 h
  rcases h4 with h4 | h4
  · intro x hx
    obtain ⟨k, hk, _⟩ := mem_offs.1 hx
    omega
  · exact h4
def lowS (sh st : List Int) : Nat → Int
  | 0 => 0
  | k + 1 => lowS sh st k + min ((sh.getD k 0 - 1) * st.getD k 0) 0
def highS (sh st : List Int) : Nat → Int
  | 0 => 0
  | k + 1 => highS sh st k + max ((sh.getD k 0 - 1) * st.getD k 0) 0
theorem dot_lowhigh {sh st : List Int} {f : Nat → Int} (hf : isIx sh f) : ∀ k, k ≤ sh.length → lowS sh st k ≤ dot f st k ∧ dot f st k ≤ highS sh st k
  | 0, _ => by simp [lowS, highS, dot]
  | k + 1, h => by
    have ih := dot_lowhigh (st := st) hf k (by omega)
    have h1 := hf k (by omega)
    simp only [lowS, highS, dot]
    have : min ((sh.getD k 0 - 1) * st.getD k 0) 0 ≤ f k * st.getD k 0 ∧ f k * st.getD k 0 ≤ max ((sh.getD k 0 - 1) * st.getD k 0) 0 := by
      rcases Int.lt_or_le (st.getD k 0) 0 with hs | hs
      · have a1 := Int.mul_nonneg h1.1 (b := 0 - st.getD k 0) (by omega)
        have a2 := Int.mul_nonneg (a := sh.getD k 0 - 1 - f k) (b := 0 - st.getD k 0) (by omega) (by omega)
        rw [Int.mul_sub, Int.mul_zero] at a1 a2
        rw [Int.sub_mul] at a2
        omega
      · have a1 := Int.mul_nonneg h1.1 hs
        have a2 := Int.mul_nonneg (a := sh.getD k 0 - 1 - f k) (by omega) hs
        rw [Int.sub_mul] at a2
        omega
    omega
theorem dot_low {sh st : List Int} : ∀ k, k ≤ sh.length → (∀ i, i < sh.length → 1 ≤ sh.getD i 0) → dot (fun i => if st.getD i 0 < 0 then sh.getD i 0 - 1 else 0) st k = lowS sh st k
  | 0, _, _ => rfl
  | k + 1, h, hp => by
    simp only [lowS, dot]
    rw [dot_low k (by omega) hp]
    have := hp k (by omega)
    split
    · rename_i hs
      have a2 := Int.mul_nonneg (a := sh.getD k 0 - 1) (b := 0 - st.getD k 0) (by omega) (by omega)
      rw [Int.mul_sub, Int.mul_zero] at a2
      omega
    · have a2 := Int.mul_nonneg (a := sh.getD k 0 - 1) (b := st.getD k 0) (by omega) (by omega)
      omega
theorem dot_high {sh st : List Int} : ∀ k, k ≤ sh.length → (∀ i, i < sh.length → 1 ≤ sh.getD i 0) → dot (fun i => if st.getD i 0 < 0 then 0 else sh.getD i 0 - 1) st k = highS sh st k
  | 0, _, _ => rfl
  | k + 1, h, hp => by
    simp only [highS, dot]
    rw [dot_high k (by omega) hp]
    have := hp k (by omega)
    split
    · rename_i hs
      have a2 := Int.mul_nonneg (a := sh.getD k 0 - 1) (b := 0 - st.getD k 0) (by omega) (by omega)
      rw [Int.mul_sub, Int.mul_zero] at a2
      omega
    · have a2 := Int.mul_nonneg (a := sh.getD k 0 - 1) (b := st.getD k 0) (by omega) (by omega)
      omega
theorem low_offs {b : Int} {sh st : List Int} (hg : good4 sh) (h1 : 1 ≤ pr sh) : b + lowS sh st sh.length ∈ offs b sh st ∧ ∀ x ∈ offs b sh st, b + lowS sh st sh.length ≤ x := by
  have hp := pos_of_pr hg h1
  constructor
  · refine (mem_offs_ix hg).2 ⟨fun i => if st.getD i 0 < 0 then sh.getD i 0 - 1 else 0, fun i hi => ?_, by rw [dot_low _ (Nat.le_refl _) hp]⟩
    have := hp i hi
    simp only
    split <;> omega
  · intro x hx
    obtain ⟨f, hf, rfl⟩ := (mem_offs_ix hg).1 hx
    have := dot_lowhigh (st := st) hf sh.length (Nat.le_refl _)
    omega
theorem high_offs {b : Int} {sh st : List Int} (hg : good4 sh) (h1 : 1 ≤ pr sh) : b + highS sh st sh.length ∈ offs b sh st ∧ ∀ x ∈ offs b sh st, x ≤ b + highS sh st sh.length := by
  have hp := pos_of_pr hg h1
  constructor
  · refine (mem_offs_ix hg).2 ⟨fun i => if st.getD i 0 < 0 then 0 else sh.getD i 0 - 1, fun i hi => ?_, by rw [dot_high _ (Nat.le_refl _) hp]⟩
    have := hp i hi
    simp only
    split <;> omega
  · intro x hx
    obtain ⟨f, hf, rfl⟩ := (mem_offs_ix hg).1 hx
    have := dot_lowhigh (st := st) hf sh.length (Nat.le_refl _)
    omega
def bdL (b : Int) (sh st : List Int) : Int := if pr sh = 0 then -1 else b + lowS sh st sh.length
def bdH (b : Int) (sh st : List Int) : Int := if pr sh = 0 then -1 else b + highS sh st sh.length
theorem bd_all {b : Int} {sh st : List Int} (hg : good4 sh) (h1 : 1 ≤ pr sh) {l h : Int} : allI (offs b sh st) l h = (decide (l ≤ b + lowS sh st sh.length) && decide (b + highS sh st sh.length ≤ h)) := by
  rw [Bool.eq_iff_iff, allI_iff, Bool.and_eq_true, decide_eq_true_eq, decide_eq_true_eq]
  obtain ⟨a1, a2⟩ := low_offs (b := b) (st := st) hg h1
  obtain ⟨a3, a4⟩ := high_offs (b := b) (st := st) hg h1
  constructor
  · intro h
    exact ⟨(h _ a1).1, (h _ a3).2⟩
  · rintro ⟨h5, h6⟩ x hx
    have := a2 x hx
    have := a4 x hx
    omega
/-- The least of the first k, and the greatest. -/
def mnL (xs : List Int) : Nat → Int
  | 0 => xs.getD 0 0
  | k + 1 => min (mnL xs k) (xs.getD k 0)
def mxL (xs : List Int) : Nat → Int
  | 0 => xs.getD 0 0
  | k + 1 => max (mxL xs k) (xs.getD k 0)
theorem mnL_spec {xs : List Int} (h : 0 < xs.length) : ∀ k, k ≤ xs.length → mnL xs k ∈ xs ∧ ∀ j, j < k → mnL xs k ≤ xs.getD j 0
  | 0, _ => ⟨getD_mem h, fun j hj => by omega⟩
  | k + 1, hk => by
    have ih := mnL_spec h k (by omega)
    simp only [mnL]
    have := getD_mem (xs := xs) (j := k) (by omega)
    constructor
    · rcases Int.le_total (mnL xs k) (xs.getD k 0) with h1 | h1
      · rw [Int.min_eq_left h1]; exact ih.1
      · rw [Int.min_eq_right h1]; exact this
    · intro j hj
      by_cases h1 : j = k
      · subst h1; omega
      · have := ih.2 j (by omega); omega
theorem mxL_spec {xs : List Int} (h : 0 < xs.length) : ∀ k, k ≤ xs.length → mxL xs k ∈ xs ∧ ∀ j, j < k → xs.getD j 0 ≤ mxL xs k
  | 0, _ => ⟨getD_mem h, fun j hj => by omega⟩
  | k + 1, hk => by
    have ih := mxL_spec h k (by omega)
    simp only [mxL]
    have := getD_mem (xs := xs) (j := k) (by omega)
    constructor
    · rcases Int.le_total (mxL xs k) (xs.getD k 0) with h1 | h1
      · rw [Int.max_eq_right h1]; exact this
      · rw [Int.max_eq_left h1]; exact ih.1
    · intro j hj
      by_cases h1 : j = k
      · subst h1; omega
      · have := ih.2 j (by omega); omega
theorem mnL_eq {xs : List Int} {v : Int} (h : 0 < xs.length) (h1 : v ∈ xs) (h2 : ∀ x ∈ xs, v ≤ x) : mnL xs xs.length = v := by
  obtain ⟨a, b⟩ := mnL_spec h _ (Nat.le_refl _)
  obtain ⟨j, hj, rfl⟩ := mem_getD.1 h1
  have := b j hj
  have := h2 _ a
  omega
theorem mxL_eq {xs : List Int} {v : Int} (h : 0 < xs.length) (h1 : v ∈ xs) (h2 : ∀ x ∈ xs, x ≤ v) : mxL xs xs.length = v := by
  obtain ⟨a, b⟩ := mxL_spec h _ (Nat.le_refl _)
  obtain ⟨j, hj, rfl⟩ := mem_getD.1 h1
  have := b j hj
  have := h2 _ a
  omega
theorem lowhigh_bound {sh st : List Int} (hg : good4 sh) (hs : vSt st sh.length = true) : ∀ k, k ≤ sh.length → -(3600 * (k : Int)) ≤ lowS sh st k ∧ lowS sh st k ≤ 0 ∧ 0 ≤ highS sh st k ∧ highS sh st k ≤ 3600 * (k : Int)
  | 0, _ => by simp [lowS, highS]
  | k + 1, h => by
    have ih := lowhigh_bound hg hs k (by omega)
    have h1 := good4_at hg (k := k) (by omega)
    have h2 := vSt_at hs (i := k) (by omega)
    have h3 := mul_bd (x := sh.getD k 0 - 1) (y := st.getD k 0) (p := 60) (q := 60) (by omega) (by omega)
    simp only [lowS, highS]
    omega
end VwM
