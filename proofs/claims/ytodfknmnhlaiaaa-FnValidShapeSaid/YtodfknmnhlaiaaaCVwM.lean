/- The mathematics of ranges, slices, shapes and indices that the contracts speak of. -/
import Derived.Test.YtodfknmnhlaiaaaCVwU
set_option linter.unusedVariables false
set_option linter.unusedSimpArgs false
set_option linter.unnecessarySimpa false
set_option maxRecDepth 4000
namespace VwM
open Vw
open Go

abbrev rng (a b c : Int) : AV := .agg [.int .i64 a, .int .i64 b, .int .i64 c]
abbrev slc (f t b : Int) (hf ht : Bool) : AV := .agg [.int .i64 f, .int .i64 t, .int .i64 b, .bool hf, .bool ht]
abbrev IL (xs : List Int) : List AV := xs.map (AV.int .i64)
/-- A slice of integers that is handed to a function to be read. -/
abbrev RI (xs : List Int) : AV := .rows false (IL xs) xs.length
/-- A new slice of integers. -/
abbrev OI (xs : List Int) : AV → List (List AV) → Prop := fun r H' => r = .own 0 xs.length 1 ∧ H' = [IL xs]
def vR (a b c : Int) : Bool := decide (-100 ≤ a) && decide (a ≤ 100) && (decide (-101 ≤ b) && decide (b ≤ 101)) && (decide (-200 ≤ c) && decide (c ≤ 200) && !decide (c = 0))
def vS (f t b : Int) (hf ht : Bool) : Bool := decide (-100 ≤ f) && decide (f ≤ 100) && (decide (-100 ≤ t) && decide (t ≤ 100)) && (decide (-200 ≤ b) && decide (b ≤ 200)) && !decide (b = 0) && (hf || decide (f = 0)) && (ht || decide (t = 0))
theorem vR_spec {a b c : Int} : vR a b c = true ↔ (-100 ≤ a ∧ a ≤ 100) ∧ (-101 ≤ b ∧ b ≤ 101) ∧ (-200 ≤ c ∧ c ≤ 200) ∧ c ≠ 0 := by
  simp only [vR, Bool.and_eq_true, decide_eq_true_eq, Bool.not_eq_true', decide_eq_false_iff_not]
  constructor
  · rintro ⟨⟨h1, h2⟩, h3, h4⟩; exact ⟨h1, h2, h3, h4⟩
  · rintro ⟨h1, h2, h3, h4⟩; exact ⟨⟨h1, h2⟩, h3, h4⟩
theorem vS_spec {f t b : Int} {hf ht : Bool} : vS f t b hf ht = true ↔ (-100 ≤ f ∧ f ≤ 100) ∧ (-100 ≤ t ∧ t ≤ 100) ∧ (-200 ≤ b ∧ b ≤ 200) ∧ b ≠ 0 ∧ (hf = true ∨ f = 0) ∧ (ht = true ∨ t = 0) := by
  simp only [vS, Bool.and_eq_true, Bool.or_eq_true, decide_eq_true_eq, Bool.not_eq_true', decide_eq_false_iff_not]
  constructor
  · rintro ⟨⟨⟨⟨⟨h1, h2⟩, h3⟩, h4⟩, h5⟩, h6⟩; exact ⟨h1, h2, h3, h4, h5, h6⟩
  · rintro ⟨h1, h2, h3, h4, h5, h6⟩; exact ⟨⟨⟨⟨⟨h1, h2⟩, h3⟩, h4⟩, h5⟩, h6⟩
theorem mkAV_ints0 (k : IntKind) (xs : List Int) : mkAV false ((xs.map (AV.int k)).take 1) = if 0 < xs.length then some (.int k (xs.getD 0 0)) else none := by
  have := mkAV_ints k xs 0
  rwa [List.drop_zero] at this
theorem pass1L_IL (xs : List Int) : pass1L (IL xs) = IL xs := pass1L_ints _ _
theorem take_all (xs : List AV) (n : Nat) (h : xs.length = n) : xs.take n = xs := by rw [← h, List.take_length]
attribute [push_cast] mkAV_ints mkAV_ints0


theorem list_eq_of {xs ys : List Int} (hl : xs.length = ys.length) (h : ∀ j : Nat, j < xs.length → xs.getD j 0 = ys.getD j 0) : xs = ys := by
  refine List.ext_getElem hl fun i h1 h2 => ?_
  have := h i h1
  simpa [List.getD, h1, h2] using this


/-- k, k + 1, .. -/
def upFrom (k : Int) (n : Nat) : List Int := (List.range n).map fun i : Nat => k + (i : Int)
theorem upFrom_length (k : Int) (n : Nat) : (upFrom k n).length = n := by simp [upFrom]
theorem upFrom_getD (k : Int) (n i : Nat) (h : i < n) : (upFrom k n).getD i 0 = k + i := by simp [upFrom, h, List.getD]
attribute [simp] upFrom_length
attribute [push_cast] upFrom_length
/-- The first j numbers from k on, then what was there. -/
def marked (k : Int) (xs : List Int) (j : Nat) : List Int := upFrom k j ++ xs.drop j
theorem marked_zero (k : Int) (xs : List Int) : marked k xs 0 = xs := by simp [marked, upFrom]
theorem marked_length (k : Int) (xs : List Int) (j : Nat) (h : j ≤ xs.length) : (marked k xs j).length = xs.length := by simp [marked]; omega
theorem marked_set (k : Int) (xs : List Int) (j : Nat) (h : j < xs.length) : (marked k xs j).set j (k + j) = marked k xs (j + 1) := by
  refine List.ext_getElem? fun i => ?_
  simp only [marked, upFrom, List.getElem?_set, List.getElem?_append, List.length_map, List.length_range, List.length_append, List.length_drop, List.getElem?_map, List.getElem?_drop]
  by_cases h1 : j = i
  · subst h1; simp [h]; omega
  · by_cases h2 : i < j
    · simp [h1, h2, Nat.lt_succ_of_lt h2]
    · have h3 : ¬ i < j + 1 := by omega
      simp only [if_neg h1, if_neg h2, if_neg h3]
      congr 1; omega
theorem marked_all (k : Int) (xs : List Int) : marked k xs xs.length = upFrom k xs.length := by simp [marked]


/-- How many numbers a range has, as the program reckons. -/
def cntI (a b c : Int) : Int :=
  if c < 0 then (if 0 - (b - a) ≤ 0 then 0 else (0 - (b - a) + (0 - c) - 1).tdiv (0 - c)) else (if b - a ≤ 0 then 0 else (b - a + c - 1).tdiv c)
theorem tdiv_bound {x y : Int} (hy : 0 < y) (hx : 0 ≤ x) : 0 ≤ x.tdiv y ∧ x.tdiv y ≤ x := by
  rw [Int.tdiv_eq_ediv_of_nonneg hx]
  exact ⟨Int.ediv_nonneg hx (by omega), Int.ediv_le_self _ hx⟩
/-- The first k numbers of a progression. -/
def nums (a c : Int) (k : Nat) : List Int := (List.range k).map fun i : Nat => a + (i : Int) * c
theorem nums_zero (a c : Int) : nums a c 0 = [] := rfl
theorem nums_succ (a c : Int) (k : Nat) : nums a c (k + 1) = nums a c k ++ [a + (k : Int) * c] := by simp [nums, List.range_succ]
theorem nums_length (a c : Int) (k : Nat) : (nums a c k).length = k := by simp [nums]
theorem nums_get (a c : Int) (k i : Nat) (h : i < k) : (nums a c k)[i]? = some (a + (i : Int) * c) := by simp [nums, h]
theorem nums_getD (a c : Int) (k i : Nat) (h : i < k) : (nums a c k).getD i 0 = a + (i : Int) * c := by simp [nums, h, List.getD]
attribute [simp] nums_length
attribute [push_cast] nums_length
theorem cnt_lt {a b c i : Int} (h0 : c ≠ 0) (hi : 0 ≤ i) : i < cntI a b c ↔ (0 < c ∧ a + i * c < b) ∨ (c < 0 ∧ b < a + i * c) := by
  unfold cntI
  by_cases hc : c < 0
  · rw [if_pos hc]
    have hp : 0 ≤ i * (0 - c) := Int.mul_nonneg hi (by omega)
    have e : i * (0 - c) = - (i * c) := by rw [Int.zero_sub, Int.mul_neg]
    by_cases hw : 0 - (b - a) ≤ 0
    · rw [if_pos hw]
      constructor
      · intro h; omega
      · rintro (h | h) <;> omega
    · rw [if_neg hw, Int.tdiv_eq_ediv_of_nonneg (by omega), Int.lt_iff_add_one_le, Int.le_ediv_iff_mul_le (by omega), Int.add_mul]
      constructor
      · intro h; right; omega
      · rintro (h | h) <;> omega
  · rw [if_neg hc]
    have hp : 0 ≤ i * c := Int.mul_nonneg hi (by omega)
    by_cases hw : b - a ≤ 0
    · rw [if_pos hw]
      constructor
      · intro h; omega
      · rintro (h | h) <;> omega
    · rw [if_neg hw, Int.tdiv_eq_ediv_of_nonneg (by omega), Int.lt_iff_add_one_le, Int.le_ediv_iff_mul_le (by omega), Int.add_mul]
      constructor
      · intro h; left; omega
      · rintro (h | h) <;> omega
theorem cnt_bound {a b c : Int} (hv : vR a b c = true) : 0 ≤ cntI a b c ∧ cntI a b c ≤ 500 := by
  obtain ⟨ha, hb, hc, h0⟩ := vR_spec.1 hv
  unfold cntI
  by_cases hc : c < 0
  · rw [if_pos hc]
    by_cases hw : 0 - (b - a) ≤ 0
    · rw [if_pos hw]; omega
    · rw [if_neg hw]
      have := tdiv_bound (x := 0 - (b - a) + (0 - c) - 1) (y := 0 - c) (by omega) (by omega)
      omega
  · rw [if_neg hc]
    by_cases hw : b - a ≤ 0
    · rw [if_pos hw]; omega
    · rw [if_neg hw]
      have := tdiv_bound (x := b - a + c - 1) (y := c) (by omega) (by omega)
      omega
/-- How many numbers a range has. -/
def cntN (a b c : Int) : Nat := (cntI a b c).toNat
theorem cntN_cast {a b c : Int} (hv : vR a b c = true) : (cntN a b c : Int) = cntI a b c := by
  unfold cntN; have := cnt_bound hv; omega
theorem cntN_lt {a b c : Int} (hv : vR a b c = true) (i : Nat) : i < cntN a b c ↔ (0 < c ∧ a + i * c < b) ∨ (c < 0 ∧ b < a + i * c) := by
  rw [← cnt_lt (vR_spec.1 hv).2.2.2 (by omega : (0 : Int) ≤ i), ← cntN_cast hv]
  omega
/-- The numbers of a range lie in the bound, and the products too. -/
theorem num_bound {a b c : Int} (hv : vR a b c = true) {i : Nat} (h : i < cntN a b c) : -201 ≤ (i : Int) * c ∧ (i : Int) * c ≤ 201 ∧ -100 ≤ a + i * c ∧ a + i * c ≤ 100 := by
  obtain ⟨ha, hb, hc, h0⟩ := vR_spec.1 hv
  rcases (cntN_lt hv i).1 h with ⟨h1, h2⟩ | ⟨h1, h2⟩
  · have : 0 ≤ (i : Int) * c := Int.mul_nonneg (by omega) (by omega)
    omega
  · have : 0 ≤ (i : Int) * (0 - c) := Int.mul_nonneg (by omega) (by omega)
    rw [Int.zero_sub, Int.mul_neg] at this
    omega
theorem next_bound {a b c : Int} (hv : vR a b c = true) {i : Nat} (h : i ≤ cntN a b c) : -1000 ≤ (i : Int) * c ∧ (i : Int) * c ≤ 1000 := by
  obtain ⟨ha, hb, hc, h0⟩ := vR_spec.1 hv
  cases i with
  | zero => simp
  | succ i =>
    have := num_bound hv (i := i) (by omega)
    rw [show ((i + 1 : Nat) : Int) * c = (i : Int) * c + c by rw [Int.natCast_add, Int.add_mul]; simp]
    omega
theorem last_bound {a b c : Int} (hv : vR a b c = true) (h : 1 ≤ cntN a b c) : -201 ≤ ((cntN a b c : Int) - 1) * c ∧ ((cntN a b c : Int) - 1) * c ≤ 201 ∧ -100 ≤ a + ((cntN a b c : Int) - 1) * c ∧ a + ((cntN a b c : Int) - 1) * c ≤ 100 := by
  have := num_bound hv (i := cntN a b c - 1) (by omega)
  rwa [show ((cntN a b c - 1 : Nat) : Int) = (cntN a b c : Int) - 1 by omega] at this
/-- What a loop has stored so far. -/
def filled (g : Nat → Int) (n j : Nat) : List Int := (List.range n).map fun i => if i < j then g i else 0
theorem filled_zero (g : Nat → Int) (n : Nat) : filled g n 0 = List.replicate n 0 := by
  refine List.ext_getElem? fun i => ?_
  by_cases h : i < n <;> simp [filled, h]
theorem filled_length (g : Nat → Int) (n j : Nat) : (filled g n j).length = n := by simp [filled]
attribute [simp] filled_length
attribute [push_cast] filled_length
theorem filled_set (g : Nat → Int) (n j : Nat) (h : j < n) : (filled g n j).set j (g j) = filled g n (j + 1) := by
  refine List.ext_getElem? fun i => ?_
  simp only [filled, List.getElem?_set, List.length_map, List.length_range, List.getElem?_map]
  by_cases h1 : j = i
  · subst h1; simp [h]
  · by_cases h2 : i < n
    · simp only [List.getElem?_range h2, Option.map_some, if_neg h1]
      congr 1
      by_cases h3 : i < j
      · rw [if_pos h3, if_pos (by omega)]
      · rw [if_neg h3, if_neg (by omega)]
    · simp [h1, h2]
theorem filled_all (g : Nat → Int) (n : Nat) : filled g n n = (List.range n).map g := by
  refine List.map_congr_left fun i hi => ?_
  rw [if_pos (List.mem_range.1 hi)]
theorem IL_set (xs : List Int) (j : Nat) (v : Int) : (IL xs).set j (.int .i64 v) = IL (xs.set j v) := by simp [IL, List.map_set]
theorem IL_append (xs ys : List Int) : IL xs ++ IL ys = IL (xs ++ ys) := by simp [IL]
theorem IL_snoc (xs : List Int) (v : Int) : IL xs ++ [.int .i64 v] = IL (xs ++ [v]) := by simp [IL]
theorem IL_replicate (n : Nat) (v : Int) : List.replicate n (AV.int .i64 v) = IL (List.replicate n v) := by simp [IL]



def numsOf (a b c : Int) : List Int := if vR a b c = true then nums a c (cntN a b c) else []


theorem toNat_succ (k : Nat) : ((k : Int) + 1).toNat = k + 1 := by omega
theorem IL_tail (k : IntKind) (xs : List Int) (j : Nat) : (((xs.map (AV.int k)).drop j).take (xs.length - j)) = (xs.drop j).map (AV.int k) := by
  rw [← List.map_drop, ← List.map_take]
  congr 1
  exact List.take_of_length_le (by simp)
theorem IL_head (k : IntKind) (xs : List Int) (j : Nat) : (xs.map (AV.int k)).take j = (xs.take j).map (AV.int k) := by rw [List.map_take]
attribute [push_cast] toNat_succ IL_tail
/-- The product of numbers. -/
def pr (xs : List Int) : Int := xs.foldl (· * ·) 1
theorem pr_nil : pr [] = 1 := rfl
theorem pr_snoc (xs : List Int) (x : Int) : pr (xs ++ [x]) = pr xs * x := by simp [pr]
theorem foldl_mul (xs : List Int) (a : Int) : xs.foldl (· * ·) a = a * pr xs := by
  induction xs generalizing a with
  | nil => simp [pr]
  | cons x r ih => simp only [List.foldl_cons, pr]; rw [ih, ih (1 * x)]; rw [Int.one_mul, Int.mul_assoc]
theorem pr_cons (x : Int) (xs : List Int) : pr (x :: xs) = x * pr xs := by
  show (x :: xs).foldl (· * ·) 1 = _
  rw [List.foldl_cons, foldl_mul, Int.one_mul]
theorem take_succ_getD (xs : List Int) (k : Nat) (h : k < xs.length) : xs.take (k + 1) = xs.take k ++ [xs.getD k 0] := by
  rw [List.take_succ_eq_append_getElem h]; simp [List.getD, h]
theorem drop_getD (xs : List Int) (k : Nat) (h : k < xs.length) : xs.drop k = xs.getD k 0 :: xs.drop (k + 1) := by
  rw [List.drop_eq_getElem_cons h]; simp [List.getD, h]
theorem pr_take_succ (xs : List Int) (k : Nat) (h : k < xs.length) : pr (xs.take (k + 1)) = pr (xs.take k) * xs.getD k 0 := by rw [take_succ_getD xs k h, pr_snoc]
theorem pr_drop (xs : List Int) (k : Nat) (h : k < xs.length) : pr (xs.drop k) = xs.getD k 0 * pr (xs.drop (k + 1)) := by rw [drop_getD xs k h, pr_cons]
/-- At most four numbers from 0 up to 60. -/
def good4 (xs : List Int) : Prop := (∀ x ∈ xs, 0 ≤ x ∧ x ≤ 60) ∧ xs.length ≤ 4
theorem good4_take {xs : List Int} (h : good4 xs) (j : Nat) : good4 (xs.take j) := ⟨fun x hx => h.1 x (List.mem_of_mem_take hx), by have := h.2; simp; omega⟩
theorem good4_drop {xs : List Int} (h : good4 xs) (j : Nat) : good4 (xs.drop j) := ⟨fun x hx => h.1 x (List.mem_of_mem_drop hx), by have := h.2; simp; omega⟩
theorem good4_at {xs : List Int} (h : good4 xs) {k : Nat} (hk : k < xs.length) : 0 ≤ xs.getD k 0 ∧ xs.getD k 0 ≤ 60 := by
  refine h.1 _ ?_
  simp [List.getD, hk]
theorem pr_bound' : ∀ (xs : List Int), (∀ x ∈ xs, 0 ≤ x ∧ x ≤ 60) → 0 ≤ pr xs ∧ pr xs ≤ 60 ^ xs.length
  | [], _ => by simp [pr]
  | x :: r, h => by
    have ih := pr_bound' r fun y hy => h y (by simp [hy])
    have hx := h x (by simp)
    rw [pr_cons, List.length_cons, Int.pow_succ, Int.mul_comm (60 ^ r.length) 60]
    exact ⟨Int.mul_nonneg hx.1 ih.1, Int.mul_le_mul hx.2 ih.2 ih.1 (by omega)⟩
theorem pr_bound {xs : List Int} (h : good4 xs) : 0 ≤ pr xs ∧ pr xs ≤ 12960000 := by
  have h1 := pr_bound' xs h.1
  refine ⟨h1.1, Int.le_trans h1.2 ?_⟩
  have : (60 : Int) ^ xs.length ≤ 60 ^ 4 := by
    obtain ⟨_, hl⟩ := h
    generalize xs.length = n at hl
    match n, hl with
    | 0, _ => decide
    | 1, _ => decide
    | 2, _ => decide
    | 3, _ => decide
    | 4, _ => decide
  simpa using this
def allI (xs : List Int) (l h : Int) : Bool := xs.all fun x => decide (l ≤ x) && decide (x ≤ h)
theorem allI_iff {xs : List Int} {l h : Int} : allI xs l h = true ↔ ∀ x ∈ xs, l ≤ x ∧ x ≤ h := by simp [allI]
theorem allI_getD {xs : List Int} {l h : Int} : (∀ j : Nat, j < xs.length → l ≤ xs.getD j 0 ∧ xs.getD j 0 ≤ h) → allI xs l h = true := by
  intro hj
  rw [allI_iff]
  intro x hx
  obtain ⟨i, hi, rfl⟩ := List.getElem_of_mem hx
  have := hj i hi
  simpa [List.getD, hi] using this
theorem allI_false {xs : List Int} {l h : Int} {j : Nat} (hj : j < xs.length) (hx : xs.getD j 0 < l ∨ h < xs.getD j 0) : allI xs l h = false := by
  rw [Bool.eq_false_iff]
  intro ht
  have := (allI_iff.1 ht) (xs.getD j 0) (by simp [List.getD, hj])
  omega
def vSh (sh : List Int) : Bool := decide (sh.length ≤ 4) && allI sh 0 60 && decide (pr sh ≤ 60)
theorem vSh_good {sh : List Int} (h : vSh sh = true) : good4 sh ∧ 0 ≤ pr sh ∧ pr sh ≤ 60 := by
  simp only [vSh, Bool.and_eq_true, decide_eq_true_eq] at h
  have hg : good4 sh := ⟨allI_iff.1 h.1.2, h.1.1⟩
  exact ⟨hg, (pr_bound hg).1, h.2⟩
theorem filled_getD (xs : List Int) : (List.range xs.length).map (fun i : Nat => xs.getD i 0) = xs := by
  refine List.ext_getElem (by simp) fun i h1 h2 => ?_
  simp [List.getD, h2]



theorem nil_split {n : Nat} {K : Bool → Prop} (h1 : n = 0 → K true) (h2 : K false) : ∀ b : Bool, (b = true → n = 0) → K b := by
  intro b hb
  cases b with
  | true => exact h1 (hb rfl)
  | false => exact h2
def rowS (sh : List Int) : List Int := (List.range sh.length).map fun i : Nat => pr (sh.drop (i + 1))
def colS (sh : List Int) : List Int := (List.range sh.length).map fun i : Nat => pr (sh.take i)
theorem rowS_length (sh : List Int) : (rowS sh).length = sh.length := by simp [rowS]
theorem colS_length (sh : List Int) : (colS sh).length = sh.length := by simp [colS]
attribute [simp] rowS_length colS_length
attribute [push_cast] rowS_length colS_length
/-- What a loop that goes down has stored so far. -/
def filledD (g : Nat → Int) (n k : Nat) : List Int := (List.range n).map fun i => if n - k ≤ i then g i else 0
theorem filledD_zero (g : Nat → Int) (n : Nat) : filledD g n 0 = List.replicate n 0 := by
  refine List.ext_getElem? fun i => ?_
  by_cases h : i < n
  · have : ¬ n ≤ i := by omega
    simp [filledD, h, this]
  · simp [filledD, h]
theorem filledD_length (g : Nat → Int) (n k : Nat) : (filledD g n k).length = n := by simp [filledD]
attribute [simp] filledD_length
attribute [push_cast] filledD_length
theorem filledD_set (g : Nat → Int) (n k : Nat) (h : k < n) : (filledD g n k).set (n - 1 - k) (g (n - 1 - k)) = filledD g n (k + 1) := by
  refine List.ext_getElem? fun i => ?_
  simp only [filledD, List.getElem?_set, List.length_map, List.length_range, List.getElem?_map]
  by_cases h1 : n - 1 - k = i
  · subst h1
    have h2 : n - 1 - k < n := by omega
    have h3 : n - (k + 1) ≤ n - 1 - k := by omega
    simp [h2, h3]
    omega
  · by_cases h2 : i < n
    · simp only [List.getElem?_range h2, Option.map_some, if_neg h1]
      congr 1
      by_cases h3 : n - k ≤ i
      · rw [if_pos h3, if_pos (by omega)]
      · rw [if_neg h3, if_neg (by omega)]
    · simp [h1, h2]
theorem filledD_all (g : Nat → Int) (n : Nat) : filledD g n n = (List.range n).map g := by
  refine List.map_congr_left fun i hi => ?_
  rw [if_pos (by omega)]
theorem down_nat (n k : Nat) (h : k < n) : ((n : Int) - 1 - (k : Int)).toNat = n - 1 - k := by omega



/-- What is left of a rank, when the last j numbers are told. -/
def kS (sh : List Int) (k : Int) : Nat → Int
  | 0 => k
  | j + 1 => (kS sh k j).tdiv (sh.getD (sh.length - 1 - j) 0)
/-- The number of a dimension, of the index with a rank. -/
def dig (sh : List Int) (k : Int) (i : Nat) : Int := (kS sh k (sh.length - 1 - i)).tmod (sh.getD i 0)
def unr (sh : List Int) (k : Int) : List Int := (List.range sh.length).map (dig sh k)
theorem unr_length (sh : List Int) (k : Int) : (unr sh k).length = sh.length := by simp [unr]
attribute [simp] unr_length
attribute [push_cast] unr_length
theorem pr_zero {xs : List Int} {i : Nat} (hi : i < xs.length) (h : xs.getD i 0 = 0) : pr xs = 0 := by
  have e : xs = xs.take i ++ xs.drop i := (List.take_append_drop i xs).symm
  rw [e, pr, List.foldl_append, foldl_mul, pr_drop xs i hi, h]
  simp
theorem kS_bound {sh : List Int} {k : Int} (hk : 0 ≤ k) (hp : ∀ i, i < sh.length → 1 ≤ sh.getD i 0) : ∀ j, j ≤ sh.length → 0 ≤ kS sh k j ∧ kS sh k j ≤ k
  | 0, _ => by simp [kS, hk]
  | j + 1, h => by
    have ih := kS_bound hk hp j (by omega)
    have h1 := hp (sh.length - 1 - j) (by omega)
    have := tdiv_bound (x := kS sh k j) (y := sh.getD (sh.length - 1 - j) 0) (by omega) ih.1
    simp only [kS]
    omega
theorem pos_of_pr {sh : List Int} (hg : good4 sh) (h : 1 ≤ pr sh) : ∀ i, i < sh.length → 1 ≤ sh.getD i 0 := by
  intro i hi
  have h1 := good4_at hg hi
  rcases Int.lt_or_le 0 (sh.getD i 0) with h2 | h2
  · omega
  · have := pr_zero hi (by omega)
    omega
theorem dig_bound {sh : List Int} {k : Int} (hk : 0 ≤ k) (hp : ∀ i, i < sh.length → 1 ≤ sh.getD i 0) (hle : ∀ i, i < sh.length → sh.getD i 0 ≤ 60) {i : Nat} (hi : i < sh.length) : 0 ≤ dig sh k i ∧ dig sh k i < sh.getD i 0 := by
  have h1 := kS_bound hk hp (sh.length - 1 - i) (by omega)
  have h2 := hp i hi
  unfold dig
  exact ⟨Int.tmod_nonneg _ h1.1, Int.tmod_lt_of_pos _ (by omega)⟩
/-- Four places. -/
def pad4 (f : Nat → Int) : List Int := [f 0, f 1, f 2, f 3]
theorem pad4_length (f : Nat → Int) : (pad4 f).length = 4 := rfl
theorem pad4_getD (f : Nat → Int) (i : Nat) (h : i < 4) : (pad4 f).getD i 0 = f i := by
  match i, h with
  | 0, _ => rfl
  | 1, _ => rfl
  | 2, _ => rfl
  | 3, _ => rfl
theorem pad4_set (f : Nat → Int) (i : Nat) (v : Int) (h : i < 4) : (pad4 f).set i v = pad4 (fun j => if j = i then v else f j) := by
  match i, h with
  | 0, _ => rfl
  | 1, _ => rfl
  | 2, _ => rfl
  | 3, _ => rfl
theorem pad4_congr {f g : Nat → Int} (h : ∀ i, i < 4 → f i = g i) : pad4 f = pad4 g := by simp [pad4, h]
theorem setRange_pad4 (a b c d : AV) (f : Nat → Int) : setRange [a, b, c, d] 0 ((pad4 f).map (AV.int .i64)) = (pad4 f).map (AV.int .i64) := by simp [pad4, setRange]
theorem setRange_pad4' (g f : Nat → Int) : setRange ((pad4 g).map (AV.int .i64)) 0 ((pad4 f).map (AV.int .i64)) = (pad4 f).map (AV.int .i64) := by simp [pad4, setRange]
theorem take_pad4 (f : Nat → Int) : ((pad4 f).map (AV.int .i64)).take 4 = (pad4 f).map (AV.int .i64) := by simp [pad4]
theorem pad4_zero : [AV.int .i64 0, .int .i64 0, .int .i64 0, .int .i64 0] = IL (pad4 fun _ => 0) := rfl
attribute [simp] pad4_length
attribute [push_cast] pad4_length setRange_pad4 setRange_pad4' take_pad4
theorem pad4_take (f : Nat → Int) (n : Nat) (h : n ≤ 4) : (pad4 f).take n = (List.range n).map f := by
  match n, h with
  | 0, _ => rfl
  | 1, _ => rfl
  | 2, _ => rfl
  | 3, _ => rfl
  | 4, _ => rfl
def padD (xs : List Int) (k : Int) (j i : Nat) : Int := if i < xs.length ∧ xs.length - j ≤ i then dig xs k i else 0
abbrev AP (f : Nat → Int) : AV := .agg (IL (pad4 f))
/-- The index with a rank, padded with zeros. -/
def digP (sh : List Int) (k : Int) (i : Nat) : Int := if i < sh.length then dig sh k i else 0


/-- Whether an index is one of a shape. -/
def vIx (sh idx : List Int) : Bool := decide (idx.length = sh.length) && (List.range idx.length).all fun i => decide (0 ≤ idx.getD i 0) && decide (idx.getD i 0 ≤ sh.getD i 0 - 1)
theorem vIx_spec {sh idx : List Int} : vIx sh idx = true ↔ idx.length = sh.length ∧ ∀ i, i < idx.length → 0 ≤ idx.getD i 0 ∧ idx.getD i 0 ≤ sh.getD i 0 - 1 := by
  simp only [vIx, Bool.and_eq_true, decide_eq_true_eq, List.all_eq_true, List.mem_range]
theorem vIx_false {sh idx : List Int} {j : Nat} (hj : j < idx.length) (h : idx.getD j 0 < 0 ∨ sh.getD j 0 - 1 < idx.getD j 0) : vIx sh idx = false := by
  rw [Bool.eq_false_iff]
  intro ht
  have := (vIx_spec.1 ht).2 j hj
  omega
theorem vIx_len {sh idx : List Int} (h : ¬ idx.length = sh.length) : vIx sh idx = false := by simp [vIx, h]
/-- The rank so far, number by number. -/
def hor (sh idx : List Int) : Nat → Int
  | 0 => 0
  | k + 1 => hor sh idx k * sh.getD k 0 + idx.getD k 0
/-- The sum so far, of numbers times strides. -/
def dot (f : Nat → Int) (st : List Int) : Nat → Int
  | 0 => 0
  | k + 1 => dot f st k + f k * st.getD k 0
theorem dot_congr {f g : Nat → Int} {st : List Int} : ∀ {k : Nat}, (∀ i, i < k → f i = g i) → dot f st k = dot g st k
  | 0, _ => rfl
  | k + 1, h => by simp only [dot]; rw [dot_congr fun i hi => h i (by omega), h k (by omega)]
theorem hor_bound {sh idx : List Int} (hg : good4 sh) (hi : vIx sh idx = true) : ∀ k, k ≤ sh.length → 0 ≤ hor sh idx k ∧ hor sh idx k + 1 ≤ pr (sh.take k)
  | 0, _ => by simp [hor, pr_nil]
  | k + 1, h => by
    obtain ⟨h1, h2⟩ := vIx_spec.1 hi
    have ih := hor_bound hg hi k (by omega)
    have h3 := h2 k (by omega)
    have h4 := good4_at hg (k := k) (by omega)
    rw [pr_take_succ sh k (by omega)]
    have h5 : (hor sh idx k + 1) * sh.getD k 0 ≤ pr (sh.take k) * sh.getD k 0 := Int.mul_le_mul_of_nonneg_right ih.2 h4.1
    have h6 : 0 ≤ hor sh idx k * sh.getD k 0 := Int.mul_nonneg ih.1 h4.1
    rw [Int.add_mul, Int.one_mul] at h5
    simp only [hor]
    omega
theorem rowS_getD (sh : List Int) (i : Nat) (h : i < sh.length) : (rowS sh).getD i 0 = pr (sh.drop (i + 1)) := by simp [rowS, List.getD, h]
theorem colS_getD (sh : List Int) (i : Nat) (h : i < sh.length) : (colS sh).getD i 0 = pr (sh.take i) := by simp [colS, List.getD, h]
theorem hor_dot {sh idx : List Int} : ∀ k, k ≤ sh.length → hor sh idx k * pr (sh.drop k) = dot (fun i => idx.getD i 0) (rowS sh) k
  | 0, _ => by simp [hor, dot]
  | k + 1, h => by
    have ih := hor_dot (sh := sh) (idx := idx) k (by omega)
    simp only [hor, dot, rowS_getD sh k (by omega)]
    rw [← ih, pr_drop sh k (by omega), Int.add_mul, Int.mul_assoc]
theorem hor_all {sh idx : List Int} : hor sh idx sh.length = dot (fun i => idx.getD i 0) (rowS sh) sh.length := by
  rw [← hor_dot sh.length (Nat.le_refl _), List.drop_length, pr_nil, Int.mul_one]
theorem mul_abs_bound {a b B C : Int} (ha : -B ≤ a ∧ a ≤ B) (hb : -C ≤ b ∧ b ≤ C) : -(B * C) ≤ a * b ∧ a * b ≤ B * C := by
  have h1 : a.natAbs ≤ B.natAbs := by omega
  have h2 : b.natAbs ≤ C.natAbs := by omega
  have h3 : (a * b).natAbs ≤ (B * C).natAbs := by rw [Int.natAbs_mul, Int.natAbs_mul]; exact Nat.mul_le_mul h1 h2
  have h4 : 0 ≤ B * C := Int.mul_nonneg (by omega) (by omega)
  omega
theorem dot_bound {f : Nat → Int} {st : List Int} {B C : Int} : ∀ k, (∀ i, i < k → (-B ≤ f i ∧ f i ≤ B) ∧ -C ≤ st.getD i 0 ∧ st.getD i 0 ≤ C) → -((k : Int) * (B * C)) ≤ dot f st k ∧ dot f st k ≤ (k : Int) * (B * C)
  | 0, _ => by simp [dot]
  | k + 1, h => by
    have ih := dot_bound (f := f) (st := st) (B := B) (C := C) k fun i hi => h i (by omega)
    have h1 := h k (by omega)
    have h2 := mul_abs_bound h1.1 h1.2
    simp only [dot, Int.natCast_add, Int.add_mul]
    simp only [Int.cast_ofNat_Int, Int.one_mul]
    omega


def idxP (sh idx : List Int) (i : Nat) : Int := if vIx sh idx = true ∧ i < sh.length then idx.getD i 0 else 0
theorem idxP_false {sh idx : List Int} (h : vIx sh idx = false) : pad4 (idxP sh idx) = pad4 fun _ => 0 := pad4_congr fun i _ => by unfold idxP; rw [if_neg (by simp [h])]


theorem rowS_bound {sh : List Int} (hg : good4 sh) (i : Nat) (h : i < sh.length) : 0 ≤ (rowS sh).getD i 0 ∧ (rowS sh).getD i 0 ≤ 12960000 := by
  rw [rowS_getD sh i h]; exact pr_bound (good4_drop hg (i + 1))
theorem vIx_bound {sh idx : List Int} (hg : good4 sh) (hv : vIx sh idx = true) (i : Nat) (h : i < sh.length) : 0 ≤ idx.getD i 0 ∧ idx.getD i 0 ≤ 60 := by
  obtain ⟨h1, h2⟩ := vIx_spec.1 hv
  have := h2 i (by omega)
  have := good4_at hg h
  omega
def rankD (sh idx : List Int) : Int := if vSh sh = true ∧ vIx sh idx = true then dot (fun i => idx.getD i 0) (rowS sh) sh.length else -1


abbrev VW (b : Int) (s t : AV) : AV := .agg [.int .i64 b, s, t]
abbrev RV (b : Int) (sh st : List Int) : AV := .agg [.int .i64 b, RI sh, RI st]
abbrev OV (b : Int) (sh st : List Int) : AV → List (List AV) → Prop := fun r H' => r = .agg [.int .i64 b, .own 0 sh.length 1, .own 1 st.length 1] ∧ H' = [IL sh, IL st]


/-- The strides of a new view. -/
def newSt (sh : List Int) : List Int := if pr sh = 0 then List.replicate sh.length 0 else rowS sh
theorem newSt_length (sh : List Int) : (newSt sh).length = sh.length := by unfold newSt; split <;> simp


/-- The ends of a slice of n things, as indices. -/
def endI (x n b : Int) : Int := min (max (if b < 0 then -1 else 0) (if x < 0 then x + n else x)) (if b < 0 then n - 1 else n)
def sFrom (f n b : Int) (hf : Bool) : Int := if hf = true then endI f n b else if b < 0 then n - 1 else 0
def sTo (t n b : Int) (ht : Bool) : Int := if ht = true then endI t n b else if b < 0 then -1 else n
theorem endI_bound {x n b : Int} (hn : 0 ≤ n ∧ n ≤ 60) : -1 ≤ endI x n b ∧ endI x n b ≤ 60 := by
  unfold endI; split <;> split <;> omega
theorem sFrom_bound {f n b : Int} {hf : Bool} (hn : 0 ≤ n ∧ n ≤ 60) : -1 ≤ sFrom f n b hf ∧ sFrom f n b hf ≤ 60 := by
  have := endI_bound (x := f) (b := b) hn
  unfold sFrom; split
  · exact this
  · split <;> omega
theorem sTo_bound {t n b : Int} {ht : Bool} (hn : 0 ≤ n ∧ n ≤ 60) : -1 ≤ sTo t n b ht ∧ sTo t n b ht ≤ 60 := by
  have := endI_bound (x := t) (b := b) hn
  unfold sTo; split
  · exact this
  · split <;> omega
theorem over_valid {f t b n : Int} {hf ht : Bool} (hn : 0 ≤ n ∧ n ≤ 60) (hs : vS f t b hf ht = true) : vR (sFrom f n b hf) (sTo t n b ht) b = true := by
  obtain ⟨h1, h2, h3, h4, -, -⟩ := vS_spec.1 hs
  have := sFrom_bound (f := f) (b := b) (hf := hf) hn
  have := sTo_bound (t := t) (b := b) (ht := ht) hn
  exact vR_spec.2 ⟨by omega, by omega, h3, h4⟩


def idxOf (n f t b : Int) (hf ht : Bool) : List Int := if vS f t b hf ht = true ∧ 0 ≤ n ∧ n ≤ 60 then nums (sFrom f n b hf) b (cntN (sFrom f n b hf) (sTo t n b ht) b) else []
theorem idxOf_neg {n f t b : Int} {hf ht : Bool} (h : ¬ (0 ≤ n ∧ n ≤ 60)) : idxOf n f t b hf ht = [] := if_neg fun h' => h h'.2
theorem idxOf_bad {n f t b : Int} {hf ht : Bool} (h : vS f t b hf ht = false) : idxOf n f t b hf ht = [] := if_neg fun h' => by rw [h] at h'; exact absurd h'.1 (by decide)
theorem idxOf_good {n f t b : Int} {hf ht : Bool} (h : 0 ≤ n ∧ n ≤ 60) (hv : vS f t b hf ht = true) : idxOf n f t b hf ht = nums (sFrom f n b hf) b (cntN (sFrom f n b hf) (sTo t n b ht) b) := if_pos ⟨hv, h⟩
theorem idxOf_le {n f t b : Int} {hf ht : Bool} : (idxOf n f t b hf ht).length ≤ 500 := by
  unfold idxOf
  split
  · rename_i h
    have hv := over_valid h.2 h.1
    have := cntN_cast hv; have := cnt_bound hv; simp; omega
  · simp


/-- The range in normal form of k numbers from a, c apart. -/
def pS (a k : Int) : Int := if k < 1 then 0 else a
def pE (a c k : Int) : Int := if k < 1 then 0 else if k = 1 then a + 1 else if c < 0 then a + (k - 1) * c - 1 else a + (k - 1) * c + 1
def pC (c k : Int) : Int := if k ≤ 1 then 1 else c
abbrev PR (a c k : Int) : AV := rng (pS a k) (pE a c k) (pC c k)


/-- The indices that a slice takes of n things are indices. -/
theorem idx_in {f t b n : Int} {hf ht : Bool} (hn : 0 ≤ n ∧ n ≤ 60) (hs : vS f t b hf ht = true) {i : Nat} (h : i < cntN (sFrom f n b hf) (sTo t n b ht) b) : 0 ≤ sFrom f n b hf + (i : Int) * b ∧ sFrom f n b hf + (i : Int) * b < n := by
  have h1 := (cntN_lt (over_valid hn hs) i).1 h
  rcases h1 with ⟨hb, h2⟩ | ⟨hb, h2⟩
  · have p : 0 ≤ (i : Int) * b := Int.mul_nonneg (by omega) (by omega)
    have q1 : 0 ≤ sFrom f n b hf := by unfold sFrom endI; split <;> (try split) <;> omega
    have q2 : sTo t n b ht ≤ n := by unfold sTo endI; split <;> (try split) <;> omega
    omega
  · have p : 0 ≤ (i : Int) * (0 - b) := Int.mul_nonneg (by omega) (by omega)
    rw [Int.zero_sub, Int.mul_neg] at p
    have q1 : sFrom f n b hf ≤ n - 1 := by unfold sFrom endI; split <;> (try split) <;> omega
    have q2 : -1 ≤ sTo t n b ht := by unfold sTo endI; split <;> (try split) <;> omega
    omega
theorem idx_le {f t b n : Int} {hf ht : Bool} (hn : 0 ≤ n ∧ n ≤ 60) (hs : vS f t b hf ht = true) : (cntN (sFrom f n b hf) (sTo t n b ht) b : Int) ≤ n := by
  by_cases hz : cntN (sFrom f n b hf) (sTo t n b ht) b = 0
  · omega
  · have h0 := idx_in hn hs (i := 0) (by omega)
    have hl := idx_in hn hs (i := cntN (sFrom f n b hf) (sTo t n b ht) b - 1) (by omega)
    have hb := (vS_spec.1 hs).2.2.2.1
    generalize cntN (sFrom f n b hf) (sTo t n b ht) b = k at *
    rw [show ((k - 1 : Nat) : Int) = (k : Int) - 1 by omega] at hl
    simp only [Int.natCast_zero, Int.zero_mul, Int.add_zero] at h0
    by_cases hp : 0 < b
    · have : ((k : Int) - 1) * 1 ≤ ((k : Int) - 1) * b := Int.mul_le_mul_of_nonneg_left (by omega) (by omega)
      omega
    · have : ((k : Int) - 1) * 1 ≤ ((k : Int) - 1) * (0 - b) := Int.mul_le_mul_of_nonneg_left (by omega) (by omega)
      rw [Int.zero_sub, Int.mul_neg] at this
      omega
/-- What a slice takes of a progression. -/
theorem nums_of {a c u b : Int} {n k : Nat} (i : Nat) (hi : i < k) (h : 0 ≤ u + (i : Int) * b ∧ u + (i : Int) * b < n) : (nums a c n).getD (u + (i : Int) * b).toNat 0 = (a + u * c) + (i : Int) * (c * b) := by
  rw [nums_getD a c n _ (by omega), show (((u + (i : Int) * b).toNat : Nat) : Int) = u + (i : Int) * b by omega, Int.add_mul, Int.mul_assoc, Int.mul_comm b c]
  omega


theorem mul_bd {x y : Int} {p q : Nat} (h1 : -(p : Int) ≤ x ∧ x ≤ p) (h2 : -(q : Int) ≤ y ∧ y ≤ q) : -((p * q : Nat) : Int) ≤ x * y ∧ x * y ≤ (p * q : Nat) := by
  have e : (x * y).natAbs ≤ p * q := by rw [Int.natAbs_mul]; exact Nat.mul_le_mul (by omega) (by omega)
  omega


def slRg (a b c f t w : Int) (hf ht : Bool) : AV :=
  if vR a b c = true ∧ vS f t w hf ht = true ∧ cntN a b c ≤ 60 then PR (a + sFrom f (cntN a b c) w hf * c) (c * w) (cntN (sFrom f (cntN a b c) w hf) (sTo t (cntN a b c) w ht) w) else rng 0 0 0
theorem slR_rng (a b c f t w : Int) (hf ht : Bool) : ∃ x y z, slRg a b c f t w hf ht = rng x y z := by
  unfold slRg; split <;> exact ⟨_, _, _, rfl⟩
theorem slR_neg {a b c f t w : Int} {hf ht : Bool} (h : ¬ (vR a b c = true ∧ vS f t w hf ht = true ∧ cntN a b c ≤ 60)) : slRg a b c f t w hf ht = rng 0 0 0 := if_neg h
theorem slR_pos {a b c f t w : Int} {hf ht : Bool} (h : vR a b c = true ∧ vS f t w hf ht = true ∧ cntN a b c ≤ 60) : slRg a b c f t w hf ht = PR (a + sFrom f (cntN a b c) w hf * c) (c * w) (cntN (sFrom f (cntN a b c) w hf) (sTo t (cntN a b c) w ht) w) := if_pos h
/-- The numbers that are taken lie in the bound. -/
theorem sl_bound {a b c f t w : Int} {hf ht : Bool} (hv : vR a b c = true) (hs : vS f t w hf ht = true) (hn : cntN a b c ≤ 60) (i : Nat) (hi : i < cntN (sFrom f (cntN a b c) w hf) (sTo t (cntN a b c) w ht) w) : -100 ≤ (a + sFrom f (cntN a b c) w hf * c) + (i : Int) * (c * w) ∧ (a + sFrom f (cntN a b c) w hf * c) + (i : Int) * (c * w) ≤ 100 := by
  have h := idx_in (n := (cntN a b c : Int)) ⟨by omega, by omega⟩ hs hi
  generalize sFrom f (cntN a b c) w hf = u at *
  have e := num_bound hv (i := (u + (i : Int) * w).toNat) (by omega)
  rw [show (((u + (i : Int) * w).toNat : Nat) : Int) = u + (i : Int) * w by omega, Int.add_mul, Int.mul_assoc, Int.mul_comm w c] at e
  omega
theorem last_diff {A C : Int} {k : Nat} (h : ∀ i : Nat, i < k → -100 ≤ A + (i : Int) * C ∧ A + (i : Int) * C ≤ 100) (hk : 1 ≤ k) : -1000 ≤ ((k : Int) - 1) * C ∧ ((k : Int) - 1) * C ≤ 1000 := by
  have h0 := h 0 (by omega)
  have hl := h (k - 1) (by omega)
  rw [show ((k - 1 : Nat) : Int) = (k : Int) - 1 by omega] at hl
  simp only [Int.natCast_zero, Int.zero_mul, Int.add_zero] at h0
  omega


def mgSome (n f t w : Int) (hf ht : Bool) (f' t' w' : Int) (hf' ht' : Bool) : AV :=
  let u := sFrom f n w hf
  let k := cntN u (sTo t n w ht) w
  let u' := sFrom f' k w' hf'
  let k' := cntN u' (sTo t' k w' ht') w'
  slc (pS (u + u' * w) k') (if pE (u + u' * w) (w * w') k' < 0 then 0 else pE (u + u' * w) (w * w') k') (pC (w * w') k') true (!decide (pE (u + u' * w) (w * w') k' < 0))
def mgS (n f t w : Int) (hf ht : Bool) (f' t' w' : Int) (hf' ht' : Bool) : AV :=
  if (0 ≤ n ∧ n ≤ 60) ∧ vS f t w hf ht = true ∧ vS f' t' w' hf' ht' = true then mgSome n f t w hf ht f' t' w' hf' ht' else slc 0 0 0 false false
theorem mgS_slc (n f t w : Int) (hf ht : Bool) (f' t' w' : Int) (hf' ht' : Bool) : ∃ x y z p q, mgS n f t w hf ht f' t' w' hf' ht' = slc x y z p q := by
  unfold mgS; split <;> exact ⟨_, _, _, _, _, rfl⟩
theorem mgS_neg {n f t w : Int} {hf ht : Bool} {f' t' w' : Int} {hf' ht' : Bool} (h : ¬ ((0 ≤ n ∧ n ≤ 60) ∧ vS f t w hf ht = true ∧ vS f' t' w' hf' ht' = true)) : mgS n f t w hf ht f' t' w' hf' ht' = slc 0 0 0 false false := if_neg h
theorem mgS_pos {n f t w : Int} {hf ht : Bool} {f' t' w' : Int} {hf' ht' : Bool} (h : (0 ≤ n ∧ n ≤ 60) ∧ vS f t w hf ht = true ∧ vS f' t' w' hf' ht' = true) : mgS n f t w hf ht f' t' w' hf' ht' = mgSome n f t w hf ht f' t' w' hf' ht' := if_pos h
/-- The indices that are taken of indices are indices. -/
theorem mg_bound {n f t w : Int} {hf ht : Bool} {f' t' w' : Int} {hf' ht' : Bool} (hn : 0 ≤ n ∧ n ≤ 60) (hs : vS f t w hf ht = true) (hs' : vS f' t' w' hf' ht' = true) (k : Nat) (hk : k = cntN (sFrom f n w hf) (sTo t n w ht) w) (i : Nat) (hi : i < cntN (sFrom f' k w' hf') (sTo t' k w' ht') w') : 0 ≤ (sFrom f n w hf + sFrom f' k w' hf' * w) + (i : Int) * (w * w') ∧ (sFrom f n w hf + sFrom f' k w' hf' * w) + (i : Int) * (w * w') ≤ 60 := by
  have hle := idx_le hn hs
  have h := idx_in (n := (k : Int)) ⟨by omega, by omega⟩ hs' hi
  generalize sFrom f' k w' hf' = u at *
  have e := idx_in hn hs (i := (u + (i : Int) * w').toNat) (by omega)
  rw [show (((u + (i : Int) * w').toNat : Nat) : Int) = u + (i : Int) * w' by omega, Int.add_mul, Int.mul_assoc, Int.mul_comm w' w] at e
  omega
theorem pE_low {A C : Int} {k : Nat} (h : ∀ i : Nat, i < k → 0 ≤ A + (i : Int) * C ∧ A + (i : Int) * C ≤ 60) : -1 ≤ pE A C k := by
  unfold pE
  split
  · omega
  · have h0 := h 0 (by omega)
    have hl := h (k - 1) (by omega)
    rw [show ((k - 1 : Nat) : Int) = (k : Int) - 1 by omega] at hl
    simp only [Int.natCast_zero, Int.zero_mul, Int.add_zero] at h0
    split
    · omega
    · split <;> omega

end VwM
