/- The mathematics of ranges, slices, shapes and indices that the contracts speak of. -/
import Derived.Test.YtejbfjmiidofcaaCW3
set_option linter.unusedVariables false
set_option linter.unusedSimpArgs false
set_option linter.unnecessarySimpa false
set_option maxRecDepth 4000
namespace VwM
open Vw
open Go

abbrev rng (a b c : Int) : AV := .agg [.int .i64 a, .int .i64 b, .int .i64 c]
abbrev slc (f t b : Int) (hf ht : Bool) : AV := .agg [.int .i64 f, .int .i64 t, .int .i64 b, .bool hf, .bool ht]
abbrev IL (xs : List Int) : List AV := xs.map (AV.int .i64)
abbrev RI (xs : List Int) : AV := .rows false (IL xs) xs.length
abbrev OI (xs : List Int) : AV → List (List AV) → Prop := fun r H' => r = .own 0 xs.length 1 ∧ H' = [IL xs]
def vR (a b c : Int) : Bool := decide (-100 ≤ a) && decide (a ≤ 100) && (decide (-101 ≤ b) && decide (b ≤ 101)) && (decide (-200 ≤ c) && decide (c ≤ 200) && !decide (c = 0))
def vS (f t b : Int) (hf ht : Bool) : Bool := decide (-100 ≤ f) && decide (f ≤ 100) && (decide (-100 ≤ t) && decide (t ≤ 100)) && (decide (-200 ≤ b) && decide (b ≤ 200)) && !decide (b = 0) && (hf || decide (f = 0)) && (ht || decide (t = 0))
theorem vR_spec {a b c : Int} : vR a b c = true ↔ (-100 ≤ a ∧ a ≤ 100) ∧ (-101 ≤ b ∧ b ≤ 101) ∧ (-200 ≤ c ∧ c ≤ 200) ∧ c ≠ 0 := by
  simp only [vR, Bool.and_eq_true, decide_eq_true_eq, Bool.not_eq_true', decide_eq_false_iff_not]
  constructor
  · rintro ⟨⟨h1, h2⟩, h3, h4⟩; exact ⟨h1, h2, h3, h4⟩
  · rintro ⟨h1, h2, h3, h4⟩; exact ⟨⟨h1, h2⟩, h3, h4⟩
theorem vS_spec {f t b : Int} {hf ht : Bool} : vS f t b hf ht = true ↔ (-100 ≤ f ∧ f ≤ 100) ∧ (-100 ≤ t ∧ t ≤ 100) ∧ (-200 ≤ b ∧ b ≤ 200) ∧ b ≠ 0 ∧ (hf = true ∨ f = 0) ∧ (ht = true ∨ t = 0) := by
  simp only [vS, Bool.and_eq_true, Bool.or_eq_true, decide_eq_true_eq, Bool.not_eq_true', decide_eq_false_iff_not]
  constructor
  · rintro ⟨⟨⟨⟨⟨h1, h2⟩, h3⟩, h4⟩, h5⟩, h6⟩; exact ⟨h1, h2, h3, h4, h5, h6⟩
  · rintro ⟨h1, h2, h3, h4, h5, h6⟩; exact ⟨⟨⟨⟨⟨h1, h2⟩, h3⟩, h4⟩, h5⟩, h6⟩
theorem mkAV_ints0 (k : IntKind) (xs : List Int) : mkAV false ((xs.map (AV.int k)).take 1) = if 0 < xs.length then some (.int k (xs.getD 0 0)) else none := by
  haveI : Inhabited GlobT := ⟨⟨[]⟩⟩
  have := mkAV_ints k xs 0
  rwa [List.drop_zero] at this
attribute [push_cast] mkAV_ints mkAV_ints0


def upFrom (k : Int) (n : Nat) : List Int := (List.range n).map fun i : Nat => k + (i : Int)
theorem upFrom_length (k : Int) (n : Nat) : (upFrom k n).length = n := by simp [upFrom]
attribute [simp] upFrom_length
attribute [push_cast] upFrom_length
def marked (k : Int) (xs : List Int) (j : Nat) : List Int := upFrom k j ++ xs.drop j
def cntI (a b c : Int) : Int :=
  if c < 0 then (if 0 - (b - a) ≤ 0 then 0 else (0 - (b - a) + (0 - c) - 1).tdiv (0 - c)) else (if b - a ≤ 0 then 0 else (b - a + c - 1).tdiv c)
theorem tdiv_bound {x y : Int} (hy : 0 < y) (hx : 0 ≤ x) : 0 ≤ x.tdiv y ∧ x.tdiv y ≤ x := by
  rw [Int.tdiv_eq_ediv_of_nonneg hx]
  exact ⟨Int.ediv_nonneg hx (by omega), Int.ediv_le_self _ hx⟩
def nums (a c : Int) (k : Nat) : List Int := (List.range k).map fun i : Nat => a + (i : Int) * c
theorem nums_length (a c : Int) (k : Nat) : (nums a c k).length = k := by simp [nums]
attribute [simp] nums_length
attribute [push_cast] nums_length
theorem cnt_lt {a b c i : Int} (h0 : c ≠ 0) (hi : 0 ≤ i) : i < cntI a b c ↔ (0 < c ∧ a + i * c < b) ∨ (c < 0 ∧ b < a + i * c) := by
  unfold cntI
  by_cases hc : c < 0
  · rw [if_pos hc]
    have hp : 0 ≤ i * (0 - c) := Int.mul_nonneg hi (by omega)
    have e : i * (0 - c) = - (i * c) := by rw [Int.zero_sub, Int.mul_neg]
    by_cases hw : 0 - (b - a) ≤ 0
    · rw [if_pos hw]
      constructor
      · intro h; omega
      · rintro (h | h) <;> omega
    · rw [if_neg hw, Int.tdiv_eq_ediv_of_nonneg (by omega), Int.lt_iff_add_one_le, Int.le_ediv_iff_mul_le (by omega), Int.add_mul]
      constructor
      · intro h; right; omega
      · rintro (h | h) <;> omega
  · rw [if_neg hc]
    have hp : 0 ≤ i * c := Int.mul_nonneg hi (by omega)
    by_cases hw : b - a ≤ 0
    · rw [if_pos hw]
      constructor
      · intro h; omega
      · rintro (h | h) <;> omega
    · rw [if_neg hw, Int.tdiv_eq_ediv_of_nonneg (by omega), Int.lt_iff_add_one_le, Int.le_ediv_iff_mul_le (by omega), Int.add_mul]
      constructor
      · intro h; left; omega
      · rintro (h | h) <;> omega
theorem cnt_bound {a b c : Int} (hv : vR a b c = true) : 0 ≤ cntI a b c ∧ cntI a b c ≤ 500 := by
  obtain ⟨ha, hb, hc, h0⟩ := vR_spec.1 hv
  unfold cntI
  by_cases hc : c < 0
  · rw [if_pos hc]
    by_cases hw : 0 - (b - a) ≤ 0
    · rw [if_pos hw]; omega
    · rw [if_neg hw]
      have := tdiv_bound (x := 0 - (b - a) + (0 - c) - 1) (y := 0 - c) (by omega) (by omega)
      omega
  · rw [if_neg hc]
    by_cases hw : b - a ≤ 0
    · rw [if_pos hw]; omega
    · rw [if_neg hw]
      have := tdiv_bound (x := b - a + c - 1) (y := c) (by omega) (by omega)
      omega
def cntN (a b c : Int) : Nat := (cntI a b c).toNat
theorem cntN_cast {a b c : Int} (hv : vR a b c = true) : (cntN a b c : Int) = cntI a b c := by
  unfold cntN; have := cnt_bound hv; omega
theorem cntN_lt {a b c : Int} (hv : vR a b c = true) (i : Nat) : i < cntN a b c ↔ (0 < c ∧ a + i * c < b) ∨ (c < 0 ∧ b < a + i * c) := by
  rw [← cnt_lt (vR_spec.1 hv).2.2.2 (by omega : (0 : Int) ≤ i), ← cntN_cast hv]
  omega
def filled (g : Nat → Int) (n j : Nat) : List Int := (List.range n).map fun i => if i < j then g i else 0
theorem filled_zero (g : Nat → Int) (n : Nat) : filled g n 0 = List.replicate n 0 := by
  refine List.ext_getElem? fun i => ?_
  by_cases h : i < n <;> simp [filled, h]
theorem filled_length (g : Nat → Int) (n j : Nat) : (filled g n j).length = n := by simp [filled]
attribute [simp] filled_length
attribute [push_cast] filled_length
theorem filled_set (g : Nat → Int) (n j : Nat) (h : j < n) : (filled g n j).set j (g j) = filled g n (j + 1) := by
  refine List.ext_getElem? fun i => ?_
  simp only [filled, List.getElem?_set, List.length_map, List.length_range, List.getElem?_map]
  by_cases h1 : j = i
  · subst h1; simp [h]
  · by_cases h2 : i < n
    · simp only [List.getElem?_range h2, Option.map_some, if_neg h1]
      congr 1
      by_cases h3 : i < j
      · rw [if_pos h3, if_pos (by omega)]
      · rw [if_neg h3, if_neg (by omega)]
    · simp [h1, h2]
theorem filled_all (g : Nat → Int) (n : Nat) : filled g n n = (List.range n).map g := by
  refine List.map_congr_left fun i hi => ?_
  rw [if_pos (List.mem_range.1 hi)]
theorem IL_set (xs : List Int) (j : Nat) (v : Int) : (IL xs).set j (.int .i64 v) = IL (xs.set j v) := by simp [IL, List.map_set]
def numsOf (a b c : Int) : List Int := if vR a b c = true then nums a c (cntN a b c) else []


theorem toNat_succ (k : Nat) : ((k : Int) + 1).toNat = k + 1 := by omega
theorem IL_tail (k : IntKind) (xs : List Int) (j : Nat) : (((xs.map (AV.int k)).drop j).take (xs.length - j)) = (xs.drop j).map (AV.int k) := by
  rw [← List.map_drop, ← List.map_take]
  congr 1
  exact List.take_of_length_le (by simp)
theorem IL_head (k : IntKind) (xs : List Int) (j : Nat) : (xs.map (AV.int k)).take j = (xs.take j).map (AV.int k) := by rw [List.map_take]
attribute [push_cast] toNat_succ IL_tail
def pr (xs : List Int) : Int := xs.foldl (· * ·) 1
theorem pr_nil : pr [] = 1 := rfl
theorem pr_snoc (xs : List Int) (x : Int) : pr (xs ++ [x]) = pr xs * x := by simp [pr]
theorem foldl_mul (xs : List Int) (a : Int) : xs.foldl (· * ·) a = a * pr xs := by
  induction xs generalizing a with
  | nil => simp [pr]
  | cons x r ih => simp only [List.foldl_cons, pr]; rw [ih, ih (1 * x)]; rw [Int.one_mul, Int.mul_assoc]
theorem pr_cons (x : Int) (xs : List Int) : pr (x :: xs) = x * pr xs := by
  show (x :: xs).foldl (· * ·) 1 = _
  rw [List.foldl_cons, foldl_mul, Int.one_mul]
theorem take_succ_getD (xs : List Int) (k : Nat) (h : k < xs.length) : xs.take (k + 1) = xs.take k ++ [xs.getD k 0] := by
  rw [List.take_succ_eq_append_getElem h]; simp [List.getD, h]
theorem drop_getD (xs : List Int) (k : Nat) (h : k < xs.length) : xs.drop k = xs.getD k 0 :: xs.drop (k + 1) := by
  rw [List.drop_eq_getElem_cons h]; simp [List.getD, h]
theorem pr_take_succ (xs : List Int) (k : Nat) (h : k < xs.length) : pr (xs.take (k + 1)) = pr (xs.take k) * xs.getD k 0 := by rw [take_succ_getD xs k h, pr_snoc]
theorem pr_drop (xs : List Int) (k : Nat) (h : k < xs.length) : pr (xs.drop k) = xs.getD k 0 * pr (xs.drop (k + 1)) := by rw [drop_getD xs k h, pr_cons]
def good4 (xs : List Int) : Prop := (∀ x ∈ xs, 0 ≤ x ∧ x ≤ 60) ∧ xs.length ≤ 4
theorem good4_take {xs : List Int} (h : good4 xs) (j : Nat) : good4 (xs.take j) := ⟨fun x hx => h.1 x (List.mem_of_mem_take hx), by have := h.2; simp; omega⟩
theorem good4_drop {xs : List Int} (h : good4 xs) (j : Nat) : good4 (xs.drop j) := ⟨fun x hx => h.1 x (List.mem_of_mem_drop hx), by have := h.2; simp; omega⟩
theorem good4_at {xs : List Int} (h : good4 xs) {k : Nat} (hk : k < xs.length) : 0 ≤ xs.getD k 0 ∧ xs.getD k 0 ≤ 60 := by
  refine h.1 _ ?_
  simp [List.getD, hk]
theorem pr_bound' : ∀ (xs : List Int), (∀ x ∈ xs, 0 ≤ x ∧ x ≤ 60) → 0 ≤ pr xs ∧ pr xs ≤ 60 ^ xs.length
  | [], _ => by simp [pr]
  | x :: r, h => by
    have ih := pr_bound' r fun y hy => h y (by simp [hy])
    have hx := h x (by simp)
    rw [pr_cons, List.length_cons, Int.pow_succ, Int.mul_comm (60 ^ r.length) 60]
    exact ⟨Int.mul_nonneg hx.1 ih.1, Int.mul_le_mul hx.2 ih.2 ih.1 (by omega)⟩
theorem pr_bound {xs : List Int} (h : good4 xs) : 0 ≤ pr xs ∧ pr xs ≤ 12960000 := by
  have h1 := pr_bound' xs h.1
  refine ⟨h1.1, Int.le_trans h1.2 ?_⟩
  have : (60 : Int) ^ xs.length ≤ 60 ^ 4 := by
    obtain ⟨_, hl⟩ := h
    generalize xs.length = n at hl
    match n, hl with
    | 0, _ => decide
    | 1, _ => decide
    | 2, _ => decide
    | 3, _ => decide
    | 4, _ => decide
  simpa using this
def allI (xs : List Int) (l h : Int) : Bool := xs.all fun x => decide (l ≤ x) && decide (x ≤ h)
theorem allI_iff {xs : List Int} {l h : Int} : allI xs l h = true ↔ ∀ x ∈ xs, l ≤ x ∧ x ≤ h := by simp [allI]
theorem allI_getD {xs : List Int} {l h : Int} : (∀ j : Nat, j < xs.length → l ≤ xs.getD j 0 ∧ xs.getD j 0 ≤ h) → allI xs l h = true := by
  intro hj
  rw [allI_iff]
  intro x hx
  obtain ⟨i, hi, rfl⟩ := List.getElem_of_mem hx
  have := hj i hi
  simpa [List.getD, hi] using this
theorem allI_false {xs : List Int} {l h : Int} {j : Nat} (hj : j < xs.length) (hx : xs.getD j 0 < l ∨ h < xs.getD j 0) : allI xs l h = false := by
  rw [Bool.eq_false_iff]
  intro ht
  have := (allI_iff.1 ht) (xs.getD j 0) (by simp [List.getD, hj])
  omega
def vSh (sh : List Int) : Bool := decide (sh.length ≤ 4) && allI sh 0 60 && decide (pr sh ≤ 60)
theorem vSh_good {sh : List Int} (h : vSh sh = true) : good4 sh ∧ 0 ≤ pr sh ∧ pr sh ≤ 60 := by
  simp only [vSh, Bool.and_eq_true, decide_eq_true_eq] at h
  have hg : good4 sh := ⟨allI_iff.1 h.1.2, h.1.1⟩
  exact ⟨hg, (pr_bound hg).1, h.2⟩
theorem filled_getD (xs : List Int) : (List.range xs.length).map (fun i : Nat => xs.getD i 0) = xs := by
  refine List.ext_getElem (by simp) fun i h1 h2 => ?_
  simp [List.getD, h2]



def rowS (sh : List Int) : List Int := (List.range sh.length).map fun i : Nat => pr (sh.drop (i + 1))
def colS (sh : List Int) : List Int := (List.range sh.length).map fun i : Nat => pr (sh.take i)
theorem rowS_length (sh : List Int) : (rowS sh).length = sh.length := by simp [rowS]
theorem colS_length (sh : List Int) : (colS sh).length = sh.length := by simp [colS]
attribute [simp] rowS_length colS_length
attribute [push_cast] rowS_length colS_length
def filledD (g : Nat → Int) (n k : Nat) : List Int := (List.range n).map fun i => if n - k ≤ i then g i else 0
theorem filledD_length (g : Nat → Int) (n k : Nat) : (filledD g n k).length = n := by simp [filledD]
attribute [simp] filledD_length
attribute [push_cast] filledD_length
def kS (sh : List Int) (k : Int) : Nat → Int
  | 0 => k
  | j + 1 => (kS sh k j).tdiv (sh.getD (sh.length - 1 - j) 0)
def dig (sh : List Int) (k : Int) (i : Nat) : Int := (kS sh k (sh.length - 1 - i)).tmod (sh.getD i 0)
def unr (sh : List Int) (k : Int) : List Int := (List.range sh.length).map (dig sh k)
theorem unr_length (sh : List Int) (k : Int) : (unr sh k).length = sh.length := by simp [unr]
attribute [simp] unr_length
attribute [push_cast] unr_length
theorem pr_zero {xs : List Int} {i : Nat} (hi : i < xs.length) (h : xs.getD i 0 = 0) : pr xs = 0 := by
  have e : xs = xs.take i ++ xs.drop i := (List.take_append_drop i xs).symm
  rw [e, pr, List.foldl_append, foldl_mul, pr_drop xs i hi, h]
  simp
theorem kS_bound {sh : List Int} {k : Int} (hk : 0 ≤ k) (hp : ∀ i, i < sh.length → 1 ≤ sh.getD i 0) : ∀ j, j ≤ sh.length → 0 ≤ kS sh k j ∧ kS sh k j ≤ k
  | 0, _ => by simp [kS, hk]
  | j + 1, h => by
    have ih := kS_bound hk hp j (by omega)
    have h1 := hp (sh.length - 1 - j) (by omega)
    have := tdiv_bound (x := kS sh k j) (y := sh.getD (sh.length - 1 - j) 0) (by omega) ih.1
    simp only [kS]
    omega
theorem pos_of_pr {sh : List Int} (hg : good4 sh) (h : 1 ≤ pr sh) : ∀ i, i < sh.length → 1 ≤ sh.getD i 0 := by
  intro i hi
  have h1 := good4_at hg hi
  rcases Int.lt_or_le 0 (sh.getD i 0) with h2 | h2
  · omega
  · have := pr_zero hi (by omega)
    omega
theorem dig_bound {sh : List Int} {k : Int} (hk : 0 ≤ k) (hp : ∀ i, i < sh.length → 1 ≤ sh.getD i 0) (hle : ∀ i, i < sh.length → sh.getD i 0 ≤ 60) {i : Nat} (hi : i < sh.length) : 0 ≤ dig sh k i ∧ dig sh k i < sh.getD i 0 := by
  have h1 := kS_bound hk hp (sh.length - 1 - i) (by omega)
  have h2 := hp i hi
  unfold dig
  exact ⟨Int.tmod_nonneg _ h1.1, Int.tmod_lt_of_pos _ (by omega)⟩
def pad4 (f : Nat → Int) : List Int := [f 0, f 1, f 2, f 3]
theorem pad4_length (f : Nat → Int) : (pad4 f).length = 4 := rfl
theorem setRange_pad4 (a b c d : AV) (f : Nat → Int) : setRange [a, b, c, d] 0 ((pad4 f).map (AV.int .i64)) = (pad4 f).map (AV.int .i64) := by simp [pad4, setRange]
theorem setRange_pad4' (g f : Nat → Int) : setRange ((pad4 g).map (AV.int .i64)) 0 ((pad4 f).map (AV.int .i64)) = (pad4 f).map (AV.int .i64) := by simp [pad4, setRange]
theorem take_pad4 (f : Nat → Int) : ((pad4 f).map (AV.int .i64)).take 4 = (pad4 f).map (AV.int .i64) := by simp [pad4]
attribute [simp] pad4_length
attribute [push_cast] pad4_length setRange_pad4 setRange_pad4' take_pad4
def padD (xs : List Int) (k : Int) (j i : Nat) : Int := if i < xs.length ∧ xs.length - j ≤ i then dig xs k i else 0
abbrev AP (f : Nat → Int) : AV := .agg (IL (pad4 f))
def digP (sh : List Int) (k : Int) (i : Nat) : Int := if i < sh.length then dig sh k i else 0


def vIx (sh idx : List Int) : Bool := decide (idx.length = sh.length) && (List.range idx.length).all fun i => decide (0 ≤ idx.getD i 0) && decide (idx.getD i 0 ≤ sh.getD i 0 - 1)
theorem vIx_spec {sh idx : List Int} : vIx sh idx = true ↔ idx.length = sh.length ∧ ∀ i, i < idx.length → 0 ≤ idx.getD i 0 ∧ idx.getD i 0 ≤ sh.getD i 0 - 1 := by
  simp only [vIx, Bool.and_eq_true, decide_eq_true_eq, List.all_eq_true, List.mem_range]
def hor (sh idx : List Int) : Nat → Int
  | 0 => 0
  | k + 1 => hor sh idx k * sh.getD k 0 + idx.getD k 0
def dot (f : Nat → Int) (st : List Int) : Nat → Int
  | 0 => 0
  | k + 1 => dot f st k + f k * st.getD k 0
theorem dot_congr {f g : Nat → Int} {st : List Int} : ∀ {k : Nat}, (∀ i, i < k → f i = g i) → dot f st k = dot g st k
  | 0, _ => rfl
  | k + 1, h => by simp only [dot]; rw [dot_congr fun i hi => h i (by omega), h k (by omega)]
theorem rowS_getD (sh : List Int) (i : Nat) (h : i < sh.length) : (rowS sh).getD i 0 = pr (sh.drop (i + 1)) := by simp [rowS, List.getD, h]
theorem colS_getD (sh : List Int) (i : Nat) (h : i < sh.length) : (colS sh).getD i 0 = pr (sh.take i) := by simp [colS, List.getD, h]
def idxP (sh idx : List Int) (i : Nat) : Int := if vIx sh idx = true ∧ i < sh.length then idx.getD i 0 else 0
theorem rowS_bound {sh : List Int} (hg : good4 sh) (i : Nat) (h : i < sh.length) : 0 ≤ (rowS sh).getD i 0 ∧ (rowS sh).getD i 0 ≤ 12960000 := by
  rw [rowS_getD sh i h]; exact pr_bound (good4_drop hg (i + 1))
def rankD (sh idx : List Int) : Int := if vSh sh = true ∧ vIx sh idx = true then dot (fun i => idx.getD i 0) (rowS sh) sh.length else -1


abbrev VW (b : Int) (s t : AV) : AV := .agg [.int .i64 b, s, t]
abbrev RV (b : Int) (sh st : List Int) : AV := .agg [.int .i64 b, RI sh, RI st]
abbrev OV (b : Int) (sh st : List Int) : AV → List (List AV) → Prop := fun r H' => r = .agg [.int .i64 b, .own 0 sh.length 1, .own 1 st.length 1] ∧ H' = [IL sh, IL st]


def newSt (sh : List Int) : List Int := if pr sh = 0 then List.replicate sh.length 0 else rowS sh
def endI (x n b : Int) : Int := min (max (if b < 0 then -1 else 0) (if x < 0 then x + n else x)) (if b < 0 then n - 1 else n)
def sFrom (f n b : Int) (hf : Bool) : Int := if hf = true then endI f n b else if b < 0 then n - 1 else 0
def sTo (t n b : Int) (ht : Bool) : Int := if ht = true then endI t n b else if b < 0 then -1 else n
theorem endI_bound {x n b : Int} (hn : 0 ≤ n ∧ n ≤ 60) : -1 ≤ endI x n b ∧ endI x n b ≤ 60 := by
  unfold endI; split <;> split <;> omega
theorem sFrom_bound {f n b : Int} {hf : Bool} (hn : 0 ≤ n ∧ n ≤ 60) : -1 ≤ sFrom f n b hf ∧ sFrom f n b hf ≤ 60 := by
  have := endI_bound (x := f) (b := b) hn
  unfold sFrom; split
  · exact this
  · split <;> omega
theorem sTo_bound {t n b : Int} {ht : Bool} (hn : 0 ≤ n ∧ n ≤ 60) : -1 ≤ sTo t n b ht ∧ sTo t n b ht ≤ 60 := by
  have := endI_bound (x := t) (b := b) hn
  unfold sTo; split
  · exact this
  · split <;> omega
theorem over_valid {f t b n : Int} {hf ht : Bool} (hn : 0 ≤ n ∧ n ≤ 60) (hs : vS f t b hf ht = true) : vR (sFrom f n b hf) (sTo t n b ht) b = true := by
  obtain ⟨h1, h2, h3, h4, -, -⟩ := vS_spec.1 hs
  have := sFrom_bound (f := f) (b := b) (hf := hf) hn
  have := sTo_bound (t := t) (b := b) (ht := ht) hn
  exact vR_spec.2 ⟨by omega, by omega, h3, h4⟩


def idxOf (n f t b : Int) (hf ht : Bool) : List Int := if vS f t b hf ht = true ∧ 0 ≤ n ∧ n ≤ 60 then nums (sFrom f n b hf) b (cntN (sFrom f n b hf) (sTo t n b ht) b) else []
def pS (a k : Int) : Int := if k < 1 then 0 else a
def pE (a c k : Int) : Int := if k < 1 then 0 else if k = 1 then a + 1 else if c < 0 then a + (k - 1) * c - 1 else a + (k - 1) * c + 1
def pC (c k : Int) : Int := if k ≤ 1 then 1 else c
abbrev PR (a c k : Int) : AV := rng (pS a k) (pE a c k) (pC c k)


theorem idx_in {f t b n : Int} {hf ht : Bool} (hn : 0 ≤ n ∧ n ≤ 60) (hs : vS f t b hf ht = true) {i : Nat} (h : i < cntN (sFrom f n b hf) (sTo t n b ht) b) : 0 ≤ sFrom f n b hf + (i : Int) * b ∧ sFrom f n b hf + (i : Int) * b < n := by
  have h1 := (cntN_lt (over_valid hn hs) i).1 h
  rcases h1 with ⟨hb, h2⟩ | ⟨hb, h2⟩
  · have p : 0 ≤ (i : Int) * b := Int.mul_nonneg (by omega) (by omega)
    have q1 : 0 ≤ sFrom f n b hf := by unfold sFrom endI; split <;> (try split) <;> omega
    have q2 : sTo t n b ht ≤ n := by unfold sTo endI; split <;> (try split) <;> omega
    omega
  · have p : 0 ≤ (i : Int) * (0 - b) := Int.mul_nonneg (by omega) (by omega)
    rw [Int.zero_sub, Int.mul_neg] at p
    have q1 : sFrom f n b hf ≤ n - 1 := by unfold sFrom endI; split <;> (try split) <;> omega
    have q2 : -1 ≤ sTo t n b ht := by unfold sTo endI; split <;> (try split) <;> omega
    omega
theorem mul_bd {x y : Int} {p q : Nat} (h1 : -(p : Int) ≤ x ∧ x ≤ p) (h2 : -(q : Int) ≤ y ∧ y ≤ q) : -((p * q : Nat) : Int) ≤ x * y ∧ x * y ≤ (p * q : Nat) := by
  have e : (x * y).natAbs ≤ p * q := by rw [Int.natAbs_mul]; exact Nat.mul_le_mul (by omega) (by omega)
  omega


def slRg (a b c f t w : Int) (hf ht : Bool) : AV :=
  if vR a b c = true ∧ vS f t w hf ht = true ∧ cntN a b c ≤ 60 then PR (a + sFrom f (cntN a b c) w hf * c) (c * w) (cntN (sFrom f (cntN a b c) w hf) (sTo t (cntN a b c) w ht) w) else rng 0 0 0
def mgSome (n f t w : Int) (hf ht : Bool) (f' t' w' : Int) (hf' ht' : Bool) : AV :=
  let u := sFrom f n w hf
  let k := cntN u (sTo t n w ht) w
  let u' := sFrom f' k w' hf'
  let k' := cntN u' (sTo t' k w' ht') w'
  slc (pS (u + u' * w) k') (if pE (u + u' * w) (w * w') k' < 0 then 0 else pE (u + u' * w) (w * w') k') (pC (w * w') k') true (!decide (pE (u + u' * w) (w * w') k' < 0))
def mgS (n f t w : Int) (hf ht : Bool) (f' t' w' : Int) (hf' ht' : Bool) : AV :=
  if (0 ≤ n ∧ n ≤ 60) ∧ vS f t w hf ht = true ∧ vS f' t' w' hf' ht' = true then mgSome n f t w hf ht f' t' w' hf' ht' else slc 0 0 0 false false
end VwM
set_option linter.unusedVariables false
set_option linter.unusedSimpArgs false
set_option linter.unnecessarySimpa false
set_option maxRecDepth 4000
namespace VwM
open Vw
open Go

def placeI (xs : List Int) (x : Int) : Int := if x ∈ xs then (xs.idxOf x : Int) else -1
theorem mem_getD {xs : List Int} {x : Int} : x ∈ xs ↔ ∃ j, j < xs.length ∧ xs.getD j 0 = x := by
  constructor
  · intro h
    obtain ⟨i, hi, e⟩ := List.getElem_of_mem h
    exact ⟨i, hi, by simp [List.getD, hi, e]⟩
  · rintro ⟨j, hj, rfl⟩
    simp [List.getD, hj]
theorem getD_mem {xs : List Int} {j : Nat} (h : j < xs.length) : xs.getD j 0 ∈ xs := mem_getD.2 ⟨j, h, rfl⟩
theorem placeI_none {xs : List Int} {x : Int} (h : ∀ j, j < xs.length → xs.getD j 0 ≠ x) : placeI xs x = -1 := by
  unfold placeI
  rw [if_neg]
  intro hm
  obtain ⟨j, hj, e⟩ := mem_getD.1 hm
  exact h j hj e
theorem placeI_some {xs : List Int} {x : Int} {j : Nat} (hj : j < xs.length) (h : xs.getD j 0 = x) (hno : ∀ i, i < j → xs.getD i 0 ≠ x) : placeI xs x = j := by
  unfold placeI
  rw [if_pos (mem_getD.2 ⟨j, hj, h⟩)]
  congr 1
  induction xs generalizing j with
  | nil => simp at hj
  | cons y r ih =>
    rw [List.idxOf_cons]
    cases j with
    | zero => simp at h; simp [h]
    | succ j =>
      have h0 := hno 0 (by omega)
      have hy : ¬ y = x := by simpa using h0
      simp only [beq_iff_eq, hy, cond_false, Bool.cond_eq_ite, if_false]
      have := ih (j := j) (by simpa using hj) (by simpa using h) (fun i hi => by simpa using hno (i + 1) (by omega))
      omega
theorem placeI_neg {xs : List Int} {x : Int} : placeI xs x < 0 ↔ x ∉ xs := by
  unfold placeI
  by_cases h : x ∈ xs
  · simp [h]
  · simp [h]
def nrmA (xs : List Int) : AV :=
  if xs.length = 0 then rng 0 0 1 else if xs.length = 1 then rng (xs.getD 0 0) (xs.getD 0 0 + 1) 1 else
    rng (xs.getD 0 0) (if xs.getD 1 0 - xs.getD 0 0 < 0 then xs.getD (xs.length - 1) 0 - 1 else xs.getD (xs.length - 1) 0 + 1) (xs.getD 1 0 - xs.getD 0 0)
def ascL (xs : List Int) : List Int := if 1 < xs.length ∧ xs.getD 0 0 > xs.getD 1 0 then xs.reverse else xs
def aS (a c : Int) (n : Nat) : Int := if c < 0 then a + ((n : Int) - 1) * c else a
def aC (c : Int) : Int := if c < 0 then 0 - c else c
def commL (xs ys : List Int) : List Int := xs.filter fun x => decide (x ∈ ys)
theorem PR_valid {s c : Int} {n : Nat} (h0 : c ≠ 0) (hc : -200 ≤ c ∧ c ≤ 200) (hb : ∀ i : Nat, i < n → -100 ≤ s + (i : Int) * c ∧ s + (i : Int) * c ≤ 100) :
    vR (pS s n) (pE s c n) (pC c n) = true := by
  match n with
  | 0 => simp [pS, pE, pC, vR]
  | 1 =>
    have := hb 0 (by omega)
    simp at this
    simp [pS, pE, pC, vR]; omega
  | n + 2 =>
    have b0 := hb 0 (by omega)
    have bl := hb (n + 1) (by omega)
    simp only [Int.natCast_zero, Int.zero_mul, Int.add_zero] at b0
    have p1 : ¬ ((n + 2 : Nat) : Int) < 1 := by omega
    have p2 : ¬ ((n + 2 : Nat) : Int) ≤ 1 := by omega
    have p3 : ¬ ((n + 2 : Nat) : Int) = 1 := by omega
    simp only [pS, pE, pC, if_neg p1, if_neg p2, if_neg p3]
    rw [show ((n + 2 : Nat) : Int) - 1 = ((n + 1 : Nat) : Int) by omega]
    refine vR_spec.2 ⟨by omega, ?_, hc, h0⟩
    split <;> omega
theorem cntN_PR {s c : Int} {n : Nat} (h0 : c ≠ 0) (hc : -200 ≤ c ∧ c ≤ 200) (hb : ∀ i : Nat, i < n → -100 ≤ s + (i : Int) * c ∧ s + (i : Int) * c ≤ 100) :
    cntN (pS s n) (pE s c n) (pC c n) = n := by
  have hv := PR_valid h0 hc hb
  have key : ∀ i : Nat, i < cntN (pS s n) (pE s c n) (pC c n) ↔ i < n := by
    intro i
    rw [cntN_lt hv]
    match n with
    | 0 => simp [pS, pE, pC]; try omega
    | 1 => simp [pS, pE, pC]; try omega
    | n + 2 =>
      have p1 : ¬ ((n + 2 : Nat) : Int) < 1 := by omega
      have p2 : ¬ ((n + 2 : Nat) : Int) ≤ 1 := by omega
      have p3 : ¬ ((n + 2 : Nat) : Int) = 1 := by omega
      simp only [pS, pE, pC, if_neg p1, if_neg p2, if_neg p3]
      rw [show ((n + 2 : Nat) : Int) - 1 = ((n + 1 : Nat) : Int) by omega]
      by_cases hn : c < 0
      · rw [if_pos hn]
        constructor
        · rintro (h | h)
          · omega
          · rcases Nat.lt_or_ge i (n + 2) with g | g
            · exact g
            · have := Int.mul_le_mul_of_nonneg_right (a := ((n + 2 : Nat) : Int)) (b := (i : Int)) (c := 0 - c) (by omega) (by omega)
              rw [Int.mul_sub, Int.mul_sub, Int.mul_zero, Int.mul_zero, show ((n + 2 : Nat) : Int) = ((n + 1 : Nat) : Int) + 1 by omega, Int.add_mul] at this
              omega
        · intro g
          right
          have := Int.mul_le_mul_of_nonneg_right (a := (i : Int)) (b := ((n + 1 : Nat) : Int)) (c := 0 - c) (by omega) (by omega)
          rw [Int.mul_sub, Int.mul_sub, Int.mul_zero, Int.mul_zero] at this
          omega
      · rw [if_neg hn]
        constructor
        · rintro (h | h)
          · rcases Nat.lt_or_ge i (n + 2) with g | g
            · exact g
            · have := Int.mul_le_mul_of_nonneg_right (a := ((n + 2 : Nat) : Int)) (b := (i : Int)) (c := c) (by omega) (by omega)
              rw [show ((n + 2 : Nat) : Int) = ((n + 1 : Nat) : Int) + 1 by omega, Int.add_mul] at this
              omega
          · omega
        · intro g
          left
          have := Int.mul_le_mul_of_nonneg_right (a := (i : Int)) (b := ((n + 1 : Nat) : Int)) (c := c) (by omega) (by omega)
          omega
  rcases Nat.lt_trichotomy (cntN (pS s n) (pE s c n) (pC c n)) n with h | h | h
  · have := (key _).2 h; omega
  · exact h
  · have := (key _).1 h; omega
def revT (xs : List Int) (k : Nat) : List Int := xs.reverse.take k
def meA (a b c a' b' c' : Int) : AV := if vR a b c = true ∧ vR a' b' c' = true then nrmA (commL (nums (aS a c (cntN a b c)) (aC c) (cntN a b c)) (nums (aS a' c' (cntN a' b' c')) (aC c') (cntN a' b' c'))) else rng 0 0 0
def cvB (a b c a' b' c' : Int) : Bool := vR a b c && vR a' b' c' && decide (∀ x ∈ nums a' c' (cntN a' b' c'), x ∈ nums a c (cntN a b c))
theorem plainI [Inhabited GlobT] {P : Program} {f : Nat} {args : List AV} {xs : List Int} (h : BCall P f args [] (OI xs)) : PCall P f args (fun r => r = .rows true (IL xs) xs.length) := by
  refine (BCall.plain h).mono ?_
  rintro r ⟨r0, H', ⟨rfl, rfl⟩, rfl⟩
  simp [AV.ren, nthH, List.map_map, Function.comp_def]
end VwM
set_option linter.unusedVariables false
set_option linter.unusedSimpArgs false
set_option linter.unnecessarySimpa false
set_option maxRecDepth 4000
namespace VwM
open Vw
open Go

def horF (sh : List Int) (f : Nat → Int) : Nat → Int
  | 0 => 0
  | k + 1 => horF sh f k * sh.getD k 0 + f k
def isIx (sh : List Int) (f : Nat → Int) : Prop := ∀ i, i < sh.length → 0 ≤ f i ∧ f i < sh.getD i 0
theorem dig_isIx {sh : List Int} (hg : good4 sh) {k : Int} (hk : 0 ≤ k) (h : k < pr sh) : isIx sh (dig sh k) := fun i hi =>
  dig_bound hk (pos_of_pr hg (by omega)) (fun i hi => (good4_at hg hi).2) hi

def cellK (b : Int) (sh st : List Int) (k : Int) : Int := b + dot (dig sh k) st sh.length
def offs (b : Int) (sh st : List Int) : List Int := (List.range (pr sh).toNat).map fun k : Nat => cellK b sh st k
theorem offs_length (b : Int) (sh st : List Int) : (offs b sh st).length = (pr sh).toNat := by simp [offs]
def vSt (st : List Int) (n : Nat) : Bool := decide (st.length = n) && allI st (-60) 60
theorem vSt_spec {st : List Int} {n : Nat} : vSt st n = true ↔ st.length = n ∧ ∀ x ∈ st, -60 ≤ x ∧ x ≤ 60 := by
  simp only [vSt, Bool.and_eq_true, decide_eq_true_eq, allI_iff]
theorem vSt_at {st : List Int} {n i : Nat} (h : vSt st n = true) (hi : i < n) : -60 ≤ st.getD i 0 ∧ st.getD i 0 ≤ 60 := by
  obtain ⟨h1, h2⟩ := vSt_spec.1 h
  exact h2 _ (getD_mem (by omega))
def vV (b : Int) (sh st : List Int) : Bool := vSh sh && vSt st sh.length && (decide (0 ≤ b) && decide (b ≤ 60)) && (decide (pr sh = 0) || allI (offs b sh st) 0 59)
theorem vV_spec {b : Int} {sh st : List Int} : vV b sh st = true ↔ vSh sh = true ∧ vSt st sh.length = true ∧ (0 ≤ b ∧ b ≤ 60) ∧ (pr sh = 0 ∨ ∀ x ∈ offs b sh st, 0 ≤ x ∧ x ≤ 59) := by
  simp only [vV, Bool.and_eq_true, Bool.or_eq_true, decide_eq_true_eq, allI_iff, and_assoc]
def lowS (sh st : List Int) : Nat → Int
  | 0 => 0
  | k + 1 => lowS sh st k + min ((sh.getD k 0 - 1) * st.getD k 0) 0
def highS (sh st : List Int) : Nat → Int
  | 0 => 0
  | k + 1 => highS sh st k + max ((sh.getD k 0 - 1) * st.getD k 0) 0
def bdL (b : Int) (sh st : List Int) : Int := if pr sh = 0 then -1 else b + lowS sh st sh.length
def bdH (b : Int) (sh st : List Int) : Int := if pr sh = 0 then -1 else b + highS sh st sh.length
def mnL (xs : List Int) : Nat → Int
  | 0 => xs.getD 0 0
  | k + 1 => min (mnL xs k) (xs.getD k 0)
def mxL (xs : List Int) : Nat → Int
  | 0 => xs.getD 0 0
  | k + 1 => max (mxL xs k) (xs.getD k 0)
end VwM
set_option linter.unusedVariables false
set_option linter.unusedSimpArgs false
set_option linter.unnecessarySimpa false
set_option maxRecDepth 4000
namespace VwM
open Vw
open Go

theorem mkAV_bools (bs : List Bool) (off : Nat) : mkAV false (((bs.map AV.bool).drop off).take 1) = if off < bs.length then some (.bool (bs.getD off false)) else none := by
  by_cases h : off < bs.length
  · rw [if_pos h, List.drop_eq_getElem_cons (by simpa using h)]
    simp [mkAV, h, List.getD]
  · rw [if_neg h, List.drop_eq_nil_of_le (by simp; omega)]
    rfl
theorem innL_boolsM (p : Nat → Bool) (bs : List Bool) : innL p (bs.map AV.bool) = true := by
  induction bs with
  | nil => rfl
  | cons x r ih => simp [innL, AV.inn, ih]
attribute [push_cast] mkAV_bools
def met (xs : List Int) (k : Nat) : List Bool := (List.range 60).map fun c : Nat => decide ((c : Int) ∈ xs.take k)
def oneB (b : Int) (sh st : List Int) : Bool := vV b sh st && decide (offs b sh st).Nodup
end VwM
set_option linter.unusedVariables false
set_option linter.unusedSimpArgs false
set_option linter.unnecessarySimpa false
set_option maxRecDepth 4000
namespace VwM
open Vw
open Go

theorem wrap_id {n : Int} (h0 : 0 ≤ n) (h1 : n < 1099511627776) : IntKind.wrap .i64 n = n := IntWalk.i64_in n (by omega)
theorem xor_bound {a b : Int} (ha : 0 ≤ a ∧ a < 1099511627776) (hb : 0 ≤ b ∧ b < 1099511627776) : 0 ≤ bits .xor .i64 a b ∧ bits .xor .i64 a b < 1099511627776 := by
  have h : (BitVec.ofInt 64 a ^^^ BitVec.ofInt 64 b).toNat < 1099511627776 := by
    rw [BitVec.toNat_xor, BitVec.toNat_ofInt, BitVec.toNat_ofInt]
    have e1 : (a % ((2 ^ 64 : Nat) : Int)).toNat < 2 ^ 40 := by
      rw [Int.emod_eq_of_lt ha.1 (by omega)]; omega
    have e2 : (b % ((2 ^ 64 : Nat) : Int)).toNat < 2 ^ 40 := by
      rw [Int.emod_eq_of_lt hb.1 (by omega)]; omega
    exact Nat.xor_lt_two_pow e1 e2
  have e : bits .xor .i64 a b = IntKind.wrap .i64 ((BitVec.ofInt 64 a ^^^ BitVec.ofInt 64 b).toNat : Int) := rfl
  rw [e, wrap_id (by omega) (by omega)]
  omega
abbrev UL (bs : List Int) : List AV := bs.map (AV.int .u8)
abbrev RD (bs : List Int) (p : Int) : List AV := [.rows false (UL bs) bs.length, .int .i64 p]
def okB (bs : List Int) : Prop := bs.length ≤ 2000 ∧ ∀ x ∈ bs, 0 ≤ x ∧ x ≤ 255
theorem okB_at {bs : List Int} (h : okB bs) {i : Nat} (hi : i < bs.length) : 0 ≤ bs.getD i 0 ∧ bs.getD i 0 ≤ 255 := h.2 _ (getD_mem hi)
theorem tmod_bound {x n : Int} (hx : 0 ≤ x) (hn : 0 < n) : 0 ≤ x.tmod n ∧ x.tmod n < n := ⟨Int.tmod_nonneg n hx, Int.tmod_lt_of_pos x hn⟩
def unI : List AV → List Int
  | [] => []
  | .int _ n :: r => n :: unI r
  | _ :: r => 0 :: unI r
theorem unI_nil : unI [] = [] := rfl
theorem unI_cons (k : IntKind) (n : Int) (r : List AV) : unI (.int k n :: r) = n :: unI r := rfl
theorem unI_IL (xs : List Int) : unI (IL xs) = xs := by
  induction xs with
  | nil => rfl
  | cons x r ih => show x :: unI (IL r) = _; rw [ih]
attribute [simp] unI_nil unI_cons unI_IL
end VwM
set_option linter.unusedVariables false
set_option linter.unusedSimpArgs false
set_option linter.unnecessarySimpa false
set_option maxRecDepth 4000
namespace VwM
open Vw
open Go

def lenI (a b c : Int) : Int := if vR a b c = true then cntN a b c else -1
def nrR (a b c : Int) : AV := if vR a b c = true then PR a c (cntN a b c) else rng 0 0 0
def rvR (a b c : Int) : AV := if vR a b c = true then PR (a + ((cntN a b c : Int) - 1) * c) (0 - c) (cntN a b c) else rng 0 0 0
def plI (a b c x : Int) : Int := if vR a b c = true then placeI (nums a c (cntN a b c)) x else -1
def fromEnd (i n : Int) : Int := if i < 0 then i + n else i
def naB (a b c i : Int) : Bool := vR a b c && decide (0 ≤ fromEnd i (cntN a b c)) && decide (fromEnd i (cntN a b c) < cntN a b c)
def naI (a b c i : Int) : Int := if naB a b c i = true then a + fromEnd i (cntN a b c) * c else 0
end VwM
set_option linter.unusedVariables false
set_option linter.unusedSimpArgs false
set_option linter.unnecessarySimpa false
set_option maxRecDepth 4000
namespace VwM
open Vw
open Go

end VwM
set_option linter.unusedVariables false
set_option linter.unusedSimpArgs false
set_option linter.unnecessarySimpa false
set_option maxRecDepth 4000
namespace VwM
open Vw
open Go

end VwM
set_option linter.unusedVariables false
set_option linter.unusedSimpArgs false
set_option linter.unnecessarySimpa false
set_option maxRecDepth 4000
namespace VwM
open Vw
open Go

def sumT (xs : List Int) : Nat → Int
  | 0 => 0
  | k + 1 => sumT xs k + xs.getD k 0
def sumI (a b c : Int) : Int := if vR a b c = true then sumT (nums a c (cntN a b c)) (cntN a b c) else 0
def takesL (xs at_ : List Int) : List Int := at_.map fun i => xs.getD i.toNat 0
end VwM
set_option linter.unusedVariables false
set_option linter.unusedSimpArgs false
set_option maxRecDepth 4000
namespace VwM
open Vw
open Go

def wo (xs : List Int) (k : Nat) : List Int := xs.take k ++ xs.drop (k + 1)
end VwM
set_option linter.unusedVariables false
set_option linter.unusedSimpArgs false
set_option maxRecDepth 4000
namespace VwM
open Vw
open Go

def spS (b : Int) (sh st : List Int) : Int := if pr sh = 0 then 0 else bdL b sh st
def spN (b : Int) (sh st : List Int) : Nat := if pr sh = 0 then 0 else (bdH b sh st - bdL b sh st + 1).toNat
def mayB (b : Int) (sh st : List Int) (b' : Int) (sh' st' : List Int) : Bool :=
  vV b sh st && vV b' sh' st' && decide (0 < (commL (nums (spS b sh st) 1 (spN b sh st)) (nums (spS b' sh' st') 1 (spN b' sh' st'))).length)
def bothL (xs ys : List Int) : List Int := (nums 0 1 60).filter fun x => decide (x ∈ xs ∧ x ∈ ys)
def bothT (xs ys : List Int) (k : Nat) : List Int := (nums 0 1 k).filter fun x => decide (x ∈ xs ∧ x ∈ ys)
def lineA (b : Int) (sh st : List Int) : AV := if vV b sh st = true ∧ sh.length = 1 then nrmA (bothL (offs b sh st) (offs b sh st)) else rng 0 0 0
end VwM
set_option linter.unusedVariables false
set_option linter.unusedSimpArgs false
set_option linter.unnecessarySimpa false
set_option maxRecDepth 4000
namespace VwM
open Vw
open Go

end VwM
set_option linter.unusedVariables false
set_option linter.unusedSimpArgs false
set_option maxRecDepth 4000
namespace VwM
open Vw
open Go

def MVB (v : Bool) (b : Int) : Int := if v = true then b else 0
def MVL (v : Bool) (l : List Int) : List Int := if v = true then l else []
abbrev MV (v : Bool) (b : Int) (sh st : List Int) : AV → List (List AV) → Prop := fun r H' =>
  r = .tup [.agg [.int .i64 (MVB v b), .own 0 (MVL v sh).length 1, .own 1 (MVL v st).length 1], .bool v] ∧ H' = [IL (MVL v sh), IL (MVL v st)]

def ins (xs : List Int) (k : Nat) (x : Int) : List Int := xs.take k ++ x :: xs.drop k
theorem ins_length {xs : List Int} {k : Nat} (x : Int) (h : k ≤ xs.length) : (ins xs k x).length = xs.length + 1 := by simp [ins]; omega

def cutK (n f t w : Int) (hf ht : Bool) : Nat := cntN (sFrom f n w hf) (sTo t n w ht) w
def cutSh (sh : List Int) (j : Nat) (f t w : Int) (hf ht : Bool) : List Int := sh.set j (cutK (sh.getD j 0) f t w hf ht)
def cutX (sh st : List Int) (j : Nat) (f t w : Int) (hf ht : Bool) : Int := if (cutK (sh.getD j 0) f t w hf ht : Int) ≤ 1 then 0 else pC w (cutK (sh.getD j 0) f t w hf ht) * st.getD j 0
def cutSt (sh st : List Int) (j : Nat) (f t w : Int) (hf ht : Bool) : List Int :=
  if pr (cutSh sh j f t w hf ht) = 0 then List.replicate sh.length 0 else st.set j (cutX sh st j f t w hf ht)
def cutB (b : Int) (sh st : List Int) (j : Nat) (f t w : Int) (hf ht : Bool) : Int :=
  if pr (cutSh sh j f t w hf ht) = 0 then 0 else b + pS (sFrom f (sh.getD j 0) w hf) (cutK (sh.getD j 0) f t w hf ht) * st.getD j 0
theorem cutK_le {n f t w : Int} {hf ht : Bool} (hn : 0 ≤ n ∧ n ≤ 60) (hs : vS f t w hf ht = true) : (cutK n f t w hf ht : Int) ≤ n := by
  have hw := (vS_spec.1 hs).2.2.2.1
  match hk : cutK n f t w hf ht with
  | 0 => omega
  | k + 1 =>
    have a := idx_in hn hs (i := k) (show k < cutK n f t w hf ht by omega)
    have b := idx_in hn hs (i := 0) (show 0 < cutK n f t w hf ht by omega)
    simp only [Int.natCast_zero, Int.zero_mul, Int.add_zero] at b
    rcases Int.lt_or_le w 0 with h | h
    · have : (k : Int) * w ≤ (k : Int) * (-1) := Int.mul_le_mul_of_nonneg_left (by omega) (by omega)
      omega
    · have : (k : Int) * 1 ≤ (k : Int) * w := Int.mul_le_mul_of_nonneg_left (by omega) (by omega)
      omega
end VwM
set_option linter.unusedVariables false
set_option linter.unusedSimpArgs false
set_option maxRecDepth 4000
namespace VwM
open Vw
open Go

theorem dot_zero {f : Nat → Int} {st : List Int} : ∀ n, (∀ i, i < n → f i = 0) → dot f st n = 0
  | 0, _ => rfl
  | n + 1, h => by simp only [dot]; rw [dot_zero n fun i hi => h i (by omega), h n (by omega)]; simp
def isLine (b : Int) (L : List Int) (k : Nat) : Bool := (List.range k).all fun j => decide (L.getD j 0 = b + (j : Int))
end VwM
set_option linter.unusedVariables false
set_option linter.unusedSimpArgs false
set_option linter.unnecessarySimpa false
set_option maxRecDepth 4000
namespace VwM
open Vw
open Go

theorem take3 (xs : List Int) (off : Nat) (h : off + 3 ≤ xs.length) : ((xs.map (AV.int .i64)).drop off).take 3 = [.int .i64 (xs.getD off 0), .int .i64 (xs.getD (off + 1) 0), .int .i64 (xs.getD (off + 2) 0)] := by
  rw [List.drop_eq_getElem_cons (by simp; omega), List.drop_eq_getElem_cons (by simp; omega), List.drop_eq_getElem_cons (by simp; omega)]
  have h1 : off < xs.length := by omega
  have h2 : off + 1 < xs.length := by omega
  have h3 : off + 2 < xs.length := by omega
  have e3 : off + 1 + 1 = off + 2 := rfl
  simp only [e3]
  simp [h1, h2, h3, List.getD]
attribute [push_cast] take3
def fl3 (f : Nat → Int × Int × Int) : Nat → List Int
  | 0 => []
  | k + 1 => fl3 f k ++ [(f k).1, (f k).2.1, (f k).2.2]
def fz3 (f : Nat → Int × Int × Int) (n k : Nat) : List Int := fl3 f k ++ List.replicate ((n - k) * 3) 0
def dealF (a b c w : Int) (k : Nat) : Int × Int × Int :=
  let m : Nat := cntN k (cntN a b c) w
  (pS (a + (k : Int) * c) m, pE (a + (k : Int) * c) (c * w) m, pC (c * w) m)
def dealL (a b c w : Int) : List Int := if vR a b c = true ∧ 1 ≤ w ∧ w ≤ 6 then fl3 (dealF a b c w) w.toNat else []
def dealN (a b c w : Int) : Nat := if vR a b c = true ∧ 1 ≤ w ∧ w ≤ 6 then w.toNat else 0
theorem zcells3_1 : zcells [AV.int .i64 0, .int .i64 0, .int .i64 0] 1 = [AV.int .i64 0, .int .i64 0, .int .i64 0] := rfl
attribute [push_cast] zcells3_1
end VwM
set_option linter.unusedVariables false
set_option linter.unusedSimpArgs false
set_option maxRecDepth 4000
namespace VwM
open Vw
open Go

theorem take2 (xs : List Int) (off : Nat) (h : off + 2 ≤ xs.length) : ((xs.map (AV.int .i64)).drop off).take 2 = [.int .i64 (xs.getD off 0), .int .i64 (xs.getD (off + 1) 0)] := by
  rw [List.drop_eq_getElem_cons (by simp; omega), List.drop_eq_getElem_cons (by simp; omega)]
  have h1 : off < xs.length := by omega
  have h2 : off + 1 < xs.length := by omega
  simp [h1, h2, List.getD]
theorem take2_0 (xs : List Int) (h : 2 ≤ xs.length) : (xs.map (AV.int .i64)).take 2 = [.int .i64 (xs.getD 0 0), .int .i64 (xs.getD 1 0)] := by
  have := take2 xs 0 (by omega)
  rwa [List.drop_zero] at this
attribute [push_cast] take2 take2_0
def dm : List Int → List Int → List Int
  | e :: sh, s :: st => e :: s :: dm sh st
  | _, _ => []
theorem zcells2_1 : zcells [AV.int .i64 0, .int .i64 0] 1 = [AV.int .i64 0, .int .i64 0] := rfl
attribute [push_cast] zcells2_1
def dmS (e s : Int) : Int := if e < 2 then 0 else s
end VwM
set_option linter.unusedVariables false
set_option linter.unusedSimpArgs false
set_option maxRecDepth 4000
namespace VwM
open Vw
open Go

def hasAll (xs : List Int) (k : Nat) : Bool := (List.range k).all fun d : Nat => decide ((d : Int) ∈ xs)
end VwM
set_option linter.unusedVariables false
set_option linter.unusedSimpArgs false
set_option maxRecDepth 4000
namespace VwM
open Vw
open Go

def permL (xs order : List Int) : List Int := order.map fun i => xs.getD i.toNat 0
def isOrd (order : List Int) (n : Nat) : Prop := order.length = n ∧ (∀ x ∈ order, 0 ≤ x ∧ x ≤ (n : Int) - 1) ∧ order.Nodup
def sumL : List Int → Int
  | [] => 0
  | x :: r => x + sumL r
def invO (order : List Int) (d : Nat) : Nat := order.idxOf (d : Int)
def mixP (xs order : List Int) (k : Nat) : List Int := permL xs (order.take k) ++ xs.drop k
def at4 (a b c d : Int) : Nat → Int
  | 0 => a
  | 1 => b
  | 2 => c
  | 3 => d
  | _ => 0
theorem at4_zero : ∀ i, at4 0 0 0 0 i = 0
  | 0 => rfl
  | 1 => rfl
  | 2 => rfl
  | 3 => rfl
  | _ + 4 => rfl
end VwM
set_option linter.unusedVariables false
set_option linter.unusedSimpArgs false
namespace VwM
open Vw Go

def vMem (mem : List Int) : Bool := decide (mem.length ≤ 60) && allI mem 0 255
def seeB (mem : List Int) (b : Int) (sh st : List Int) : Bool := vMem mem && vV b sh st && allI (offs b sh st) 0 ((mem.length : Int) - 1)

def wdt (sh st : List Int) : Nat := if sh.length = 0 then 1 else if st.getD (sh.length - 1) 0 = 1 then (sh.getD (sh.length - 1) 0).toNat else 1


theorem takesL_length (xs at_ : List Int) : (takesL xs at_).length = at_.length := by simp [takesL]
def putK (mem cells vals : List Int) : Nat → List Int
  | 0 => mem
  | k + 1 => (putK mem cells vals k).set (cells.getD k 0).toNat (vals.getD k 0)
def putL (mem cells vals : List Int) : List Int := putK mem cells vals cells.length
def carK (mem to fr : List Int) : Nat → List Int
  | 0 => mem
  | k + 1 => (carK mem to fr k).set (to.getD k 0).toNat ((carK mem to fr k).getD (fr.getD k 0).toNat 0)
def carL (mem to fr : List Int) : List Int := carK mem to fr fr.length
def addK (mem cells vals : List Int) : Nat → List Int
  | 0 => mem
  | k + 1 => (addK mem cells vals k).set (cells.getD k 0).toNat (((addK mem cells vals k).getD (cells.getD k 0).toNat 0 + vals.getD k 0).tmod 256)
def addL (mem cells vals : List Int) : List Int := addK mem cells vals cells.length
def rvK (xs : List Int) (k : Nat) : List Int := (List.range xs.length).map fun i => if i < k ∨ xs.length ≤ i + k then xs.getD (xs.length - 1 - i) 0 else xs.getD i 0

def mtL (xs ys : List Int) : Bool := (List.range xs.length).any fun i => decide (xs.getD i 0 ∈ ys.drop (i + 1))
def chK (a b : List Int) : Nat → List Int
  | 0 => []
  | k + 1 => if a.getD k 0 = b.getD k 0 then chK a b k else chK a b k ++ [(k : Int)]
def chL (a b : List Int) : List Int := chK a b a.length
end VwM
set_option linter.unusedVariables false
set_option linter.unusedSimpArgs false
namespace VwM
open Vw Go

def rpt (c : List Int) : Nat → List Int
  | 0 => []
  | n + 1 => c ++ rpt c n
theorem rpt_length (c : List Int) : ∀ n, (rpt c n).length = n * c.length
  | 0 => by simp [rpt]
  | n + 1 => by simp [rpt, rpt_length c n, Nat.add_mul]; omega
theorem rpt_one (x : Int) : ∀ n, rpt [x] n = List.replicate n x
  | 0 => rfl
  | n + 1 => by simp [rpt, rpt_one x n, List.replicate_succ]
theorem rpt_add (c : List Int) : ∀ n m, rpt c (n + m) = rpt c n ++ rpt c m
  | 0, m => by simp [rpt]
  | n + 1, m => by rw [Nat.succ_add]; simp [rpt, rpt_add c n m]
def rpK (c z : List Int) (k n : Nat) : List Int := rpt c n ++ rpt z (k - n)
theorem setRange_app : ∀ (l a b d : List AV), l.length = b.length → setRange (a ++ (b ++ d)) a.length l = a ++ (l ++ d)
  | [], a, [], d, _ => rfl
  | x :: l, a, y :: b, d, h => by
    simp only [setRange]
    have e : (a ++ (y :: b ++ d)).set a.length x = (a ++ [x]) ++ (b ++ d) := by
      rw [List.set_append_right _ _ (Nat.le_refl _)]
      simp
    rw [e]
    have := setRange_app l (a ++ [x]) b d (by simpa using h)
    rw [List.length_append, List.length_singleton] at this
    rw [this]
    simp
  | [], _, _ :: _, _, h => by simp at h
  | _ :: _, _, [], _, h => by simp at h
end VwM
set_option linter.unusedVariables false
set_option linter.unusedSimpArgs false
set_option maxRecDepth 4000
namespace VwM
open Vw
open Go

def Tal (L : List ME) (c : Nat) (f : Int → Nat) : Prop :=
  (∀ k, mget L k = (f k : Int)) ∧ (∀ k, mhas L k = true ↔ 0 < f k) ∧ (L.map (·.1)).Nodup ∧ (L.map (·.2.2)).Nodup ∧ ∀ p ∈ L, p.2.2 < c
def cnt (xs : List Int) (k : Int) : Nat := xs.count k
def addF (f g : Int → Nat) (k : Int) : Nat := f k + g k

def Seen (L V : List ME) : Prop := (V.map (·.2.2)).Nodup ∧ ∀ p ∈ V, p ∈ L
def pickT (t : Int) (V : List ME) : List Int := (V.filter fun p => decide (t ≤ p.2.1)).map (·.1)
def atL (f : Int → Nat) (t : Nat) : List Int := (nums 0 1 60).filter fun x => decide (t ≤ f x)
abbrev Vw3 := Int × List Int × List Int
def VLs : List Vw3 → List AV
  | [] => []
  | v :: r => .int .i64 v.1 :: RI v.2.1 :: RI v.2.2 :: VLs r
def allO (vs : List Vw3) : List Int := vs.flatMap fun v => offs v.1 v.2.1 v.2.2
theorem innL_IL (p : Nat → Bool) : ∀ xs : List Int, innL p (IL xs) = true
  | [] => rfl
  | x :: r => by
    have := innL_IL p r
    simp only [IL, List.map_cons, innL, AV.inn, Bool.true_and]
    exact this
theorem ren_VLs {ρ : Nat → Option Nat} {Zh : Nat → Option (List AV)} {n : Nat} : ∀ vs : List Vw3, (VLs vs).map (AV.ren ρ Zh false phiD (n + 2)) = VLs vs
  | [] => rfl
  | v :: r => by
    simp only [VLs, List.map_cons, ren_VLs r, List.cons.injEq, and_true]
    refine ⟨rfl, ?_, ?_⟩ <;> simp [AV.ren, phiD]
attribute [push_cast] ren_VLs
abbrev repL (xs : List Int) : List Int := atL (cnt xs) 2
def ovB (b : Int) (sh st : List Int) (b' : Int) (sh' st' : List Int) : Bool := vV b sh st && vV b' sh' st'
def doB (b : Int) (sh st : List Int) (b' : Int) (sh' st' : List Int) : Bool := decide (0 < (MVL (ovB b sh st b' sh' st') (bothL (offs b sh st) (offs b' sh' st'))).length)
def atT (f : Int → Nat) (t : Nat) (k : Nat) : List Int := (nums 0 1 k).filter fun x => decide (t ≤ f x)
def inclB (ys xs : List Int) : Bool := decide (∀ x ∈ ys, x ∈ xs)
def coB (b : Int) (sh st : List Int) (b' : Int) (sh' st' : List Int) : Bool := ovB b sh st b' sh' st' && inclB (offs b' sh' st') (offs b sh st)
def wiP (d : Bool) (O O' : List Int) : AV := if d = true then .tup [.int .i64 (placeI O ((bothL O O').getD 0 0)), .int .i64 (placeI O' ((bothL O O').getD 0 0)), .bool true] else .tup [.int .i64 (-1), .int .i64 (-1), .bool false]
end VwM
set_option linter.unusedSectionVars false
set_option linter.unusedVariables false
set_option linter.unusedSimpArgs false
namespace VwM
open Go Vw

abbrev Tn := List Int × List Int
def TL (b : Bool) : List Tn → List AV
  | [] => []
  | t :: r => .rows b (IL t.1) t.1.length :: .rows b (IL t.2) t.2.length :: TL b r
def LL (b : Bool) : List (List Int) → List AV
  | [] => []
  | l :: r => .rows b (IL l) l.length :: LL b r
theorem TL_length (b : Bool) : ∀ ts : List Tn, (TL b ts).length = ts.length * 2
  | [] => rfl
  | t :: r => by simp only [TL, List.length_cons, TL_length b r]; omega
theorem LL_length (b : Bool) : ∀ ls : List (List Int), (LL b ls).length = ls.length
  | [] => rfl
  | l :: r => by simp only [LL, List.length_cons, LL_length b r]
theorem TL_append (b : Bool) : ∀ ts us : List Tn, TL b (ts ++ us) = TL b ts ++ TL b us
  | [], _ => rfl
  | t :: r, us => by simp only [List.cons_append, TL, TL_append b r us]
theorem LL_append (b : Bool) : ∀ ts us : List (List Int), LL b (ts ++ us) = LL b ts ++ LL b us
  | [], _ => rfl
  | t :: r, us => by simp only [List.cons_append, LL, LL_append b r us]
theorem TL_drop (b : Bool) : ∀ (ts : List Tn) (i : Nat) {t : Tn}, ts[i]? = some t → ((TL b ts).drop (i * 2)).take 2 = [.rows b (IL t.1) t.1.length, .rows b (IL t.2) t.2.length]
  | [], _, _, h => by simp at h
  | w :: r, 0, v, h => by simp at h; subst h; simp [TL]
  | w :: r, i + 1, v, h => by
    rw [show (i + 1) * 2 = i * 2 + 1 + 1 by omega]
    simp only [TL, List.drop_succ_cons]
    exact TL_drop b r i (by simpa using h)
theorem LL_drop (b : Bool) : ∀ (ls : List (List Int)) (i : Nat) {l : List Int}, ls[i]? = some l → ((LL b ls).drop i).take 1 = [.rows b (IL l) l.length]
  | [], _, _, h => by simp at h
  | w :: r, 0, v, h => by simp at h; subst h; simp [LL]
  | w :: r, i + 1, v, h => by
    simp only [LL, List.drop_succ_cons]
    exact LL_drop b r i (by simpa using h)
theorem innL_TL (b : Bool) (p : Nat → Bool) : ∀ ts : List Tn, innL p (TL b ts) = true
  | [] => rfl
  | v :: r => by
    simp only [TL, innL, AV.inn, innL_TL b p r, Bool.and_true, Bool.true_and, Bool.and_eq_true]
    exact ⟨innL_IL _ _, innL_IL _ _⟩
theorem innL_LL (b : Bool) (p : Nat → Bool) : ∀ ls : List (List Int), innL p (LL b ls) = true
  | [] => rfl
  | v :: r => by
    simp only [LL, innL, AV.inn, innL_LL b p r, Bool.and_true, Bool.true_and, Bool.and_eq_true]
    exact innL_IL _ _
section
variable {ρ : Nat → Option Nat} {Zh : Nat → Option (List AV)} {n : Nat} {b0 : Bool} {φ : Bool → Option Bool}
theorem ren_IL (xs : List Int) : (IL xs).map (AV.ren ρ Zh b0 φ (n + 1)) = IL xs := by unfold IL; rw [List.map_map]; rfl
theorem ren_TL {b c : Bool} (h : φ b = some c) : ∀ ts : List Tn, (TL b ts).map (AV.ren ρ Zh b0 φ (n + 2)) = TL c ts
  | [] => rfl
  | v :: r => by
    simp only [TL, List.map_cons, ren_TL h r, List.cons.injEq, and_true]
    constructor <;> simp only [AV.ren, h, ren_IL]
theorem ren_LL {b c : Bool} (h : φ b = some c) : ∀ ls : List (List Int), (LL b ls).map (AV.ren ρ Zh b0 φ (n + 2)) = LL c ls
  | [] => rfl
  | v :: r => by
    simp only [LL, List.map_cons, ren_LL h r, List.cons.injEq, and_true]
    simp only [AV.ren, h, ren_IL]
theorem ren_TLD (b : Bool) (ts : List Tn) : (TL b ts).map (AV.ren ρ Zh b0 phiD (n + 2)) = TL false ts := ren_TL (by cases b <;> rfl) ts
theorem ren_LLD (b : Bool) (ts : List (List Int)) : (LL b ts).map (AV.ren ρ Zh b0 phiD (n + 2)) = LL false ts := ren_LL (by cases b <;> rfl) ts
theorem ren_TLU (sh : Bool) (ts : List Tn) : (TL true ts).map (AV.ren ρ Zh b0 (phiU sh) (n + 2)) = TL true ts := ren_TL (by rfl) ts
theorem ren_LLU (sh : Bool) (ts : List (List Int)) : (LL true ts).map (AV.ren ρ Zh b0 (phiU sh) (n + 2)) = LL true ts := ren_LL (by rfl) ts
theorem ren_TLV (b : Bool) (ts : List Tn) : (TL b ts).map (AV.ren ρ Zh b0 (phiU true) (n + 2)) = TL b ts := ren_TL (by cases b <;> rfl) ts
theorem ren_LLV (b : Bool) (ts : List (List Int)) : (LL b ts).map (AV.ren ρ Zh b0 (phiU true) (n + 2)) = LL b ts := ren_LL (by cases b <;> rfl) ts
theorem ren_TLs (b : Bool) (ts : List Tn) : (TL b ts).map (AV.ren ρ Zh b0 some (n + 2)) = TL b ts := ren_TL (by rfl) ts
theorem ren_LLs (b : Bool) (ts : List (List Int)) : (LL b ts).map (AV.ren ρ Zh b0 some (n + 2)) = LL b ts := ren_LL (by rfl) ts
end
attribute [push_cast] ren_TLD ren_LLD ren_TLU ren_LLU ren_TLV ren_LLV ren_TLs ren_LLs TL_length LL_length

theorem fz_IL {H : Nat → Option (List AV)} {n : Nat} (xs : List Int) : (IL xs).map (AV.fz H (n + 1)) = IL xs := by unfold IL; rw [List.map_map]; rfl
theorem fz_TL {H : Nat → Option (List AV)} {n : Nat} (b : Bool) : ∀ ts : List Tn, (TL b ts).map (AV.fz H (n + 2)) = TL b ts
  | [] => rfl
  | v :: r => by
    simp only [TL, List.map_cons, fz_TL b r, List.cons.injEq, and_true]
    constructor <;> simp only [AV.fz, fz_IL]
theorem fz_LL {H : Nat → Option (List AV)} {n : Nat} (b : Bool) : ∀ ls : List (List Int), (LL b ls).map (AV.fz H (n + 2)) = LL b ls
  | [] => rfl
  | v :: r => by
    simp only [LL, List.map_cons, fz_LL b r, List.cons.injEq, and_true]
    simp only [AV.fz, fz_IL]
attribute [push_cast] fz_TL fz_LL
theorem aresL_c5 {s : S} {t id : Nat} {e : List Int} {r : List ARes} {l : List AV} (h1 : s.σ t = .ref id 5 0) (h2 : s.H id = some (e.map (AV.int .i64))) (he : e.length = 5) (hr : aresL s r = some l) : aresL s (.cell t true 5 :: r) = some (.agg (e.map (AV.int .i64)) :: l) := by
  have h3 : ares s (.cell t true 5) = some (.agg (e.map (AV.int .i64))) := by
    simp only [ares, h1, loadAV, h2, List.length_map, he]
    rw [if_pos (by simp), List.drop_zero, List.take_of_length_le (by simp [he])]
    rfl
  simp only [aresL, h3, hr]


def extG : List Int → List (Int × Int) → Option (List Int)
  | e, [] => some e
  | e, p :: r => if 0 ≤ e.getD p.1.toNat 0 ∧ e.getD p.1.toNat 0 ≠ p.2 then none else extG (e.set p.1.toNat p.2) r
def ext0 : List Int := [-1, -1, -1, -1, -1]
def prsOf (ts : List Tn) (ls : List (List Int)) : List (Int × Int) := (ls.zip ts).flatMap fun p => p.1.zip p.2.1
def labOk (ts : List Tn) (ls : List (List Int)) : Bool := (ls.zip ts).all fun p => decide (p.1.length = p.2.1.length) && allI p.1 0 4
def exT (ts : List Tn) (ls : List (List Int)) : Option (List Int) := if labOk ts ls = true then extG ext0 (prsOf ts ls) else none
def vT (t : Tn) : Bool := vSh t.1 && decide ((t.2.length : Int) = pr t.1) && allI t.2 (-1000000) 1000000
def exO (ts : List Tn) (ls : List (List Int)) : Option (List Int) := if (ts.all vT && (decide (1 ≤ ts.length) && decide (ts.length ≤ 3)) && decide (ls.length = ts.length)) = true then exT ts ls else none
theorem extG_append : ∀ (a b : List (Int × Int)) (e : List Int), extG e (a ++ b) = (extG e a).bind fun e' => extG e' b
  | [], b, e => rfl
  | p :: r, b, e => by
    simp only [List.cons_append, extG]
    split
    · rfl
    · exact extG_append r b _
theorem extG_len : ∀ (a : List (Int × Int)) {e e' : List Int}, extG e a = some e' → e'.length = e.length
  | [], e, e', h => by simp only [extG] at h; injection h with h; rw [h]
  | p :: r, e, e', h => by
    simp only [extG] at h
    split at h
    · cases h
    · have := extG_len r h; rw [List.length_set] at this; exact this
theorem extG_spec : ∀ (a : List (Int × Int)) {e e' : List Int} (k : Nat), k < e.length → (∀ p ∈ a, 0 ≤ p.1 ∧ p.1 < e.length ∧ 0 ≤ p.2) → extG e a = some e' →
    (∀ p ∈ a, p.1 = k → e'.getD k 0 = p.2) ∧ ((∀ p ∈ a, p.1 ≠ k) → e'.getD k 0 = e.getD k 0) ∧ (0 ≤ e.getD k 0 → e'.getD k 0 = e.getD k 0)
  | [], e, e', k, hk, _, h => by simp only [extG] at h; injection h with h; subst h; simp
  | p :: r, e, e', k, hk, hp, h => by
    simp only [extG] at h
    split at h
    · cases h
    · rename_i hc
      have hpp := hp p (by simp)
      obtain ⟨i1, i2, i3⟩ := extG_spec r (e := e.set p.1.toNat p.2) k (by rw [List.length_set]; exact hk) (fun q hq => by rw [List.length_set]; exact hp q (by simp [hq])) h
      have hg : (e.set p.1.toNat p.2).getD k 0 = if p.1.toNat = k then p.2 else e.getD k 0 := by
        simp only [List.getD_eq_getElem?_getD, List.getElem?_set]
        by_cases hpk : p.1.toNat = k
        · subst hpk
          rw [if_pos rfl, if_pos rfl, if_pos hk]; rfl
        · rw [if_neg hpk, if_neg hpk]
      rw [hg] at i2 i3
      have h3 : p.1.toNat = k → e'.getD k 0 = p.2 := fun he => by
        rw [if_pos he] at i3
        exact i3 hpp.2.2
      refine ⟨fun q hq hqk => ?_, fun hn => ?_, fun h0 => ?_⟩
      · rcases List.mem_cons.1 hq with rfl | hq
        · exact h3 (by omega)
        · exact i1 q hq hqk
      · have hpk : ¬ p.1.toNat = k := fun he => hn p (by simp) (by omega)
        rw [if_neg hpk] at i2
        exact i2 fun q hq => hn q (by simp [hq])
      · by_cases hpk : p.1.toNat = k
        · rw [h3 hpk]
          rw [hpk] at hc
          by_cases hx : e.getD k 0 = p.2
          · exact hx.symm
          · exact absurd ⟨h0, hx⟩ hc
        · rw [if_neg hpk] at i3
          exact i3 h0
end VwM
set_option linter.unusedSectionVars false
set_option linter.unusedVariables false
set_option linter.unusedSimpArgs false
namespace VwM
open Go Vw

theorem set5 {e : List Int} (he : e.length = 5) (a b c d f : AV) : setRange [a, b, c, d, f] 0 (e.map (AV.int .i64)) = e.map (AV.int .i64) := by
  match e, he with
  | [_, _, _, _, _], _ => rfl
theorem tak5 {e : List Int} (he : e.length = 5) : (e.map (AV.int .i64)).take 5 = e.map (AV.int .i64) := List.take_of_length_le (by simp [he])

def mkL (L : List Int) : List Bool := (List.range 5).map fun c : Nat => decide ((c : Int) ∈ L)
theorem mkL_length (L : List Int) : (mkL L).length = 5 := by simp [mkL]
theorem mkL_nil : (mkL []).map AV.bool = [AV.bool false, AV.bool false, AV.bool false, AV.bool false, AV.bool false] := rfl
theorem mkL_set {L : List Int} {c : Int} (h : 0 ≤ c ∧ c ≤ 4) : (mkL L).set c.toNat true = mkL (L ++ [c]) := by
  refine List.ext_getElem? fun i => ?_
  simp only [mkL, List.getElem?_set, List.length_map, List.length_range, List.getElem?_map]
  by_cases hi : i < 5
  · rw [List.getElem?_range hi]
    by_cases hc : c.toNat = i
    · rw [if_pos hc, if_pos (by omega)]
      have : (i : Int) = c := by omega
      simp [this]
    · rw [if_neg hc]
      have : ¬ (i : Int) = c := by omega
      simp [this]
  · rw [List.getElem?_eq_none (by simp; omega)]
    have hc : ¬ c.toNat = i := by omega
    rw [if_neg hc]; rfl
theorem mkL_getD {L : List Int} {k : Nat} (h : k < 5) : (mkL L).getD k false = decide ((k : Int) ∈ L) := by
  simp [mkL, List.getD, h]
def lbT (L : List Int) (k : Nat) : List Int := ((List.range k).map Int.ofNat).filter fun x => decide (x ∈ L)
abbrev lbS (L : List Int) : List Int := lbT L 5
theorem lbT_zero (L : List Int) : lbT L 0 = [] := rfl
theorem lbT_yes {L : List Int} {k : Nat} (h : (k : Int) ∈ L) : lbT L (k + 1) = lbT L k ++ [(k : Int)] := by
  simp [lbT, List.range_succ, h]
theorem lbT_no {L : List Int} {k : Nat} (h : (k : Int) ∉ L) : lbT L (k + 1) = lbT L k := by
  simp [lbT, List.range_succ, h]
theorem lbT_len (L : List Int) (k : Nat) : (lbT L k).length ≤ k := by
  unfold lbT
  exact Nat.le_trans (List.length_filter_le ..) (by simp)
theorem mem_lbT {L : List Int} {k : Nat} {x : Int} : x ∈ lbT L k ↔ (0 ≤ x ∧ x < k) ∧ x ∈ L := by
  simp only [lbT, List.mem_filter, List.mem_map, List.mem_range, decide_eq_true_eq]
  constructor
  · rintro ⟨⟨i, hi, rfl⟩, h⟩
    exact ⟨⟨by simp, by simp; omega⟩, h⟩
  · rintro ⟨⟨h0, h1⟩, h⟩
    exact ⟨⟨x.toNat, by omega, by simp; omega⟩, h⟩
theorem mem_lbS {L : List Int} {x : Int} : x ∈ lbS L ↔ (0 ≤ x ∧ x ≤ 4) ∧ x ∈ L := by
  rw [mem_lbT]; constructor <;> rintro ⟨⟨a, b⟩, c⟩ <;> exact ⟨⟨a, by omega⟩, c⟩
def good9 (xs : List Int) : Prop := (∀ x ∈ xs, 0 ≤ x ∧ x ≤ 60) ∧ xs.length ≤ 6
theorem good9_take {xs : List Int} (h : good9 xs) (j : Nat) : good9 (xs.take j) := ⟨fun x hx => h.1 x (List.mem_of_mem_take hx), by have := h.2; simp; omega⟩
theorem pr_bound9 {xs : List Int} (h : good9 xs) : 0 ≤ pr xs ∧ pr xs ≤ 46656000000 := by
  have h1 := pr_bound' xs h.1
  refine ⟨h1.1, Int.le_trans h1.2 ?_⟩
  have : (60 : Int) ^ xs.length ≤ 60 ^ 6 := by
    have := Nat.pow_le_pow_right (n := 60) (by omega) h.2
    exact_mod_cast this
  omega
def gE (e : List Int) (k : Int) : Int := e.getD k.toNat 0
def spE (e : List Int) : List Int := e.map fun x => if x < 0 then 1 else x
theorem spE_length (e : List Int) : (spE e).length = e.length := by simp [spE]
theorem spE_lbS {e U : List Int} (he : e.length = 5) (h1 : ∀ k : Nat, k < 5 → (k : Int) ∉ U → e.getD k 0 < 0) (h2 : ∀ k : Nat, k < 5 → (k : Int) ∈ U → 0 ≤ e.getD k 0) : pr (spE e) = pr ((lbS U).map (gE e)) := by
  match e, he with
  | [a, b, c, d, f], _ =>
    have a1 := h1 0 (by omega); have a2 := h2 0 (by omega)
    have b1 := h1 1 (by omega); have b2 := h2 1 (by omega)
    have c1 := h1 2 (by omega); have c2 := h2 2 (by omega)
    have d1 := h1 3 (by omega); have d2 := h2 3 (by omega)
    have f1 := h1 4 (by omega); have f2 := h2 4 (by omega)
    simp only [List.getD_eq_getElem?_getD, List.getElem?_cons_zero, List.getElem?_cons_succ, Option.getD_some] at a1 a2 b1 b2 c1 c2 d1 d2 f1 f2
    have e5 : lbS U = (if (0 : Int) ∈ U then [0] else []) ++ (if (1 : Int) ∈ U then [1] else []) ++ (if (2 : Int) ∈ U then [2] else []) ++ (if (3 : Int) ∈ U then [3] else []) ++ (if (4 : Int) ∈ U then [4] else []) := by
      have l0 : lbT U 1 = (if (0 : Int) ∈ U then [0] else []) := by by_cases h : (0 : Int) ∈ U <;> simp [lbT, h]
      have ls : ∀ k : Nat, lbT U (k + 1) = lbT U k ++ (if (k : Int) ∈ U then [(k : Int)] else []) := fun k => by
        by_cases h : (k : Int) ∈ U
        · rw [if_pos h, lbT_yes h]
        · rw [if_neg h, lbT_no h, List.append_nil]
      show lbT U (4 + 1) = _
      rw [ls 4, ls 3, ls 2, ls 1, l0]
      rfl
    rw [e5]
    have m : ∀ (p : Prop) [Decidable p] (k x : Int), (p → gE [a, b, c, d, f] k = x) → pr ((if p then [k] else []).map (gE [a, b, c, d, f])) = if p then x else 1 := fun p _ k x hx => by
      by_cases hp : p
      · rw [if_pos hp, if_pos hp]; simp [pr, hx hp]
      · rw [if_neg hp, if_neg hp]; rfl
    have ap : ∀ xs ys : List Int, pr (xs ++ ys) = pr xs * pr ys := fun xs ys => by rw [pr, List.foldl_append, foldl_mul]; rfl
    rw [List.map_append, List.map_append, List.map_append, List.map_append, ap, ap, ap, ap, m _ 0 a (fun _ => rfl), m _ 1 b (fun _ => rfl), m _ 2 c (fun _ => rfl), m _ 3 d (fun _ => rfl), m _ 4 f (fun _ => rfl)]
    have w : ∀ (p : Prop) [Decidable p] (x : Int), (¬ p → x < 0) → (p → 0 ≤ x) → (if x < 0 then 1 else x) = if p then x else 1 := fun p _ x g1 g2 => by
      by_cases hp : p
      · have := g2 hp; rw [if_pos hp, if_neg (by omega)]
      · have := g1 hp; rw [if_neg hp, if_pos this]
    simp only [spE, List.map_cons, List.map_nil, pr_cons, pr_nil]
    rw [w _ a a1 a2, w _ b b1 b2, w _ c c1 c2, w _ d d1 d2, w _ f f1 f2]
    simp only [Int.mul_one, Int.mul_assoc]
    rfl

theorem prs_succ {ts : List Tn} {ls : List (List Int)} {i : Nat} {t : Tn} {l : List Int} (ht : ts[i]? = some t) (hl : ls[i]? = some l) : prsOf (ts.take (i + 1)) (ls.take (i + 1)) = prsOf (ts.take i) (ls.take i) ++ l.zip t.1 := by
  have hi : i < ts.length := by rcases Nat.lt_or_ge i ts.length with h | h; exact h; rw [List.getElem?_eq_none h] at ht; cases ht
  have hi' : i < ls.length := by rcases Nat.lt_or_ge i ls.length with h | h; exact h; rw [List.getElem?_eq_none h] at hl; cases hl
  have e : (ls.take (i + 1)).zip (ts.take (i + 1)) = (ls.take i).zip (ts.take i) ++ [(l, t)] := by
    rw [List.take_add_one, List.take_add_one, ht, hl]
    simp only [Option.toList_some]
    rw [List.zip_append (by simp; omega)]
    rfl
  unfold prsOf
  rw [e, List.flatMap_append]
  simp
theorem zip_take_succ {l x : List Int} {j : Nat} (h1 : j < l.length) (h2 : j < x.length) : (l.zip x).take (j + 1) = (l.zip x).take j ++ [(l.getD j 0, x.getD j 0)] := by
  rw [List.take_add_one]
  congr 1
  have h3 : (l.zip x)[j]? = some (l.getD j 0, x.getD j 0) := by
    rw [List.getElem?_zip_eq_some]; simp [List.getD, h1, h2]
  rw [h3]; rfl
theorem extG_fail {a b : List (Int × Int)} {e e' : List Int} {p : Int × Int} (h : extG e a = some e') (hp : 0 ≤ e'.getD p.1.toNat 0 ∧ e'.getD p.1.toNat 0 ≠ p.2) : extG e (a ++ p :: b) = none := by
  rw [extG_append, h]
  simp only [Option.bind_some, extG]
  rw [if_pos hp]
theorem extG_step {a : List (Int × Int)} {e e' : List Int} {p : Int × Int} (h : extG e a = some e') (hp : ¬ (0 ≤ e'.getD p.1.toNat 0 ∧ e'.getD p.1.toNat 0 ≠ p.2)) : extG e (a ++ [p]) = some (e'.set p.1.toNat p.2) := by
  rw [extG_append, h]
  simp only [Option.bind_some, extG]
  rw [if_neg hp]
theorem zip_split {l x : List Int} {j : Nat} (h1 : j < l.length) (h2 : j < x.length) : l.zip x = (l.zip x).take j ++ (l.getD j 0, x.getD j 0) :: (l.zip x).drop (j + 1) := by
  have h3 : j < (l.zip x).length := by simp; omega
  have h4 : (l.zip x)[j] = (l.getD j 0, x.getD j 0) := by simp [List.getD, h1, h2]
  rw [← h4, List.getElem_cons_drop, List.take_append_drop]
theorem prs_split {ts : List Tn} {ls : List (List Int)} {i : Nat} {t : Tn} {l : List Int} (ht : ts[i]? = some t) (hl : ls[i]? = some l) : ∃ r, prsOf ts ls = prsOf (ts.take i) (ls.take i) ++ (l.zip t.1 ++ r) := by
  have hi : i < ts.length := by rcases Nat.lt_or_ge i ts.length with h | h; exact h; rw [List.getElem?_eq_none h] at ht; cases ht
  have hi' : i < ls.length := by rcases Nat.lt_or_ge i ls.length with h | h; exact h; rw [List.getElem?_eq_none h] at hl; cases hl
  refine ⟨prsOf (ts.drop (i + 1)) (ls.drop (i + 1)), ?_⟩
  rw [← List.append_assoc, ← prs_succ ht hl]
  unfold prsOf
  rw [← List.flatMap_append, ← List.zip_append (by simp; omega), List.take_append_drop, List.take_append_drop]
theorem exT_fail {ts : List Tn} {ls : List (List Int)} {i j : Nat} {t : Tn} {l e : List Int} (ht : ts[i]? = some t) (hl : ls[i]? = some l) (h1 : j < l.length) (h2 : j < t.1.length)
    (he : extG ext0 (prsOf (ts.take i) (ls.take i) ++ (l.zip t.1).take j) = some e) (hp : 0 ≤ e.getD (l.getD j 0).toNat 0 ∧ e.getD (l.getD j 0).toNat 0 ≠ t.1.getD j 0) : exT ts ls = none := by
  unfold exT
  split
  · obtain ⟨r, hr⟩ := prs_split ht hl
    rw [hr, zip_split h1 h2, List.append_assoc, List.cons_append, ← List.append_assoc]
    exact extG_fail he hp
  · rfl
theorem exT_lab {ts : List Tn} {ls : List (List Int)} {i : Nat} {t : Tn} {l : List Int} (ht : ts[i]? = some t) (hl : ls[i]? = some l) (h : (decide (l.length = t.1.length) && allI l 0 4) = false) : exT ts ls = none := by
  unfold exT
  rw [if_neg]
  intro hc
  have hm : (l, t) ∈ ls.zip ts := List.mem_of_getElem? (i := i) (by rw [List.getElem?_zip_eq_some]; exact ⟨hl, ht⟩)
  have := List.all_eq_true.1 hc _ hm
  rw [h] at this; cases this
theorem exT_done {ts : List Tn} {ls : List (List Int)} {e : List Int} (hlen : ls.length = ts.length) (hall : ∀ (i : Nat) (t : Tn) (l : List Int), ts[i]? = some t → ls[i]? = some l → l.length = t.1.length ∧ allI l 0 4 = true)
    (he : extG ext0 (prsOf (ts.take ts.length) (ls.take ts.length)) = some e) : exT ts ls = some e := by
  unfold exT
  rw [if_pos, ← he, List.take_length, ← hlen, List.take_length]
  refine List.all_eq_true.2 fun p hp => ?_
  obtain ⟨i, hi⟩ := List.mem_iff_getElem?.1 hp
  obtain ⟨a, b⟩ := List.getElem?_zip_eq_some.1 hi
  obtain ⟨c, d⟩ := hall i _ _ b a
  simp [c, d]
theorem ext0_length : ext0.length = 5 := rfl
theorem exT_facts {ts : List Tn} {ls : List (List Int)} {e : List Int} (hlen : ls.length = ts.length) (hsh : ∀ t ∈ ts, vSh t.1 = true) (h : exT ts ls = some e) :
    e.length = 5 ∧ (∀ k : Nat, k < 5 → (k : Int) ∉ ls.flatten → e.getD k 0 < 0) ∧ (∀ k : Nat, k < 5 → (k : Int) ∈ ls.flatten → 0 ≤ e.getD k 0 ∧ e.getD k 0 ≤ 60) ∧ (∀ k : Nat, k < 5 → -1 ≤ e.getD k 0) ∧
    (∀ x ∈ ls.flatten, 0 ≤ x ∧ x ≤ 4) ∧ ∀ (i : Nat) (t : Tn) (l : List Int), ts[i]? = some t → ls[i]? = some l → l.length = t.1.length ∧ ∀ j, j < l.length → gE e (l.getD j 0) = t.1.getD j 0 := by
  unfold exT at h
  split at h
  case isFalse => cases h
  rename_i hok
  have h5 := extG_len _ h
  have hlab : ∀ (i : Nat) (t : Tn) (l : List Int), ts[i]? = some t → ls[i]? = some l → l.length = t.1.length ∧ ∀ x ∈ l, 0 ≤ x ∧ x ≤ 4 := fun i t l ht hl => by
    have hm : (l, t) ∈ ls.zip ts := List.mem_of_getElem? (i := i) (by rw [List.getElem?_zip_eq_some]; exact ⟨hl, ht⟩)
    have := List.all_eq_true.1 hok _ hm
    rw [Bool.and_eq_true, decide_eq_true_eq, allI_iff] at this
    exact this
  have hpm : ∀ p, p ∈ prsOf ts ls ↔ ∃ (i : Nat) (t : Tn) (l : List Int) (j : Nat), ts[i]? = some t ∧ ls[i]? = some l ∧ j < l.length ∧ p = (l.getD j 0, t.1.getD j 0) := fun p => by
    unfold prsOf
    rw [List.mem_flatMap]
    constructor
    · rintro ⟨⟨l, t⟩, hm, hp⟩
      obtain ⟨i, hi⟩ := List.mem_iff_getElem?.1 hm
      obtain ⟨a, b⟩ := List.getElem?_zip_eq_some.1 hi
      obtain ⟨j, hj⟩ := List.mem_iff_getElem?.1 hp
      obtain ⟨c, d⟩ := List.getElem?_zip_eq_some.1 hj
      have hjl : j < l.length := (List.getElem?_eq_some_iff.1 c).1
      refine ⟨i, t, l, j, b, a, hjl, ?_⟩
      have c' : l[j]? = some p.1 := c
      have d' : t.1[j]? = some p.2 := d
      simp [List.getD_eq_getElem?_getD, c', d']
    · rintro ⟨i, t, l, j, ht, hl, hj, rfl⟩
      have hll := (hlab i t l ht hl).1
      refine ⟨(l, t), List.mem_of_getElem? (i := i) (by rw [List.getElem?_zip_eq_some]; exact ⟨hl, ht⟩), ?_⟩
      refine List.mem_of_getElem? (i := j) ?_
      rw [List.getElem?_zip_eq_some]
      constructor
      · simp [List.getD, hj]
      · simp [List.getD, show j < t.1.length by omega]
  have hshp : ∀ t ∈ ts, ∀ j, j < t.1.length → 0 ≤ t.1.getD j 0 ∧ t.1.getD j 0 ≤ 60 := fun t ht j hj => (vSh_good (hsh t ht)).1.1 _ (getD_mem hj)
  have hb : ∀ p ∈ prsOf ts ls, (0 ≤ p.1 ∧ p.1 < ext0.length ∧ 0 ≤ p.2) := fun p hp => by
    obtain ⟨i, t, l, j, ht, hl, hj, rfl⟩ := (hpm p).1 hp
    obtain ⟨a, b⟩ := hlab i t l ht hl
    have := b _ (getD_mem hj)
    have h2 := hshp t (List.mem_of_getElem? ht) j (by omega)
    exact ⟨this.1, by rw [ext0_length]; omega, h2.1⟩
  have hs := fun k hk => extG_spec (prsOf ts ls) (e := ext0) (e' := e) k hk hb h
  have h0 : ∀ k : Nat, k < 5 → ext0.getD k 0 = -1 := fun k hk => by
    have : k = 0 ∨ k = 1 ∨ k = 2 ∨ k = 3 ∨ k = 4 := by omega
    rcases this with rfl | rfl | rfl | rfl | rfl <;> rfl
  have hmf : ∀ x, x ∈ ls.flatten ↔ ∃ p ∈ prsOf ts ls, p.1 = x := fun x => by
    rw [List.mem_flatten]
    constructor
    · rintro ⟨l, hl, hx⟩
      obtain ⟨i, hi⟩ := List.mem_iff_getElem?.1 hl
      obtain ⟨j, hj, e⟩ := mem_getD.1 hx
      have hil : i < ls.length := (List.getElem?_eq_some_iff.1 hi).1
      have ht : ts[i]? = some (ts[i]'(by omega)) := List.getElem?_eq_getElem _
      exact ⟨_, (hpm _).2 ⟨i, _, l, j, ht, hi, hj, rfl⟩, e⟩
    · rintro ⟨p, hp, rfl⟩
      obtain ⟨i, t, l, j, ht, hl, hj, rfl⟩ := (hpm p).1 hp
      exact ⟨l, List.mem_of_getElem? hl, getD_mem hj⟩
  have hneg : ∀ k : Nat, k < 5 → (k : Int) ∉ ls.flatten → e.getD k 0 = -1 := fun k hk hn => by
    rw [(hs k hk).2.1 fun p hp he => hn ((hmf k).2 ⟨p, hp, he⟩), h0 k hk]
  have hpos : ∀ k : Nat, k < 5 → (k : Int) ∈ ls.flatten → 0 ≤ e.getD k 0 ∧ e.getD k 0 ≤ 60 := fun k hk hm => by
    obtain ⟨p, hp, he⟩ := (hmf k).1 hm
    rw [(hs k hk).1 p hp he]
    obtain ⟨i, t, l, j, ht, hl, hj, rfl⟩ := (hpm p).1 hp
    exact hshp t (List.mem_of_getElem? ht) j (by rw [← (hlab i t l ht hl).1]; exact hj)
  refine ⟨h5, fun k hk hn => by rw [hneg k hk hn]; omega, hpos, fun k hk => ?_, fun x hx => ?_, fun i t l ht hl => ⟨(hlab i t l ht hl).1, fun j hj => ?_⟩⟩
  · by_cases hm : (k : Int) ∈ ls.flatten
    · have := hpos k hk hm; omega
    · rw [hneg k hk hm]; omega
  · obtain ⟨l, hl, hxl⟩ := List.mem_flatten.1 hx
    obtain ⟨i, hi⟩ := List.mem_iff_getElem?.1 hl
    have hil : i < ls.length := (List.getElem?_eq_some_iff.1 hi).1
    exact (hlab i _ l (List.getElem?_eq_getElem (by omega)) hi).2 x hxl
  · have hr := (hlab i t l ht hl).2 _ (getD_mem hj)
    have hp := (hpm (l.getD j 0, t.1.getD j 0)).2 ⟨i, t, l, j, ht, hl, hj, rfl⟩
    exact (hs (l.getD j 0).toNat (by rw [ext0_length]; omega)).1 _ hp (by simp only; omega)
end VwM
set_option linter.unusedSectionVars false
set_option linter.unusedVariables false
set_option linter.unusedSimpArgs false
namespace VwM
open Go Vw

def besT {α : Type} (l : List α) (i j : Nat) : Nat → List α
  | 0 => []
  | k + 1 => besT l i j k ++ (if k ≠ i ∧ k ≠ j then (l[k]?).toList else [])
abbrev besL {α : Type} (l : List α) (i j : Nat) : List α := besT l i j l.length
theorem besT_yes {α : Type} {l : List α} {i j k : Nat} {x : α} (h : l[k]? = some x) (h1 : k ≠ i) (h2 : k ≠ j) : besT l i j (k + 1) = besT l i j k ++ [x] := by
  simp [besT, h, h1, h2]
theorem besT_no {α : Type} {l : List α} {i j k : Nat} (h : k = i ∨ k = j) : besT l i j (k + 1) = besT l i j k := by
  simp only [besT]; rw [if_neg (by omega), List.append_nil]
theorem besT_len {α : Type} (l : List α) (i j : Nat) : ∀ k, (besT l i j k).length ≤ k
  | 0 => Nat.le_refl _
  | k + 1 => by
    have := besT_len l i j k
    simp only [besT, List.length_append]
    split
    · have : (l[k]?).toList.length ≤ 1 := by cases l[k]? <;> simp
      omega
    · simp; omega
theorem mem_besT {α : Type} {l : List α} {i j : Nat} {x : α} : ∀ {k : Nat}, x ∈ besT l i j k ↔ ∃ m, m < k ∧ m ≠ i ∧ m ≠ j ∧ l[m]? = some x
  | 0 => by simp [besT]
  | k + 1 => by
    simp only [besT, List.mem_append, mem_besT (k := k)]
    constructor
    · rintro (⟨m, h1, h2⟩ | h)
      · exact ⟨m, by omega, h2⟩
      · split at h
        · rename_i hc
          refine ⟨k, by omega, hc.1, hc.2, ?_⟩
          cases hk : l[k]? with
          | none => rw [hk] at h; simp at h
          | some y => rw [hk] at h; simp at h; rw [h]
        · simp at h
    · rintro ⟨m, h1, h2, h3, h4⟩
      by_cases e : m = k
      · subst e; right; rw [if_pos ⟨h2, h3⟩, h4]; simp
      · left; exact ⟨m, by omega, h2, h3, h4⟩
theorem besT_sub {α : Type} {l : List α} {i j k : Nat} {x : α} (h : x ∈ besT l i j k) : x ∈ l := by
  obtain ⟨m, _, _, _, h⟩ := mem_besT.1 h
  exact List.mem_of_getElem? h
def keT (ls : List (List Int)) (out : List Int) (a b : List Int) (i j : Nat) (k : Nat) : List Int := ((List.range k).map Int.ofNat).filter fun x => (decide (x ∈ a) || decide (x ∈ b)) && (decide (x ∈ out) || decide (x ∈ (besL ls i j).flatten))
abbrev keL (ls : List (List Int)) (out : List Int) (a b : List Int) (i j : Nat) : List Int := keT ls out a b i j 5
theorem keT_step (ls : List (List Int)) (out a b : List Int) (i j k : Nat) : keT ls out a b i j (k + 1) = keT ls out a b i j k ++ (if ((decide ((k : Int) ∈ a) || decide ((k : Int) ∈ b)) && (decide ((k : Int) ∈ out) || decide ((k : Int) ∈ (besL ls i j).flatten))) = true then [(k : Int)] else []) := by
  unfold keT
  rw [List.range_succ, List.map_append, List.filter_append]
  congr 1
  simp only [List.map_cons, List.map_nil, List.filter_cons, List.filter_nil]
  rfl
theorem keT_len (ls : List (List Int)) (out a b : List Int) (i j k : Nat) : (keT ls out a b i j k).length ≤ k := by
  unfold keT
  exact Nat.le_trans (List.length_filter_le ..) (by simp)
theorem mem_keL {ls : List (List Int)} {out a b : List Int} {i j : Nat} {x : Int} : x ∈ keL ls out a b i j ↔ (0 ≤ x ∧ x ≤ 4) ∧ (x ∈ a ∨ x ∈ b) ∧ (x ∈ out ∨ x ∈ (besL ls i j).flatten) := by
  simp only [keT, List.mem_filter, List.mem_map, List.mem_range, Bool.and_eq_true, Bool.or_eq_true, decide_eq_true_eq]
  constructor
  · rintro ⟨⟨n, hn, rfl⟩, h⟩; exact ⟨⟨by simp, by simp; omega⟩, h⟩
  · rintro ⟨⟨h0, h1⟩, h⟩; exact ⟨⟨x.toNat, by omega, by simp; omega⟩, h⟩
def wiL (xs ys : List Int) : List Int := xs.filter fun x => !decide (x ∈ ys)
theorem wiL_in {xs ys : List Int} {k : Nat} (h : k < xs.length) (hm : xs.getD k 0 ∈ ys) : wiL (xs.take (k + 1)) ys = wiL (xs.take k) ys := by
  rw [take_succ_getD xs k h]; unfold wiL; rw [List.filter_append]; simp [hm, -List.getD_eq_getElem?_getD]
theorem wiL_out {xs ys : List Int} {k : Nat} (h : k < xs.length) (hm : xs.getD k 0 ∉ ys) : wiL (xs.take (k + 1)) ys = wiL (xs.take k) ys ++ [xs.getD k 0] := by
  rw [take_succ_getD xs k h]; unfold wiL; rw [List.filter_append]; simp [hm, -List.getD_eq_getElem?_getD]
theorem wiL_len (xs ys : List Int) : (wiL xs ys).length ≤ xs.length := List.length_filter_le ..
theorem kept_eq (ls : List (List Int)) (out a b : List Int) (i j : Nat) : wiL (lbS ([a, b] : List (List Int)).flatten) (wiL (lbS ([a, b] : List (List Int)).flatten) (besL ls i j ++ [out]).flatten) = keL ls out a b i j := by
  unfold wiL lbS lbT keL keT
  rw [List.filter_filter, List.filter_filter]
  refine List.filter_congr fun x hx => ?_
  have hm : x ∈ ([a, b] : List (List Int)).flatten ↔ x ∈ a ∨ x ∈ b := by simp
  have hm2 : x ∈ (besL ls i j ++ [out]).flatten ↔ x ∈ out ∨ x ∈ (besL ls i j).flatten := by
    rw [List.flatten_append, List.mem_append]; simp [or_comm]
  simp only [List.mem_filter, hm, hm2, hx, true_and, Bool.and_eq_true, Bool.not_eq_true', decide_eq_false_iff_not, decide_eq_true_eq]
  rw [Bool.eq_iff_iff]
  simp only [Bool.and_eq_true, Bool.not_eq_true', decide_eq_false_iff_not, decide_eq_true_eq, Bool.or_eq_true]
  constructor
  · rintro ⟨h1, h2⟩
    exact ⟨h2, Classical.byContradiction fun h => h1 ⟨h, h2⟩⟩
  · rintro ⟨h1, h2⟩
    exact ⟨fun h => h.1 h2, h1⟩
def selT (e U : List Int) (k : Nat) : List Int := (List.range k).map fun n : Nat => if (n : Int) ∈ U then e.getD n 0 else -1
abbrev selE (e U : List Int) : List Int := selT e U 5
theorem selT_step (e U : List Int) (k : Nat) : selT e U (k + 1) = selT e U k ++ [if (k : Int) ∈ U then e.getD k 0 else -1] := by
  simp [selT, List.range_succ]
theorem selT_len (e U : List Int) (k : Nat) : (selT e U k).length = k := by simp [selT]
theorem selE_cost {e U : List Int} (h : ∀ k : Nat, k < 5 → (k : Int) ∈ U → 0 ≤ e.getD k 0) : pr (spE (selE e U)) = pr ((lbS U).map (gE e)) := by
  have hg : ∀ k : Nat, k < 5 → (selE e U).getD k 0 = if (k : Int) ∈ U then e.getD k 0 else -1 := fun k hk => by
    simp [selT, List.getD, hk]
  rw [spE_lbS (U := U) (by rw [selT_len]) (fun k hk hn => by rw [hg k hk, if_neg hn]; omega) (fun k hk hm => by rw [hg k hk, if_pos hm]; exact h k hk hm)]
  congr 1
  refine List.map_congr_left fun x hx => ?_
  obtain ⟨⟨h0, h1⟩, h2⟩ := mem_lbS.1 hx
  unfold gE
  rw [hg x.toNat (by omega), if_pos (by rw [Int.toNat_of_nonneg h0]; exact h2)]
theorem selE_congr {e U V : List Int} (h : ∀ x : Int, 0 ≤ x → x ≤ 4 → (x ∈ U ↔ x ∈ V)) : selE e U = selE e V := by
  unfold selE selT
  refine List.map_congr_left fun n hn => ?_
  have := List.mem_range.1 hn
  have := h n (by omega) (by omega)
  simp only [this]
theorem selE_le {e U : List Int} (h : ∀ k : Nat, k < 5 → (k : Int) ∈ U → e.getD k 0 ≤ 60) : ∀ x ∈ selE e U, x ≤ 60 := fun x hx => by
  obtain ⟨n, hn, rfl⟩ := List.mem_map.1 hx
  have := List.mem_range.1 hn
  split
  · rename_i hm; exact h n this hm
  · omega
def cbE (e : List Int) (ls : List (List Int)) (out a b : List Int) (i j : Nat) : Int := pr (spE (selE e (a ++ b))) + pr (spE (selE e ((besL ls i j).flatten ++ keL ls out a b i j)))
def cbN (e : List Int) (ls : List (List Int)) (out : List Int) (i j : Nat) : Int := cbE e ls out (ls.getD i []) (ls.getD j []) i j
theorem LL_snoc (b : Bool) (ls : List (List Int)) (l : List Int) : LL b ls ++ [.rows b (IL l) l.length] = LL b (ls ++ [l]) := by rw [LL_append]; rfl
theorem flatLen_le {n : Nat} : ∀ {ls : List (List Int)}, (∀ l ∈ ls, l.length ≤ n) → ls.flatten.length ≤ ls.length * n
  | [], _ => by simp
  | l :: r, h => by
    have h1 := h l (by simp)
    have h2 := flatLen_le (ls := r) fun x hx => h x (by simp [hx])
    rw [List.flatten_cons, List.length_append, List.length_cons, Nat.succ_mul]
    omega
end VwM
set_option linter.unusedSectionVars false
set_option linter.unusedVariables false
set_option linter.unusedSimpArgs false
namespace VwM
open Go Vw

theorem zcells_pair2 (a b : AV) : zcells [a, b] 2 = [a, b, a, b] := by simp [zcells, List.range_succ, List.getD]
theorem zcells_pair3 (a b : AV) : zcells [a, b] 3 = [a, b, a, b, a, b] := by simp [zcells, List.range_succ, List.getD]
attribute [push_cast] zcells_pair2 zcells_pair3
theorem besT_comm {α : Type} (l : List α) (i j : Nat) : ∀ k, besT l i j k = besT l j i k
  | 0 => rfl
  | k + 1 => by
    simp only [besT, besT_comm l i j k]
    congr 1
    by_cases h1 : k = i <;> by_cases h2 : k = j <;> simp [h1, h2]
theorem keT_comm (ls : List (List Int)) (out a b : List Int) (i j k : Nat) : keT ls out a b i j k = keT ls out b a j i k := by
  unfold keT
  refine List.filter_congr fun x _ => ?_
  rw [show besL ls i j = besL ls j i from besT_comm ls i j _, Bool.or_comm (decide (x ∈ a))]
theorem cbE_comm (e : List Int) (ls : List (List Int)) (out a b : List Int) (i j : Nat) : cbE e ls out a b i j = cbE e ls out b a j i := by
  unfold cbE
  rw [show besL ls i j = besL ls j i from besT_comm ls i j _, show keL ls out a b i j = keL ls out b a j i from keT_comm ls out a b i j 5, selE_congr (U := a ++ b) (V := b ++ a) fun x _ _ => by simp [or_comm]]
theorem extG_ok {f : Nat → Int} : ∀ (a : List (Int × Int)) {e : List Int}, (∀ p ∈ a, p.1.toNat < e.length ∧ f p.1.toNat = p.2) → (∀ k : Nat, k < e.length → 0 ≤ e.getD k 0 → e.getD k 0 = f k) → ∃ e', extG e a = some e'
  | [], e, _, _ => ⟨e, rfl⟩
  | p :: r, e, hp, he => by
    have h1 := hp p (by simp)
    simp only [extG]
    rw [if_neg (fun hc => hc.2 ((he _ h1.1 hc.1).trans h1.2))]
    refine extG_ok r (fun q hq => by rw [List.length_set]; exact hp q (by simp [hq])) fun k hk h0 => ?_
    rw [List.length_set] at hk
    have hg : (e.set p.1.toNat p.2).getD k 0 = if p.1.toNat = k then p.2 else e.getD k 0 := by
      simp only [List.getD_eq_getElem?_getD, List.getElem?_set]
      by_cases hpk : p.1.toNat = k
      · subst hpk; rw [if_pos rfl, if_pos rfl, if_pos h1.1]; rfl
      · rw [if_neg hpk, if_neg hpk]
    rw [hg] at h0 ⊢
    by_cases hpk : p.1.toNat = k
    · rw [if_pos hpk]; subst hpk; exact h1.2.symm
    · rw [if_neg hpk] at h0 ⊢; exact he k hk h0
theorem mem_prs {ts : List Tn} {ls : List (List Int)} {p : Int × Int} (h : p ∈ prsOf ts ls) : ∃ (i : Nat) (t : Tn) (l : List Int) (j : Nat), ts[i]? = some t ∧ ls[i]? = some l ∧ j < l.length ∧ j < t.1.length ∧ p = (l.getD j 0, t.1.getD j 0) := by
  unfold prsOf at h
  rw [List.mem_flatMap] at h
  obtain ⟨⟨l, t⟩, hm, hp⟩ := h
  obtain ⟨i, hi⟩ := List.mem_iff_getElem?.1 hm
  obtain ⟨a, b⟩ := List.getElem?_zip_eq_some.1 hi
  obtain ⟨j, hj⟩ := List.mem_iff_getElem?.1 hp
  obtain ⟨c, d⟩ := List.getElem?_zip_eq_some.1 hj
  refine ⟨i, t, l, j, b, a, (List.getElem?_eq_some_iff.1 c).1, (List.getElem?_eq_some_iff.1 d).1, ?_⟩
  have c' : l[j]? = some p.1 := c
  have d' : t.1[j]? = some p.2 := d
  simp [List.getD_eq_getElem?_getD, c', d']
end VwM
