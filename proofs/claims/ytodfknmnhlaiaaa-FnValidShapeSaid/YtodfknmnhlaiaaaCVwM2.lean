/- The mathematics of ranges that meet. -/
import Derived.Test.YtodfknmnhlaiaaaCVwM
set_option linter.unusedVariables false
set_option linter.unusedSimpArgs false
set_option linter.unnecessarySimpa false
set_option maxRecDepth 4000
namespace VwM
open Vw
open Go

/-- The first place of a number in a list, -1 if there is none. -/
def placeI (xs : List Int) (x : Int) : Int := if x ∈ xs then (xs.idxOf x : Int) else -1
theorem mem_getD {xs : List Int} {x : Int} : x ∈ xs ↔ ∃ j, j < xs.length ∧ xs.getD j 0 = x := by
  constructor
  · intro h
    obtain ⟨i, hi, e⟩ := List.getElem_of_mem h
    exact ⟨i, hi, by simp [List.getD, hi, e]⟩
  · rintro ⟨j, hj, rfl⟩
    simp [List.getD, hj]
theorem getD_mem {xs : List Int} {j : Nat} (h : j < xs.length) : xs.getD j 0 ∈ xs := mem_getD.2 ⟨j, h, rfl⟩
theorem placeI_none {xs : List Int} {x : Int} (h : ∀ j, j < xs.length → xs.getD j 0 ≠ x) : placeI xs x = -1 := by
  unfold placeI
  rw [if_neg]
  intro hm
  obtain ⟨j, hj, e⟩ := mem_getD.1 hm
  exact h j hj e
theorem placeI_some {xs : List Int} {x : Int} {j : Nat} (hj : j < xs.length) (h : xs.getD j 0 = x) (hno : ∀ i, i < j → xs.getD i 0 ≠ x) : placeI xs x = j := by
  unfold placeI
  rw [if_pos (mem_getD.2 ⟨j, hj, h⟩)]
  congr 1
  induction xs generalizing j with
  | nil => simp at hj
  | cons y r ih =>
    rw [List.idxOf_cons]
    cases j with
    | zero => simp at h; simp [h]
    | succ j =>
      have h0 := hno 0 (by omega)
      have hy : ¬ y = x := by simpa using h0
      simp only [beq_iff_eq, hy, cond_false, Bool.cond_eq_ite, if_false]
      have := ih (j := j) (by simpa using hj) (by simpa using h) (fun i hi => by simpa using hno (i + 1) (by omega))
      omega
theorem placeI_neg {xs : List Int} {x : Int} : placeI xs x < 0 ↔ x ∉ xs := by
  unfold placeI
  by_cases h : x ∈ xs
  · simp [h]
  · simp [h]
theorem placeI_lt {xs : List Int} {x : Int} : placeI xs x < xs.length ∧ -1 ≤ placeI xs x := by
  unfold placeI
  by_cases h : x ∈ xs
  · have := List.idxOf_lt_length_of_mem h
    simp [h]; omega
  · simp [h]; omega
/-- The range in normal form with the numbers of a list. -/
def nrmA (xs : List Int) : AV :=
  if xs.length = 0 then rng 0 0 1 else if xs.length = 1 then rng (xs.getD 0 0) (xs.getD 0 0 + 1) 1 else
    rng (xs.getD 0 0) (if xs.getD 1 0 - xs.getD 0 0 < 0 then xs.getD (xs.length - 1) 0 - 1 else xs.getD (xs.length - 1) 0 + 1) (xs.getD 1 0 - xs.getD 0 0)
theorem nrmA_rng (xs : List Int) : ∃ x y z, nrmA xs = rng x y z := by
  unfold nrmA; split
  · exact ⟨_, _, _, rfl⟩
  · split <;> exact ⟨_, _, _, rfl⟩
theorem nrmA_nums (a c : Int) (n : Nat) : nrmA (nums a c n) = PR a c n := by
  unfold nrmA
  rw [nums_length]
  by_cases h0 : n = 0
  · subst h0; simp [pS, pE, pC]
  rw [if_neg h0]
  have g0 : (nums a c n).getD 0 0 = a := by rw [nums_getD a c n 0 (by omega)]; simp
  by_cases h1 : n = 1
  · subst h1; rw [if_pos rfl, g0]; simp [pS, pE, pC]
  rw [if_neg h1]
  have g1 : (nums a c n).getD 1 0 = a + c := by rw [nums_getD a c n 1 (by omega)]; simp
  have gl : (nums a c n).getD (n - 1) 0 = a + ((n : Int) - 1) * c := by
    rw [nums_getD a c n _ (by omega), show ((n - 1 : Nat) : Int) = (n : Int) - 1 by omega]
  rw [g0, g1, gl, show a + c - a = c by omega]
  have p1 : ¬ (n : Int) < 1 := by omega
  have p2 : ¬ (n : Int) ≤ 1 := by omega
  have p3 : ¬ (n : Int) = 1 := by omega
  simp only [PR, pS, pE, pC, if_neg p1, if_neg p2, if_neg p3]
theorem nums_reverse (a c : Int) (n : Nat) : (nums a c n).reverse = nums (a + ((n : Int) - 1) * c) (0 - c) n := by
  refine list_eq_of (by simp) fun j hj => ?_
  simp only [List.length_reverse, nums_length] at hj
  rw [nums_getD _ _ _ _ hj]
  have : (nums a c n).reverse.getD j 0 = (nums a c n).getD (n - 1 - j) 0 := by
    rw [List.getD, List.getD, List.getElem?_reverse (by simpa using hj), nums_length]
  rw [this, nums_getD _ _ _ _ (by omega), show ((n - 1 - j : Nat) : Int) = (n : Int) - 1 - j by omega, Int.sub_mul, Int.mul_sub, Int.mul_zero]
  omega
/-- Numbers from the least to the greatest, as the model does it. -/
def ascL (xs : List Int) : List Int := if 1 < xs.length ∧ xs.getD 0 0 > xs.getD 1 0 then xs.reverse else xs
theorem ascL_length (xs : List Int) : (ascL xs).length = xs.length := by unfold ascL; split <;> simp
def aS (a c : Int) (n : Nat) : Int := if c < 0 then a + ((n : Int) - 1) * c else a
def aC (c : Int) : Int := if c < 0 then 0 - c else c
theorem ascL_nums (a c : Int) (n : Nat) (h0 : c ≠ 0) : ascL (nums a c n) = nums (aS a c n) (aC c) n := by
  unfold ascL aS aC
  rw [nums_length]
  match n with
  | 0 => simp [nums]
  | 1 => split <;> split <;> simp [nums]
  | n + 2 =>
    have g0 : (nums a c (n + 2)).getD 0 0 = a := by rw [nums_getD _ _ _ 0 (by omega)]; simp
    have g1 : (nums a c (n + 2)).getD 1 0 = a + c := by rw [nums_getD _ _ _ 1 (by omega)]; simp
    rw [g0, g1]
    by_cases hc : c < 0
    · rw [if_pos ⟨by omega, by omega⟩, if_pos hc, if_pos hc, nums_reverse]
    · rw [if_neg (fun h => by omega), if_neg hc, if_neg hc]
theorem aC_pos {c : Int} (h : c ≠ 0) : 1 ≤ aC c := by unfold aC; split <;> omega
theorem mem_nums {a c x : Int} {n : Nat} : x ∈ nums a c n ↔ ∃ i : Nat, i < n ∧ a + (i : Int) * c = x := by
  simp [nums]
theorem mem_nums_iff {a c x : Int} {n : Nat} (hc : 1 ≤ c) : x ∈ nums a c n ↔ a ≤ x ∧ x < a + ((n : Int) - 1) * c + 1 ∧ c ∣ x - a := by
  rw [mem_nums]
  constructor
  · rintro ⟨i, hi, rfl⟩
    have h1 : 0 ≤ (i : Int) * c := Int.mul_nonneg (by omega) (by omega)
    have h2 : (i : Int) * c ≤ ((n : Int) - 1) * c := Int.mul_le_mul_of_nonneg_right (by omega) (by omega)
    exact ⟨by omega, by omega, ⟨i, by rw [Int.mul_comm c]; omega⟩⟩
  · rintro ⟨h1, h2, k, hk⟩
    have h3 : 0 ≤ k := by
      rcases Int.lt_or_le k 0 with h | h
      · have : c * k < 0 := Int.mul_neg_of_pos_of_neg (by omega) h
        omega
      · exact h
    have h4 : k < n := by
      rcases Int.lt_or_le k n with h | h
      · exact h
      · have : (n : Int) * c ≤ k * c := Int.mul_le_mul_of_nonneg_right h (by omega)
        rw [Int.mul_comm c] at hk
        rw [Int.sub_mul] at h2
        omega
    refine ⟨k.toNat, by omega, ?_⟩
    rw [show ((k.toNat : Nat) : Int) = k by omega, Int.mul_comm]
    omega
theorem sorted_ext : ∀ {l1 l2 : List Int}, l1.Pairwise (· < ·) → l2.Pairwise (· < ·) → (∀ x, x ∈ l1 ↔ x ∈ l2) → l1 = l2
  | [], [], _, _, _ => rfl
  | [], y :: r, _, _, h => by have := (h y).2 (by simp); simp at this
  | x :: l, [], _, _, h => by have := (h x).1 (by simp); simp at this
  | x :: l, y :: r, h1, h2, h => by
    rw [List.pairwise_cons] at h1 h2
    have hxy : x = y := by
      have a := (h x).1 (by simp)
      have b := (h y).2 (by simp)
      rcases List.mem_cons.1 a with a | a
      · exact a
      · rcases List.mem_cons.1 b with b | b
        · exact b.symm
        · have := h2.1 x a; have := h1.1 y b; omega
    subst hxy
    congr 1
    refine sorted_ext h1.2 h2.2 fun z => ?_
    constructor
    · intro hz
      have := (h z).1 (by simp [hz])
      rcases List.mem_cons.1 this with e | e
      · have := h1.1 z hz; omega
      · exact e
    · intro hz
      have := (h z).2 (by simp [hz])
      rcases List.mem_cons.1 this with e | e
      · have := h2.1 z hz; omega
      · exact e
theorem nums_sorted {a c : Int} (hc : 1 ≤ c) (n : Nat) : (nums a c n).Pairwise (· < ·) := by
  unfold nums
  rw [List.pairwise_map]
  refine List.Pairwise.imp ?_ List.pairwise_lt_range
  intro i j hij
  have : (i : Int) * c < (j : Int) * c := Int.mul_lt_mul_of_pos_right (by omega) (by omega)
  omega
/-- The numbers of a list that are in another one. -/
def commL (xs ys : List Int) : List Int := xs.filter fun x => decide (x ∈ ys)
theorem mem_commL {xs ys : List Int} {x : Int} : x ∈ commL xs ys ↔ x ∈ xs ∧ x ∈ ys := by simp [commL]
theorem commL_congr {xs ys zs : List Int} (h : ∀ x, x ∈ ys ↔ x ∈ zs) : commL xs ys = commL xs zs := by simp [commL, h]
/-- Two ascending progressions meet in a progression. -/
theorem meet_at {s c s' c' : Int} {n n' i : Nat} (hc : 1 ≤ c) (hc' : 1 ≤ c') (hi : i < n) (hin : s + (i : Int) * c ∈ nums s' c' n') (hno : ∀ j : Nat, j < i → s + (j : Int) * c ∉ nums s' c' n') :
    commL (nums s c n) (nums s' c' n') = nums (s + (i : Int) * c) (Int.lcm c c') ((min (s + ((n : Int) - 1) * c + 1) (s' + ((n' : Int) - 1) * c' + 1) - 1 - (s + (i : Int) * c)) / (Int.lcm c c' : Int) + 1).toNat := by
  have hl : 1 ≤ (Int.lcm c c' : Int) := by
    have := Int.lcm_pos (m := c) (n := c') (by omega) (by omega)
    omega
  generalize hf : s + (i : Int) * c = f at *
  have hfm : f ∈ nums s c n := mem_nums.2 ⟨i, hi, hf⟩
  obtain ⟨a1, a2, a3⟩ := (mem_nums_iff hc).1 hfm
  obtain ⟨b1, b2, b3⟩ := (mem_nums_iff hc').1 hin
  generalize hE : s + ((n : Int) - 1) * c + 1 = e at *
  generalize hE' : s' + ((n' : Int) - 1) * c' + 1 = e' at *
  have hdl : c ∣ (Int.lcm c c' : Int) := Int.dvd_lcm_left ..
  have hdr : c' ∣ (Int.lcm c c' : Int) := Int.dvd_lcm_right ..
  have hmin := fun x (h1 : c ∣ x) (h2 : c' ∣ x) => Int.coe_lcm_dvd h1 h2
  generalize hL : (Int.lcm c c' : Int) = l at *
  have hw : 0 ≤ min e e' - 1 - f := by omega
  have hq : 0 ≤ (min e e' - 1 - f) / l := Int.ediv_nonneg hw (by omega)
  refine sorted_ext ?_ (nums_sorted hl _) fun x => ?_
  · exact (nums_sorted hc n).filter _
  rw [mem_commL, mem_nums_iff hc, mem_nums_iff hc', mem_nums_iff hl, hE, hE', show ((((min e e' - 1 - f) / l + 1).toNat : Nat) : Int) - 1 = (min e e' - 1 - f) / l by omega]
  have hdm := Int.mul_ediv_add_emod (min e e' - 1 - f) l
  have hm0 := Int.emod_nonneg (min e e' - 1 - f) (b := l) (by omega)
  have hm1 := Int.emod_lt_of_pos (min e e' - 1 - f) (b := l) (by omega)
  rw [Int.mul_comm l] at hdm
  constructor
  · rintro ⟨⟨x1, x2, x3⟩, y1, y2, y3⟩
    have hd : l ∣ x - f := by
      refine hmin _ ?_ ?_
      · rw [show x - f = (x - s) - (f - s) by omega]; exact Int.dvd_sub x3 a3
      · rw [show x - f = (x - s') - (f - s') by omega]; exact Int.dvd_sub y3 b3
    have hge : f ≤ x := by
      rcases Int.lt_or_le x f with h | h
      · exfalso
        obtain ⟨j, hj, ej⟩ := mem_nums.1 ((mem_nums_iff (n := n) hc).2 ⟨x1, by omega, x3⟩)
        refine hno j ?_ ?_
        · rcases Nat.lt_or_ge j i with h' | h'
          · exact h'
          · have : (i : Int) * c ≤ (j : Int) * c := Int.mul_le_mul_of_nonneg_right (by omega) (by omega)
            omega
        · rw [ej]; exact (mem_nums_iff hc').2 ⟨y1, by omega, y3⟩
      · exact h
    refine ⟨hge, ?_, hd⟩
    obtain ⟨k, hk⟩ := hd
    have : k ≤ (min e e' - 1 - f) / l := by
      rw [Int.le_ediv_iff_mul_le (by omega), Int.mul_comm]
      omega
    have := Int.mul_le_mul_of_nonneg_right this (c := l) (by omega)
    rw [Int.mul_comm l] at hk
    omega
  · rintro ⟨x1, x2, x3⟩
    have d1 : c ∣ x - s := by
      rw [show x - s = (x - f) + (f - s) by omega]
      exact Int.dvd_add (Int.dvd_trans hdl x3) a3
    have d2 : c' ∣ x - s' := by
      rw [show x - s' = (x - f) + (f - s') by omega]
      exact Int.dvd_add (Int.dvd_trans hdr x3) b3
    exact ⟨⟨by omega, by omega, d1⟩, by omega, by omega, d2⟩
theorem meet_none {s c s' c' : Int} {n n' : Nat} (hno : ∀ j : Nat, j < n → s + (j : Int) * c ∉ nums s' c' n') : commL (nums s c n) (nums s' c' n') = [] := by
  unfold commL
  rw [List.filter_eq_nil_iff]
  intro x hx
  obtain ⟨j, hj, rfl⟩ := mem_nums.1 hx
  simpa using hno j hj

theorem placeI_nums {a c x i : Int} {n : Nat} (h0 : c ≠ 0) (hx : a + i * c = x) (h1 : 0 ≤ i) (h2 : i < n) : placeI (nums a c n) x = i := by
  have e : ((i.toNat : Nat) : Int) = i := by omega
  rw [placeI_some (j := i.toNat) (by rw [nums_length]; omega) (by rw [nums_getD _ _ _ _ (by omega), e, hx]), e]
  intro k hk
  rw [nums_getD _ _ _ _ (by omega)]
  intro h
  have : (k : Int) * c = i * c := by omega
  have := Int.eq_of_mul_eq_mul_right h0 this
  omega
theorem placeI_nums_none {a c x : Int} {n : Nat} (h : ∀ k : Nat, k < n → a + (k : Int) * c ≠ x) : placeI (nums a c n) x = -1 := by
  refine placeI_none fun j hj => ?_
  rw [nums_length] at hj
  rw [nums_getD _ _ _ _ hj]
  exact h j hj
theorem tmod_mul {a c : Int} (k : Int) (h : a + k * c = a + k * c) : (a + k * c - a).tmod c = 0 := by
  rw [show a + k * c - a = k * c by omega, Int.mul_tmod_left]
/-- A normal form is valid, and has the numbers. -/
theorem PR_valid {s c : Int} {n : Nat} (h0 : c ≠ 0) (hc : -200 ≤ c ∧ c ≤ 200) (hb : ∀ i : Nat, i < n → -100 ≤ s + (i : Int) * c ∧ s + (i : Int) * c ≤ 100) :
    vR (pS s n) (pE s c n) (pC c n) = true := by
  match n with
  | 0 => simp [pS, pE, pC, vR]
  | 1 =>
    have := hb 0 (by omega)
    simp at this
    simp [pS, pE, pC, vR]; omega
  | n + 2 =>
    have b0 := hb 0 (by omega)
    have bl := hb (n + 1) (by omega)
    simp only [Int.natCast_zero, Int.zero_mul, Int.add_zero] at b0
    have p1 : ¬ ((n + 2 : Nat) : Int) < 1 := by omega
    have p2 : ¬ ((n + 2 : Nat) : Int) ≤ 1 := by omega
    have p3 : ¬ ((n + 2 : Nat) : Int) = 1 := by omega
    simp only [pS, pE, pC, if_neg p1, if_neg p2, if_neg p3]
    rw [show ((n + 2 : Nat) : Int) - 1 = ((n + 1 : Nat) : Int) by omega]
    refine vR_spec.2 ⟨by omega, ?_, hc, h0⟩
    split <;> omega
theorem cntN_PR {s c : Int} {n : Nat} (h0 : c ≠ 0) (hc : -200 ≤ c ∧ c ≤ 200) (hb : ∀ i : Nat, i < n → -100 ≤ s + (i : Int) * c ∧ s + (i : Int) * c ≤ 100) :
    cntN (pS s n) (pE s c n) (pC c n) = n := by
  have hv := PR_valid h0 hc hb
  have key : ∀ i : Nat, i < cntN (pS s n) (pE s c n) (pC c n) ↔ i < n := by
    intro i
    rw [cntN_lt hv]
    match n with
    | 0 => simp [pS, pE, pC]; try omega
    | 1 => simp [pS, pE, pC]; try omega
    | n + 2 =>
      have p1 : ¬ ((n + 2 : Nat) : Int) < 1 := by omega
      have p2 : ¬ ((n + 2 : Nat) : Int) ≤ 1 := by omega
      have p3 : ¬ ((n + 2 : Nat) : Int) = 1 := by omega
      simp only [pS, pE, pC, if_neg p1, if_neg p2, if_neg p3]
      rw [show ((n + 2 : Nat) : Int) - 1 = ((n + 1 : Nat) : Int) by omega]
      by_cases hn : c < 0
      · rw [if_pos hn]
        constructor
        · rintro (h | h)
          · omega
          · rcases Nat.lt_or_ge i (n + 2) with g | g
            · exact g
            · have := Int.mul_le_mul_of_nonneg_right (a := ((n + 2 : Nat) : Int)) (b := (i : Int)) (c := 0 - c) (by omega) (by omega)
              rw [Int.mul_sub, Int.mul_sub, Int.mul_zero, Int.mul_zero, show ((n + 2 : Nat) : Int) = ((n + 1 : Nat) : Int) + 1 by omega, Int.add_mul] at this
              omega
        · intro g
          right
          have := Int.mul_le_mul_of_nonneg_right (a := (i : Int)) (b := ((n + 1 : Nat) : Int)) (c := 0 - c) (by omega) (by omega)
          rw [Int.mul_sub, Int.mul_sub, Int.mul_zero, Int.mul_zero] at this
          omega
      · rw [if_neg hn]
        constructor
        · rintro (h | h)
          · rcases Nat.lt_or_ge i (n + 2) with g | g
            · exact g
            · have := Int.mul_le_mul_of_nonneg_right (a := ((n + 2 : Nat) : Int)) (b := (i : Int)) (c := c) (by omega) (by omega)
              rw [show ((n + 2 : Nat) : Int) = ((n + 1 : Nat) : Int) + 1 by omega, Int.add_mul] at this
              omega
          · omega
        · intro g
          left
          have := Int.mul_le_mul_of_nonneg_right (a := (i : Int)) (b := ((n + 1 : Nat) : Int)) (c := c) (by omega) (by omega)
          omega
  rcases Nat.lt_trichotomy (cntN (pS s n) (pE s c n) (pC c n)) n with h | h | h
  · have := (key _).2 h; omega
  · exact h
  · have := (key _).1 h; omega
theorem nums_PR (s c : Int) (n : Nat) : nums (pS s n) (pC c n) n = nums s c n := by
  match n with
  | 0 => rfl
  | 1 => simp [nums, pS]
  | n + 2 =>
    have p1 : ¬ ((n + 2 : Nat) : Int) < 1 := by omega
    have p2 : ¬ ((n + 2 : Nat) : Int) ≤ 1 := by omega
    simp only [pS, pC, if_neg p1, if_neg p2]
theorem pE_eq {s c : Int} {n : Nat} (hc : 0 < c) (h : 1 ≤ n) : pE s c n = pS s n + ((n : Int) - 1) * pC c n + 1 := by
  have p1 : ¬ (n : Int) < 1 := by omega
  have p4 : ¬ c < 0 := by omega
  simp only [pS, pE, pC, if_neg p1, if_neg p4]
  by_cases h1 : (n : Int) = 1
  · rw [if_pos h1, if_pos (by omega), h1]; omega
  · rw [if_neg h1, if_neg (by omega)]
theorem pC_pos {c n : Int} (hc : 1 ≤ c) : 1 ≤ pC c n := by unfold pC; split <;> omega
theorem asc_bound {a b c : Int} (hv : vR a b c = true) (i : Nat) (h : i < cntN a b c) : -100 ≤ aS a c (cntN a b c) + (i : Int) * aC c ∧ aS a c (cntN a b c) + (i : Int) * aC c ≤ 100 := by
  unfold aS aC
  by_cases hc : c < 0
  · rw [if_pos hc, if_pos hc]
    have := num_bound hv (i := cntN a b c - 1 - i) (by omega)
    rw [show ((cntN a b c - 1 - i : Nat) : Int) = (cntN a b c : Int) - 1 - i by omega, Int.sub_mul] at this
    rw [Int.mul_sub, Int.mul_zero]
    omega
  · rw [if_neg hc, if_neg hc]
    have := num_bound hv h
    omega
theorem lcm_step {a b g : Int} (ha : 1 ≤ a) (hb : 1 ≤ b) (hg : g = Int.gcd a b) : a.tdiv g * b = Int.lcm a b ∧ 1 ≤ g := by
  have h1 : (g : Int) ∣ a := by rw [hg]; exact Int.gcd_dvd_left ..
  obtain ⟨q, hq⟩ := h1
  have hg1 : 1 ≤ g := by
    have : 0 < Int.gcd a b := Int.gcd_pos_of_ne_zero_left _ (by omega)
    omega
  refine ⟨?_, hg1⟩
  have h2 : a.tdiv g = q := by rw [hq]; exact Int.mul_tdiv_cancel_left _ (by omega)
  rw [h2]
  have h3 := Int.gcd_mul_lcm a b
  have h4 : (g : Int) * (Int.lcm a b : Int) = a * b := by
    rw [hg]
    have : ((Int.gcd a b * Int.lcm a b : Nat) : Int) = ((a * b).natAbs : Int) := by rw [h3, Int.natAbs_mul]
    rw [Int.natCast_mul] at this
    rw [this, Int.natAbs_of_nonneg (Int.mul_nonneg (by omega) (by omega))]
  rw [hq, Int.mul_assoc] at h4
  exact (Int.eq_of_mul_eq_mul_left (by omega) (hq ▸ h4)).symm
theorem gcd_step {x y : Int} (hx : 0 ≤ x) (hy : 0 < y) : Int.gcd y (x.tmod y) = Int.gcd x y := by
  rw [Int.tmod_eq_emod_of_nonneg hx]
  obtain ⟨m, rfl⟩ := Int.eq_ofNat_of_zero_le hx
  obtain ⟨n, rfl⟩ := Int.eq_ofNat_of_zero_le (Int.le_of_lt hy)
  show Nat.gcd n (m % n) = Nat.gcd m n
  rw [Nat.gcd_comm n, Nat.gcd_comm m, Nat.gcd_rec n m]
def revT (xs : List Int) (k : Nat) : List Int := xs.reverse.take k
theorem revT_zero (xs : List Int) : revT xs 0 = [] := rfl
theorem revT_length (xs : List Int) (k : Nat) (h : k ≤ xs.length) : (revT xs k).length = k := by simp [revT]; omega
theorem revT_succ (xs : List Int) (k : Nat) (h : k < xs.length) : revT xs (k + 1) = revT xs k ++ [xs.getD (xs.length - 1 - k) 0] := by
  unfold revT
  rw [take_succ_getD _ _ (by simpa using h)]
  congr 2
  rw [List.getD, List.getD, List.getElem?_reverse h]
theorem revT_all (xs : List Int) : revT xs xs.length = xs.reverse := by simp [revT, List.take_of_length_le]
theorem commL_le (xs ys : List Int) : (commL xs ys).length ≤ xs.length := by unfold commL; exact List.length_filter_le ..
theorem commL_in {xs ys : List Int} {k : Nat} (h : k < xs.length) (hm : xs.getD k 0 ∈ ys) : commL (xs.take (k + 1)) ys = commL (xs.take k) ys ++ [xs.getD k 0] := by
  rw [take_succ_getD _ _ h, commL, List.filter_append]
  simp only [List.filter_cons, hm, decide_true, if_true, List.filter_nil]
  rfl
theorem commL_out {xs ys : List Int} {k : Nat} (h : k < xs.length) (hm : xs.getD k 0 ∉ ys) : commL (xs.take (k + 1)) ys = commL (xs.take k) ys := by
  rw [take_succ_getD _ _ h, commL, List.filter_append]
  simp only [List.filter_cons, hm, decide_false, Bool.false_eq_true, if_false, List.filter_nil, List.append_nil]
  rfl
theorem lcm_bound {a b : Int} (ha : 1 ≤ a ∧ a ≤ 200) (hb : 1 ≤ b ∧ b ≤ 200) : 1 ≤ (Int.lcm a b : Int) ∧ (Int.lcm a b : Int) ≤ 40000 := by
  obtain ⟨h1, h2⟩ := lcm_step ha.1 hb.1 rfl
  have h3 := tdiv_bound (x := a) (y := (Int.gcd a b : Int)) (by omega) (by omega)
  have h4 := mul_bd (x := a.tdiv (Int.gcd a b : Int)) (y := b) (p := 200) (q := 200) (by omega) (by omega)
  have := Int.lcm_pos (m := a) (n := b) (by omega) (by omega)
  rw [h1] at h4
  omega
theorem mem_ascL {xs : List Int} {x : Int} : x ∈ ascL xs ↔ x ∈ xs := by unfold ascL; split <;> simp
theorem commL_nums_congr {xs : List Int} {a c : Int} {n : Nat} (h0 : c ≠ 0) : commL xs (nums a c n) = commL xs (nums (aS a c n) (aC c) n) := by
  refine commL_congr fun x => ?_
  rw [← ascL_nums a c n h0, mem_ascL]
/-- What MeetRanges answers. -/
def meA (a b c a' b' c' : Int) : AV := if vR a b c = true ∧ vR a' b' c' = true then nrmA (commL (nums (aS a c (cntN a b c)) (aC c) (cntN a b c)) (nums (aS a' c' (cntN a' b' c')) (aC c') (cntN a' b' c'))) else rng 0 0 0
theorem meA_rng (a b c a' b' c' : Int) : ∃ x y z, meA a b c a' b' c' = rng x y z := by
  unfold meA
  split
  · exact nrmA_rng _
  · exact ⟨_, _, _, rfl⟩
theorem meet_some {s c s' c' : Int} {n n' : Nat} (hc : 1 ≤ c) (hc' : 1 ≤ c') : ∃ (f l : Int) (m : Nat), 1 ≤ l ∧ commL (nums s c n) (nums s' c' n') = nums f l m := by
  by_cases h : ∃ i, i < n ∧ s + (i : Int) * c ∈ nums s' c' n'
  · have : ∃ i, (i < n ∧ s + (i : Int) * c ∈ nums s' c' n') ∧ ∀ j, j < i → ¬ (j < n ∧ s + (j : Int) * c ∈ nums s' c' n') := by
      obtain ⟨i, hi⟩ := h
      induction i using Nat.strongRecOn with
      | ind i ih =>
        by_cases hh : ∃ j, j < i ∧ j < n ∧ s + (j : Int) * c ∈ nums s' c' n'
        · obtain ⟨j, hj, hj2⟩ := hh
          exact ih j hj hj2
        · exact ⟨i, hi, fun j hj hj2 => hh ⟨j, hj, hj2⟩⟩
    obtain ⟨i, ⟨h1, h2⟩, h3⟩ := this
    exact ⟨_, _, _, by have := Int.lcm_pos (m := c) (n := c') (by omega) (by omega); omega, meet_at hc hc' h1 h2 fun j hj hm => h3 j hj ⟨by omega, hm⟩⟩
  · exact ⟨0, 1, 0, by omega, meet_none fun j hj hm => h ⟨j, hj, hm⟩⟩
theorem PR_inj {f l f' l' : Int} {m m' : Nat} (hl : 1 ≤ l) (hl' : 1 ≤ l') (h1 : pS f m = pS f' m') (h2 : pE f l m = pE f' l' m') (h3 : pC l m = pC l' m') : nums f l m = nums f' l' m' := by
  rw [← nums_PR f l m, ← nums_PR f' l' m', h1, h3]
  have hp := pC_pos (c := l') (n := m') hl'
  have z1 : m = 0 → pE f l m = pS f m := by rintro rfl; simp [pE, pS]
  have z2 : m' = 0 → pE f' l' m' = pS f' m' := by rintro rfl; simp [pE, pS]
  have e1 := fun h => pE_eq (s := f) (c := l) (n := m) (by omega) h
  have e2 := fun h => pE_eq (s := f') (c := l') (n := m') (by omega) h
  rw [h3, h1] at e1
  by_cases a1 : m = 0 <;> by_cases a2 : m' = 0
  · rw [a1, a2]
  · have := z1 a1; have := e2 (by omega)
    have : 0 ≤ ((m' : Int) - 1) * pC l' m' := Int.mul_nonneg (by omega) (by omega)
    omega
  · have := z2 a2; have := e1 (by omega)
    have : 0 ≤ ((m : Int) - 1) * pC l' m' := Int.mul_nonneg (by omega) (by omega)
    omega
  · have := e1 (by omega); have := e2 (by omega)
    have : ((m : Int) - 1) * pC l' m' = ((m' : Int) - 1) * pC l' m' := by omega
    have := Int.eq_of_mul_eq_mul_right (by omega) this
    rw [show m = m' by omega]
def cvB (a b c a' b' c' : Int) : Bool := vR a b c && vR a' b' c' && decide (∀ x ∈ nums a' c' (cntN a' b' c'), x ∈ nums a c (cntN a b c))
theorem len_commL {xs ys : List Int} : (commL xs ys).length = xs.length ↔ ∀ x ∈ xs, x ∈ ys := by
  unfold commL
  rw [List.length_filter_eq_length_iff]
  simp
theorem commL_all {xs ys : List Int} (h : ∀ x ∈ xs, x ∈ ys) : commL xs ys = xs := by
  unfold commL
  rw [List.filter_eq_self]
  simpa using h
theorem cover_iff {s c s' c' : Int} {n n' : Nat} (hc : 1 ≤ c) (hc' : 1 ≤ c') : nrmA (commL (nums s c n) (nums s' c' n')) = PR s' c' n' ↔ ∀ x ∈ nums s' c' n', x ∈ nums s c n := by
  constructor
  · intro h x hx
    obtain ⟨f, l, m, hl, e⟩ := meet_some (s := s) (c := c) (s' := s') (c' := c') (n := n) (n' := n') hc hc'
    rw [e, nrmA_nums] at h
    simp only [PR, AV.agg.injEq, List.cons.injEq, AV.int.injEq, true_and, and_true] at h
    have := PR_inj hl hc' h.1 h.2.1 h.2.2
    rw [← this, ← e, mem_commL] at hx
    exact hx.1
  · intro h
    have : commL (nums s c n) (nums s' c' n') = nums s' c' n' := by
      refine sorted_ext ((nums_sorted hc n).filter _) (nums_sorted hc' _) fun x => ?_
      rw [mem_commL]
      exact ⟨fun h => h.2, fun hx => ⟨h x hx, hx⟩⟩
    rw [this, nrmA_nums]
theorem plainI {P : Program} {f : Nat} {args : List AV} {xs : List Int} (h : BCall P f args [] (OI xs)) : PCall P f args (fun r => r = .rows true (IL xs) xs.length) := by
  refine (BCall.plain h).mono ?_
  rintro r ⟨r0, H', ⟨rfl, rfl⟩, rfl⟩
  simp [AV.ren, nthH, List.map_map, Function.comp_def]
end VwM
