/- Properties of ranges that meet, and of two slices. -/
import Derived.Test.YtniddegncklgpaaCVwM10
set_option linter.unusedVariables false
set_option linter.unusedSimpArgs false
set_option linter.unnecessarySimpa false
set_option maxRecDepth 4000
namespace VwM
open Vw
open Go

theorem aC_dvd {c l : Int} (h : aC c ∣ l) : c ∣ l := by
  unfold aC at h
  split at h
  · rw [Int.zero_sub] at h; exact (Int.neg_dvd).1 h
  · exact h
theorem meet_info {s c s' c' : Int} {n n' : Nat} (hc : 1 ≤ c) (hc' : 1 ≤ c') : ∃ (f l : Int) (m : Nat), 1 ≤ l ∧ commL (nums s c n) (nums s' c' n') = nums f l m ∧ (m = 0 ∨ (c ∣ l ∧ c' ∣ l)) := by
  by_cases h : ∃ i, i < n ∧ s + (i : Int) * c ∈ nums s' c' n'
  · have : ∃ i, (i < n ∧ s + (i : Int) * c ∈ nums s' c' n') ∧ ∀ j, j < i → ¬ (j < n ∧ s + (j : Int) * c ∈ nums s' c' n') := by
      obtain ⟨i, hi⟩ := h
      induction i using Nat.strongRecOn with
      | ind i ih =>
        by_cases hh : ∃ j, j < i ∧ j < n ∧ s + (j : Int) * c ∈ nums s' c' n'
        · obtain ⟨j, hj, hj2⟩ := hh
          exact ih j hj hj2
        · exact ⟨i, hi, fun j hj hj2 => hh ⟨j, hj, hj2⟩⟩
    obtain ⟨i, ⟨h1, h2⟩, h3⟩ := this
    exact ⟨_, _, _, by have := Int.lcm_pos (m := c) (n := c') (by omega) (by omega); omega, meet_at hc hc' h1 h2 fun j hj hm => h3 j hj ⟨by omega, hm⟩, .inr ⟨Int.dvd_lcm_left .., Int.dvd_lcm_right ..⟩⟩
  · exact ⟨0, 1, 0, by omega, meet_none fun j hj hm => h ⟨j, hj, hm⟩, .inl rfl⟩
/-- What MeetRanges answers for two valid ranges. -/
theorem meA_info {a b c a' b' c' : Int} (hv : vR a b c = true) (hv' : vR a' b' c' = true) : ∃ (f l : Int) (m : Nat), 1 ≤ l ∧ meA a b c a' b' c' = PR f l m ∧ (m = 0 ∨ (c ∣ l ∧ c' ∣ l)) ∧ (∀ x, x ∈ nums f l m ↔ x ∈ nums a c (cntN a b c) ∧ x ∈ nums a' c' (cntN a' b' c')) ∧ (∀ i : Nat, i < m → -100 ≤ f + (i : Int) * l ∧ f + (i : Int) * l ≤ 100) ∧ (commL (nums a c (cntN a b c)) (nums a' c' (cntN a' b' c'))).length = m := by
  have c4 := (vR_spec.1 hv).2.2.2
  have c4' := (vR_spec.1 hv').2.2.2
  obtain ⟨f, l, m, h1, h2, h3⟩ := meet_info (s := aS a c (cntN a b c)) (s' := aS a' c' (cntN a' b' c')) (n := cntN a b c) (n' := cntN a' b' c') (aC_pos c4) (aC_pos c4')
  have hmem : ∀ x, x ∈ nums f l m ↔ x ∈ nums a c (cntN a b c) ∧ x ∈ nums a' c' (cntN a' b' c') := fun x => by
    rw [← h2, mem_commL, ← ascL_nums a c _ c4, ← ascL_nums a' c' _ c4', mem_ascL, mem_ascL]
  refine ⟨f, l, m, h1, ?_, ?_, hmem, fun i hi => ?_, ?_⟩
  · unfold meA; rw [if_pos ⟨hv, hv'⟩, h2, nrmA_nums]
  · rcases h3 with h3 | ⟨h3, h4⟩
    · exact .inl h3
    · exact .inr ⟨aC_dvd h3, aC_dvd h4⟩
  · have := (hmem (f + (i : Int) * l)).1 (mem_nums.2 ⟨i, hi, rfl⟩)
    obtain ⟨j, hj, e⟩ := mem_nums.1 this.1
    have := numb hv j hj
    omega
  · have e := congrArg List.length h2
    rw [nums_length, ← commL_nums_congr c4', ← ascL_nums a c _ c4] at e
    rw [← e]
    unfold ascL
    split
    · simp [commL, List.filter_reverse]
    · rfl
theorem meA_comm {a b c a' b' c' : Int} (hv : vR a b c = true) (hv' : vR a' b' c' = true) : meA a' b' c' a b c = meA a b c a' b' c' := by
  have c4 := (vR_spec.1 hv).2.2.2
  have c4' := (vR_spec.1 hv').2.2.2
  unfold meA
  rw [if_pos ⟨hv', hv⟩, if_pos ⟨hv, hv'⟩]
  congr 1
  refine sorted_ext ((nums_sorted (aC_pos c4') _).filter _) ((nums_sorted (aC_pos c4) _).filter _) fun x => ?_
  rw [mem_commL, mem_commL]
  exact And.comm
theorem pC_two {l : Int} {m : Nat} (h : ¬ (m : Int) < 2) : pC l m = l := by unfold pC; rw [if_neg (by omega)]
theorem mg_lt {n f t w : Int} {hf ht : Bool} {f' t' w' : Int} {hf' ht' : Bool} (hn : 0 ≤ n ∧ n ≤ 60) (hs : vS f t w hf ht = true) (hs' : vS f' t' w' hf' ht' = true) (k : Nat) (hk : k = cntN (sFrom f n w hf) (sTo t n w ht) w) (i : Nat) (hi : i < cntN (sFrom f' k w' hf') (sTo t' k w' ht') w') : 0 ≤ (sFrom f n w hf + sFrom f' k w' hf' * w) + (i : Int) * (w * w') ∧ (sFrom f n w hf + sFrom f' k w' hf' * w) + (i : Int) * (w * w') < n := by
  have hle := idx_le hn hs
  have h := idx_in (n := (k : Int)) ⟨by omega, by omega⟩ hs' hi
  generalize sFrom f' k w' hf' = u at *
  have e := idx_in hn hs (i := (u + (i : Int) * w').toNat) (by omega)
  rw [show (((u + (i : Int) * w').toNat : Nat) : Int) = u + (i : Int) * w' by omega, Int.add_mul, Int.mul_assoc, Int.mul_comm w' w] at e
  omega
/-- The slice for a normal form of indices takes them. -/
theorem idx_merge {n A C : Int} {K : Nat} (hn : 0 ≤ n ∧ n ≤ 60) (hC : C ≠ 0) (hb : ∀ i : Nat, i < K → 0 ≤ A + (i : Int) * C ∧ A + (i : Int) * C < n) :
    vS (pS A K) (if pE A C K < 0 then 0 else pE A C K) (pC C K) true (!decide (pE A C K < 0)) = true ∧ idxOf n (pS A K) (if pE A C K < 0 then 0 else pE A C K) (pC C K) true (!decide (pE A C K < 0)) = nums A C K := by
  have hb' : ∀ i : Nat, i < K → -100 ≤ A + (i : Int) * C ∧ A + (i : Int) * C ≤ 100 := fun i hi => by have := hb i hi; omega
  obtain ⟨p1, p2, p3, p4⟩ := PRg_valid hC hb'
  obtain ⟨q1, q2, q3, q4⟩ := vR_spec.1 p1
  have hS : 0 ≤ pS A K ∧ (1 ≤ K → pS A K < n) ∧ (K = 0 → pS A K = 0) := by
    unfold pS
    split
    · omega
    · have := hb 0 (by omega)
      simp only [Int.natCast_zero, Int.zero_mul, Int.add_zero] at this
      omega
  have hE : (pC C K < 0 → -1 ≤ pE A C K ∧ pE A C K ≤ n - 1) ∧ (¬ pC C K < 0 → 0 ≤ pE A C K ∧ pE A C K ≤ n) := by
    by_cases h0 : K = 0
    · subst h0; simp [pE, pC]; omega
    · have a0 := hb 0 (by omega)
      have al := hb (K - 1) (by omega)
      simp only [Int.natCast_zero, Int.zero_mul, Int.add_zero] at a0
      rw [show ((K - 1 : Nat) : Int) = (K : Int) - 1 by omega] at al
      by_cases h1 : K = 1
      · subst h1; simp [pE, pC]; omega
      · have z1 : ¬ (K : Int) < 1 := by omega
        have z2 : ¬ (K : Int) = 1 := by omega
        have z3 : ¬ (K : Int) ≤ 1 := by omega
        simp only [pE, pC, if_neg z1, if_neg z2, if_neg z3]
        split <;> omega
  have hvs : vS (pS A K) (if pE A C K < 0 then 0 else pE A C K) (pC C K) true (!decide (pE A C K < 0)) = true := by
    refine vS_spec.2 ⟨q1, ?_, q3, q4, .inl rfl, ?_⟩
    · split <;> omega
    · by_cases h : pE A C K < 0
      · exact .inr (if_pos h)
      · exact .inl (by simp [h])
  refine ⟨hvs, ?_⟩
  rw [idxOf_good hn hvs]
  have eF : sFrom (pS A K) n (pC C K) true = pS A K := by
    unfold sFrom endI
    simp only [if_true]
    by_cases hk : K = 0
    · have := hS.2.2 hk
      have : ¬ pC C K < 0 := by rw [hk]; simp [pC]
      rw [if_neg this, if_neg this, if_neg (by omega)]
      omega
    · have := hS.2.1 (by omega)
      rw [if_neg (by omega : ¬ pS A K < 0)]
      split <;> omega
  have eT : sTo (if pE A C K < 0 then 0 else pE A C K) n (pC C K) (!decide (pE A C K < 0)) = pE A C K := by
    by_cases h : pE A C K < 0
    · have hc : pC C K < 0 := by
        rcases Int.lt_or_le (pC C K) 0 with h1 | h1
        · exact h1
        · have := hE.2 (by omega); omega
      have := hE.1 hc
      simp only [sTo, h, decide_true, Bool.not_true, Bool.false_eq_true, if_false, if_pos hc]
      omega
    · simp only [sTo, h, decide_false, Bool.not_false, if_true, if_false, endI]
      by_cases hc : pC C K < 0
      · have := hE.1 hc
        rw [if_pos hc, if_pos hc]
        omega
      · have := hE.2 hc
        rw [if_neg hc, if_neg hc]
        omega
  rw [eF, eT, p2, nums_PR]
end VwM
