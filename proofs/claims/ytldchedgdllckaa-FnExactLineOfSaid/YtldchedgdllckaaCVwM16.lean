/- Lines, and bounds that meet. -/
import Derived.Test.YtldchedgdllckaaCVwM5
set_option linter.unusedVariables false
set_option linter.unusedSimpArgs false
set_option maxRecDepth 4000
namespace VwM
open Vw
open Go

/-- Two blocks of numbers meet in a block. -/
theorem commL_blocks (s s' : Int) (n n' : Nat) : commL (nums s 1 n) (nums s' 1 n') = nums (max s s') 1 (min (s + n) (s' + n') - max s s').toNat := by
  refine sorted_ext ?_ (nums_sorted (by omega) _) ?_
  · exact List.Pairwise.filter _ (nums_sorted (by omega) _)
  · intro x
    rw [mem_commL, mem_nums_iff (by omega), mem_nums_iff (by omega), mem_nums_iff (by omega)]
    constructor
    · rintro ⟨⟨a1, a2, _⟩, b1, b2, _⟩
      exact ⟨by omega, by omega, ⟨_, (Int.one_mul _).symm⟩⟩
    · rintro ⟨a1, a2, _⟩
      exact ⟨⟨by omega, by omega, ⟨_, (Int.one_mul _).symm⟩⟩, by omega, by omega, ⟨_, (Int.one_mul _).symm⟩⟩
def spS (b : Int) (sh st : List Int) : Int := if pr sh = 0 then 0 else bdL b sh st
def spN (b : Int) (sh st : List Int) : Nat := if pr sh = 0 then 0 else (bdH b sh st - bdL b sh st + 1).toNat
/-- The bounds of a valid view are cells. -/
theorem bd_cells {b : Int} {sh st : List Int} (hv : vV b sh st = true) (hz : ¬ pr sh = 0) : 0 ≤ bdL b sh st ∧ bdL b sh st ≤ bdH b sh st ∧ bdH b sh st ≤ 59 := by
  obtain ⟨h1, -, -, -⟩ := vV_spec.1 hv
  have hg := vSh_good h1
  have p : 1 ≤ pr sh := by omega
  obtain ⟨a1, a2⟩ := low_offs (b := b) (st := st) hg.1 p
  obtain ⟨a3, a4⟩ := high_offs (b := b) (st := st) hg.1 p
  have q1 := vV_cells hv _ a1
  have q2 := vV_cells hv _ a3
  have q3 := a2 _ a3
  rw [bdL, bdH, if_neg hz, if_neg hz]
  omega
theorem sp_bound {b : Int} {sh st : List Int} (hv : vV b sh st = true) : 0 ≤ spS b sh st ∧ spS b sh st + spN b sh st ≤ 60 := by
  unfold spS spN
  by_cases hz : pr sh = 0
  · simp [hz]
  · have := bd_cells hv hz
    simp only [if_neg hz]
    omega
def mayB (b : Int) (sh st : List Int) (b' : Int) (sh' st' : List Int) : Bool :=
  vV b sh st && vV b' sh' st' && decide (0 < (commL (nums (spS b sh st) 1 (spN b sh st)) (nums (spS b' sh' st') 1 (spN b' sh' st'))).length)
/-- Bounds meet if the least of each is at most the greatest of the other. -/
theorem may_iff {b b' : Int} {sh st sh' st' : List Int} (hv : vV b sh st = true) (hv' : vV b' sh' st' = true) :
    mayB b sh st b' sh' st' = (decide (0 ≤ bdL b sh st) && decide (0 ≤ bdL b' sh' st') && decide (bdL b sh st ≤ bdH b' sh' st') && decide (bdL b' sh' st' ≤ bdH b sh st)) := by
  unfold mayB
  rw [hv, hv', commL_blocks, nums_length]
  unfold spS spN
  by_cases hz : pr sh = 0
  · have e : bdL b sh st = -1 := if_pos hz
    simp [hz, e]
    omega
  · have h1 := bd_cells hv hz
    by_cases hz' : pr sh' = 0
    · have e : bdL b' sh' st' = -1 := if_pos hz'
      simp [hz', e]
      omega
    · have h2 := bd_cells hv' hz'
      simp only [if_neg hz, if_neg hz']
      rw [Bool.eq_iff_iff]
      simp only [Bool.true_and, Bool.and_eq_true, decide_eq_true_eq]
      omega
/-- The cells that are in both lists, ascending, each once. -/
def bothL (xs ys : List Int) : List Int := (nums 0 1 60).filter fun x => decide (x ∈ xs ∧ x ∈ ys)
def bothT (xs ys : List Int) (k : Nat) : List Int := (nums 0 1 k).filter fun x => decide (x ∈ xs ∧ x ∈ ys)
theorem bothT_zero (xs ys : List Int) : bothT xs ys 0 = [] := rfl
theorem bothT_all (xs ys : List Int) : bothT xs ys 60 = bothL xs ys := rfl
theorem bothT_le (xs ys : List Int) (k : Nat) : (bothT xs ys k).length ≤ k := by
  have := List.length_filter_le (fun x => decide (x ∈ xs ∧ x ∈ ys)) (nums 0 1 k)
  rw [nums_length] at this
  exact this
theorem bothT_yes {xs ys : List Int} {k : Nat} (h : (k : Int) ∈ xs) (h' : (k : Int) ∈ ys) : bothT xs ys (k + 1) = bothT xs ys k ++ [(k : Int)] := by
  unfold bothT
  rw [nums_succ, List.filter_append]
  simp [h, h']
theorem bothT_no {xs ys : List Int} {k : Nat} (h : ¬ ((k : Int) ∈ xs ∧ (k : Int) ∈ ys)) : bothT xs ys (k + 1) = bothT xs ys k := by
  unfold bothT
  rw [nums_succ, List.filter_append]
  simp only [Int.zero_add, Int.mul_one]
  rw [List.filter_cons_of_neg (by simpa using h)]
  simp
theorem mem_bothL {xs ys : List Int} {x : Int} : x ∈ bothL xs ys ↔ (0 ≤ x ∧ x ≤ 59) ∧ x ∈ xs ∧ x ∈ ys := by
  unfold bothL
  rw [List.mem_filter, mem_nums_iff (by omega)]
  simp only [decide_eq_true_eq]
  constructor
  · rintro ⟨⟨a, b, _⟩, h⟩; exact ⟨by omega, h⟩
  · rintro ⟨a, h⟩; exact ⟨⟨by omega, by omega, ⟨_, (Int.one_mul _).symm⟩⟩, h⟩
theorem bothL_sorted (xs ys : List Int) : (bothL xs ys).Pairwise (· < ·) := List.Pairwise.filter _ (nums_sorted (by omega) _)
theorem bothL_le (xs ys : List Int) : (bothL xs ys).length ≤ 60 := bothT_le xs ys 60
/-- The cells of a list in order are those of an ascending one with the same numbers. -/
theorem bothL_self {xs ys : List Int} (hb : ∀ x ∈ ys, 0 ≤ x ∧ x ≤ 59) (hs : xs.Pairwise (· < ·)) (h : ∀ x, x ∈ xs ↔ x ∈ ys) : bothL ys ys = xs := by
  refine sorted_ext (bothL_sorted _ _) hs fun x => ?_
  rw [mem_bothL, h]
  exact ⟨fun q => q.2.1, fun q => ⟨hb x q, q, q⟩⟩
/-- The range of the cells of a line. -/
def lineA (b : Int) (sh st : List Int) : AV := if vV b sh st = true ∧ sh.length = 1 then nrmA (bothL (offs b sh st) (offs b sh st)) else rng 0 0 0
theorem lineA_rng (b : Int) (sh st : List Int) : ∃ x y z, lineA b sh st = rng x y z := by
  unfold lineA
  split
  · exact nrmA_rng _
  · exact ⟨0, 0, 0, rfl⟩
theorem offs_line (b n c : Int) (hn : 0 ≤ n) : offs b [n] [c] = nums b c n.toNat := by
  unfold offs nums
  have hp : pr [n] = n := by simp [pr]
  rw [hp]
  refine List.map_congr_left fun k hk => ?_
  rw [List.mem_range] at hk
  have : dig [n] (k : Int) 0 = k := by
    show (kS [n] (k : Int) 0).tmod n = k
    rw [show kS [n] (k : Int) 0 = (k : Int) from rfl, Int.tmod_eq_emod_of_nonneg (by omega), Int.emod_eq_of_lt (by omega) (by omega)]
  simp [cellK, dot, this]
/-- The cells of a line, ascending, are those of the normal form of its progression. -/
theorem line_norm {b n c : Int} (hv : vV b [n] [c] = true) (m : Int) (hm : m = if c = 0 then min n 1 else n) :
    (vR (pS b m) (pE b c m) (pC c m) = true ∧ 0 ≤ m ∧ m ≤ 60) ∧ ((0 ≤ b ∧ b ≤ 60 ∧ -60 ≤ c ∧ c ≤ 60) ∧ (1 ≤ m → -1000000 ≤ (m - 1) * c ∧ (m - 1) * c ≤ 1000000)) ∧
    PR (aS (pS b m) (pC c m) (cntN (pS b m) (pE b c m) (pC c m))) (aC (pC c m)) (cntN (pS b m) (pE b c m) (pC c m)) = nrmA (bothL (offs b [n] [c]) (offs b [n] [c])) := by
  have hcs := vV_cells hv
  obtain ⟨h1, h2, h3, -⟩ := vV_spec.1 hv
  have hg := vSh_good h1
  have hn : 0 ≤ n ∧ n ≤ 60 := by have := hg.1.1 n (by simp); exact this
  have hc := (vSt_spec.1 h2).2 c (by simp)
  have hm0 : 0 ≤ m ∧ m ≤ n := by subst hm; split <;> omega
  rw [offs_line b n c hn.1] at hcs ⊢
  have hbm : ∀ i : Nat, i < m.toNat → -100 ≤ b + (i : Int) * c ∧ b + (i : Int) * c ≤ 100 := by
    intro i hi
    have := hcs _ (mem_nums.2 ⟨i, by omega, rfl⟩)
    omega
  have hmem : ∀ x, x ∈ nums b c m.toNat ↔ x ∈ nums b c n.toNat := by
    intro x
    by_cases h0 : c = 0
    · subst h0
      rw [if_pos rfl] at hm
      rw [mem_nums, mem_nums]
      simp only [Int.mul_zero, Int.add_zero]
      constructor
      · rintro ⟨i, hi, e⟩; exact ⟨i, by omega, e⟩
      · rintro ⟨i, hi, e⟩; exact ⟨0, by omega, e⟩
    · rw [if_neg h0] at hm
      rw [hm]
  -- the step that the normal form has
  obtain ⟨c', hc', hcc⟩ : ∃ c' : Int, (c' ≠ 0 ∧ -200 ≤ c' ∧ c' ≤ 200) ∧ ((2 ≤ m → c' = c)) := by
    by_cases h0 : c = 0
    · refine ⟨1, by omega, fun h => ?_⟩
      rw [if_pos h0] at hm
      omega
    · exact ⟨c, ⟨h0, by omega, by omega⟩, fun _ => rfl⟩
  have eC : pC c m = pC c' m := by
    unfold pC
    split
    · rfl
    · rw [hcc (by omega)]
  have eE : pE b c m = pE b c' m := by
    unfold pE
    split
    · rfl
    · split
      · rfl
      · rw [hcc (by omega)]
  have eN : nums b c m.toNat = nums b c' m.toNat := by
    refine List.map_congr_left fun i hi => ?_
    rw [List.mem_range] at hi
    by_cases h : 2 ≤ m
    · rw [hcc h]
    · have : i = 0 := by omega
      subst this
      simp
  have hmc : ((m.toNat : Nat) : Int) = m := by omega
  have hbm' : ∀ i : Nat, i < m.toNat → -100 ≤ b + (i : Int) * c' ∧ b + (i : Int) * c' ≤ 100 := by
    intro i hi
    by_cases h : 2 ≤ m
    · rw [hcc h]; exact hbm i hi
    · have : i = 0 := by omega
      subst this
      have := hbm 0 hi
      simp at this ⊢
      exact this
  have v1 := PR_valid (s := b) (c := c') (n := m.toNat) hc'.1 hc'.2 hbm'
  have v2 := cntN_PR (s := b) (c := c') (n := m.toNat) hc'.1 hc'.2 hbm'
  have v3 := nums_PR b c' m.toNat
  rw [hmc] at v1 v2 v3
  rw [eE, eC]
  refine ⟨⟨v1, by omega, by omega⟩, ⟨by omega, fun h => ?_⟩, ?_⟩
  · have := hbm (m.toNat - 1) (by omega)
    rw [show ((m.toNat - 1 : Nat) : Int) = m - 1 by omega] at this
    omega
  rw [v2]
  have hp0 : pC c' m ≠ 0 := (vR_spec.1 v1).2.2.2
  have e : bothL (nums b c n.toNat) (nums b c n.toNat) = nums (aS (pS b m) (pC c' m) m.toNat) (aC (pC c' m)) m.toNat := by
    refine bothL_self hcs (nums_sorted (by unfold aC; split <;> omega) _) fun x => ?_
    rw [← ascL_nums _ _ _ hp0, mem_ascL, v3, ← eN, hmem]
  rw [e, nrmA_nums]
end VwM
