/- Covering, told by lengths. -/
import Derived.Test.YtniddegncklgpaaCVwM11
set_option linter.unusedVariables false
set_option linter.unusedSimpArgs false
set_option maxRecDepth 4000
namespace VwM
open Vw
open Go

def ag3 : AV → Int × Int × Int
  | .agg [.int _ x, .int _ y, .int _ z] => (x, y, z)
  | _ => (0, 0, 0)
def slX (a b c f t w : Int) (hf ht : Bool) : Int := (ag3 (slRg a b c f t w hf ht)).1
def slY (a b c f t w : Int) (hf ht : Bool) : Int := (ag3 (slRg a b c f t w hf ht)).2.1
def slZ (a b c f t w : Int) (hf ht : Bool) : Int := (ag3 (slRg a b c f t w hf ht)).2.2
/-- A slice of a range is a range. -/
theorem slR_eta (a b c f t w : Int) (hf ht : Bool) : slRg a b c f t w hf ht = rng (slX a b c f t w hf ht) (slY a b c f t w hf ht) (slZ a b c f t w hf ht) := by
  obtain ⟨x, y, z, e⟩ := slR_rng a b c f t w hf ht
  unfold slX slY slZ
  rw [e]
  rfl
theorem cvB_self {a b c : Int} (hv : vR a b c = true) : cvB a b c a b c = true := by simp [cvB, hv]
theorem cv_len {a b c a' b' c' : Int} (hv : vR a b c = true) (hv' : vR a' b' c' = true) : ∃ (f l : Int) (m : Nat), meA a b c a' b' c' = PR f l m ∧ vR (pS f m) (pE f l m) (pC l m) = true ∧ cntN (pS f m) (pE f l m) (pC l m) = m ∧ cvB a b c a' b' c' = decide ((m : Int) = (cntN a' b' c' : Int)) := by
  obtain ⟨f, l, m, l1, e1, -, -, hbd, -⟩ := meA_info hv hv'
  obtain ⟨f', l', m', l1', e1', -, -, hbd', hlen'⟩ := meA_info hv' hv
  obtain ⟨p1, p2, -, -⟩ := PRg_valid (s := f) (c := l) (n := m) (by omega) hbd
  obtain ⟨p1', p2', -, -⟩ := PRg_valid (s := f') (c := l') (n := m') (by omega) hbd'
  have e := meA_comm hv hv'
  rw [e1, e1'] at e
  simp only [PR, AV.agg.injEq, List.cons.injEq, AV.int.injEq, true_and, and_true] at e
  obtain ⟨q1, q2, q3⟩ := e
  rw [q1, q2, q3, p2] at p2'
  have hm : m = m' := p2'
  refine ⟨f, l, m, e1, p1, p2, ?_⟩
  have h := @len_commL (nums a' c' (cntN a' b' c')) (nums a c (cntN a b c))
  rw [hlen', nums_length] at h
  unfold cvB
  rw [hv, hv', Bool.true_and, Bool.true_and]
  refine decide_eq_decide.2 ?_
  rw [← h]
  omega
end VwM
