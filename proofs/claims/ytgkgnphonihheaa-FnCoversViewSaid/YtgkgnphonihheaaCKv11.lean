import Derived.Test.YtgkgnphonihheaaCKv10
import Derived.Test.YtgkgnphonihheaaCM1
import Derived.Test.YtgkgnphonihheaaCW3
set_option linter.unusedSimpArgs false
set_option linter.unusedVariables false
set_option maxRecDepth 4000
set_option maxHeartbeats 4000000
namespace Go.Proofs.Ytgkgnphonihheaa
open VwM Vw Go

theorem sameB_iff {b : Int} {sh st : List Int} {b' : Int} {sh' st' : List Int} : sameB b sh st b' sh' st' = true ↔ vV b sh st = true ∧ vV b' sh' st' = true ∧ sh = sh' ∧ offs b sh st = offs b' sh' st' := by
  unfold sameB; simp only [Bool.and_eq_true,decide_eq_true_eq,and_assoc]
theorem same_row {b : Int} {sh st : List Int} {b' : Int} {st' : List Int} (hv : vV b sh st = true) (hv' : vV b' sh st' = true) (h : offs b sh st = offs b' sh st') : decide (offs b sh st = offs b sh (rowS sh)) = decide (offs b' sh st' = offs b' sh (rowS sh)) := by
  have hs := (vV_spec.1 hv).1
  have hg := (vSh_good hs).1
  rw [offs_row hs,offs_row hs]
  by_cases hz : 1 ≤ pr sh
  · have e1 := cell_zero (b := b) (st := st) hg hz
    have e2 := cell_zero (b := b') (st := st') hg hz
    rw [h,e2] at e1
    rw [h,e1]
  · have e : (pr sh).toNat = 0 := by omega
    have o1 : offs b sh st = [] := List.length_eq_zero_iff.1 (by rw [offs_length,e])
    have o2 : offs b' sh st' = [] := List.length_eq_zero_iff.1 (by rw [offs_length,e])
    rw [o1,o2,e]; rfl

end Go.Proofs.Ytgkgnphonihheaa
