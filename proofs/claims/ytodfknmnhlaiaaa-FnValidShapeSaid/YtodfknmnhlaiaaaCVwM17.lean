/- Lists without one of their numbers, and with one more. -/
import Derived.Test.YtodfknmnhlaiaaaCVwM12
set_option linter.unusedVariables false
set_option linter.unusedSimpArgs false
set_option maxRecDepth 4000
namespace VwM
open Vw
open Go

/-- A list without the number at a place. -/
def wo (xs : List Int) (k : Nat) : List Int := xs.take k ++ xs.drop (k + 1)
theorem wo_length {xs : List Int} {k : Nat} (h : k < xs.length) : (wo xs k).length = xs.length - 1 := by simp [wo]; omega
theorem wo_mem {xs : List Int} {k : Nat} {x : Int} (h : x ∈ wo xs k) : x ∈ xs := by
  rcases List.mem_append.1 h with h | h
  · exact List.mem_of_mem_take h
  · exact List.mem_of_mem_drop h
theorem pr_wo {xs : List Int} {k : Nat} (h : k < xs.length) : pr xs = pr (wo xs k) * xs.getD k 0 := by
  unfold wo
  rw [pr_append, show pr xs = pr (xs.take k ++ xs.drop k) by rw [List.take_append_drop], pr_append, pr_drop xs k h]
  rw [Int.mul_assoc, Int.mul_comm (xs.getD k 0)]
theorem good4_wo {xs : List Int} (h : good4 xs) (k : Nat) (hk : k < xs.length) : good4 (wo xs k) := ⟨fun x hx => h.1 x (wo_mem hx), by rw [wo_length hk]; have := h.2; omega⟩
/-- A valid shape with indices is valid without any dimension. -/
theorem vSh_wo {xs : List Int} (hv : vSh xs = true) (hz : ¬ pr xs = 0) {k : Nat} (hk : k < xs.length) : vSh (wo xs k) = true := by
  have hg := vSh_good hv
  have hw := good4_wo hg.1 k hk
  have hp := pr_wo hk
  have hb := (pr_bound hw).1
  have ha := good4_at hg.1 hk
  unfold vSh
  have h1 : 1 ≤ xs.getD k 0 := by
    rcases Int.lt_or_le (xs.getD k 0) 1 with h | h
    · exact absurd (pr_zero hk (by omega)) hz
    · exact h
  have h2 : pr (wo xs k) * 1 ≤ pr (wo xs k) * xs.getD k 0 := Int.mul_le_mul_of_nonneg_left h1 hb
  have h3 : pr (wo xs k) ≤ 60 := by omega
  simp [hw.2, h3, allI_iff.2 hw.1]
end VwM
