import Derived.Test.YtclampodmlklpaaDoorCKu1
import Derived.Test.YtclampodmlklpaaDoorCM1
import Derived.Test.YtclampodmlklpaaDoorCW3
set_option linter.unusedSimpArgs false
set_option linter.unusedVariables false
set_option linter.unnecessarySimpa false
set_option maxRecDepth 4000
set_option maxHeartbeats 4000000
namespace Go.Proofs.YtclampodmlklpaaDoor
open VwM Vw Go

theorem mvlU_le {v : Bool} {l : List Int} {n : Nat} (h : v = true → l.length ≤ n) : (MVL v l).length ≤ n := by
  cases v with
  | false => simp [MVL]
  | true => exact h rfl
theorem vF_take {s : List Int} (hv : vF s = true) (h2 : 2 ≤ s.length) : vF (s.take (s.length - 1)) = true := by
  obtain ⟨h, h1, h5⟩ := vF_iff.1 hv
  refine vF_iff.2 ⟨fun i hi => ?_, by simp; omega, by simp; omega⟩
  have hi' : i < s.length - 1 := by simpa using hi
  have : (s.take (s.length - 1)).getD i 0 = s.getD i 0 := by rw [List.getD, List.getD, List.getElem?_take, if_pos hi']
  rw [this]
  exact h i (by omega)

end Go.Proofs.YtclampodmlklpaaDoor
