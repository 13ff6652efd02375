import Derived.Test.YtclampodmlklpaaDoorCKu5
import Derived.Test.YtclampodmlklpaaDoorCM1
import Derived.Test.YtclampodmlklpaaDoorCW3
set_option linter.unusedSimpArgs false
set_option linter.unusedVariables false
set_option linter.unnecessarySimpa false
set_option maxRecDepth 4000
set_option maxHeartbeats 4000000
namespace Go.Proofs.YtclampodmlklpaaDoor
open VwM Vw Go

theorem pk_up_b {al big : Bool} {s L : List Int} (hB : upB al s L = true) : vF s = true ∧ L.length = (fN al s).toNat ∧ (∀ x ∈ L, 0 ≤ x ∧ x ≤ 255) ∧ (fN al s) = ((fN al s).toNat : Int) := by
  simp only [upB, Bool.and_eq_true, decide_eq_true_eq, allI_iff] at hB
  have := fN_bound (al := al) hB.1.1
  exact ⟨hB.1.1, by omega, hB.2, by omega⟩

end Go.Proofs.YtclampodmlklpaaDoor
