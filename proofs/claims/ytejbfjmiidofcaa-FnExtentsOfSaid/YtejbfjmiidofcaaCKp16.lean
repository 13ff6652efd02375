import Derived.Test.YtejbfjmiidofcaaCKp15
import Derived.Test.YtejbfjmiidofcaaCM1
import Derived.Test.YtejbfjmiidofcaaCW3
set_option linter.unusedSimpArgs false
set_option linter.unusedVariables false
set_option maxRecDepth 4000
set_option maxHeartbeats 4000000
namespace Go.Proofs.Ytejbfjmiidofcaa
open VwM Vw Go

theorem keT_sorted (ls : List (List Int)) (out a b : List Int) (i j k : Nat) : (keT ls out a b i j k).Pairwise (· < ·) := by
  unfold keT
  refine List.Pairwise.filter _ (List.pairwise_map.2 ?_)
  refine List.Pairwise.imp ?_ (List.pairwise_lt_range (n := k))
  intro a b h
  simp; omega
theorem klL_some {ts : List Tn} {ls : List (List Int)} {out : List Int} {i j : Int} (h : klL ts ls out i j ≠ []) : ∃ (e : List Int) (p q : Nat),exP ts ls out = some e ∧ i = p ∧ j = q ∧ p < ts.length ∧ q < ts.length ∧ klL ts ls out i j = keL ls out (ls.getD p []) (ls.getD q []) p q := by
  unfold klL at h ⊢
  cases hx : exP ts ls out with
  | none => rw [hx] at h; exact absurd rfl h
  | some e =>
    rw [hx] at h
    simp only at h ⊢
    cases hp : pairB i j ts.length with
    | false => rw [hp] at h; exact absurd rfl h
    | true =>
      obtain ⟨p,q,rfl,rfl,h1,h2,h3⟩ := pairB_nat hp
      exact ⟨e,p,q,rfl,rfl,rfl,h1,h2,by simp⟩

end Go.Proofs.Ytejbfjmiidofcaa
