import Derived.Test.YtcfjemmoajdcoaaCKj7
import Derived.Test.YtcfjemmoajdcoaaCM1
import Derived.Test.YtcfjemmoajdcoaaCW3
set_option linter.unusedSimpArgs false
set_option linter.unusedVariables false
set_option maxRecDepth 4000
set_option maxHeartbeats 4000000
namespace Go.Proofs.Ytcfjemmoajdcoaa
open VwM Vw Go

theorem two_len {mem mem' : List Int} {b : Int} {sh st : List Int} {b' : Int} {sh' st' : List Int} (h : twoB mem b sh st b' sh' st' = true) (hl : mem'.length = mem.length) (hm : ∀ x ∈ mem', 0 ≤ x ∧ x ≤ 255) : twoB mem' b sh st b' sh' st' = true := by
  obtain ⟨h1, h2, h3⟩ := two_facts h
  obtain ⟨g1, g2, g3⟩ := seeB_spec.1 h1
  obtain ⟨k1, k2, k3⟩ := seeB_spec.1 h2
  have hv : vMem mem' = true := vMem_spec.2 ⟨by rw [hl]; exact (vMem_spec.1 g1).1, hm⟩
  simp only [twoB, Bool.and_eq_true, decide_eq_true_eq]
  exact ⟨⟨seeB_spec.2 ⟨hv, g2, fun x hx => by rw [hl]; exact g3 x hx⟩, seeB_spec.2 ⟨hv, k2, fun x hx => by rw [hl]; exact k3 x hx⟩⟩, h3⟩
theorem nums1_memJ {a : Int} {n : Nat} {x : Int} : x ∈ nums a 1 n ↔ a ≤ x ∧ x < a + n := by
  simp only [nums, List.mem_map, List.mem_range]
  constructor
  · rintro ⟨i, hi, rfl⟩; omega
  · intro h; exact ⟨(x - a).toNat, by omega, by omega⟩
theorem nums_byte {n : Nat} (hn : n ≤ 60) : ∀ x ∈ nums 0 1 n, 0 ≤ x ∧ x ≤ 255 := fun x hx => by
  have := nums1_memJ.1 hx
  omega

end Go.Proofs.Ytcfjemmoajdcoaa
