import Derived.Test.YtcfjemmoajdcoaaCKj6
import Derived.Test.YtcfjemmoajdcoaaCM1
import Derived.Test.YtcfjemmoajdcoaaCW3
set_option linter.unusedSimpArgs false
set_option linter.unusedVariables false
set_option maxRecDepth 4000
set_option maxHeartbeats 4000000
namespace Go.Proofs.Ytcfjemmoajdcoaa
open VwM Vw Go

theorem putL_byte {mem cells vals : List Int} (hm : ∀ x ∈ mem,0 ≤ x ∧ x ≤ 255) (hv : ∀ j,0 ≤ vals.getD j 0 ∧ vals.getD j 0 ≤ 255) : ∀ k,∀ x ∈ putK mem cells vals k,0 ≤ x ∧ x ≤ 255
  | 0,x,hx => hm x hx
  | k + 1,x,hx => by
    simp only [putK] at hx
    rcases List.mem_or_eq_of_mem_set hx with h1 | h1
    · exact putL_byte hm hv k x h1
    · subst h1; exact hv k
theorem getD_byte {mem : List Int} (hm : ∀ x ∈ mem,0 ≤ x ∧ x ≤ 255) (j : Nat) : 0 ≤ mem.getD j 0 ∧ mem.getD j 0 ≤ 255 := by
  by_cases hl : j < mem.length
  · exact hm _ (getD_mem hl)
  · rw [List.getD,List.getElem?_eq_none (Nat.le_of_not_lt hl)]; simp
theorem takesL_byte {mem at_ : List Int} (hm : ∀ x ∈ mem,0 ≤ x ∧ x ≤ 255) : ∀ x ∈ takesL mem at_,0 ≤ x ∧ x ≤ 255 := by
  intro x hx
  simp only [takesL,List.mem_map] at hx
  obtain ⟨i,_,rfl⟩ := hx
  exact getD_byte hm _
theorem two_take {mem : List Int} {b : Int} {sh st : List Int} {b' : Int} {sh' st' : List Int} (h : twoB mem b sh st b' sh' st' = true) : takB mem b sh st (takesL mem (offs b' sh' st')) = true := by
  obtain ⟨h1,h2,h3⟩ := two_facts h
  obtain ⟨g1,g2,g3⟩ := seeB_spec.1 h2
  have hm := (vMem_spec.1 g1).2
  have hp := see_facts h1
  have hol := offs_length b' sh' st'
  simp only [takB,Bool.and_eq_true,decide_eq_true_eq,allI_iff]
  refine ⟨⟨h1,?_⟩,takesL_byte hm⟩
  rw [takesL_length,hol,h3]
  subst h3
  omega
theorem see_put {mem : List Int} {b : Int} {sh st vals : List Int} (h : seeB mem b sh st = true) (hv : ∀ x ∈ vals,0 ≤ x ∧ x ≤ 255) : seeB (putL mem (offs b sh st) vals) b sh st = true := by
  obtain ⟨g1,g2,g3⟩ := seeB_spec.1 h
  obtain ⟨m1,m2⟩ := vMem_spec.1 g1
  refine seeB_spec.2 ⟨vMem_spec.2 ⟨by rw [putL_length]; exact m1,putL_byte m2 (getD_byte hv) _⟩,g2,?_⟩
  intro x hx
  rw [putL_length]
  exact g3 x hx

end Go.Proofs.Ytcfjemmoajdcoaa
