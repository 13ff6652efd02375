import Derived.Test.YtfphjgmkpgoomaaCKv8
import Derived.Test.YtfphjgmkpgoomaaCM1
import Derived.Test.YtfphjgmkpgoomaaCW3
set_option linter.unusedSimpArgs false
set_option linter.unusedVariables false
set_option maxRecDepth 4000
set_option maxHeartbeats 4000000
namespace Go.Proofs.Ytfphjgmkpgoomaa
open VwM Vw Go

theorem ovB_comm (b : Int) (sh st : List Int) (b' : Int) (sh' st' : List Int) : ovB b' sh' st' b sh st = ovB b sh st b' sh' st' := by unfold ovB; exact Bool.and_comm _ _
theorem doB_comm (b : Int) (sh st : List Int) (b' : Int) (sh' st' : List Int) : doB b' sh' st' b sh st = doB b sh st b' sh' st' := by unfold doB; rw [ovB_comm,bothL_comm]
theorem do_may {b : Int} {sh st : List Int} {b' : Int} {sh' st' : List Int} (h : doB b sh st b' sh' st' = true) : mayB b sh st b' sh' st' = true := by
  unfold doB at h
  have h0 := of_decide_eq_true h
  cases ho : ovB b sh st b' sh' st' with
  | false => rw [ho] at h0; exact absurd h0 (by simp [MVL])
  | true =>
    rw [ho] at h0
    have h1 : 0 < (bothL (offs b sh st) (offs b' sh' st')).length := h0
    obtain ⟨hv,hv'⟩ : vV b sh st = true ∧ vV b' sh' st' = true := by simpa [ovB] using ho
    obtain ⟨x,hx⟩ := List.exists_mem_of_length_pos h1
    obtain ⟨_,x1,x2⟩ := mem_bothL.1 hx
    have z : ¬ pr sh = 0 := fun e => by
      have := List.length_pos_of_mem x1; rw [offs_length] at this; omega
    have z' : ¬ pr sh' = 0 := fun e => by
      have := List.length_pos_of_mem x2; rw [offs_length] at this; omega
    have g := (ga_facts hv z).1.2.2 x x1
    have g' := (ga_facts hv' z').1.2.2 x x2
    have k := bd_cells hv z
    have k' := bd_cells hv' z'
    rw [may_iff hv hv']
    simp only [Bool.and_eq_true,decide_eq_true_eq]
    omega

end Go.Proofs.Ytfphjgmkpgoomaa
