import Derived.Test.YtceopplkfomalaaGreatCKm10
import Derived.Test.YtceopplkfomalaaGreatCM1
import Derived.Test.YtceopplkfomalaaGreatCW3
set_option linter.unusedSimpArgs false
set_option linter.unusedVariables false
set_option maxRecDepth 4000
set_option maxHeartbeats 4000000
namespace Go.Proofs.YtceopplkfomalaaGreat
open VwM Vw Go

theorem w8_getD {mem:List Int} (hm:∀ x ∈ mem,0 ≤ x ∧ x ≤ 255) (j:Nat):0 ≤ mem.getD j 0 ∧ mem.getD j 0 ≤ 255:=by
  by_cases hl:j < mem.length
  · exact hm _ (getD_mem hl)
  · rw [List.getD,List.getElem?_eq_none (Nat.le_of_not_lt hl)];simp
theorem w8_byte {mem cells vals:List Int} (hm:∀ x ∈ mem,0 ≤ x ∧ x ≤ 255) (hv:∀ x ∈ vals,0 ≤ x ∧ x ≤ 255):∀ k,∀ x ∈ putK mem cells vals k,0 ≤ x ∧ x ≤ 255
  | 0,x,hx=>hm x hx
  | k + 1,x,hx=>by
    simp only [putK] at hx
    rcases List.mem_or_eq_of_mem_set hx with h1|h1
    · exact w8_byte hm hv k x h1
    · subst h1;exact w8_getD hv k
theorem w8_see {mem cells vals:List Int} {b:Int} {sh st:List Int} (h:seeB mem b sh st=true) (hv:∀ x ∈ vals,0 ≤ x ∧ x ≤ 255):seeB (putL mem cells vals) b sh st=true:=by
  obtain ⟨g1,g2,g3⟩:=seeB_spec.1 h
  obtain ⟨m1,m2⟩:=vMem_spec.1 g1
  refine seeB_spec.2 ⟨vMem_spec.2 ⟨by rw [putL_length];exact m1,w8_byte m2 hv _⟩,g2,?_⟩
  intro x hx
  rw [putL_length]
  exact g3 x hx
theorem w8_diff {a b:List Int} {x:Int}:∀ {k},x ∈ chK a b k → (0 ≤ x ∧ x < k) ∧ a.getD x.toNat 0 ≠ b.getD x.toNat 0
  | 0,h=>by simp [chK] at h
  | k + 1,h=>by
    simp only [chK] at h
    split at h
    · have:=w8_diff (k:=k) h
      exact ⟨by omega,this.2⟩
    · rename_i hne
      rcases List.mem_append.1 h with h1|h1
      · have:=w8_diff (k:=k) h1
        exact ⟨by omega,this.2⟩
      · rw [List.mem_singleton] at h1
        subst h1
        exact ⟨by omega,by simpa using hne⟩
theorem w8_changed {mem to vals:List Int} (ht:∀ x ∈ to,0 ≤ x ∧ x ≤ 59) (hl:to.length=vals.length):∀ x ∈ chL mem (putL mem to vals),x ∈ bothL to to:=by
  intro x hx
  obtain ⟨h1,h2⟩:=w8_diff hx
  refine Classical.byContradiction fun hn=>h2 ?_
  unfold putL
  rw [putK_out]
  intro i hi he
  have hm:to.getD i 0 ∈ to:=getD_mem (by omega)
  have:=ht _ hm
  have hxe:to.getD i 0=x:=by omega
  rw [hxe] at hm
  exact hn (mem_bothL.2 ⟨ht x hm,hm,hm⟩)
theorem w8_facts {mem:List Int} {b:Int} {sh st vals:List Int} (h:takB mem b sh st vals=true) :
    (vV b sh st=true ∧ seeB mem b sh st=true ∧ seeB (putL mem (offs b sh st) vals) b sh st=true ∧ chB mem (putL mem (offs b sh st) vals)=true) ∧ inM (offs b sh st) mem.length ∧ vals.length=(offs b sh st).length ∧ (offs b sh st).length ≤ 60 ∧
    (((chL mem (putL mem (offs b sh st) vals)).length ≤ 1099511627776 ∧ (bothL (offs b sh st) (offs b sh st)).length ≤ 1099511627776) ∧ ∀ x ∈ chL mem (putL mem (offs b sh st) vals),x ∈ bothL (offs b sh st) (offs b sh st)):=by
  simp only [takB,Bool.and_eq_true,decide_eq_true_eq] at h
  obtain ⟨⟨h1,h2⟩,h3⟩:=h
  have hv:=allI_iff.1 h3
  obtain ⟨g1,g2,g3⟩:=seeB_spec.1 h1
  have hol:=offs_length b sh st
  have hp:=see_facts h1
  have hs:=w8_see (cells:=offs b sh st) h1 hv
  have hcs:∀ x ∈ offs b sh st,0 ≤ x ∧ x ≤ 59:=fun x hx=>by have:=vV_cells g2 x hx;omega
  have hcl:=chK_length mem (putL mem (offs b sh st) vals) mem.length
  have hbl:=bothL_le (offs b sh st) (offs b sh st)
  refine ⟨⟨g2,h1,hs,?_⟩,fun i hi=>?_,by omega,by omega,⟨by unfold chL;omega,by omega⟩,w8_changed hcs (by omega)⟩
  · unfold chB
    rw [g1,(seeB_spec.1 hs).1,putL_length]
    simp
  · have:=g3 _ (getD_mem hi)
    omega

end Go.Proofs.YtceopplkfomalaaGreat
