import Derived.Test.YtceopplkfomalaaGreatCKw7
import Derived.Test.YtceopplkfomalaaGreatCM1
import Derived.Test.YtceopplkfomalaaGreatCW3
set_option linter.unusedSimpArgs false
set_option linter.unusedVariables false
set_option maxRecDepth 4000
set_option maxHeartbeats 4000000
namespace Go.Proofs.YtceopplkfomalaaGreat
open VwM Vw Go

theorem sw_at {mem cells vals:List Int} (hm:inM cells mem.length) (h:cells.Nodup) {i:Nat} (hi:i < cells.length):(putL mem cells vals).getD (cells.getD i 0).toNat 0=vals.getD i 0:=by
  have:=hm i hi
  exact putK_in (by omega) rfl _ hi fun j h1 h2=>nodup_toNat hm h h2 hi (by omega)
theorem sw_back {mem L L':List Int} (h1:inM L mem.length) (h2:inM L' mem.length) (n1:L.Nodup) (n2:L'.Nodup) (hl:L.length=L'.length) (hd:∀ x ∈ L,x ∉ L') :
    takesL (swL mem L L') L=takesL mem L' ∧ takesL (swL mem L L') L'=takesL mem L ∧ swL (swL mem L L') L L'=mem:=by
  have hne:∀ i,i < L.length → ∀ j,j < L'.length → (L'.getD j 0).toNat ≠ (L.getD i 0).toNat:=fun i hi j hj e=>by
    have a:=h1 i hi
    have c:=h2 j hj
    have:L'.getD j 0=L.getD i 0:=by omega
    exact hd _ (getD_mem hi) (this ▸ getD_mem hj)
  have hlen:(swL mem L L').length=mem.length:=by unfold swL;rw [putL_length,putL_length]
  have t1:takesL (swL mem L L') L=takesL mem L':=by
    refine list_eq_of (by rw [takesL_length,takesL_length,hl]) fun i hi=>?_
    rw [takesL_length] at hi
    rw [takesL_getD hi]
    unfold swL
    conv=>lhs;unfold putL
    rw [putK_out _ fun j hj=>hne i hi j hj,← putL,sw_at h1 n1 hi]
  have t2:takesL (swL mem L L') L'=takesL mem L:=by
    unfold swL
    exact takes_put (by rw [putL_length];exact h2) n2 (by rw [takesL_length,hl])
  refine ⟨t1,t2,?_⟩
  unfold swL
  rw [show putL (putL mem L (takesL mem L')) L' (takesL mem L)=swL mem L L' from rfl,t1,t2]
  refine list_eq_of (by rw [putL_length,putL_length,hlen]) fun x hx=>?_
  rw [putL_length,putL_length,hlen] at hx
  by_cases e2:∃ j,j < L'.length ∧ (L'.getD j 0).toNat=x
  · obtain ⟨j,hj,rfl⟩:=e2
    rw [sw_at (by rw [putL_length,hlen];exact h2) n2 hj,takesL_getD hj]
  · have o2:∀ i,i < L'.length → (L'.getD i 0).toNat ≠ x:=fun i hi e=>e2 ⟨i,hi,e⟩
    conv=>lhs;unfold putL
    rw [putK_out _ o2,← putL]
    by_cases e1:∃ i,i < L.length ∧ (L.getD i 0).toNat=x
    · obtain ⟨i,hi,rfl⟩:=e1
      rw [sw_at (by rw [hlen];exact h1) n1 hi,takesL_getD hi]
    · have o1:∀ i,i < L.length → (L.getD i 0).toNat ≠ x:=fun i hi e=>e1 ⟨i,hi,e⟩
      conv=>lhs;unfold putL
      rw [putK_out _ o1]
      unfold swL
      conv=>lhs;unfold putL
      rw [putK_out _ o2]
      rw [putK_out _ o1]
theorem sw_all {mem:List Int} {b:Int} {sh st:List Int} {b':Int} {sh' st':List Int} (h:swB mem b sh st b' sh' st'=true) :
    (takesL (swL mem (offs b sh st) (offs b' sh' st')) (offs b sh st)=takesL mem (offs b' sh' st') ∧ takesL (swL mem (offs b sh st) (offs b' sh' st')) (offs b' sh' st')=takesL mem (offs b sh st) ∧ swL (swL mem (offs b sh st) (offs b' sh' st')) (offs b sh st) (offs b' sh' st')=mem) ∧
    swB (swL mem (offs b sh st) (offs b' sh' st')) b sh st b' sh' st'=true ∧
    (seeB mem b sh st=true ∧ seeB mem b' sh' st'=true ∧ seeB (swL mem (offs b sh st) (offs b' sh' st')) b sh st=true ∧ seeB (swL mem (offs b sh st) (offs b' sh' st')) b' sh' st'=true) ∧
    (swL mem (offs b sh st) (offs b' sh' st')).length=mem.length:=by
  have h0:=h
  simp only [swB,Bool.and_eq_true,Bool.not_eq_true'] at h
  obtain ⟨hT,hD,hA,hA'⟩:=h
  obtain ⟨h1,h2,h3⟩:=two_facts hT
  obtain ⟨g1,g2,g3⟩:=seeB_spec.1 h1
  obtain ⟨k1,k2,k3⟩:=seeB_spec.1 h2
  obtain ⟨⟨e1,-,-⟩,-⟩:=sw_facts hT
  rw [hD] at e1
  have hz:=of_decide_eq_false e1.symm
  have n1:(offs b sh st).Nodup:=by simp only [oneB,Bool.and_eq_true,decide_eq_true_eq] at hA;exact hA.2
  have n2:(offs b' sh' st').Nodup:=by simp only [oneB,Bool.and_eq_true,decide_eq_true_eq] at hA';exact hA'.2
  have hd:∀ x ∈ offs b sh st,x ∉ offs b' sh' st':=fun x hx hx'=>hz (List.length_pos_of_mem (mem_bothL.2 ⟨by have:=vV_cells g2 x hx;omega,hx,hx'⟩))
  have hLL:(offs b sh st).length=(offs b' sh' st').length:=by rw [offs_length,offs_length,h3]
  have i1:inM (offs b sh st) mem.length:=fun i hi=>by have:=g3 _ (getD_mem hi);omega
  have i2:inM (offs b' sh' st') mem.length:=fun i hi=>by have:=k3 _ (getD_mem hi);omega
  have hm:=(vMem_spec.1 g1).2
  have s1:seeB (swL mem (offs b sh st) (offs b' sh' st')) b sh st=true:=sw_see (sw_see h1 (sw_takes hm)) (sw_takes hm)
  have s2:seeB (swL mem (offs b sh st) (offs b' sh' st')) b' sh' st'=true:=sw_see (sw_see h2 (sw_takes hm)) (sw_takes hm)
  refine ⟨sw_back i1 i2 n1 n2 hLL hd,?_,⟨h1,h2,s1,s2⟩,by unfold swL;rw [putL_length,putL_length]⟩
  unfold swB twoB
  rw [s1,s2,hD,hA,hA',decide_eq_true h3]
  rfl

end Go.Proofs.YtceopplkfomalaaGreat
