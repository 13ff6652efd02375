import Derived.Test.YtceopplkfomalaaGreatCKw7
import Derived.Test.YtceopplkfomalaaGreatCM1
import Derived.Test.YtceopplkfomalaaGreatCW3
set_option linter.unusedSimpArgs false
set_option linter.unusedVariables false
set_option maxRecDepth 4000
set_option maxHeartbeats 4000000
namespace Go.Proofs.YtceopplkfomalaaGreat
open VwM Vw Go

theorem sw_at {mem cells vals:List Int} (hm:inM cells mem.length) (h:cells.Nodup) {i:Nat} (hi:i < cells.length):(putL mem cells vals).getD (cells.getD i 0).toNat 0=vals.getD i 0:=by
  have:=hm i hi
  exact putK_in (by omega) rfl _ hi fun j h1 h2=>nodup_toNat hm h h2 hi (by omega)
theorem sw_back {mem L L':List Int} (h1:inM L mem.length) (h2:inM L' mem.length) (n1:L.Nodup) (n2:L'.Nodup) (hl:L.length=L'.length) (hd:∀ x ∈ L,x ∉ L') :
    takesL (swL mem L L') L=takesL mem L' ∧ takesL (swL mem L L') L'=takesL mem L ∧ swL (swL mem L L') L L'=mem:=by
  have hne:∀ i,i < L.length → ∀ j,j < L'.length → (L'.getD j 0).toNat ≠ (L.getD i 0).toNat:=fun i hi j hj e=>by
    have a:=h1 i hi
    have c:=h2 j hj
    have:L'.getD j 0=L.getD i 0:=by omega
    exact hd _ (getD_mem hi) (this ▸ getD_mem hj)
  have hlen:(swL mem L L').length=mem.length:=by unfold swL;rw [putL_length,putL_length]
  have t1:takesL (swL mem L L') L=takesL mem L':=by
    refine list_eq_of (by rw [takesL_length,takesL_length,hl]) fun i hi=>?_
    rw [takesL_length] at hi
    rw [takesL_getD hi]
    unfold swL
    conv=>lhs;unfold putL
    rw [putK_out _ fun j hj=>hne i hi j hj,← putL,sw_at h1 n1 hi]
  have t2:takesL (swL mem L L') L'=takesL mem L:=by
    unfold swL
    exact takes_put (by rw [putL_length];exact h2) n2 (by rw [takesL_length,hl])
  refine ⟨t1,t2,?_⟩
  unfold swL
  rw [show putL (putL mem L (takesL mem L')) L' (takesL mem L)=swL mem L L' from rfl,t1,t2]
  refine list_eq_of (by rw [putL_length,putL_length,hlen]) fun x hx=>?_
  rw [putL_length,putL_length,hlen] at hx
  by_cases e2:∃ j,j < L'.length ∧ (L'.getD j 0).toNat=x
  · obtain ⟨j,hj,rfl⟩:=e2
    rw [sw_at (by rw [putL_length,hlen];exact h2) n2 hj,takesL_getD hj]
  · have o2:∀ i,i < L'.length → (L'.getD i 0).toNat ≠ x:=fun i hi e=>e2 ⟨i,hi,e⟩
    conv=>lhs;unfold putL
    rw [putK_out _ o2,← putL]
    by_cases e1:∃ i,i < L.length ∧ (L.getD i 0).toNat=x
    · obtain ⟨i,hi,rfl⟩:=e1
      rw [sw_at (by rw [hlen];exact h1) n1 hi,takesL_getD hi]
    · have o1:∀ i,i < L.length → (L.getD i 0).toNat ≠ x:=fun i hi e=>e1 ⟨i,hi,e⟩
      conv=>lhs;unfold putL
      rw [putK_out _ o1]
      unfold swL
      conv=>lhs;unfold putL
      rw [putK_out _ o2]
      rw [putK_out _ o1]
theorem sw_all {mem:List Int} {b:Int} {sh st:List Int} {b':Int} {sh' st':List Int} (h:swB mem b sh st b' sh' st'=true) :
    (takesL (swL mem (offs b sh st) (offs b' sh' st')) (offs b sh st)=takesL mem (offs b' sh' st') ∧ takesL (swL mem (offs b sh st) (offs b' sh' st')) (offs b' sh' st')=takesL mem (offs b sh st) ∧ swL (swL mem (offs b sh st) (offs b' sh' st')) (offs b sh st) (offs b' sh' st')=mem) ∧
    swB (swL mem (offs b sh st) (offs b' sh' st')) b sh st b' sh' st'=true ∧
    (seeB mem b sh st=true ∧ seeB mem b' sh' st'=true ∧ seeB (swL mem (offs b sh st) (offs b' sh' st')) b sh st=true ∧ seeB (swL mem (offs b sh st) (offs b' sh' st')) b' sh' st'=true) ∧
    (swL mem (offs b sh st) (offs b' sh' st')).length=mem.length:=by
  have h0:=h
  simp only [swB,Bool.and_eq_true,Bool.not_eq_true'] at h
  obtain ⟨hT,hD,hA,hA'⟩:=h
  obtain ⟨h1,h2,h3⟩:=two_facts hT
  obtain ⟨g1,g2,g3⟩:=seeB_spec.1 h1
  obtain ⟨k1,k2,k3⟩:=seeB_spec.1 h2
  obtain ⟨⟨e1,-,-⟩,-⟩:=sw_facts hT
  rw [hD] at e1
  have hz:=of_decide_eq_false e1.symm
  have n1:(offs b sh st).Nodup:=by simp only [oneB,Bool.and_eq_true,decide_eq_true_eq] at hA;exact hA.2
  have n2:(offs b' sh' st').Nodup:=by simp only [oneB,Bool.and_eq_true,decide_eq_true_eq] at hA';exact hA'.2
  have hd:∀ x ∈ offs b sh st,x ∉ offs b' sh' st':=fun x hx hx'=>hz (List.length_pos_of_mem (mem_bothL.2 ⟨by have:=vV_cells g2 x hx;omega,hx,hx'⟩))
  have hLL:(offs b sh st).length=(offs b' sh' st').length:=by rw [offs_length,offs_length,h3]
  have i1:inM (offs b sh st) mem.length:=fun i hi=>by have:=g3 _ (getD_mem hi);omega
  have i2:inM (offs b' sh' st') mem.length:=fun i hi=>by have:=k3 _ (getD_mem hi);omega
  have hm:=(vMem_spec.1 g1).2
  have s1:seeB (swL mem (offs b sh st) (offs b' sh' st')) b sh st=true:=sw_see (sw_see h1 (sw_takes hm)) (sw_takes hm)
  have s2:seeB (swL mem (offs b sh st) (offs b' sh' st')) b' sh' st'=true:=sw_see (sw_see h2 (sw_takes hm)) (sw_takes hm)
  refine ⟨sw_back i1 i2 n1 n2 hLL hd,?_,⟨h1,h2,s1,s2⟩,by unfold swL;rw [putL_length,putL_length]⟩
  unfold swB twoB
  rw [s1,s2,hD,hA,hA',decide_eq_true h3]
  rfl


set_option maxHeartbeats 32000000 in
theorem drawSwb_ok (bs:List Int) (n:Nat) (hn:bs.length=n) (hb:n ≤ 1099511627776 ∧ ∀ x ∈ bs,0 ≤ x ∧ x ≤ 255):BCall Tryz.prog 18 [.rows false (UL bs) n] [] pairB:=by
  refine bcall_of (pins:=[]) (pin:=0) l18_eq rfl rfl rfl ?_
  unfold pairB
  (repeat' (first
 | (first|refine awp_seq ?_|refine awp_block ?_)
 | ((first|refine awp_reg ?_|refine awp_condB ?_|refine awp_skip ?_|refine awp_exit ?_);simp (disch:=omega) only [push_cast,seval,l18r0,l18r1,l18r2,l18r3,l18r4,l18r5,l18r6])
 | ((first|refine condB_split (fun h=>?_) (fun h=>?_)|refine gIf_split (fun h=>?_) (fun h=>?_)|refine qIf_split (fun h=>?_) (fun h=>?_))<;>(try simp only [h])<;>(try simp only [bitvec_to_nat] at h)<;>(try simp only [h])<;>(first|(exfalso;omega)|(focus (exfalso;simp_all;done))|(simp (disch:=omega) only [push_cast,seval])|skip))
 | ((first|((with_reducible refine callD_of (f:=21) true ?_);simp (disch:=omega) only [push_cast,seval];(refine call0D (newReader_ok _ _ ?_ ?_) ?_;(iterate 2 (exact sd));rintro _ _ ⟨bs0,hbs0,rfl,rfl⟩))|((with_reducible refine callD_ids (f:=44) [144] true ?_);simp (disch:=omega) only [push_cast,seval];(refine call1D (id:=144) (pick_ok _ _ _ ?_ ?_) (by first|((simp (disch:=omega) only [push_cast,seval]);done)|((simp (disch:=omega) only [push_cast,seval]);rfl)) ?_;(iterate 2 (exact sd));rintro _ _ ⟨x,hx0,hx1,rfl,rfl⟩))|((with_reducible refine qcallI_of (f:=44) [144] true ?_);simp (disch:=omega) only [push_cast,seval];(refine qcall1D (id:=144) (pick_ok _ _ _ ?_ ?_) (by first|((simp (disch:=omega) only [push_cast,seval]);done)|((simp (disch:=omega) only [push_cast,seval]);rfl)) (by decide) ⟨_,_,0,by omega,Or.inr (Or.inr rfl),rfl,rfl⟩ ?_;(iterate 2 (exact sd));rintro _ _ ⟨x,hx0,hx1,rfl,rfl⟩))|((with_reducible refine callD_ids (f:=45) [144] true ?_);simp (disch:=omega) only [push_cast,seval];(refine call1D (id:=144) (someMem_ok _ _ ?_ ?_) (by first|((simp (disch:=omega) only [push_cast,seval]);done)|((simp (disch:=omega) only [push_cast,seval]);rfl)) ?_;(iterate 2 (exact sd));rintro _ _ ⟨xs,q,⟨hxs,hxl⟩,hq,rfl,rfl⟩))|((with_reducible refine callD_ids (f:=37) (args:=[Operand.tmp 15,Operand.tmp 16]) [144,256] true ?_);simp (disch:=omega) only [push_cast,seval];(refine call2D (id:=144) (id':=256) (by decide) (one_ok _ _ _ _ ?_ ?_ ?_ ?_ ?_) (by first|((simp (disch:=omega) only [push_cast,seval]);done)|((simp (disch:=omega) only [push_cast,seval]);rfl)) (by first|((simp (disch:=omega) only [push_cast,seval]);done)|((simp (disch:=omega) only [push_cast,seval]);rfl)) ?_;(iterate 5 (exact sd));rintro _ _ ⟨x,hx,hx0,rfl,rfl⟩))|((with_reducible refine callD_ids (f:=37) (args:=[Operand.tmp 23,Operand.tmp 24]) [144,384] true ?_);simp (disch:=omega) only [push_cast,seval];(refine call2D (id:=144) (id':=384) (by decide) (one_ok _ _ _ _ ?_ ?_ ?_ ?_ ?_) (by first|((simp (disch:=omega) only [push_cast,seval]);done)|((simp (disch:=omega) only [push_cast,seval]);rfl)) (by first|((simp (disch:=omega) only [push_cast,seval]);done)|((simp (disch:=omega) only [push_cast,seval]);rfl)) ?_;(iterate 5 (exact sd));rintro _ _ ⟨x,hx,hx0,rfl,rfl⟩))|((with_reducible refine callD_ids (f:=37) (args:=[Operand.tmp 28,Operand.tmp 29]) [144,464] true ?_);simp (disch:=omega) only [push_cast,seval];(refine call2D (id:=144) (id':=464) (by decide) (one_ok _ _ _ _ ?_ ?_ ?_ ?_ ?_) (by first|((simp (disch:=omega) only [push_cast,seval]);done)|((simp (disch:=omega) only [push_cast,seval]);rfl)) (by first|((simp (disch:=omega) only [push_cast,seval]);done)|((simp (disch:=omega) only [push_cast,seval]);rfl)) ?_;(iterate 5 (exact sd));rintro _ _ ⟨x,hx,hx0,rfl,rfl⟩))|((with_reducible refine callD_ids (f:=37) [144] true ?_);simp (disch:=omega) only [push_cast,seval];(refine call1D (id:=144) (oneR_ok _ _ _ _ ?_ ?_ ?_ ?_ ?_) (by first|((simp (disch:=omega) only [push_cast,seval]);done)|((simp (disch:=omega) only [push_cast,seval]);rfl)) ?_;(iterate 5 (exact sd));rintro _ _ ⟨x,hx,hx0,rfl,rfl⟩))|((with_reducible refine qcallI_of (f:=37) [144] true ?_);simp (disch:=omega) only [push_cast,seval];(refine qcall1D (id:=144) (oneR_ok _ _ _ _ ?_ ?_ ?_ ?_ ?_) (by first|((simp (disch:=omega) only [push_cast,seval]);done)|((simp (disch:=omega) only [push_cast,seval]);rfl)) (by decide) (by simp only [unI_cons,unI_nil];exact ⟨_,_,_,List.mem_cons_self,by omega,rfl,rfl⟩) ?_;(iterate 5 (exact sd));rintro _ _ ⟨x,hx,hx0,rfl,rfl⟩))|((with_reducible refine callD_ids (f:=46) [144] true ?_);simp (disch:=omega) only [push_cast,seval];(refine call1D (id:=144) (memPair_ok _ _ ?_ ?_) (by first|((simp (disch:=omega) only [push_cast,seval]);done)|((simp (disch:=omega) only [push_cast,seval]);rfl)) ?_;(iterate 2 (exact sd));rintro _ _ ⟨mem,b,sh,st,b',sh',st',q,⟨hm1,hm2,hc1,hc2,hc3,hc4⟩,hq,(⟨rfl,rfl⟩|⟨rfl,rfl⟩)⟩)))<;>(try simp (disch:=omega) only [push_cast,seval]))))
  all_goals first
    | ((refine awp_ret ⟨.inr rfl,[544,545,546,547,548],[],_,by decide,rfl,?_⟩;(try simp (disch:=omega) only [push_cast,seval,↓allMem_nil,↓allMem_cons,↓List.map_cons,↓List.map_nil]));exact ⟨_,_,_,_,_,_,_,⟨by assumption,by assumption,by omega,by omega,by omega,by omega⟩,.inl ⟨rfl,rfl⟩⟩)
    | ((refine awp_ret ⟨.inr rfl,[544,545,546],[],_,by decide,rfl,?_⟩;(try simp (disch:=omega) only [push_cast,seval,↓allMem_nil,↓allMem_cons,↓List.map_cons,↓List.map_nil]));exact ⟨_,_,_,_,_,_,_,⟨by assumption,by assumption,by omega,by omega,by omega,by omega⟩,.inr ⟨rfl,rfl⟩⟩)
    | ((refine awp_ret ⟨.inr rfl,[224,320,336,432,496],[],_,by decide,rfl,?_⟩;(try simp (disch:=omega) only [push_cast,seval,↓allMem_nil,↓allMem_cons,↓List.map_cons,↓List.map_nil]));exact ⟨_,_,[_],[_],_,[_],[_],⟨by omega,by omega,by simp,by simp,by simp,by simp⟩,.inl ⟨rfl,rfl⟩⟩)
theorem drawSw_ok (bs:List Int) (n:Nat) (hn:bs.length=n) (hb:n ≤ 1099511627776 ∧ ∀ x ∈ bs,0 ≤ x ∧ x ≤ 255):PCall Tryz.prog 18 [.rows false (UL bs) n] pairP:=pair_plain (drawSwb_ok bs n hn hb)


set_option maxHeartbeats 32000000 in
theorem lFnSw_ok (bs:List Int) (hl:bs.length ≤ 9223372036854775807) (hb:∀ x ∈ bs,0 ≤ x ∧ x ≤ 255):PCall Tryz.prog 5 [.rows false (UL bs) bs.length] (fun r=>r=.bool true):=by
  refine pcall_of l5_eq rfl ?_
  by_cases h:bs.length ≤ 1048576
  · have q:bs.length ≤ 1099511627776 ∧ ∀ x ∈ bs,0 ≤ x ∧ x ≤ 255:=⟨by omega,hb⟩
    (repeat' (first
 | (refine awp_joinL (c1:=.reg l5r3) (fun x:List Int × Int × List Int × List Int × Int × List Int × List Int=>mkS [(3,.rows true (IL x.1) x.1.length),(4,.ref 64 3 0),(5,.ref 80 3 0)] [(64,[.int .i64 x.2.1,.rows true (IL x.2.2.1) x.2.2.1.length,.rows true (IL x.2.2.2.1) x.2.2.2.1.length]),(80,[.int .i64 x.2.2.2.2.1,.rows true (IL x.2.2.2.2.2.1) x.2.2.2.2.2.1.length,.rows true (IL x.2.2.2.2.2.2) x.2.2.2.2.2.2.length])]) (fun x=>1 ≤ x.1.length ∧ x.1.length ≤ 60 ∧ x.2.2.1.length ≤ 5 ∧ x.2.2.2.1.length ≤ 5 ∧ x.2.2.2.2.2.1.length ≤ 5 ∧ x.2.2.2.2.2.2.length ≤ 5) ?_ ?_)
 | (first|refine awp_seq ?_|refine awp_block ?_)
 | ((first|refine awp_reg ?_|refine awp_draw (mid:=l5r9a) (post:=l5r9b) mixed (by decide) ?_|refine awp_condB ?_|refine awp_skip ?_|refine awp_exit ?_);simp (disch:=omega) only [push_cast,seval,l5r0,l5r1,l5r2,l5r3,l5r4,l5r5,l5r6,l5r7,l5r8,l5r9a,l5r9b,l5r9])
 | ((first|refine condB_split (fun h=>?_) (fun h=>?_)|refine gIf_split (fun h=>?_) (fun h=>?_)|refine qIf_split (fun h=>?_) (fun h=>?_))<;>(try simp only [h])<;>(try simp only [bitvec_to_nat] at h)<;>(try simp only [h])<;>(first|(exfalso;omega)|(focus (exfalso;simp_all;done))|(simp (disch:=omega) only [push_cast,seval])|skip))
 | ((first|refine callD_of false ?_|refine qcallD_of false ?_);simp (disch:=omega) only [push_cast,seval])
 | ((first|(refine call0D (BCall.ofP (drawSw_ok _ _ ?_ ?_)) ?_;(iterate 2 (exact sd));rintro _ _ ⟨⟨mem,b,sh,st,b',sh',st',_,_,_,_,_,⟨rfl,rfl,rfl,rfl,rfl,hm1,hm2,hc1,hc2,hc3,hc4⟩,rfl⟩,rfl⟩)|((first|refine call0D (iSw_ok _ _ _ _ _ _ _ _ _ _ _ _ ?_ ?_ ?_ ?_ ?_ ?_) ?_|refine qcall0D (iSw_ok _ _ _ _ _ _ _ _ _ _ _ _ ?_ ?_ ?_ ?_ ?_ ?_) ⟨_,_,rfl,rfl⟩ ?_);(iterate 6 (exact sd));rintro _ _ ⟨rfl,rfl⟩)|((first|refine call0D (sSw_ok _ _ _ _ _ _ _ _ _ _ _ _ ?_ ?_ ?_ ?_ ?_ ?_) ?_|refine qcall0D (sSw_ok _ _ _ _ _ _ _ _ _ _ _ _ ?_ ?_ ?_ ?_ ?_ ?_) ⟨_,_,rfl,rfl⟩ ?_);(iterate 6 (exact sd));rintro _ _ ⟨rfl,rfl⟩)|((first|refine call0D (BCall.ofP (equalInts_ok _ _ _ _ ?_ ?_ ?_)) ?_|refine qcall0D (BCall.ofP (equalInts_ok _ _ _ _ ?_ ?_ ?_)) ⟨_,_,rfl,rfl⟩ ?_);(iterate 3 (exact sd));rintro _ _ ⟨rfl,rfl⟩)|((first|refine call0D (iLoad_ok _ _ _ _ _ _ _ ?_ ?_ ?_ ?_) ?_|refine qcall0D (iLoad_ok _ _ _ _ _ _ _ ?_ ?_ ?_ ?_) ⟨_,_,rfl,rfl⟩ ?_);(iterate 4 (exact sd));rintro _ _ ⟨rfl,rfl⟩))<;>(try simp (disch:=omega) only [push_cast,seval]))
 | (refine awp_ret ⟨.inr rfl,_,rfl,?_⟩;(try simp (disch:=omega) only [push_cast,seval]))))
    · (refine exSub7 (Sub.of_eqs rfl rfl ?_ ?_ ?_) ?_;(focus (simp [Vw.mkS,Vw.lk,Vw.hk,AV.inn,innL,innL_ints,innL_append,innL_rep,-List.map_set,-List.getD_eq_getElem?_getD,innL_ints];done));(focus (simp [AV.inn,innL,Vw.hk,innL_ints];done));(focus (simp [AV.inn,innL,innL_ints,innL_append,innL_rep,Vw.hk,innL_ints];done));(try simp only);(first|omega|(refine ⟨?_,?_⟩<;>first|assumption|omega)|(refine ⟨?_,?_,?_⟩<;>first|assumption|omega)|(refine ⟨?_,?_,?_,?_⟩<;>first|assumption|omega)))
    · refine ⟨?_⟩
      rintro ⟨mem,b,sh,st,b',sh',st'⟩ ⟨hm1,hm2,hc1,hc2,hc3,hc4⟩
      try simp only at hm1 hm2 hc1 hc2 hc3 hc4 ⊢
      have hq:(mem.length ≤ 1099511627776 ∧ sh.length ≤ 1099511627776 ∧ st.length ≤ 1099511627776) ∧ sh'.length ≤ 1099511627776 ∧ st'.length ≤ 1099511627776:=by omega
      have hq2:mem.length ≤ 1099511627776 ∧ sh.length ≤ 1099511627776 ∧ st.length ≤ 1099511627776:=by omega
      have hq3:mem.length ≤ 1099511627776 ∧ sh'.length ≤ 1099511627776 ∧ st'.length ≤ 1099511627776:=by omega
      cases hT:swB mem b sh st b' sh' st' with
 | false =>
        have hQl:(MVL false (swL mem (offs b sh st) (offs b' sh' st'))).length=0:=rfl
        generalize hQ:MVL false (swL mem (offs b sh st) (offs b' sh' st'))=Q at *
        have hQ2:Q.length ≤ 1099511627776 ∧ Q.length ≤ 1099511627776:=by omega
        (repeat' (first
 | (first|refine awp_seq ?_|refine awp_block ?_)
 | ((first|refine awp_reg ?_|refine awp_draw (mid:=l5r9a) (post:=l5r9b) mixed (by decide) ?_|refine awp_condB ?_|refine awp_skip ?_|refine awp_exit ?_);simp (disch:=omega) only [push_cast,seval,l5r0,l5r1,l5r2,l5r3,l5r4,l5r5,l5r6,l5r7,l5r8,l5r9a,l5r9b,l5r9,hT,hQ,decide_true])
 | ((first|refine condB_split (fun h=>?_) (fun h=>?_)|refine gIf_split (fun h=>?_) (fun h=>?_)|refine qIf_split (fun h=>?_) (fun h=>?_))<;>(try simp only [h])<;>(try simp only [bitvec_to_nat] at h)<;>(try simp only [h])<;>(first|(exfalso;omega)|(focus (exfalso;simp_all;done))|(simp (disch:=omega) only [push_cast,seval,hT,hQ,decide_true])|skip))
 | ((first|refine callD_of false ?_|refine qcallD_of false ?_);simp (disch:=omega) only [push_cast,seval,hT,hQ,decide_true])
 | ((first|(refine call0D (BCall.ofP (drawSw_ok _ _ ?_ ?_)) ?_;(iterate 2 (exact sd));rintro _ _ ⟨⟨mem,b,sh,st,b',sh',st',_,_,_,_,_,⟨rfl,rfl,rfl,rfl,rfl,hm1,hm2,hc1,hc2,hc3,hc4⟩,rfl⟩,rfl⟩)|((first|refine call0D (iSw_ok _ _ _ _ _ _ _ _ _ _ _ _ ?_ ?_ ?_ ?_ ?_ ?_) ?_|refine qcall0D (iSw_ok _ _ _ _ _ _ _ _ _ _ _ _ ?_ ?_ ?_ ?_ ?_ ?_) ⟨_,_,rfl,rfl⟩ ?_);(iterate 6 (exact sd));rintro _ _ ⟨rfl,rfl⟩)|((first|refine call0D (sSw_ok _ _ _ _ _ _ _ _ _ _ _ _ ?_ ?_ ?_ ?_ ?_ ?_) ?_|refine qcall0D (sSw_ok _ _ _ _ _ _ _ _ _ _ _ _ ?_ ?_ ?_ ?_ ?_ ?_) ⟨_,_,rfl,rfl⟩ ?_);(iterate 6 (exact sd));rintro _ _ ⟨rfl,rfl⟩)|((first|refine call0D (BCall.ofP (equalInts_ok _ _ _ _ ?_ ?_ ?_)) ?_|refine qcall0D (BCall.ofP (equalInts_ok _ _ _ _ ?_ ?_ ?_)) ⟨_,_,rfl,rfl⟩ ?_);(iterate 3 (exact sd));rintro _ _ ⟨rfl,rfl⟩)|((first|refine call0D (iLoad_ok _ _ _ _ _ _ _ ?_ ?_ ?_ ?_) ?_|refine qcall0D (iLoad_ok _ _ _ _ _ _ _ ?_ ?_ ?_ ?_) ⟨_,_,rfl,rfl⟩ ?_);(iterate 4 (exact sd));rintro _ _ ⟨rfl,rfl⟩))<;>(try simp (disch:=omega) only [push_cast,seval,hT,hQ,decide_true]))
 | (refine awp_ret ⟨.inr rfl,_,rfl,?_⟩;(try simp (disch:=omega) only [push_cast,seval,hT,hQ,decide_true]))))
        all_goals (try simp)
 | true =>
        obtain ⟨⟨t1,t2,t3⟩,hT2,⟨s1,s2,s3,s4⟩,hFl⟩:=sw_all hT
        have l1:=takesL_length mem (offs b sh st)
        have l2:=takesL_length mem (offs b' sh' st')
        have o1:=offs_length b sh st
        have o2:=offs_length b' sh' st'
        have p1:=(see_facts s1).1.1.2
        have p2:=(see_facts s2).1.1.2
        generalize hL:offs b sh st=L at *
        generalize hL':offs b' sh' st'=L' at *
        generalize hX:takesL mem L'=X at *
        generalize hY:takesL mem L=Y at *
        generalize hF:swL mem L L'=F at *
        have hF2:F.length ≤ 1099511627776 ∧ F.length ≤ 1099511627776:=by omega
        have hm3:mem.length ≤ 1099511627776 ∧ mem.length ≤ 1099511627776:=by omega
        have hqF:(F.length ≤ 1099511627776 ∧ sh.length ≤ 1099511627776 ∧ st.length ≤ 1099511627776) ∧ sh'.length ≤ 1099511627776 ∧ st'.length ≤ 1099511627776:=by omega
        have hqF2:F.length ≤ 1099511627776 ∧ sh.length ≤ 1099511627776 ∧ st.length ≤ 1099511627776:=by omega
        have hqF3:F.length ≤ 1099511627776 ∧ sh'.length ≤ 1099511627776 ∧ st'.length ≤ 1099511627776:=by omega
        have hX2:X.length ≤ 1099511627776 ∧ X.length ≤ 1099511627776:=by omega
        have hY2:Y.length ≤ 1099511627776 ∧ Y.length ≤ 1099511627776:=by omega
        (repeat' (first
 | (first|refine awp_seq ?_|refine awp_block ?_)
 | ((first|refine awp_reg ?_|refine awp_draw (mid:=l5r9a) (post:=l5r9b) mixed (by decide) ?_|refine awp_condB ?_|refine awp_skip ?_|refine awp_exit ?_);simp (disch:=omega) only [push_cast,seval,l5r0,l5r1,l5r2,l5r3,l5r4,l5r5,l5r6,l5r7,l5r8,l5r9a,l5r9b,l5r9,hT,hT2,MVL_true,hL,hL',hX,hY,hF,t1,t2,t3,s1,s2,s3,s4,decide_true])
 | ((first|refine condB_split (fun h=>?_) (fun h=>?_)|refine gIf_split (fun h=>?_) (fun h=>?_)|refine qIf_split (fun h=>?_) (fun h=>?_))<;>(try simp only [h])<;>(try simp only [bitvec_to_nat] at h)<;>(try simp only [h])<;>(first|(exfalso;omega)|(focus (exfalso;simp_all;done))|(simp (disch:=omega) only [push_cast,seval,hT,hT2,MVL_true,hL,hL',hX,hY,hF,t1,t2,t3,s1,s2,s3,s4,decide_true])|skip))
 | ((first|refine callD_of false ?_|refine qcallD_of false ?_);simp (disch:=omega) only [push_cast,seval,hT,hT2,MVL_true,hL,hL',hX,hY,hF,t1,t2,t3,s1,s2,s3,s4,decide_true])
 | ((first|(refine call0D (BCall.ofP (drawSw_ok _ _ ?_ ?_)) ?_;(iterate 2 (exact sd));rintro _ _ ⟨⟨mem,b,sh,st,b',sh',st',_,_,_,_,_,⟨rfl,rfl,rfl,rfl,rfl,hm1,hm2,hc1,hc2,hc3,hc4⟩,rfl⟩,rfl⟩)|((first|refine call0D (iSw_ok _ _ _ _ _ _ _ _ _ _ _ _ ?_ ?_ ?_ ?_ ?_ ?_) ?_|refine qcall0D (iSw_ok _ _ _ _ _ _ _ _ _ _ _ _ ?_ ?_ ?_ ?_ ?_ ?_) ⟨_,_,rfl,rfl⟩ ?_);(iterate 6 (exact sd));rintro _ _ ⟨rfl,rfl⟩)|((first|refine call0D (sSw_ok _ _ _ _ _ _ _ _ _ _ _ _ ?_ ?_ ?_ ?_ ?_ ?_) ?_|refine qcall0D (sSw_ok _ _ _ _ _ _ _ _ _ _ _ _ ?_ ?_ ?_ ?_ ?_ ?_) ⟨_,_,rfl,rfl⟩ ?_);(iterate 6 (exact sd));rintro _ _ ⟨rfl,rfl⟩)|((first|refine call0D (BCall.ofP (equalInts_ok _ _ _ _ ?_ ?_ ?_)) ?_|refine qcall0D (BCall.ofP (equalInts_ok _ _ _ _ ?_ ?_ ?_)) ⟨_,_,rfl,rfl⟩ ?_);(iterate 3 (exact sd));rintro _ _ ⟨rfl,rfl⟩)|((first|refine call0D (iLoad_ok _ _ _ _ _ _ _ ?_ ?_ ?_ ?_) ?_|refine qcall0D (BCall.ofP (plainI (iLoad_ok _ _ _ _ _ _ _ ?_ ?_ ?_ ?_))) ⟨_,_,rfl,rfl⟩ ?_);(iterate 4 (exact sd));rintro _ _ ⟨rfl,rfl⟩))<;>(try simp (disch:=omega) only [push_cast,seval,hT,hT2,MVL_true,hL,hL',hX,hY,hF,t1,t2,t3,s1,s2,s3,s4,decide_true]))
 | (refine awp_ret ⟨.inr rfl,_,rfl,?_⟩;(try simp (disch:=omega) only [push_cast,seval,hT,hT2,MVL_true,hL,hL',hX,hY,hF,t1,t2,t3,s1,s2,s3,s4,decide_true]))))
        all_goals (try simp)
  · (repeat' (first
 | (first|refine awp_seq ?_|refine awp_block ?_)
 | ((first|refine awp_reg ?_|refine awp_draw (mid:=l5r9a) (post:=l5r9b) mixed (by decide) ?_|refine awp_condB ?_|refine awp_skip ?_|refine awp_exit ?_);simp (disch:=omega) only [push_cast,seval,l5r0,l5r1,l5r2,l5r3,l5r4,l5r5,l5r6,l5r7,l5r8,l5r9a,l5r9b,l5r9])
 | ((first|refine condB_split (fun h=>?_) (fun h=>?_)|refine gIf_split (fun h=>?_) (fun h=>?_)|refine qIf_split (fun h=>?_) (fun h=>?_))<;>(try simp only [h])<;>(try simp only [bitvec_to_nat] at h)<;>(try simp only [h])<;>(first|(exfalso;omega)|(focus (exfalso;simp_all;done))|(simp (disch:=omega) only [push_cast,seval])|skip))
 | ((first|refine callD_of false ?_|refine qcallD_of false ?_);simp (disch:=omega) only [push_cast,seval])
 | ((first|(refine call0D (BCall.ofP (drawSw_ok _ _ ?_ ?_)) ?_;(iterate 2 (exact sd));rintro _ _ ⟨⟨mem,b,sh,st,b',sh',st',_,_,_,_,_,⟨rfl,rfl,rfl,rfl,rfl,hm1,hm2,hc1,hc2,hc3,hc4⟩,rfl⟩,rfl⟩)|((first|refine call0D (iSw_ok _ _ _ _ _ _ _ _ _ _ _ _ ?_ ?_ ?_ ?_ ?_ ?_) ?_|refine qcall0D (iSw_ok _ _ _ _ _ _ _ _ _ _ _ _ ?_ ?_ ?_ ?_ ?_ ?_) ⟨_,_,rfl,rfl⟩ ?_);(iterate 6 (exact sd));rintro _ _ ⟨rfl,rfl⟩)|((first|refine call0D (sSw_ok _ _ _ _ _ _ _ _ _ _ _ _ ?_ ?_ ?_ ?_ ?_ ?_) ?_|refine qcall0D (sSw_ok _ _ _ _ _ _ _ _ _ _ _ _ ?_ ?_ ?_ ?_ ?_ ?_) ⟨_,_,rfl,rfl⟩ ?_);(iterate 6 (exact sd));rintro _ _ ⟨rfl,rfl⟩)|((first|refine call0D (BCall.ofP (equalInts_ok _ _ _ _ ?_ ?_ ?_)) ?_|refine qcall0D (BCall.ofP (equalInts_ok _ _ _ _ ?_ ?_ ?_)) ⟨_,_,rfl,rfl⟩ ?_);(iterate 3 (exact sd));rintro _ _ ⟨rfl,rfl⟩)|((first|refine call0D (iLoad_ok _ _ _ _ _ _ _ ?_ ?_ ?_ ?_) ?_|refine qcall0D (iLoad_ok _ _ _ _ _ _ _ ?_ ?_ ?_ ?_) ⟨_,_,rfl,rfl⟩ ?_);(iterate 4 (exact sd));rintro _ _ ⟨rfl,rfl⟩))<;>(try simp (disch:=omega) only [push_cast,seval]))
 | (refine awp_ret ⟨.inr rfl,_,rfl,?_⟩;(try simp (disch:=omega) only [push_cast,seval]))))

end Go.Proofs.YtceopplkfomalaaGreat
