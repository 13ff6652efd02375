import Derived.Test.YtfphjgmkpgoomaaGreatCKj6
import Derived.Test.YtfphjgmkpgoomaaGreatCM1
import Derived.Test.YtfphjgmkpgoomaaGreatCW3
set_option linter.unusedSimpArgs false
set_option linter.unusedVariables false
set_option maxRecDepth 4000
set_option maxHeartbeats 4000000
namespace Go.Proofs.YtfphjgmkpgoomaaGreat
open VwM Vw Go

theorem cf_getD {mem:List Int} (hm:∀ x ∈ mem,0 ≤ x ∧ x ≤ 255) (j:Nat):0 ≤ mem.getD j 0 ∧ mem.getD j 0 ≤ 255:=by
  by_cases hl:j < mem.length
  · exact hm _ (getD_mem hl)
  · rw [List.getD,List.getElem?_eq_none (Nat.le_of_not_lt hl)];simp
theorem carK_byte {mem to fr:List Int} (hm:∀ x ∈ mem,0 ≤ x ∧ x ≤ 255):∀ k,∀ x ∈ carK mem to fr k,0 ≤ x ∧ x ≤ 255
  | 0,x,hx=>hm x hx
  | k + 1,x,hx=>by
    simp only [carK] at hx
    rcases List.mem_or_eq_of_mem_set hx with h1|h1
    · exact carK_byte hm k x h1
    · subst h1;exact cf_getD (carK_byte hm k) _
theorem chK_diff {a b:List Int} {x:Int}:∀ {k},x ∈ chK a b k → (0 ≤ x ∧ x < k) ∧ a.getD x.toNat 0 ≠ b.getD x.toNat 0
  | 0,h=>by simp [chK] at h
  | k + 1,h=>by
    simp only [chK] at h
    split at h
    · have:=chK_diff (k:=k) h
      exact ⟨by omega,this.2⟩
    · rename_i hne
      rcases List.mem_append.1 h with h1|h1
      · have:=chK_diff (k:=k) h1
        exact ⟨by omega,this.2⟩
      · rw [List.mem_singleton] at h1
        subst h1
        exact ⟨by omega,by simpa using hne⟩
theorem car_changed {mem to fr:List Int} (ht:∀ x ∈ to,0 ≤ x ∧ x ≤ 59) (hl:to.length=fr.length):∀ x ∈ chL mem (carL mem to fr),x ∈ bothL to to:=by
  intro x hx
  obtain ⟨h1,h2⟩:=chK_diff hx
  refine Classical.byContradiction fun hn=>h2 ?_
  unfold carL
  rw [carK_out fr.length]
  intro i hi he
  have hm:to.getD i 0 ∈ to:=getD_mem (by omega)
  have:=ht _ hm
  have hxe:to.getD i 0=x:=by omega
  rw [hxe] at hm
  exact hn (mem_bothL.2 ⟨ht x hm,hm,hm⟩)


set_option maxHeartbeats 32000000 in
theorem lFnCF_ok (bs:List Int) (hl:bs.length ≤ 9223372036854775807) (hb:∀ x ∈ bs,0 ≤ x ∧ x ≤ 255):PCall Tryz.prog 6 [.rows false (UL bs) bs.length] (fun r=>r=.bool true):=by
  refine pcall_of l6_eq rfl ?_
  by_cases h:bs.length ≤ 1048576
  · have q:bs.length ≤ 1099511627776 ∧ ∀ x ∈ bs,0 ≤ x ∧ x ≤ 255:=⟨by omega,hb⟩
    (repeat' (first
 | (refine awp_joinL (c1:=.reg l6r3) (fun x:List Int × Int × List Int × List Int × Int × List Int × List Int=>mkS [(3,.rows true (IL x.1) x.1.length),(4,.ref 64 3 0),(5,.ref 80 3 0)] [(64,[.int .i64 x.2.1,.rows true (IL x.2.2.1) x.2.2.1.length,.rows true (IL x.2.2.2.1) x.2.2.2.1.length]),(80,[.int .i64 x.2.2.2.2.1,.rows true (IL x.2.2.2.2.2.1) x.2.2.2.2.2.1.length,.rows true (IL x.2.2.2.2.2.2) x.2.2.2.2.2.2.length])]) (fun x=>1 ≤ x.1.length ∧ x.1.length ≤ 60 ∧ x.2.2.1.length ≤ 5 ∧ x.2.2.2.1.length ≤ 5 ∧ x.2.2.2.2.2.1.length ≤ 5 ∧ x.2.2.2.2.2.2.length ≤ 5) ?_ ?_)
 | (first|refine awp_seq ?_|refine awp_block ?_)
 | ((first|refine awp_reg ?_|refine awp_draw (mid:=l6r9a) (post:=l6r9b) mixed (by decide) ?_|refine awp_condB ?_|refine awp_skip ?_|refine awp_exit ?_);simp (disch:=omega) only [push_cast,seval,l6r0,l6r1,l6r2,l6r3,l6r4,l6r5,l6r6,l6r7,l6r8,l6r9a,l6r9b,l6r9])
 | ((first|refine condB_split (fun h=>?_) (fun h=>?_)|refine gIf_split (fun h=>?_) (fun h=>?_)|refine qIf_split (fun h=>?_) (fun h=>?_))<;>(try simp only [h])<;>(try simp only [bitvec_to_nat] at h)<;>(try simp only [h])<;>(first|(exfalso;omega)|(focus (exfalso;simp_all;done))|(simp (disch:=omega) only [push_cast,seval])|skip))
 | ((first|refine callD_of false ?_|refine qcallD_of false ?_);simp (disch:=omega) only [push_cast,seval])
 | ((first|(refine call0D (BCall.ofP (drawCF_ok _ _ ?_ ?_)) ?_;(iterate 2 (exact sd));rintro _ _ ⟨⟨mem,b,sh,st,b',sh',st',_,_,_,_,_,⟨rfl,rfl,rfl,rfl,rfl,hm1,hm2,hc1,hc2,hc3,hc4⟩,rfl⟩,rfl⟩)|((first|refine call0D (iCopyF_ok _ _ _ _ _ _ _ _ _ _ _ _ ?_ ?_ ?_ ?_ ?_ ?_) ?_|refine qcall0D (iCopyF_ok _ _ _ _ _ _ _ _ _ _ _ _ ?_ ?_ ?_ ?_ ?_ ?_) ⟨_,_,rfl,rfl⟩ ?_);(iterate 6 (exact sd));rintro _ _ ⟨rfl,rfl⟩)|((first|refine call0D (sCopyF_ok _ _ _ _ _ _ _ _ _ _ _ _ ?_ ?_ ?_ ?_ ?_ ?_) ?_|refine qcall0D (sCopyF_ok _ _ _ _ _ _ _ _ _ _ _ _ ?_ ?_ ?_ ?_ ?_ ?_) ⟨_,_,rfl,rfl⟩ ?_);(iterate 6 (exact sd));rintro _ _ ⟨rfl,rfl⟩)|((first|refine call0D (BCall.ofP (equalInts_ok _ _ _ _ ?_ ?_ ?_)) ?_|refine qcall0D (BCall.ofP (equalInts_ok _ _ _ _ ?_ ?_ ?_)) ⟨_,_,rfl,rfl⟩ ?_);(iterate 3 (exact sd));rintro _ _ ⟨rfl,rfl⟩)|((first|refine call0D (iCopy_ok _ _ _ _ _ _ _ _ _ _ _ _ ?_ ?_ ?_ ?_ ?_ ?_) ?_|refine qcall0D (iCopy_ok _ _ _ _ _ _ _ _ _ _ _ _ ?_ ?_ ?_ ?_ ?_ ?_) ⟨_,_,rfl,rfl⟩ ?_);(iterate 6 (exact sd));rintro _ _ ⟨rfl,rfl⟩)|((first|refine call0D (BCall.ofP (iWayOf_ok _ _ _ _ _ _ _ _ _ _ ?_ ?_ ?_ ?_ ?_)) ?_|refine qcall0D (BCall.ofP (iWayOf_ok _ _ _ _ _ _ _ _ _ _ ?_ ?_ ?_ ?_ ?_)) ⟨_,_,rfl,rfl⟩ ?_);(iterate 5 (exact sd));rintro _ _ ⟨rfl,rfl⟩)|((first|refine call0D (iCh_ok _ _ _ _ ?_ ?_ ?_) ?_|refine qcall0D (iCh_ok _ _ _ _ ?_ ?_ ?_) ⟨_,_,rfl,rfl⟩ ?_);(iterate 3 (exact sd));rintro _ _ ⟨rfl,rfl⟩)|((first|refine call0D (iCe_ok _ _ _ _ _ ?_ ?_ ?_) ?_|refine qcall0D (iCe_ok _ _ _ _ _ ?_ ?_ ?_) ⟨_,_,rfl,rfl⟩ ?_);(iterate 3 (exact sd));rintro _ _ ⟨rfl,rfl⟩)|((first|refine call0D (BCall.ofP (lwithin_ok _ _ _ _ ?_ ?_ ?_)) ?_|refine qcall0D (BCall.ofP (lwithin_ok _ _ _ _ ?_ ?_ ?_)) ⟨_,_,rfl,rfl⟩ ?_);(iterate 3 (exact sd));rintro _ _ ⟨rfl,rfl⟩))<;>(try simp (disch:=omega) only [push_cast,seval]))
 | (refine awp_ret ⟨.inr rfl,_,rfl,?_⟩;(try simp (disch:=omega) only [push_cast,seval]))))
    · (refine exSub7 (Sub.of_eqs rfl rfl ?_ ?_ ?_) ?_;(focus (simp [Vw.mkS,Vw.lk,Vw.hk,AV.inn,innL,innL_ints,innL_append,innL_rep,-List.map_set,-List.getD_eq_getElem?_getD,innL_ints];done));(focus (simp [AV.inn,innL,Vw.hk,innL_ints];done));(focus (simp [AV.inn,innL,innL_ints,innL_append,innL_rep,Vw.hk,innL_ints];done));(try simp only);(first|omega|(refine ⟨?_,?_⟩<;>first|assumption|omega)|(refine ⟨?_,?_,?_⟩<;>first|assumption|omega)|(refine ⟨?_,?_,?_,?_⟩<;>first|assumption|omega)))
    · refine ⟨?_⟩
      rintro ⟨mem,b,sh,st,b',sh',st'⟩ ⟨hm1,hm2,hc1,hc2,hc3,hc4⟩
      try simp only at hm1 hm2 hc1 hc2 hc3 hc4 ⊢
      have hq:(mem.length ≤ 1099511627776 ∧ sh.length ≤ 1099511627776 ∧ st.length ≤ 1099511627776) ∧ sh'.length ≤ 1099511627776 ∧ st'.length ≤ 1099511627776:=by omega
      have hq2:sh.length ≤ 1099511627776 ∧ st.length ≤ 1099511627776:=by omega
      have hq3:sh'.length ≤ 1099511627776 ∧ st'.length ≤ 1099511627776:=by omega
      have hq4:(sh.length ≤ 1099511627776 ∧ st.length ≤ 1099511627776) ∧ sh'.length ≤ 1099511627776 ∧ st'.length ≤ 1099511627776:=by omega
      cases hT:twoB mem b sh st b' sh' st' with
 | false =>
        have hQl:(MVL false (carL mem (offs b sh st) (offs b' sh' st'))).length=0:=rfl
        generalize hQ:MVL false (carL mem (offs b sh st) (offs b' sh' st'))=Q at *
        have hQ2:Q.length ≤ 1099511627776 ∧ Q.length ≤ 1099511627776:=by omega
        (repeat' (first
 | (first|refine awp_seq ?_|refine awp_block ?_)
 | ((first|refine awp_reg ?_|refine awp_draw (mid:=l6r9a) (post:=l6r9b) mixed (by decide) ?_|refine awp_condB ?_|refine awp_skip ?_|refine awp_exit ?_);simp (disch:=omega) only [push_cast,seval,l6r0,l6r1,l6r2,l6r3,l6r4,l6r5,l6r6,l6r7,l6r8,l6r9a,l6r9b,l6r9,hT,hQ,decide_true])
 | ((first|refine condB_split (fun h=>?_) (fun h=>?_)|refine gIf_split (fun h=>?_) (fun h=>?_)|refine qIf_split (fun h=>?_) (fun h=>?_))<;>(try simp only [h])<;>(try simp only [bitvec_to_nat] at h)<;>(try simp only [h])<;>(first|(exfalso;omega)|(focus (exfalso;simp_all;done))|(simp (disch:=omega) only [push_cast,seval,hT,hQ,decide_true])|skip))
 | ((first|refine callD_of false ?_|refine qcallD_of false ?_);simp (disch:=omega) only [push_cast,seval,hT,hQ,decide_true])
 | ((first|(refine call0D (BCall.ofP (drawCF_ok _ _ ?_ ?_)) ?_;(iterate 2 (exact sd));rintro _ _ ⟨⟨mem,b,sh,st,b',sh',st',_,_,_,_,_,⟨rfl,rfl,rfl,rfl,rfl,hm1,hm2,hc1,hc2,hc3,hc4⟩,rfl⟩,rfl⟩)|((first|refine call0D (iCopyF_ok _ _ _ _ _ _ _ _ _ _ _ _ ?_ ?_ ?_ ?_ ?_ ?_) ?_|refine qcall0D (iCopyF_ok _ _ _ _ _ _ _ _ _ _ _ _ ?_ ?_ ?_ ?_ ?_ ?_) ⟨_,_,rfl,rfl⟩ ?_);(iterate 6 (exact sd));rintro _ _ ⟨rfl,rfl⟩)|((first|refine call0D (sCopyF_ok _ _ _ _ _ _ _ _ _ _ _ _ ?_ ?_ ?_ ?_ ?_ ?_) ?_|refine qcall0D (sCopyF_ok _ _ _ _ _ _ _ _ _ _ _ _ ?_ ?_ ?_ ?_ ?_ ?_) ⟨_,_,rfl,rfl⟩ ?_);(iterate 6 (exact sd));rintro _ _ ⟨rfl,rfl⟩)|((first|refine call0D (BCall.ofP (equalInts_ok _ _ _ _ ?_ ?_ ?_)) ?_|refine qcall0D (BCall.ofP (equalInts_ok _ _ _ _ ?_ ?_ ?_)) ⟨_,_,rfl,rfl⟩ ?_);(iterate 3 (exact sd));rintro _ _ ⟨rfl,rfl⟩)|((first|refine call0D (iCopy_ok _ _ _ _ _ _ _ _ _ _ _ _ ?_ ?_ ?_ ?_ ?_ ?_) ?_|refine qcall0D (iCopy_ok _ _ _ _ _ _ _ _ _ _ _ _ ?_ ?_ ?_ ?_ ?_ ?_) ⟨_,_,rfl,rfl⟩ ?_);(iterate 6 (exact sd));rintro _ _ ⟨rfl,rfl⟩)|((first|refine call0D (BCall.ofP (iWayOf_ok _ _ _ _ _ _ _ _ _ _ ?_ ?_ ?_ ?_ ?_)) ?_|refine qcall0D (BCall.ofP (iWayOf_ok _ _ _ _ _ _ _ _ _ _ ?_ ?_ ?_ ?_ ?_)) ⟨_,_,rfl,rfl⟩ ?_);(iterate 5 (exact sd));rintro _ _ ⟨rfl,rfl⟩)|((first|refine call0D (iCh_ok _ _ _ _ ?_ ?_ ?_) ?_|refine qcall0D (iCh_ok _ _ _ _ ?_ ?_ ?_) ⟨_,_,rfl,rfl⟩ ?_);(iterate 3 (exact sd));rintro _ _ ⟨rfl,rfl⟩)|((first|refine call0D (iCe_ok _ _ _ _ _ ?_ ?_ ?_) ?_|refine qcall0D (iCe_ok _ _ _ _ _ ?_ ?_ ?_) ⟨_,_,rfl,rfl⟩ ?_);(iterate 3 (exact sd));rintro _ _ ⟨rfl,rfl⟩)|((first|refine call0D (BCall.ofP (lwithin_ok _ _ _ _ ?_ ?_ ?_)) ?_|refine qcall0D (BCall.ofP (lwithin_ok _ _ _ _ ?_ ?_ ?_)) ⟨_,_,rfl,rfl⟩ ?_);(iterate 3 (exact sd));rintro _ _ ⟨rfl,rfl⟩))<;>(try simp (disch:=omega) only [push_cast,seval,hT,hQ,decide_true]))
 | (refine awp_ret ⟨.inr rfl,_,rfl,?_⟩;(try simp (disch:=omega) only [push_cast,seval,hT,hQ,decide_true]))))
        all_goals (try simp)
 | true =>
        obtain ⟨s1,s2,s3⟩:=two_facts hT
        obtain ⟨g1,g2,g3⟩:=seeB_spec.1 s1
        obtain ⟨k1,k2,k3⟩:=seeB_spec.1 s2
        have hcl:=carL_length mem (offs b sh st) (offs b' sh' st')
        have hin:inM (offs b sh st) mem.length:=fun i hi=>by have:=g3 _ (getD_mem hi);omega
        have hin':inM (offs b' sh' st') mem.length:=fun i hi=>by have:=k3 _ (getD_mem hi);omega
        have hLL:(offs b sh st).length=(offs b' sh' st').length:=by
          have h1:=offs_length b sh st
          have h2:=offs_length b' sh' st'
          have h3:pr sh=pr sh':=by rw [s3]
          omega
        have hvv:(vV b sh st && vV b' sh' st' && decide (sh=sh'))=true:=by rw [g2,k2,decide_eq_true s3];rfl
        have hwy:wayI b sh st b' sh' st'=(if mtL (offs b sh st) (offs b' sh' st')=false then 0 else if (!mtL (offs b' sh' st') (offs b sh st) && decide (offs b sh st).Nodup)=true then 1 else 2):=if_pos hvv
        have hput:mtL (offs b sh st) (offs b' sh' st')=false → putL mem (offs b sh st) (takesL mem (offs b' sh' st'))=carL mem (offs b sh st) (offs b' sh' st'):=fun h=>(carL_put hin hin' hLL h).symm
        have hpl:=putL_length mem (offs b sh st) (takesL mem (offs b' sh' st'))
        have hcs:∀ x ∈ offs b sh st,0 ≤ x ∧ x ≤ 59:=fun x hx=>by have:=vV_cells g2 x hx;omega
        have hcc:=car_changed (mem:=mem) hcs hLL
        have hvK:vMem (carL mem (offs b sh st) (offs b' sh' st'))=true:=vMem_spec.2 ⟨by rw [hcl];exact (vMem_spec.1 g1).1,carK_byte (vMem_spec.1 g1).2 _⟩
        have hchB:chB mem (carL mem (offs b sh st) (offs b' sh' st'))=true:=by unfold chB;rw [g1,hvK,hcl];simp
        have hchl:=chK_length mem (carL mem (offs b sh st) (offs b' sh' st')) mem.length
        have hchl2:(chL mem (carL mem (offs b sh st) (offs b' sh' st'))).length ≤ mem.length:=hchl
        have hbl:=bothL_le (offs b sh st) (offs b sh st)
        clear hchl hin hin' hvv hcs hvK g3 k3
        have hwc:((chL mem (carL mem (offs b sh st) (offs b' sh' st'))).length ≤ 1099511627776 ∧ (bothL (offs b sh st) (offs b sh st)).length ≤ 1099511627776) ∧ ∀ x ∈ chL mem (carL mem (offs b sh st) (offs b' sh' st')),x ∈ bothL (offs b sh st) (offs b sh st):=⟨by omega,hcc⟩
        clear hcc
        generalize hK:carL mem (offs b sh st) (offs b' sh' st')=K at *
        generalize hP:putL mem (offs b sh st) (takesL mem (offs b' sh' st'))=P at *
        generalize hX:chL mem K=X at *
        generalize hC:bothL (offs b sh st) (offs b sh st)=C at *
        generalize hW:wayI b sh st b' sh' st'=W at *
        have hK2:K.length ≤ 1099511627776 ∧ K.length ≤ 1099511627776:=by omega
        have hK3:mem.length ≤ 1099511627776 ∧ K.length ≤ 1099511627776:=by omega
        cases hmt:mtL (offs b sh st) (offs b' sh' st') with
        | false =>
          have hPK:=hput hmt
          rw [hmt,if_pos rfl] at hwy
          clear hput
          subst hwy
          subst hPK
          (repeat' (first
 | (first|refine awp_seq ?_|refine awp_block ?_)
 | ((first|refine awp_reg ?_|refine awp_draw (mid:=l6r9a) (post:=l6r9b) mixed (by decide) ?_|refine awp_condB ?_|refine awp_skip ?_|refine awp_exit ?_);simp (disch:=omega) only [push_cast,seval,l6r0,l6r1,l6r2,l6r3,l6r4,l6r5,l6r6,l6r7,l6r8,l6r9a,l6r9b,l6r9,hT,MVL_true,hK,hP,hX,hC,hW,hchB,g1,g2,decide_true])
 | ((first|refine condB_split (fun h=>?_) (fun h=>?_)|refine gIf_split (fun h=>?_) (fun h=>?_)|refine qIf_split (fun h=>?_) (fun h=>?_))<;>(try simp only [h])<;>(try simp only [bitvec_to_nat] at h)<;>(try simp only [h])<;>(first|(exfalso;omega)|(focus (exfalso;simp_all;done))|(simp (disch:=omega) only [push_cast,seval,hT,MVL_true,hK,hP,hX,hC,hW,hchB,g1,g2,decide_true])|skip))
 | ((first|refine callD_of false ?_|refine qcallD_of false ?_);simp (disch:=omega) only [push_cast,seval,hT,MVL_true,hK,hP,hX,hC,hW,hchB,g1,g2,decide_true])
 | ((first|(refine call0D (BCall.ofP (drawCF_ok _ _ ?_ ?_)) ?_;(iterate 2 (exact sd));rintro _ _ ⟨⟨mem,b,sh,st,b',sh',st',_,_,_,_,_,⟨rfl,rfl,rfl,rfl,rfl,hm1,hm2,hc1,hc2,hc3,hc4⟩,rfl⟩,rfl⟩)|((first|refine call0D (iCopyF_ok _ _ _ _ _ _ _ _ _ _ _ _ ?_ ?_ ?_ ?_ ?_ ?_) ?_|refine qcall0D (iCopyF_ok _ _ _ _ _ _ _ _ _ _ _ _ ?_ ?_ ?_ ?_ ?_ ?_) ⟨_,_,rfl,rfl⟩ ?_);(iterate 6 (exact sd));rintro _ _ ⟨rfl,rfl⟩)|((first|refine call0D (sCopyF_ok _ _ _ _ _ _ _ _ _ _ _ _ ?_ ?_ ?_ ?_ ?_ ?_) ?_|refine qcall0D (sCopyF_ok _ _ _ _ _ _ _ _ _ _ _ _ ?_ ?_ ?_ ?_ ?_ ?_) ⟨_,_,rfl,rfl⟩ ?_);(iterate 6 (exact sd));rintro _ _ ⟨rfl,rfl⟩)|((first|refine call0D (BCall.ofP (equalInts_ok _ _ _ _ ?_ ?_ ?_)) ?_|refine qcall0D (BCall.ofP (equalInts_ok _ _ _ _ ?_ ?_ ?_)) ⟨_,_,rfl,rfl⟩ ?_);(iterate 3 (exact sd));rintro _ _ ⟨rfl,rfl⟩)|((first|refine call0D (iCopy_ok _ _ _ _ _ _ _ _ _ _ _ _ ?_ ?_ ?_ ?_ ?_ ?_) ?_|refine qcall0D (iCopy_ok _ _ _ _ _ _ _ _ _ _ _ _ ?_ ?_ ?_ ?_ ?_ ?_) ⟨_,_,rfl,rfl⟩ ?_);(iterate 6 (exact sd));rintro _ _ ⟨rfl,rfl⟩)|((first|refine call0D (BCall.ofP (iWayOf_ok _ _ _ _ _ _ _ _ _ _ ?_ ?_ ?_ ?_ ?_)) ?_|refine qcall0D (BCall.ofP (iWayOf_ok _ _ _ _ _ _ _ _ _ _ ?_ ?_ ?_ ?_ ?_)) ⟨_,_,rfl,rfl⟩ ?_);(iterate 5 (exact sd));rintro _ _ ⟨rfl,rfl⟩)|((first|refine call0D (iCh_ok _ _ _ _ ?_ ?_ ?_) ?_|refine qcall0D (BCall.ofP (plainI (iCh_ok _ _ _ _ ?_ ?_ ?_))) ⟨_,_,rfl,rfl⟩ ?_);(iterate 3 (exact sd));rintro _ _ ⟨rfl,rfl⟩)|((first|refine call0D (iCe_ok _ _ _ _ _ ?_ ?_ ?_) ?_|refine qcall0D (BCall.ofP (plainI (iCe_ok _ _ _ _ _ ?_ ?_ ?_))) ⟨_,_,rfl,rfl⟩ ?_);(iterate 3 (exact sd));rintro _ _ ⟨rfl,rfl⟩)|((first|refine call0D (BCall.ofP (lwithin_ok _ _ _ _ ?_ ?_ ?_)) ?_|refine qcall0D (BCall.ofP (lwithin_ok _ _ _ _ ?_ ?_ ?_)) ⟨_,_,rfl,rfl⟩ ?_);(iterate 3 (exact sd));rintro _ _ ⟨rfl,rfl⟩))<;>(try simp (disch:=omega) only [push_cast,seval,hT,MVL_true,hK,hP,hX,hC,hW,hchB,g1,g2,decide_true]))
 | (refine awp_ret ⟨.inr rfl,_,rfl,?_⟩; (try simp (disch := omega) only [push_cast,seval,hT,MVL_true,hK,hP,hX,hC,hW,hchB,g1,g2,decide_true]))))
          all_goals (try simp)
        | true =>
          have hw0:¬ W=0:=by
            rw [hwy,hmt,if_neg (by decide)]
            split<;>decide
          clear hput hwy
          (repeat' (first
 | (first|refine awp_seq ?_|refine awp_block ?_)
 | ((first|refine awp_reg ?_|refine awp_draw (mid:=l6r9a) (post:=l6r9b) mixed (by decide) ?_|refine awp_condB ?_|refine awp_skip ?_|refine awp_exit ?_);simp (disch:=omega) only [push_cast,seval,l6r0,l6r1,l6r2,l6r3,l6r4,l6r5,l6r6,l6r7,l6r8,l6r9a,l6r9b,l6r9,hT,MVL_true,hK,hP,hX,hC,hW,hw0,hchB,g1,g2,decide_true,decide_false])
 | ((first|refine condB_split (fun h=>?_) (fun h=>?_)|refine gIf_split (fun h=>?_) (fun h=>?_)|refine qIf_split (fun h=>?_) (fun h=>?_))<;>(try simp only [h])<;>(try simp only [bitvec_to_nat] at h)<;>(try simp only [h])<;>(first|(exfalso;omega)|(focus (exfalso;simp_all;done))|(simp (disch:=omega) only [push_cast,seval,hT,MVL_true,hK,hP,hX,hC,hW,hw0,hchB,g1,g2,decide_true,decide_false])|skip))
 | ((first|refine callD_of false ?_|refine qcallD_of false ?_);simp (disch:=omega) only [push_cast,seval,hT,MVL_true,hK,hP,hX,hC,hW,hw0,hchB,g1,g2,decide_true,decide_false])
 | ((first|(refine call0D (BCall.ofP (drawCF_ok _ _ ?_ ?_)) ?_;(iterate 2 (exact sd));rintro _ _ ⟨⟨mem,b,sh,st,b',sh',st',_,_,_,_,_,⟨rfl,rfl,rfl,rfl,rfl,hm1,hm2,hc1,hc2,hc3,hc4⟩,rfl⟩,rfl⟩)|((first|refine call0D (iCopyF_ok _ _ _ _ _ _ _ _ _ _ _ _ ?_ ?_ ?_ ?_ ?_ ?_) ?_|refine qcall0D (iCopyF_ok _ _ _ _ _ _ _ _ _ _ _ _ ?_ ?_ ?_ ?_ ?_ ?_) ⟨_,_,rfl,rfl⟩ ?_);(iterate 6 (exact sd));rintro _ _ ⟨rfl,rfl⟩)|((first|refine call0D (sCopyF_ok _ _ _ _ _ _ _ _ _ _ _ _ ?_ ?_ ?_ ?_ ?_ ?_) ?_|refine qcall0D (sCopyF_ok _ _ _ _ _ _ _ _ _ _ _ _ ?_ ?_ ?_ ?_ ?_ ?_) ⟨_,_,rfl,rfl⟩ ?_);(iterate 6 (exact sd));rintro _ _ ⟨rfl,rfl⟩)|((first|refine call0D (BCall.ofP (equalInts_ok _ _ _ _ ?_ ?_ ?_)) ?_|refine qcall0D (BCall.ofP (equalInts_ok _ _ _ _ ?_ ?_ ?_)) ⟨_,_,rfl,rfl⟩ ?_);(iterate 3 (exact sd));rintro _ _ ⟨rfl,rfl⟩)|((first|refine call0D (iCopy_ok _ _ _ _ _ _ _ _ _ _ _ _ ?_ ?_ ?_ ?_ ?_ ?_) ?_|refine qcall0D (iCopy_ok _ _ _ _ _ _ _ _ _ _ _ _ ?_ ?_ ?_ ?_ ?_ ?_) ⟨_,_,rfl,rfl⟩ ?_);(iterate 6 (exact sd));rintro _ _ ⟨rfl,rfl⟩)|((first|refine call0D (BCall.ofP (iWayOf_ok _ _ _ _ _ _ _ _ _ _ ?_ ?_ ?_ ?_ ?_)) ?_|refine qcall0D (BCall.ofP (iWayOf_ok _ _ _ _ _ _ _ _ _ _ ?_ ?_ ?_ ?_ ?_)) ⟨_,_,rfl,rfl⟩ ?_);(iterate 5 (exact sd));rintro _ _ ⟨rfl,rfl⟩)|((first|refine call0D (iCh_ok _ _ _ _ ?_ ?_ ?_) ?_|refine qcall0D (BCall.ofP (plainI (iCh_ok _ _ _ _ ?_ ?_ ?_))) ⟨_,_,rfl,rfl⟩ ?_);(iterate 3 (exact sd));rintro _ _ ⟨rfl,rfl⟩)|((first|refine call0D (iCe_ok _ _ _ _ _ ?_ ?_ ?_) ?_|refine qcall0D (BCall.ofP (plainI (iCe_ok _ _ _ _ _ ?_ ?_ ?_))) ⟨_,_,rfl,rfl⟩ ?_);(iterate 3 (exact sd));rintro _ _ ⟨rfl,rfl⟩)|((first|refine call0D (BCall.ofP (lwithin_ok _ _ _ _ ?_ ?_ ?_)) ?_|refine qcall0D (BCall.ofP (lwithin_ok _ _ _ _ ?_ ?_ ?_)) ⟨_,_,rfl,rfl⟩ ?_);(iterate 3 (exact sd));rintro _ _ ⟨rfl,rfl⟩))<;>(try simp (disch:=omega) only [push_cast,seval,hT,MVL_true,hK,hP,hX,hC,hW,hw0,hchB,g1,g2,decide_true,decide_false]))
 | (refine awp_ret ⟨.inr rfl,_,rfl,?_⟩; (try simp (disch := omega) only [push_cast,seval,hT,MVL_true,hK,hP,hX,hC,hW,hw0,hchB,g1,g2,decide_true,decide_false]))))
          all_goals (try simp)
  · (repeat' (first
 | (first|refine awp_seq ?_|refine awp_block ?_)
 | ((first|refine awp_reg ?_|refine awp_draw (mid:=l6r9a) (post:=l6r9b) mixed (by decide) ?_|refine awp_condB ?_|refine awp_skip ?_|refine awp_exit ?_);simp (disch:=omega) only [push_cast,seval,l6r0,l6r1,l6r2,l6r3,l6r4,l6r5,l6r6,l6r7,l6r8,l6r9a,l6r9b,l6r9])
 | ((first|refine condB_split (fun h=>?_) (fun h=>?_)|refine gIf_split (fun h=>?_) (fun h=>?_)|refine qIf_split (fun h=>?_) (fun h=>?_))<;>(try simp only [h])<;>(try simp only [bitvec_to_nat] at h)<;>(try simp only [h])<;>(first|(exfalso;omega)|(focus (exfalso;simp_all;done))|(simp (disch:=omega) only [push_cast,seval])|skip))
 | ((first|refine callD_of false ?_|refine qcallD_of false ?_);simp (disch:=omega) only [push_cast,seval])
 | ((first|(refine call0D (BCall.ofP (drawCF_ok _ _ ?_ ?_)) ?_;(iterate 2 (exact sd));rintro _ _ ⟨⟨mem,b,sh,st,b',sh',st',_,_,_,_,_,⟨rfl,rfl,rfl,rfl,rfl,hm1,hm2,hc1,hc2,hc3,hc4⟩,rfl⟩,rfl⟩)|((first|refine call0D (iCopyF_ok _ _ _ _ _ _ _ _ _ _ _ _ ?_ ?_ ?_ ?_ ?_ ?_) ?_|refine qcall0D (iCopyF_ok _ _ _ _ _ _ _ _ _ _ _ _ ?_ ?_ ?_ ?_ ?_ ?_) ⟨_,_,rfl,rfl⟩ ?_);(iterate 6 (exact sd));rintro _ _ ⟨rfl,rfl⟩)|((first|refine call0D (sCopyF_ok _ _ _ _ _ _ _ _ _ _ _ _ ?_ ?_ ?_ ?_ ?_ ?_) ?_|refine qcall0D (sCopyF_ok _ _ _ _ _ _ _ _ _ _ _ _ ?_ ?_ ?_ ?_ ?_ ?_) ⟨_,_,rfl,rfl⟩ ?_);(iterate 6 (exact sd));rintro _ _ ⟨rfl,rfl⟩)|((first|refine call0D (BCall.ofP (equalInts_ok _ _ _ _ ?_ ?_ ?_)) ?_|refine qcall0D (BCall.ofP (equalInts_ok _ _ _ _ ?_ ?_ ?_)) ⟨_,_,rfl,rfl⟩ ?_);(iterate 3 (exact sd));rintro _ _ ⟨rfl,rfl⟩)|((first|refine call0D (iCopy_ok _ _ _ _ _ _ _ _ _ _ _ _ ?_ ?_ ?_ ?_ ?_ ?_) ?_|refine qcall0D (iCopy_ok _ _ _ _ _ _ _ _ _ _ _ _ ?_ ?_ ?_ ?_ ?_ ?_) ⟨_,_,rfl,rfl⟩ ?_);(iterate 6 (exact sd));rintro _ _ ⟨rfl,rfl⟩)|((first|refine call0D (BCall.ofP (iWayOf_ok _ _ _ _ _ _ _ _ _ _ ?_ ?_ ?_ ?_ ?_)) ?_|refine qcall0D (BCall.ofP (iWayOf_ok _ _ _ _ _ _ _ _ _ _ ?_ ?_ ?_ ?_ ?_)) ⟨_,_,rfl,rfl⟩ ?_);(iterate 5 (exact sd));rintro _ _ ⟨rfl,rfl⟩)|((first|refine call0D (iCh_ok _ _ _ _ ?_ ?_ ?_) ?_|refine qcall0D (iCh_ok _ _ _ _ ?_ ?_ ?_) ⟨_,_,rfl,rfl⟩ ?_);(iterate 3 (exact sd));rintro _ _ ⟨rfl,rfl⟩)|((first|refine call0D (iCe_ok _ _ _ _ _ ?_ ?_ ?_) ?_|refine qcall0D (iCe_ok _ _ _ _ _ ?_ ?_ ?_) ⟨_,_,rfl,rfl⟩ ?_);(iterate 3 (exact sd));rintro _ _ ⟨rfl,rfl⟩)|((first|refine call0D (BCall.ofP (lwithin_ok _ _ _ _ ?_ ?_ ?_)) ?_|refine qcall0D (BCall.ofP (lwithin_ok _ _ _ _ ?_ ?_ ?_)) ⟨_,_,rfl,rfl⟩ ?_);(iterate 3 (exact sd));rintro _ _ ⟨rfl,rfl⟩))<;>(try simp (disch:=omega) only [push_cast,seval]))
 | (refine awp_ret ⟨.inr rfl,_,rfl,?_⟩;(try simp (disch:=omega) only [push_cast,seval]))))

end Go.Proofs.YtfphjgmkpgoomaaGreat
