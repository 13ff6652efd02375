import Derived.Test.YtceopplkfomalaaGreatCKm10
import Derived.Test.YtceopplkfomalaaGreatCM1
import Derived.Test.YtceopplkfomalaaGreatCW3
set_option linter.unusedSimpArgs false
set_option linter.unusedVariables false
set_option maxRecDepth 4000
set_option maxHeartbeats 4000000
namespace Go.Proofs.YtceopplkfomalaaGreat
open VwM Vw Go

theorem w8_getD {mem:List Int} (hm:∀ x ∈ mem,0 ≤ x ∧ x ≤ 255) (j:Nat):0 ≤ mem.getD j 0 ∧ mem.getD j 0 ≤ 255:=by
  by_cases hl:j < mem.length
  · exact hm _ (getD_mem hl)
  · rw [List.getD,List.getElem?_eq_none (Nat.le_of_not_lt hl)];simp
theorem w8_byte {mem cells vals:List Int} (hm:∀ x ∈ mem,0 ≤ x ∧ x ≤ 255) (hv:∀ x ∈ vals,0 ≤ x ∧ x ≤ 255):∀ k,∀ x ∈ putK mem cells vals k,0 ≤ x ∧ x ≤ 255
  | 0,x,hx=>hm x hx
  | k + 1,x,hx=>by
    simp only [putK] at hx
    rcases List.mem_or_eq_of_mem_set hx with h1|h1
    · exact w8_byte hm hv k x h1
    · subst h1;exact w8_getD hv k
theorem w8_see {mem cells vals:List Int} {b:Int} {sh st:List Int} (h:seeB mem b sh st=true) (hv:∀ x ∈ vals,0 ≤ x ∧ x ≤ 255):seeB (putL mem cells vals) b sh st=true:=by
  obtain ⟨g1,g2,g3⟩:=seeB_spec.1 h
  obtain ⟨m1,m2⟩:=vMem_spec.1 g1
  refine seeB_spec.2 ⟨vMem_spec.2 ⟨by rw [putL_length];exact m1,w8_byte m2 hv _⟩,g2,?_⟩
  intro x hx
  rw [putL_length]
  exact g3 x hx
theorem w8_diff {a b:List Int} {x:Int}:∀ {k},x ∈ chK a b k → (0 ≤ x ∧ x < k) ∧ a.getD x.toNat 0 ≠ b.getD x.toNat 0
  | 0,h=>by simp [chK] at h
  | k + 1,h=>by
    simp only [chK] at h
    split at h
    · have:=w8_diff (k:=k) h
      exact ⟨by omega,this.2⟩
    · rename_i hne
      rcases List.mem_append.1 h with h1|h1
      · have:=w8_diff (k:=k) h1
        exact ⟨by omega,this.2⟩
      · rw [List.mem_singleton] at h1
        subst h1
        exact ⟨by omega,by simpa using hne⟩
theorem w8_changed {mem to vals:List Int} (ht:∀ x ∈ to,0 ≤ x ∧ x ≤ 59) (hl:to.length=vals.length):∀ x ∈ chL mem (putL mem to vals),x ∈ bothL to to:=by
  intro x hx
  obtain ⟨h1,h2⟩:=w8_diff hx
  refine Classical.byContradiction fun hn=>h2 ?_
  unfold putL
  rw [putK_out]
  intro i hi he
  have hm:to.getD i 0 ∈ to:=getD_mem (by omega)
  have:=ht _ hm
  have hxe:to.getD i 0=x:=by omega
  rw [hxe] at hm
  exact hn (mem_bothL.2 ⟨ht x hm,hm,hm⟩)
theorem w8_facts {mem:List Int} {b:Int} {sh st vals:List Int} (h:takB mem b sh st vals=true) :
    (vV b sh st=true ∧ seeB mem b sh st=true ∧ seeB (putL mem (offs b sh st) vals) b sh st=true ∧ chB mem (putL mem (offs b sh st) vals)=true) ∧ inM (offs b sh st) mem.length ∧ vals.length=(offs b sh st).length ∧ (offs b sh st).length ≤ 60 ∧
    (((chL mem (putL mem (offs b sh st) vals)).length ≤ 1099511627776 ∧ (bothL (offs b sh st) (offs b sh st)).length ≤ 1099511627776) ∧ ∀ x ∈ chL mem (putL mem (offs b sh st) vals),x ∈ bothL (offs b sh st) (offs b sh st)):=by
  simp only [takB,Bool.and_eq_true,decide_eq_true_eq] at h
  obtain ⟨⟨h1,h2⟩,h3⟩:=h
  have hv:=allI_iff.1 h3
  obtain ⟨g1,g2,g3⟩:=seeB_spec.1 h1
  have hol:=offs_length b sh st
  have hp:=see_facts h1
  have hs:=w8_see (cells:=offs b sh st) h1 hv
  have hcs:∀ x ∈ offs b sh st,0 ≤ x ∧ x ≤ 59:=fun x hx=>by have:=vV_cells g2 x hx;omega
  have hcl:=chK_length mem (putL mem (offs b sh st) vals) mem.length
  have hbl:=bothL_le (offs b sh st) (offs b sh st)
  refine ⟨⟨g2,h1,hs,?_⟩,fun i hi=>?_,by omega,by omega,⟨by unfold chL;omega,by omega⟩,w8_changed hcs (by omega)⟩
  · unfold chB
    rw [g1,(seeB_spec.1 hs).1,putL_length]
    simp
  · have:=g3 _ (getD_mem hi)
    omega


set_option maxHeartbeats 16000000 in
theorem lFnStV_ok (bs:List Int) (hl:bs.length ≤ 9223372036854775807) (hb:∀ x ∈ bs,0 ≤ x ∧ x ≤ 255):PCall Tryz.prog 3 [.rows false (UL bs) bs.length] (fun r=>r=.bool true):=by
  refine pcall_of l3_eq rfl ?_
  by_cases h:bs.length ≤ 1048576
  · have q:bs.length ≤ 1099511627776 ∧ ∀ x ∈ bs,0 ≤ x ∧ x ≤ 255:=⟨by omega,hb⟩
    (repeat' (first
 | (refine awp_joinL (c1:=.reg l3r3) (fun x:List Int × Int × List Int × List Int × List Int=>mkS [(3,.rows true (IL x.1) x.1.length),(4,.ref 64 3 0),(5,.rows true (IL x.2.2.2.2) x.2.2.2.2.length)] [(64,[.int .i64 x.2.1,.rows true (IL x.2.2.1) x.2.2.1.length,.rows true (IL x.2.2.2.1) x.2.2.2.1.length])]) (fun x=>1 ≤ x.1.length ∧ x.1.length ≤ 60 ∧ good4 x.2.2.1 ∧ x.2.2.2.1.length ≤ 5 ∧ x.2.2.2.2.length ≤ 60) ?_ ?_)
 | (first|refine awp_seq ?_|refine awp_block ?_)
 | ((first|refine awp_reg ?_|refine awp_draw (mid:=l3r9a) (post:=l3r9b) mixed (by decide) ?_|refine awp_condB ?_|refine awp_skip ?_|refine awp_exit ?_);simp (disch:=omega) only [push_cast,seval,l3r0,l3r1,l3r2,l3r3,l3r4,l3r5,l3r6,l3r7,l3r8,l3r9a,l3r9b,l3r9])
 | ((first|refine condB_split (fun h=>?_) (fun h=>?_)|refine gIf_split (fun h=>?_) (fun h=>?_)|refine qIf_split (fun h=>?_) (fun h=>?_))<;>(try simp only [h])<;>(try simp only [bitvec_to_nat] at h)<;>(try simp only [h])<;>(first|(exfalso;omega)|(focus (exfalso;simp_all;done))|(simp (disch:=omega) only [push_cast,seval])|skip))
 | ((first|refine callD_of false ?_|refine qcallD_of false ?_);simp (disch:=omega) only [push_cast,seval])
 | ((first|(refine call0D (BCall.ofP (drawStV_ok _ _ ?_ ?_)) ?_;(iterate 2 (exact sd));rintro _ _ ⟨⟨mem,b,sh,st,vals,_,_,_,_,⟨rfl,rfl,rfl,rfl,hm1,hm2,hl1,hl2,hv60⟩,rfl⟩,rfl⟩)|((first|refine call0D (iStore_ok _ _ _ _ _ _ _ _ _ ?_ ?_ ?_ ?_ ?_) ?_|refine qcall0D (iStore_ok _ _ _ _ _ _ _ _ _ ?_ ?_ ?_ ?_ ?_) ⟨_,_,rfl,rfl⟩ ?_);(iterate 5 (exact sd));rintro _ _ ⟨rfl,rfl⟩)|((first|refine call0D (sStore_ok _ _ _ _ _ _ _ _ _ ?_ ?_ ?_ ?_ ?_) ?_|refine qcall0D (sStore_ok _ _ _ _ _ _ _ _ _ ?_ ?_ ?_ ?_ ?_) ⟨_,_,rfl,rfl⟩ ?_);(iterate 5 (exact sd));rintro _ _ ⟨rfl,rfl⟩)|((first|refine call0D (BCall.ofP (equalInts_ok _ _ _ _ ?_ ?_ ?_)) ?_|refine qcall0D (BCall.ofP (equalInts_ok _ _ _ _ ?_ ?_ ?_)) ⟨_,_,rfl,rfl⟩ ?_);(iterate 3 (exact sd));rintro _ _ ⟨rfl,rfl⟩)|((first|refine call0D (iLoad_ok _ _ _ _ _ _ _ ?_ ?_ ?_ ?_) ?_|refine qcall0D (iLoad_ok _ _ _ _ _ _ _ ?_ ?_ ?_ ?_) ⟨_,_,rfl,rfl⟩ ?_);(iterate 4 (exact sd));rintro _ _ ⟨rfl,rfl⟩)|((first|refine call0D (iCh_ok _ _ _ _ ?_ ?_ ?_) ?_|refine qcall0D (iCh_ok _ _ _ _ ?_ ?_ ?_) ⟨_,_,rfl,rfl⟩ ?_);(iterate 3 (exact sd));rintro _ _ ⟨rfl,rfl⟩)|((first|refine call0D (iCe_ok _ _ _ _ _ ?_ ?_ ?_) ?_|refine qcall0D (iCe_ok _ _ _ _ _ ?_ ?_ ?_) ⟨_,_,rfl,rfl⟩ ?_);(iterate 3 (exact sd));rintro _ _ ⟨rfl,rfl⟩)|((first|refine call0D (BCall.ofP (lwithin_ok _ _ _ _ ?_ ?_ ?_)) ?_|refine qcall0D (BCall.ofP (lwithin_ok _ _ _ _ ?_ ?_ ?_)) ⟨_,_,rfl,rfl⟩ ?_);(iterate 3 (exact sd));rintro _ _ ⟨rfl,rfl⟩)|((first|refine call0D (BCall.ofP (iIsOneToOne_ok _ _ _ _ _ ?_ ?_ ?_)) ?_|refine qcall0D (BCall.ofP (iIsOneToOne_ok _ _ _ _ _ ?_ ?_ ?_)) ⟨_,_,rfl,rfl⟩ ?_);(iterate 3 (exact sd));rintro _ _ ⟨rfl,rfl⟩))<;>(try simp (disch:=omega) only [push_cast,seval]))
 | (refine awp_ret ⟨.inr rfl,_,rfl,?_⟩;(try simp (disch:=omega) only [push_cast,seval]))))
    · (refine exSub5 (Sub.of_eqs rfl rfl ?_ ?_ ?_) ?_;(focus (simp [Vw.mkS,Vw.lk,Vw.hk,AV.inn,innL,innL_ints,innL_append,innL_rep,-List.map_set,-List.getD_eq_getElem?_getD,innL_ints];done));(focus (simp [AV.inn,innL,Vw.hk,innL_ints];done));(focus (simp [AV.inn,innL,innL_ints,innL_append,innL_rep,Vw.hk,innL_ints];done));(try simp only);(first|omega|(refine ⟨?_,?_⟩<;>first|assumption|omega)|(refine ⟨?_,?_,?_⟩<;>first|assumption|omega)|(refine ⟨?_,?_,?_,?_⟩<;>first|assumption|omega)))
    · refine ⟨?_⟩
      rintro ⟨mem,b,sh,st,vals⟩ ⟨hm1,hm2,hl1,hl2,hv60⟩
      try simp only at hm1 hm2 hl1 hl2 hv60 ⊢
      have hl0:=hl1.2
      have hq:(mem.length ≤ 1099511627776 ∧ sh.length ≤ 1099511627776 ∧ st.length ≤ 1099511627776) ∧ vals.length ≤ 1099511627776:=by omega
      have hq2:sh.length ≤ 1099511627776 ∧ st.length ≤ 1099511627776:=by omega
      cases hT:takB mem b sh st vals with
 | false =>
        have hQl:(MVL false (putL mem (offs b sh st) vals)).length=0:=rfl
        generalize hQ:MVL false (putL mem (offs b sh st) vals)=Q at *
        have hQ2:Q.length ≤ 1099511627776 ∧ Q.length ≤ 1099511627776:=by omega
        (repeat' (first
 | (first|refine awp_seq ?_|refine awp_block ?_)
 | ((first|refine awp_reg ?_|refine awp_draw (mid:=l3r9a) (post:=l3r9b) mixed (by decide) ?_|refine awp_condB ?_|refine awp_skip ?_|refine awp_exit ?_);simp (disch:=omega) only [push_cast,seval,l3r0,l3r1,l3r2,l3r3,l3r4,l3r5,l3r6,l3r7,l3r8,l3r9a,l3r9b,l3r9,hT,hQ,decide_true])
 | ((first|refine condB_split (fun h=>?_) (fun h=>?_)|refine gIf_split (fun h=>?_) (fun h=>?_)|refine qIf_split (fun h=>?_) (fun h=>?_))<;>(try simp only [h])<;>(try simp only [bitvec_to_nat] at h)<;>(try simp only [h])<;>(first|(exfalso;omega)|(focus (exfalso;simp_all;done))|(simp (disch:=omega) only [push_cast,seval,hT,hQ,decide_true])|skip))
 | ((first|refine callD_of false ?_|refine qcallD_of false ?_);simp (disch:=omega) only [push_cast,seval,hT,hQ,decide_true])
 | ((first|(refine call0D (BCall.ofP (drawStV_ok _ _ ?_ ?_)) ?_;(iterate 2 (exact sd));rintro _ _ ⟨⟨mem,b,sh,st,vals,_,_,_,_,⟨rfl,rfl,rfl,rfl,hm1,hm2,hl1,hl2,hv60⟩,rfl⟩,rfl⟩)|((first|refine call0D (iStore_ok _ _ _ _ _ _ _ _ _ ?_ ?_ ?_ ?_ ?_) ?_|refine qcall0D (iStore_ok _ _ _ _ _ _ _ _ _ ?_ ?_ ?_ ?_ ?_) ⟨_,_,rfl,rfl⟩ ?_);(iterate 5 (exact sd));rintro _ _ ⟨rfl,rfl⟩)|((first|refine call0D (sStore_ok _ _ _ _ _ _ _ _ _ ?_ ?_ ?_ ?_ ?_) ?_|refine qcall0D (sStore_ok _ _ _ _ _ _ _ _ _ ?_ ?_ ?_ ?_ ?_) ⟨_,_,rfl,rfl⟩ ?_);(iterate 5 (exact sd));rintro _ _ ⟨rfl,rfl⟩)|((first|refine call0D (BCall.ofP (equalInts_ok _ _ _ _ ?_ ?_ ?_)) ?_|refine qcall0D (BCall.ofP (equalInts_ok _ _ _ _ ?_ ?_ ?_)) ⟨_,_,rfl,rfl⟩ ?_);(iterate 3 (exact sd));rintro _ _ ⟨rfl,rfl⟩)|((first|refine call0D (iLoad_ok _ _ _ _ _ _ _ ?_ ?_ ?_ ?_) ?_|refine qcall0D (iLoad_ok _ _ _ _ _ _ _ ?_ ?_ ?_ ?_) ⟨_,_,rfl,rfl⟩ ?_);(iterate 4 (exact sd));rintro _ _ ⟨rfl,rfl⟩)|((first|refine call0D (iCh_ok _ _ _ _ ?_ ?_ ?_) ?_|refine qcall0D (iCh_ok _ _ _ _ ?_ ?_ ?_) ⟨_,_,rfl,rfl⟩ ?_);(iterate 3 (exact sd));rintro _ _ ⟨rfl,rfl⟩)|((first|refine call0D (iCe_ok _ _ _ _ _ ?_ ?_ ?_) ?_|refine qcall0D (iCe_ok _ _ _ _ _ ?_ ?_ ?_) ⟨_,_,rfl,rfl⟩ ?_);(iterate 3 (exact sd));rintro _ _ ⟨rfl,rfl⟩)|((first|refine call0D (BCall.ofP (lwithin_ok _ _ _ _ ?_ ?_ ?_)) ?_|refine qcall0D (BCall.ofP (lwithin_ok _ _ _ _ ?_ ?_ ?_)) ⟨_,_,rfl,rfl⟩ ?_);(iterate 3 (exact sd));rintro _ _ ⟨rfl,rfl⟩)|((first|refine call0D (BCall.ofP (iIsOneToOne_ok _ _ _ _ _ ?_ ?_ ?_)) ?_|refine qcall0D (BCall.ofP (iIsOneToOne_ok _ _ _ _ _ ?_ ?_ ?_)) ⟨_,_,rfl,rfl⟩ ?_);(iterate 3 (exact sd));rintro _ _ ⟨rfl,rfl⟩))<;>(try simp (disch:=omega) only [push_cast,seval,hT,hQ,decide_true]))
 | (refine awp_ret ⟨.inr rfl,_,rfl,?_⟩;(try simp (disch:=omega) only [push_cast,seval,hT,hQ,decide_true]))))
        all_goals (try simp)
 | true =>
        obtain ⟨⟨g1,g2,g3,g4⟩,hin,hLv,hL60,hwc⟩:=w8_facts hT
        have hone:oneB b sh st=true → takesL (putL mem (offs b sh st) vals) (offs b sh st)=vals:=fun ho=>by
          simp only [oneB,Bool.and_eq_true,decide_eq_true_eq] at ho
          exact takes_put hin ho.2 hLv
        have hpl:=putL_length mem (offs b sh st) vals
        have htl:=takesL_length (putL mem (offs b sh st) vals) (offs b sh st)
        generalize hL:offs b sh st=L at *
        generalize hP:putL mem L vals=P at *
        generalize hR:takesL P L=R at *
        generalize hX:chL mem P=X at *
        generalize hC:bothL L L=C at *
        have hP2:P.length ≤ 1099511627776 ∧ P.length ≤ 1099511627776:=by omega
        have hP3:mem.length ≤ 1099511627776 ∧ P.length ≤ 1099511627776:=by omega
        have hP4:P.length ≤ 1099511627776 ∧ sh.length ≤ 1099511627776 ∧ st.length ≤ 1099511627776:=by omega
        have hR2:R.length ≤ 1099511627776 ∧ vals.length ≤ 1099511627776:=by omega
        have hpl':(P.length:Int)=(mem.length:Int):=by omega
        clear hin
        cases ho:oneB b sh st with
        | false =>
          clear hone
          (repeat' (first
 | (first|refine awp_seq ?_|refine awp_block ?_)
 | ((first|refine awp_reg ?_|refine awp_draw (mid:=l3r9a) (post:=l3r9b) mixed (by decide) ?_|refine awp_condB ?_|refine awp_skip ?_|refine awp_exit ?_);simp (disch:=omega) only [push_cast,seval,l3r0,l3r1,l3r2,l3r3,l3r4,l3r5,l3r6,l3r7,l3r8,l3r9a,l3r9b,l3r9,hT,MVL_true,hL,hP,hR,hX,hC,g1,g2,g3,g4,ho,hpl',List.length_map,decide_true])
 | ((first|refine condB_split (fun h=>?_) (fun h=>?_)|refine gIf_split (fun h=>?_) (fun h=>?_)|refine qIf_split (fun h=>?_) (fun h=>?_))<;>(try simp only [h])<;>(try simp only [bitvec_to_nat] at h)<;>(try simp only [h])<;>(first|(exfalso;omega)|(focus (exfalso;simp_all;done))|(simp (disch:=omega) only [push_cast,seval,hT,MVL_true,hL,hP,hR,hX,hC,g1,g2,g3,g4,ho,hpl',List.length_map,decide_true])|skip))
 | ((first|refine callD_of false ?_|refine qcallD_of false ?_);simp (disch:=omega) only [push_cast,seval,hT,MVL_true,hL,hP,hR,hX,hC,g1,g2,g3,g4,ho,hpl',List.length_map,decide_true])
 | ((first|(refine call0D (BCall.ofP (drawStV_ok _ _ ?_ ?_)) ?_;(iterate 2 (exact sd));rintro _ _ ⟨⟨mem,b,sh,st,vals,_,_,_,_,⟨rfl,rfl,rfl,rfl,hm1,hm2,hl1,hl2,hv60⟩,rfl⟩,rfl⟩)|((first|refine call0D (iStore_ok _ _ _ _ _ _ _ _ _ ?_ ?_ ?_ ?_ ?_) ?_|refine qcall0D (iStore_ok _ _ _ _ _ _ _ _ _ ?_ ?_ ?_ ?_ ?_) ⟨_,_,rfl,rfl⟩ ?_);(iterate 5 (exact sd));rintro _ _ ⟨rfl,rfl⟩)|((first|refine call0D (sStore_ok _ _ _ _ _ _ _ _ _ ?_ ?_ ?_ ?_ ?_) ?_|refine qcall0D (sStore_ok _ _ _ _ _ _ _ _ _ ?_ ?_ ?_ ?_ ?_) ⟨_,_,rfl,rfl⟩ ?_);(iterate 5 (exact sd));rintro _ _ ⟨rfl,rfl⟩)|((first|refine call0D (BCall.ofP (equalInts_ok _ _ _ _ ?_ ?_ ?_)) ?_|refine qcall0D (BCall.ofP (equalInts_ok _ _ _ _ ?_ ?_ ?_)) ⟨_,_,rfl,rfl⟩ ?_);(iterate 3 (exact sd));rintro _ _ ⟨rfl,rfl⟩)|((first|refine call0D (iLoad_ok _ _ _ _ _ _ _ ?_ ?_ ?_ ?_) ?_|refine qcall0D (BCall.ofP (plainI (iLoad_ok _ _ _ _ _ _ _ ?_ ?_ ?_ ?_))) ⟨_,_,rfl,rfl⟩ ?_);(iterate 4 (exact sd));rintro _ _ ⟨rfl,rfl⟩)|((first|refine call0D (iCh_ok _ _ _ _ ?_ ?_ ?_) ?_|refine qcall0D (BCall.ofP (plainI (iCh_ok _ _ _ _ ?_ ?_ ?_))) ⟨_,_,rfl,rfl⟩ ?_);(iterate 3 (exact sd));rintro _ _ ⟨rfl,rfl⟩)|((first|refine call0D (iCe_ok _ _ _ _ _ ?_ ?_ ?_) ?_|refine qcall0D (BCall.ofP (plainI (iCe_ok _ _ _ _ _ ?_ ?_ ?_))) ⟨_,_,rfl,rfl⟩ ?_);(iterate 3 (exact sd));rintro _ _ ⟨rfl,rfl⟩)|((first|refine call0D (BCall.ofP (lwithin_ok _ _ _ _ ?_ ?_ ?_)) ?_|refine qcall0D (BCall.ofP (lwithin_ok _ _ _ _ ?_ ?_ ?_)) ⟨_,_,rfl,rfl⟩ ?_);(iterate 3 (exact sd));rintro _ _ ⟨rfl,rfl⟩)|((first|refine call0D (BCall.ofP (iIsOneToOne_ok _ _ _ _ _ ?_ ?_ ?_)) ?_|refine qcall0D (BCall.ofP (iIsOneToOne_ok _ _ _ _ _ ?_ ?_ ?_)) ⟨_,_,rfl,rfl⟩ ?_);(iterate 3 (exact sd));rintro _ _ ⟨rfl,rfl⟩))<;>(try simp (disch:=omega) only [push_cast,seval,hT,MVL_true,hL,hP,hR,hX,hC,g1,g2,g3,g4,ho,hpl',List.length_map,decide_true]))
 | (refine awp_ret ⟨.inr rfl,_,rfl,?_⟩; (try simp (disch := omega) only [push_cast,seval,hT,MVL_true,hL,hP,hR,hX,hC,g1,g2,g3,g4,ho,hpl',List.length_map,decide_true]))))
          all_goals (try simp [hpl])
        | true =>
          have hRv:=hone ho
          clear hone
          subst hRv
          (repeat' (first
 | (first|refine awp_seq ?_|refine awp_block ?_)
 | ((first|refine awp_reg ?_|refine awp_draw (mid:=l3r9a) (post:=l3r9b) mixed (by decide) ?_|refine awp_condB ?_|refine awp_skip ?_|refine awp_exit ?_);simp (disch:=omega) only [push_cast,seval,l3r0,l3r1,l3r2,l3r3,l3r4,l3r5,l3r6,l3r7,l3r8,l3r9a,l3r9b,l3r9,hT,MVL_true,hL,hP,hR,hX,hC,g1,g2,g3,g4,ho,hpl',List.length_map,decide_true])
 | ((first|refine condB_split (fun h=>?_) (fun h=>?_)|refine gIf_split (fun h=>?_) (fun h=>?_)|refine qIf_split (fun h=>?_) (fun h=>?_))<;>(try simp only [h])<;>(try simp only [bitvec_to_nat] at h)<;>(try simp only [h])<;>(first|(exfalso;omega)|(focus (exfalso;simp_all;done))|(simp (disch:=omega) only [push_cast,seval,hT,MVL_true,hL,hP,hR,hX,hC,g1,g2,g3,g4,ho,hpl',List.length_map,decide_true])|skip))
 | ((first|refine callD_of false ?_|refine qcallD_of false ?_);simp (disch:=omega) only [push_cast,seval,hT,MVL_true,hL,hP,hR,hX,hC,g1,g2,g3,g4,ho,hpl',List.length_map,decide_true])
 | ((first|(refine call0D (BCall.ofP (drawStV_ok _ _ ?_ ?_)) ?_;(iterate 2 (exact sd));rintro _ _ ⟨⟨mem,b,sh,st,vals,_,_,_,_,⟨rfl,rfl,rfl,rfl,hm1,hm2,hl1,hl2,hv60⟩,rfl⟩,rfl⟩)|((first|refine call0D (iStore_ok _ _ _ _ _ _ _ _ _ ?_ ?_ ?_ ?_ ?_) ?_|refine qcall0D (iStore_ok _ _ _ _ _ _ _ _ _ ?_ ?_ ?_ ?_ ?_) ⟨_,_,rfl,rfl⟩ ?_);(iterate 5 (exact sd));rintro _ _ ⟨rfl,rfl⟩)|((first|refine call0D (sStore_ok _ _ _ _ _ _ _ _ _ ?_ ?_ ?_ ?_ ?_) ?_|refine qcall0D (sStore_ok _ _ _ _ _ _ _ _ _ ?_ ?_ ?_ ?_ ?_) ⟨_,_,rfl,rfl⟩ ?_);(iterate 5 (exact sd));rintro _ _ ⟨rfl,rfl⟩)|((first|refine call0D (BCall.ofP (equalInts_ok _ _ _ _ ?_ ?_ ?_)) ?_|refine qcall0D (BCall.ofP (equalInts_ok _ _ _ _ ?_ ?_ ?_)) ⟨_,_,rfl,rfl⟩ ?_);(iterate 3 (exact sd));rintro _ _ ⟨rfl,rfl⟩)|((first|refine call0D (iLoad_ok _ _ _ _ _ _ _ ?_ ?_ ?_ ?_) ?_|refine qcall0D (BCall.ofP (plainI (iLoad_ok _ _ _ _ _ _ _ ?_ ?_ ?_ ?_))) ⟨_,_,rfl,rfl⟩ ?_);(iterate 4 (exact sd));rintro _ _ ⟨rfl,rfl⟩)|((first|refine call0D (iCh_ok _ _ _ _ ?_ ?_ ?_) ?_|refine qcall0D (BCall.ofP (plainI (iCh_ok _ _ _ _ ?_ ?_ ?_))) ⟨_,_,rfl,rfl⟩ ?_);(iterate 3 (exact sd));rintro _ _ ⟨rfl,rfl⟩)|((first|refine call0D (iCe_ok _ _ _ _ _ ?_ ?_ ?_) ?_|refine qcall0D (BCall.ofP (plainI (iCe_ok _ _ _ _ _ ?_ ?_ ?_))) ⟨_,_,rfl,rfl⟩ ?_);(iterate 3 (exact sd));rintro _ _ ⟨rfl,rfl⟩)|((first|refine call0D (BCall.ofP (lwithin_ok _ _ _ _ ?_ ?_ ?_)) ?_|refine qcall0D (BCall.ofP (lwithin_ok _ _ _ _ ?_ ?_ ?_)) ⟨_,_,rfl,rfl⟩ ?_);(iterate 3 (exact sd));rintro _ _ ⟨rfl,rfl⟩)|((first|refine call0D (BCall.ofP (iIsOneToOne_ok _ _ _ _ _ ?_ ?_ ?_)) ?_|refine qcall0D (BCall.ofP (iIsOneToOne_ok _ _ _ _ _ ?_ ?_ ?_)) ⟨_,_,rfl,rfl⟩ ?_);(iterate 3 (exact sd));rintro _ _ ⟨rfl,rfl⟩))<;>(try simp (disch:=omega) only [push_cast,seval,hT,MVL_true,hL,hP,hR,hX,hC,g1,g2,g3,g4,ho,hpl',List.length_map,decide_true]))
 | (refine awp_ret ⟨.inr rfl,_,rfl,?_⟩; (try simp (disch := omega) only [push_cast,seval,hT,MVL_true,hL,hP,hR,hX,hC,g1,g2,g3,g4,ho,hpl',List.length_map,decide_true]))))
          all_goals (try simp [hpl])
  · (repeat' (first
 | (first|refine awp_seq ?_|refine awp_block ?_)
 | ((first|refine awp_reg ?_|refine awp_draw (mid:=l3r9a) (post:=l3r9b) mixed (by decide) ?_|refine awp_condB ?_|refine awp_skip ?_|refine awp_exit ?_);simp (disch:=omega) only [push_cast,seval,l3r0,l3r1,l3r2,l3r3,l3r4,l3r5,l3r6,l3r7,l3r8,l3r9a,l3r9b,l3r9])
 | ((first|refine condB_split (fun h=>?_) (fun h=>?_)|refine gIf_split (fun h=>?_) (fun h=>?_)|refine qIf_split (fun h=>?_) (fun h=>?_))<;>(try simp only [h])<;>(try simp only [bitvec_to_nat] at h)<;>(try simp only [h])<;>(first|(exfalso;omega)|(focus (exfalso;simp_all;done))|(simp (disch:=omega) only [push_cast,seval])|skip))
 | ((first|refine callD_of false ?_|refine qcallD_of false ?_);simp (disch:=omega) only [push_cast,seval])
 | ((first|(refine call0D (BCall.ofP (drawStV_ok _ _ ?_ ?_)) ?_;(iterate 2 (exact sd));rintro _ _ ⟨⟨mem,b,sh,st,vals,_,_,_,_,⟨rfl,rfl,rfl,rfl,hm1,hm2,hl1,hl2,hv60⟩,rfl⟩,rfl⟩)|((first|refine call0D (iStore_ok _ _ _ _ _ _ _ _ _ ?_ ?_ ?_ ?_ ?_) ?_|refine qcall0D (iStore_ok _ _ _ _ _ _ _ _ _ ?_ ?_ ?_ ?_ ?_) ⟨_,_,rfl,rfl⟩ ?_);(iterate 5 (exact sd));rintro _ _ ⟨rfl,rfl⟩)|((first|refine call0D (sStore_ok _ _ _ _ _ _ _ _ _ ?_ ?_ ?_ ?_ ?_) ?_|refine qcall0D (sStore_ok _ _ _ _ _ _ _ _ _ ?_ ?_ ?_ ?_ ?_) ⟨_,_,rfl,rfl⟩ ?_);(iterate 5 (exact sd));rintro _ _ ⟨rfl,rfl⟩)|((first|refine call0D (BCall.ofP (equalInts_ok _ _ _ _ ?_ ?_ ?_)) ?_|refine qcall0D (BCall.ofP (equalInts_ok _ _ _ _ ?_ ?_ ?_)) ⟨_,_,rfl,rfl⟩ ?_);(iterate 3 (exact sd));rintro _ _ ⟨rfl,rfl⟩)|((first|refine call0D (iLoad_ok _ _ _ _ _ _ _ ?_ ?_ ?_ ?_) ?_|refine qcall0D (iLoad_ok _ _ _ _ _ _ _ ?_ ?_ ?_ ?_) ⟨_,_,rfl,rfl⟩ ?_);(iterate 4 (exact sd));rintro _ _ ⟨rfl,rfl⟩)|((first|refine call0D (iCh_ok _ _ _ _ ?_ ?_ ?_) ?_|refine qcall0D (iCh_ok _ _ _ _ ?_ ?_ ?_) ⟨_,_,rfl,rfl⟩ ?_);(iterate 3 (exact sd));rintro _ _ ⟨rfl,rfl⟩)|((first|refine call0D (iCe_ok _ _ _ _ _ ?_ ?_ ?_) ?_|refine qcall0D (iCe_ok _ _ _ _ _ ?_ ?_ ?_) ⟨_,_,rfl,rfl⟩ ?_);(iterate 3 (exact sd));rintro _ _ ⟨rfl,rfl⟩)|((first|refine call0D (BCall.ofP (lwithin_ok _ _ _ _ ?_ ?_ ?_)) ?_|refine qcall0D (BCall.ofP (lwithin_ok _ _ _ _ ?_ ?_ ?_)) ⟨_,_,rfl,rfl⟩ ?_);(iterate 3 (exact sd));rintro _ _ ⟨rfl,rfl⟩)|((first|refine call0D (BCall.ofP (iIsOneToOne_ok _ _ _ _ _ ?_ ?_ ?_)) ?_|refine qcall0D (BCall.ofP (iIsOneToOne_ok _ _ _ _ _ ?_ ?_ ?_)) ⟨_,_,rfl,rfl⟩ ?_);(iterate 3 (exact sd));rintro _ _ ⟨rfl,rfl⟩))<;>(try simp (disch:=omega) only [push_cast,seval]))
 | (refine awp_ret ⟨.inr rfl,_,rfl,?_⟩;(try simp (disch:=omega) only [push_cast,seval]))))

end Go.Proofs.YtceopplkfomalaaGreat
