import Derived.Test.YtbplegbgofnolaaCKq15
import Derived.Test.YtbplegbgofnolaaCM1
import Derived.Test.YtbplegbgofnolaaCW3
set_option linter.unusedSimpArgs false
set_option linter.unusedVariables false
set_option maxRecDepth 4000
set_option maxHeartbeats 4000000
namespace Go.Proofs.Ytbplegbgofnolaa
open VwM Vw Go

theorem perm_map (f:Int → Int) {out order:List Int} (ho:isOrd order out.length):(permL out order).map f=permL (out.map f) order:=by
  unfold permL
  rw [List.map_map]
  refine List.map_congr_left fun x hx=>?_
  have:=ho.2.1 x hx
  simp only [Function.comp_def]
  simp [List.getD,show x.toNat < out.length by omega]
/-- With the labels of the result turned,the result is turned. -/
theorem ct_perm {ts:List Tn} {ls:List (List Int)} {e out order:List Int} {o:Tn} (h:exO ts ls=some e) (hct:ctT ts ls out=some o) (ho:isOrd order out.length):ctT ts ls (permL out order)=some (turnT o order):=by
  have hC:=Hgz h
  obtain ⟨e2,h2,hc,hv,hoe⟩:=ct_some hct
  rw [h] at h2
  injection h2 with h2
  subst h2
  obtain ⟨c1,c2,c3,c4⟩:=ctC_parts hc
  have hpm:=B7z ho
  have hmm:∀ x,x ∈ permL out order ↔ x ∈ out:=fun x=>hpm.mem_iff
  have hS:(permL out order).map (gE e)=permL (out.map (gE e)) order:=perm_map (gE e) ho
  have ho2:isOrd order (out.map (gE e)).length:=by rw [List.length_map];exact ho
  have hnd:(permL out order).Nodup:=(hpm.nodup_iff).2 c2
  have hcc:ctC (permL out order) e=true:=by
    unfold ctC
    rw [hS,E5z (B7z ho2) c3,Bcz.2 fun x hx=>Bcz.1 c1 x ((hmm x).1 hx)]
    simp only [Bool.true_and,Bool.and_true,Bool.and_eq_true,decide_eq_true_eq]
    exact ⟨hnd,c4⟩
  have hW:ctW ts ls (permL out order) e=turnT o order:=by
    rw [hoe]
    unfold ctW turnT
    simp only
    rw [hS]
    congr 1
    have hvs:=E5z (B7z ho2) c3
    refine B2z (by rw [Ezz,takesL_length,Cjz]) fun p hp=>?_
    rw [Ezz] at hp
    have hpo:p < (offs 0 (permL (out.map (gE e)) order) (permL (rowS (out.map (gE e))) order)).length:=by rw [Cjz];exact hp
    have hin:=Inz c3 ho2 _ (A4z hpo)
    rw [Gjz hpo]
    rw [Fdz hp] at hin ⊢
    generalize hK:cellK 0 (permL (out.map (gE e)) order) (permL (rowS (out.map (gE e))) order) p=K at *
    have g1:(ctV ts ls (permL out order) e (pr (permL (out.map (gE e)) order)).toNat).getD p 0=w64 (ctE ts ls (permL out order) e p):=by unfold ctV;simp [List.getD,hp]
    have g2:(ctV ts ls out e (pr (out.map (gE e))).toNat).getD K.toNat 0=w64 (ctE ts ls out e K.toNat):=by unfold ctV;simp [List.getD,show K.toNat < (pr (out.map (gE e))).toNat by omega]
    rw [g1,g2]
    congr 1
    unfold ctE
    have hsd:sumd ls (permL out order)=sumd ls out:=by
      unfold sumd wiL
      exact List.filter_congr fun x _=>by simp [hmm x]
    rw [hsd,show ((K.toNat:Nat):Int)=K by omega]
    congr 1
    have hO5:∀ x ∈ out,0 ≤ x ∧ x ≤ 4:=fun x hx=>Bcz.1 c1 x hx
    have hO5':∀ x ∈ permL out order,0 ≤ x ∧ x ≤ 4:=fun x hx=>hO5 x ((hmm x).1 hx)
    have hdi:=Efz (A7z hvs).1 (Int.natCast_nonneg p) (by have:=(A7z hvs).2.1;omega)
    have hix:=isIx_permL ho2 hdi
    -- the index that has the rank K
    have hfi:∀ d,d < out.length → ((List.range out.length).map fun d=>dig (permL (out.map (gE e)) order) p (invO order d)).getD d 0=dig (permL (out.map (gE e)) order) p (invO order d):=fun d hd=>by simp [List.getD,hd]
    have hvi:vIx (out.map (gE e)) ((List.range out.length).map fun d=>dig (permL (out.map (gE e)) order) p (invO order d))=true:=C0z.2 ⟨by simp,fun i hi=>by
      have hi':i < out.length:=by simpa using hi
      rw [hfi i hi']
      have hh:=hix i (by rw [List.length_map];exact hi')
      exact ⟨hh.1,by have:=hh.2;simp only at this;omega⟩⟩
    have hur:=unr_rank c3 hvi
    have hrk:rankD (out.map (gE e)) ((List.range out.length).map fun d=>dig (permL (out.map (gE e)) order) p (invO order d))=K:=by
      unfold rankD
      rw [if_pos ⟨c3,hvi⟩,← hK]
      unfold cellK
      rw [B0z,ho.1,List.length_map,Hfz ho,Int.zero_add]
      exact Cfz fun d hd=>hfi d hd
    rw [hrk] at hur
    have hdg:∀ d,d < out.length → dig (out.map (gE e)) K d=dig (permL (out.map (gE e)) order) p (invO order d):=fun d hd=>by
      have e1:(unr (out.map (gE e)) K).getD d 0=dig (out.map (gE e)) K d:=by simp [unr,List.getD,hd]
      rw [← e1,hur.1,hfi d hd]
    refine B2z (by rw [Cqz,Cqz]) fun c hc5=>?_
    rw [Cqz] at hc5
    have a0:∀ L k,(wayK e L Z5 k).getD c 0=gE (wayK e L Z5 k) (c:Int):=fun L k=>by unfold gE;rw [Int.toNat_natCast]
    rw [a0,a0]
    by_cases hm:(c:Int) ∈ out
    · obtain ⟨i,hi,hic⟩:=C1z.1 hm
      obtain ⟨j1,j2⟩:=G6z ho hi
      have hoi:out[i]?=some (c:Int):=by rw [← hic];simp [List.getD,hi]
      have hoj:(permL out order)[invO order i]?=some (c:Int):=by
        have hlt:invO order i < (permL out order).length:=by rw [B0z,ho.1];exact j1
        have:=Daz out order (k:=invO order i) (by rw [ho.1];exact j1)
        rw [j2,Int.toNat_natCast,hic] at this
        rw [← this];simp [List.getD,hlt]
      rw [Iiz hnd (Fez rfl hO5') hoj,Iiz c2 (Fez rfl hO5) hoi,hS,hdg i hi]
    · rw [Igz (Int.natCast_nonneg c) (Fez rfl hO5') (fun h=>hm ((hmm _).1 h)),Igz (Int.natCast_nonneg c) (Fez rfl hO5) hm]
  unfold ctT
  rw [h]
  simp only [Option.bind_some]
  rw [hcc,hW,turn_vT (by rw [hoe];exact hv) (by rw [hoe];exact ho2)]
  rfl


theorem back_ord (n:Nat):isOrd (nums 0 1 n).reverse n:=⟨by simp,fun x hx=>Clz.1 (by simpa using hx),(List.reverse_perm _).nodup_iff.2 (Fsz n)⟩
theorem back_perm (xs:List Int):permL xs (nums 0 1 xs.length).reverse=xs.reverse:=by
  have:=H0z xs
  unfold permL at this ⊢
  rw [List.map_reverse,this]
theorem ordB_of {order:List Int} {n:Nat} (h:isOrd order n):ordB order n=true:=by
  unfold ordB
  rw [Bcz.2 fun x hx=>h.2.1 x hx]
  simp [h.1,h.2.2]


set_option maxHeartbeats 32000000 in
theorem fCt_ok (bs:List Int) (hl:bs.length ≤ 9223372036854775807) (hb:∀ x ∈ bs,0 ≤ x ∧ x ≤ 255):PCall Try.prog 4 [.rows false (UL bs) bs.length] (fun r=>r=.bool true):=by
  refine A2z l4_eq rfl ?_
  by_cases h:bs.length ≤ 1048576
  · have q:bs.length ≤ 1099511627776 ∧ ∀ x ∈ bs,0 ≤ x ∧ x ≤ 255:=⟨by omega,hb⟩
    (repeat' (first
 | (refine awp_joinL (c1:=.reg l4r3) (fun x:List Tn × List (List Int) × List Int=>mkS [(3,.rows true (TL true x.1) x.1.length),(4,.rows true (LL true x.2.1) x.2.1.length),(5,.rows true (IL x.2.2) x.2.2.length)] []) (fun x=>prodF x.1 x.2.1 x.2.2) ?_ ?_)
 | (first|refine Anz ?_|refine Agz ?_)
 | ((first|refine Aoz ?_|refine Asz (mid:=l4r10a) (post:=l4r10b) Awz (by decide) ?_|refine Afz ?_|refine Ahz ?_|refine Aiz ?_);simp (disch:=omega) only [push_cast,seval,l4r0,l4r1,l4r2,l4r3,l4r4,l4r5,l4r6,l4r7,l4r8,l4r9,l4r10a,l4r10b,l4r10,Abz,Aaz])
 | ((first|refine Acz ?_ ?_|refine Aez ?_ ?_|refine Adz ?_ ?_)<;>intro h<;>(try simp only [h])<;>(try simp only [bitvec_to_nat] at h)<;>(try simp only [h])<;>(first|(exfalso;omega)|(exfalso;simp_all;done)|(simp (disch:=omega) only [push_cast,seval,Abz,Aaz])|skip))
 | ((first|refine Aqz false ?_|refine qcallD_of false ?_);simp (disch:=omega) only [push_cast,seval,Abz,Aaz])
 | ((first|(refine call0D (BCall.ofP (Fkz _ _ ?_ ?_)) ?_;(iterate 2 (exact sd));rintro _ _ ⟨⟨ts,ls,out,hpf,rfl⟩,rfl⟩)|((first|refine call0D (iCon_ok _ _ _ _ _ _ ?_ ?_ ?_ ?_) ?_|refine qcall0D (iCon_ok _ _ _ _ _ _ ?_ ?_ ?_ ?_) ⟨_,_,rfl,rfl⟩ ?_);(iterate 4 (exact sd));rintro _ _ ⟨rfl,rfl⟩)|((first|refine call0D (sCon_ok _ _ _ _ _ _ ?_ ?_ ?_ ?_) ?_|refine qcall0D (sCon_ok _ _ _ _ _ _ ?_ ?_ ?_ ?_) ⟨_,_,rfl,rfl⟩ ?_);(iterate 4 (exact sd));rintro _ _ ⟨rfl,rfl⟩)|((first|refine call0D (BCall.ofP (lequT_ok _ _ _ _ _ _ _ _ ?_ ?_)) ?_|refine qcall0D (BCall.ofP (lequT_ok _ _ _ _ _ _ _ _ ?_ ?_)) ⟨_,_,rfl,rfl⟩ ?_);(iterate 2 (exact sd));rintro _ _ ⟨rfl,rfl⟩)|((first|refine call0D (iExO_ok _ _ _ _ ?_ ?_ ?_) ?_|refine qcall0D (iExO_ok _ _ _ _ ?_ ?_ ?_) ⟨_,_,rfl,rfl⟩ ?_);(iterate 3 (exact sd));rintro _ _ ⟨rfl,rfl⟩)|((first|refine call0D (back_ok _ _ ?_ ?_) ?_|refine qcall0D (back_ok _ _ ?_ ?_) ⟨_,_,rfl,rfl⟩ ?_);(iterate 2 (exact sd));rintro _ _ ⟨rfl,rfl⟩)|((first|refine call0D (takes_ok _ _ _ _ ?_ ?_ ?_) ?_|refine qcall0D (takes_ok _ _ _ _ ?_ ?_ ?_) ⟨_,_,rfl,rfl⟩ ?_);(iterate 3 (exact sd));rintro _ _ ⟨rfl,rfl⟩)|((first|refine call0D (BCall.ofP (equalInts_ok _ _ _ _ ?_ ?_ ?_)) ?_|refine qcall0D (BCall.ofP (equalInts_ok _ _ _ _ ?_ ?_ ?_)) ⟨_,_,rfl,rfl⟩ ?_);(iterate 3 (exact sd));rintro _ _ ⟨rfl,rfl⟩)|((first|refine call0D (upToL_ok _ ?_) ?_|refine qcall0D (upToL_ok _ ?_) ⟨_,_,rfl,rfl⟩ ?_);(exact sd);rintro _ _ ⟨rfl,rfl⟩)|((first|refine call0D (iTT_ok _ _ _ _ _ _ ?_ ?_ ?_ ?_) ?_|refine qcall0D (iTT_ok _ _ _ _ _ _ ?_ ?_ ?_ ?_) ⟨_,_,rfl,rfl⟩ ?_);(iterate 4 (exact sd));rintro _ _ ⟨rfl,rfl⟩))<;>(try simp (disch:=omega) only [push_cast,seval,Abz,Aaz]))
 | (refine Akz ⟨.inr rfl,_,rfl,?_⟩;(try simp (disch:=omega) only [push_cast,seval,Abz,Aaz]))))
    · exact exSub3 (by (refine Sub.of_lists ?_ ?_ ?_ ?_ ?_<;>simp [Vw.mkS,Vw.lk,Vw.hk,AV.inn,innL,Arz,Amz,Atz,-List.map_set,-List.getD_eq_getElem?_getD,Abz,Aaz])) hpf
    · refine ⟨?_⟩
      rintro ⟨ts,ls,out⟩ hpf
      try simp only at hpf ⊢
      have hq:=prodF_q hpf
      have hqb:=prodF_b hpf
      obtain ⟨⟨hn1,hn3,hn5⟩,_⟩:=id hpf
      have hC:(t0 (ctT ts ls out)).1.length ≤ 60 ∧ (t0 (ctT ts ls out)).2.length ≤ 60:=ctT_short
      cases hct:ctT ts ls out with
 | none =>
        rw [hct] at hC
        obtain ⟨⟨Q,R⟩,hP⟩:∃ p:Tn,t0 none=p:=⟨_,rfl⟩
        rw [hP] at hC
        simp only at hC
        obtain ⟨hC1,hC2⟩:=hC
        (repeat' (first
 | (first|refine Anz ?_|refine Agz ?_)
 | ((first|refine Aoz ?_|refine Asz (mid:=l4r10a) (post:=l4r10b) Awz (by decide) ?_|refine Afz ?_|refine Ahz ?_|refine Aiz ?_);simp (disch:=omega) only [push_cast,seval,l4r0,l4r1,l4r2,l4r3,l4r4,l4r5,l4r6,l4r7,l4r8,l4r9,l4r10a,l4r10b,l4r10,hct,hP,Option.isSome_none,decide_true,Abz,Aaz])
 | ((first|refine Acz ?_ ?_|refine Aez ?_ ?_|refine Adz ?_ ?_)<;>intro h<;>(try simp only [h])<;>(try simp only [bitvec_to_nat] at h)<;>(try simp only [h])<;>(first|(exfalso;omega)|(exfalso;simp_all;done)|(simp (disch:=omega) only [push_cast,seval,hct,hP,Option.isSome_none,decide_true,Abz,Aaz])|skip))
 | ((first|refine Aqz false ?_|refine qcallD_of false ?_);simp (disch:=omega) only [push_cast,seval,hct,hP,Option.isSome_none,decide_true,Abz,Aaz])
 | ((first|(refine call0D (BCall.ofP (Fkz _ _ ?_ ?_)) ?_;(iterate 2 (exact sd));rintro _ _ ⟨⟨ts,ls,out,hpf,rfl⟩,rfl⟩)|((first|refine call0D (iCon_ok _ _ _ _ _ _ ?_ ?_ ?_ ?_) ?_|refine qcall0D (iCon_ok _ _ _ _ _ _ ?_ ?_ ?_ ?_) ⟨_,_,rfl,rfl⟩ ?_);(iterate 4 (exact sd));rintro _ _ ⟨rfl,rfl⟩)|((first|refine call0D (sCon_ok _ _ _ _ _ _ ?_ ?_ ?_ ?_) ?_|refine qcall0D (sCon_ok _ _ _ _ _ _ ?_ ?_ ?_ ?_) ⟨_,_,rfl,rfl⟩ ?_);(iterate 4 (exact sd));rintro _ _ ⟨rfl,rfl⟩)|((first|refine call0D (BCall.ofP (lequT_ok _ _ _ _ _ _ _ _ ?_ ?_)) ?_|refine qcall0D (BCall.ofP (lequT_ok _ _ _ _ _ _ _ _ ?_ ?_)) ⟨_,_,rfl,rfl⟩ ?_);(iterate 2 (exact sd));rintro _ _ ⟨rfl,rfl⟩)|((first|refine call0D (iExO_ok _ _ _ _ ?_ ?_ ?_) ?_|refine qcall0D (iExO_ok _ _ _ _ ?_ ?_ ?_) ⟨_,_,rfl,rfl⟩ ?_);(iterate 3 (exact sd));rintro _ _ ⟨rfl,rfl⟩)|((first|refine call0D (back_ok _ _ ?_ ?_) ?_|refine qcall0D (back_ok _ _ ?_ ?_) ⟨_,_,rfl,rfl⟩ ?_);(iterate 2 (exact sd));rintro _ _ ⟨rfl,rfl⟩)|((first|refine call0D (takes_ok _ _ _ _ ?_ ?_ ?_) ?_|refine qcall0D (takes_ok _ _ _ _ ?_ ?_ ?_) ⟨_,_,rfl,rfl⟩ ?_);(iterate 3 (exact sd));rintro _ _ ⟨rfl,rfl⟩)|((first|refine call0D (BCall.ofP (equalInts_ok _ _ _ _ ?_ ?_ ?_)) ?_|refine qcall0D (BCall.ofP (equalInts_ok _ _ _ _ ?_ ?_ ?_)) ⟨_,_,rfl,rfl⟩ ?_);(iterate 3 (exact sd));rintro _ _ ⟨rfl,rfl⟩)|((first|refine call0D (upToL_ok _ ?_) ?_|refine qcall0D (upToL_ok _ ?_) ⟨_,_,rfl,rfl⟩ ?_);(exact sd);rintro _ _ ⟨rfl,rfl⟩)|((first|refine call0D (iTT_ok _ _ _ _ _ _ ?_ ?_ ?_ ?_) ?_|refine qcall0D (iTT_ok _ _ _ _ _ _ ?_ ?_ ?_ ?_) ⟨_,_,rfl,rfl⟩ ?_);(iterate 4 (exact sd));rintro _ _ ⟨rfl,rfl⟩))<;>(try simp (disch:=omega) only [push_cast,seval,hct,hP,Option.isSome_none,decide_true,Abz,Aaz]))
 | (refine Akz ⟨.inr rfl,_,rfl,?_⟩;(try simp (disch:=omega) only [push_cast,seval,hct,hP,Option.isSome_none,decide_true,Abz,Aaz]))))
        all_goals (try simp)
 | some o =>
        rw [hct] at hC
        obtain ⟨e,he,hcc,hvo,hoe⟩:=ct_some hct
        have h5:=(Hgz he).len
        obtain ⟨c1,c2,c3,c4⟩:=ctC_parts hcc
        have hol:o.1.length=out.length:=by rw [hoe];exact List.length_map _
        have hvo':vT o=true:=by rw [hoe];exact hvo
        have htk:takesL e out=o.1:=by rw [hoe];rfl
        have hbk:=ct_perm he hct (back_ord out.length)
        rw [back_perm] at hbk
        have hor:ordB (nums 0 1 out.length).reverse o.1.length=true:=by rw [hol];exact ordB_of (back_ord _)
        have htt:=ttT_yes hvo' hor
        have hC2':(t0 (ctT ts ls out.reverse)).1.length ≤ 60 ∧ (t0 (ctT ts ls out.reverse)).2.length ≤ 60:=ctT_short
        rw [hbk] at hC2'
        have q5:(5 ≤ 1099511627776 ∧ out.length ≤ 1099511627776) ∧ ∀ i,i < out.length → 0 ≤ out.getD i 0 ∧ out.getD i 0 < (5:Nat):=⟨by omega,fun i hi=>by have:=Bcz.1 c1 _ (A4z hi);omega⟩
        have q6:(out.length:Int) ≤ 1000000:=by omega
        have q7:(nums 0 1 out.length).length=out.length:=by simp
        have q8:(nums 0 1 out.length).reverse.length=out.length:=by simp
        have q9:out.reverse.length=out.length:=by simp
        generalize turnT o (nums 0 1 out.length).reverse=T at *
        generalize hRR:(nums 0 1 out.length).reverse=RR at *
        generalize hNN:nums 0 1 out.length=NN at *
        obtain ⟨Q,R⟩:=o
        obtain ⟨Q2,R2⟩:=T
        simp only [Foz] at hC hC2' htk htt hol hbk
        obtain ⟨hC1,hC2⟩:=hC
        obtain ⟨hC3,hC4⟩:=hC2'
        (repeat' (first
 | (first|refine Anz ?_|refine Agz ?_)
 | ((first|refine Aoz ?_|refine Asz (mid:=l4r10a) (post:=l4r10b) Awz (by decide) ?_|refine Afz ?_|refine Ahz ?_|refine Aiz ?_);simp (disch:=omega) only [push_cast,seval,l4r0,l4r1,l4r2,l4r3,l4r4,l4r5,l4r6,l4r7,l4r8,l4r9,l4r10a,l4r10b,l4r10,hct,hbk,he,htk,htt,hNN,hRR,h5,q7,q8,q9,Foz,Int.toNat_natCast,Option.isSome_some,Option.getD_some,decide_true,Abz,Aaz])
 | ((first|refine Acz ?_ ?_|refine Aez ?_ ?_|refine Adz ?_ ?_)<;>intro h<;>(try simp only [h])<;>(try simp only [bitvec_to_nat] at h)<;>(try simp only [h])<;>(first|(exfalso;omega)|(exfalso;simp_all;done)|(simp (disch:=omega) only [push_cast,seval,hct,hbk,he,htk,htt,hNN,hRR,h5,q7,q8,q9,Foz,Int.toNat_natCast,Option.isSome_some,Option.getD_some,decide_true,Abz,Aaz])|skip))
 | ((first|refine Aqz false ?_|refine qcallD_of false ?_);simp (disch:=omega) only [push_cast,seval,hct,hbk,he,htk,htt,hNN,hRR,h5,q7,q8,q9,Foz,Int.toNat_natCast,Option.isSome_some,Option.getD_some,decide_true,Abz,Aaz])
 | ((first|(refine call0D (BCall.ofP (Fkz _ _ ?_ ?_)) ?_;(iterate 2 (exact sd));rintro _ _ ⟨⟨ts,ls,out,hpf,rfl⟩,rfl⟩)|((first|refine call0D (iCon_ok _ _ _ _ _ _ ?_ ?_ ?_ ?_) ?_|refine qcall0D (iCon_ok _ _ _ _ _ _ ?_ ?_ ?_ ?_) ⟨_,_,rfl,rfl⟩ ?_);(iterate 4 (exact sd));rintro _ _ ⟨rfl,rfl⟩)|((first|refine call0D (sCon_ok _ _ _ _ _ _ ?_ ?_ ?_ ?_) ?_|refine qcall0D (sCon_ok _ _ _ _ _ _ ?_ ?_ ?_ ?_) ⟨_,_,rfl,rfl⟩ ?_);(iterate 4 (exact sd));rintro _ _ ⟨rfl,rfl⟩)|((first|refine call0D (BCall.ofP (lequT_ok _ _ _ _ _ _ _ _ ?_ ?_)) ?_|refine qcall0D (BCall.ofP (lequT_ok _ _ _ _ _ _ _ _ ?_ ?_)) ⟨_,_,rfl,rfl⟩ ?_);(iterate 2 (exact sd));rintro _ _ ⟨rfl,rfl⟩)|((first|refine call0D (iExO_ok _ _ _ _ ?_ ?_ ?_) ?_|refine qcall0D (iExO_ok _ _ _ _ ?_ ?_ ?_) ⟨_,_,rfl,rfl⟩ ?_);(iterate 3 (exact sd));rintro _ _ ⟨rfl,rfl⟩)|((first|refine call0D (back_ok _ _ ?_ ?_) ?_|refine qcall0D (BCall.ofP (plainI (back_ok _ _ ?_ ?_))) ⟨_,_,rfl,rfl⟩ ?_);(iterate 2 (exact sd));rintro _ _ ⟨rfl,rfl⟩)|((first|refine call0D (takes_ok _ _ _ _ ?_ ?_ ?_) ?_|refine qcall0D (BCall.ofP (plainI (takes_ok _ _ _ _ ?_ ?_ ?_))) ⟨_,_,rfl,rfl⟩ ?_);(iterate 3 (exact sd));rintro _ _ ⟨rfl,rfl⟩)|((first|refine call0D (BCall.ofP (equalInts_ok _ _ _ _ ?_ ?_ ?_)) ?_|refine qcall0D (BCall.ofP (equalInts_ok _ _ _ _ ?_ ?_ ?_)) ⟨_,_,rfl,rfl⟩ ?_);(iterate 3 (exact sd));rintro _ _ ⟨rfl,rfl⟩)|((first|refine call0D (upToL_ok _ ?_) ?_|refine qcall0D (BCall.ofP (plainI (upToL_ok _ ?_))) ⟨_,_,rfl,rfl⟩ ?_);(exact sd);rintro _ _ ⟨rfl,rfl⟩)|((first|refine call0D (iTT_ok _ _ _ _ _ _ ?_ ?_ ?_ ?_) ?_|refine qcall0D (BCall.ofP (plainT ((iTT_ok _ _ _ _ _ _ ?_ ?_ ?_ ?_)))) ⟨_,_,rfl,rfl⟩ ?_);(iterate 4 (exact sd));rintro _ _ ⟨rfl,rfl⟩))<;>(try simp (disch:=omega) only [push_cast,seval,hct,hbk,he,htk,htt,hNN,hRR,h5,q7,q8,q9,Foz,Int.toNat_natCast,Option.isSome_some,Option.getD_some,decide_true,Abz,Aaz]))
 | (refine Akz ⟨.inr rfl,_,rfl,?_⟩;(try simp (disch:=omega) only [push_cast,seval,hct,hbk,he,htk,htt,hNN,hRR,h5,q7,q8,q9,Foz,Int.toNat_natCast,Option.isSome_some,Option.getD_some,decide_true,Abz,Aaz]))))
        all_goals (try simp)
  · (repeat' (first
 | (first|refine Anz ?_|refine Agz ?_)
 | ((first|refine Aoz ?_|refine Asz (mid:=l4r10a) (post:=l4r10b) Awz (by decide) ?_|refine Afz ?_|refine Ahz ?_|refine Aiz ?_);simp (disch:=omega) only [push_cast,seval,l4r0,l4r1,l4r2,l4r3,l4r4,l4r5,l4r6,l4r7,l4r8,l4r9,l4r10a,l4r10b,l4r10])
 | ((first|refine Acz ?_ ?_|refine Aez ?_ ?_|refine Adz ?_ ?_)<;>intro h<;>(try simp only [h])<;>(try simp only [bitvec_to_nat] at h)<;>(try simp only [h])<;>(first|(exfalso;omega)|(exfalso;simp_all;done)|(simp (disch:=omega) only [push_cast,seval])|skip))
 | ((first|refine Aqz false ?_|refine qcallD_of false ?_);simp (disch:=omega) only [push_cast,seval])
 | ((first|(refine call0D (BCall.ofP (Fkz _ _ ?_ ?_)) ?_;(iterate 2 (exact sd));rintro _ _ ⟨⟨ts,ls,out,hpf,rfl⟩,rfl⟩)|((first|refine call0D (iCon_ok _ _ _ _ _ _ ?_ ?_ ?_ ?_) ?_|refine qcall0D (iCon_ok _ _ _ _ _ _ ?_ ?_ ?_ ?_) ⟨_,_,rfl,rfl⟩ ?_);(iterate 4 (exact sd));rintro _ _ ⟨rfl,rfl⟩)|((first|refine call0D (sCon_ok _ _ _ _ _ _ ?_ ?_ ?_ ?_) ?_|refine qcall0D (sCon_ok _ _ _ _ _ _ ?_ ?_ ?_ ?_) ⟨_,_,rfl,rfl⟩ ?_);(iterate 4 (exact sd));rintro _ _ ⟨rfl,rfl⟩)|((first|refine call0D (BCall.ofP (lequT_ok _ _ _ _ _ _ _ _ ?_ ?_)) ?_|refine qcall0D (BCall.ofP (lequT_ok _ _ _ _ _ _ _ _ ?_ ?_)) ⟨_,_,rfl,rfl⟩ ?_);(iterate 2 (exact sd));rintro _ _ ⟨rfl,rfl⟩)|((first|refine call0D (iExO_ok _ _ _ _ ?_ ?_ ?_) ?_|refine qcall0D (iExO_ok _ _ _ _ ?_ ?_ ?_) ⟨_,_,rfl,rfl⟩ ?_);(iterate 3 (exact sd));rintro _ _ ⟨rfl,rfl⟩)|((first|refine call0D (back_ok _ _ ?_ ?_) ?_|refine qcall0D (back_ok _ _ ?_ ?_) ⟨_,_,rfl,rfl⟩ ?_);(iterate 2 (exact sd));rintro _ _ ⟨rfl,rfl⟩)|((first|refine call0D (takes_ok _ _ _ _ ?_ ?_ ?_) ?_|refine qcall0D (takes_ok _ _ _ _ ?_ ?_ ?_) ⟨_,_,rfl,rfl⟩ ?_);(iterate 3 (exact sd));rintro _ _ ⟨rfl,rfl⟩)|((first|refine call0D (BCall.ofP (equalInts_ok _ _ _ _ ?_ ?_ ?_)) ?_|refine qcall0D (BCall.ofP (equalInts_ok _ _ _ _ ?_ ?_ ?_)) ⟨_,_,rfl,rfl⟩ ?_);(iterate 3 (exact sd));rintro _ _ ⟨rfl,rfl⟩)|((first|refine call0D (upToL_ok _ ?_) ?_|refine qcall0D (upToL_ok _ ?_) ⟨_,_,rfl,rfl⟩ ?_);(exact sd);rintro _ _ ⟨rfl,rfl⟩)|((first|refine call0D (iTT_ok _ _ _ _ _ _ ?_ ?_ ?_ ?_) ?_|refine qcall0D (iTT_ok _ _ _ _ _ _ ?_ ?_ ?_ ?_) ⟨_,_,rfl,rfl⟩ ?_);(iterate 4 (exact sd));rintro _ _ ⟨rfl,rfl⟩))<;>(try simp (disch:=omega) only [push_cast,seval]))
 | (refine Akz ⟨.inr rfl,_,rfl,?_⟩;(try simp (disch:=omega) only [push_cast,seval]))))

end Go.Proofs.Ytbplegbgofnolaa
