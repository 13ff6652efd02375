/- Texts of this verifier. -/
import Derived.Test.YtfmogaimamphdaaCB7
import Derived.Test.YtfmogaimamphdaaCM1
import Derived.Test.YtfmogaimamphdaaCW3
set_option linter.unusedSimpArgs false
set_option linter.unusedVariables false
set_option maxRecDepth 4000
set_option maxHeartbeats 4000000
namespace Go.Proofs.Ytfmogaimamphdaa
open VwM Vw Go

theorem waysOfZ_ok (e L:List Int) (m:Nat) (hm:L.length=m) (he:e.length=5) (hb:m ≤ 6 ∧ (∀ x ∈ L,0 ≤ x ∧ x ≤ 4) ∧ ∀ x ∈ L,0 ≤ gE e x ∧ gE e x ≤ 60):BCall Try.prog 71 [.agg (IL e),.rows false (IL L) m,.agg [.int .i64 0,.int .i64 0,.int .i64 0,.int .i64 0,.int .i64 0]] [] (fun r H'=>r=.own 0 (pr (L.map (gE e))).toNat 5 ∧ H'=[IL (waysF e L Z5 (pr (L.map (gE e))).toNat)]):=waysOf_ok e Z5 L m hm ⟨he,rfl⟩ hb


def ctV (ts:List Tn) (ls:List (List Int)) (out e:List Int) (n:Nat):List Int:=(List.range n).map fun p=>w64 (ctE ts ls out e p)
theorem Fyz (ts:List Tn) (ls:List (List Int)) (out e:List Int) (n:Nat):(ctV ts ls out e n).length=n:=by simp [ctV]
theorem ctV_succ (ts:List Tn) (ls:List (List Int)) (out e:List Int) (n:Nat):ctV ts ls out e (n + 1)=ctV ts ls out e n ++ [w64 (ctE ts ls out e n)]:=by simp [ctV,List.range_succ]
theorem facs_take {ts:List Tn} {ls:List (List Int)} {i:Nat} {t:Tn} {l:List Int} (ht:ts[i]?=some t) (hl:ls[i]?=some l):(facs ts ls).take (i + 1)=(facs ts ls).take i ++ [(t.2,lbS l,fsT l (rowS t.1) t.1.length)]:=by
  rw [List.take_add_one,facs_get ht hl];rfl
theorem FC_snoc (g:Nat) (b1 b2:Bool) (fs:List Fc) (f:Fc):FC g b1 b2 fs ++ [.clo (.func g) [.agg (.rows b1 (IL f.1) f.1.length :: .rows b2 (IL f.2.1) f.2.1.length :: IL f.2.2)] []]=FC g b1 b2 (fs ++ [f]):=by rw [FC_append];rfl


set_option maxHeartbeats 32000000 in
theorem icontr_ok (ts:List Tn) (ls:List (List Int)) (out e:List Int) (n m q:Nat) (hn:ts.length=n) (hm:ls.length=m) (hq:out.length=q)
    (hb:CtOk ts ls e ∧ (n ≤ 1000 ∧ q ≤ 6) ∧ (∀ x ∈ out,x ∈ ls.flatten) ∧ (∀ t ∈ ts,t.1.length ≤ 1000 ∧ t.2.length ≤ 1000) ∧ ∀ l ∈ ls,l.length ≤ 1000) :
    BCall Try.prog 54 [.agg (IL e),.rows false (TL false ts) n,.rows false (LL false ls) m,.rows false (IL out) q] [] (OI (ctV ts ls out e (pr (out.map (gE e))).toNat)):=by
  subst hn hm hq
  obtain ⟨hC,⟨hb1,hb2⟩,ho,hb3,hb4⟩:=hb
  have h5:=hC.len
  have hlen:=hC.num
  have htl:=D5z false ts
  have hll:=Daz false ls
  have hO:∀ x ∈ out,(0 ≤ x ∧ x ≤ 4):=fun x hx=>(hC.used x (ho x hx)).1
  have hO2:∀ x ∈ out,0 ≤ gE e x ∧ gE e x ≤ 60:=fun x hx=>(hC.used x (ho x hx)).2
  have hp0:0 ≤ pr (out.map (gE e)):=Drz fun z hz=>by obtain ⟨y,hy,rfl⟩:=List.mem_map.1 hz;exact (hO2 y hy).1
  have hp9:=Dsz (xs:=out.map (gE e)) ⟨fun x hx=>by obtain ⟨y,hy,rfl⟩:=List.mem_map.1 hx;exact hO2 y hy,by simpa using hb2⟩
  obtain ⟨N,hN⟩:∃ N:Nat,pr (out.map (gE e))=N:=⟨(pr (out.map (gE e))).toNat,by omega⟩
  have hNN:(pr (out.map (gE e))).toNat=N:=by omega
  rw [hNN]
  have hfl:=facs_len hlen
  refine A8z (pins:=[]) (pin:=0) l54_eq rfl rfl rfl ?_
  (repeat' (first
 | (first|refine Akz ?_|refine Aez ?_)
 | ((first|refine Alz ?_|refine Arz (mid:=l54r5a) (post:=l54r5b) Axz (by decide) ?_|refine Adz ?_|refine Afz ?_|refine Agz ?_);simp (disch:=omega) only [push_cast,seval,l54r0,l54r1,l54r2,l54r3,l54r4,l54r5a,l54r5b,l54r5,l54r6,l54r7,l54r8,l54r9,l54r10,l54r11,l54r12,l54r13,l54r14,h5,Aoz,Auz])
 | ((first|refine Aaz ?_ ?_|refine Acz ?_ ?_|refine Abz ?_ ?_)<;>intro h<;>(try simp only [h])<;>(try simp only [bitvec_to_nat] at h)<;>(try simp only [h])<;>(first|(exfalso;omega)|(exfalso;simp_all;done)|(simp (disch:=omega) only [push_cast,seval,h5,Aoz,Auz])|skip))
 | ((first|((with_reducible refine Apz (f:=69) true ?_);simp (disch:=omega) only [push_cast,seval,h5,Aoz,Auz];(refine call0D (BCall.ofP (B1z _ _ _ _ _ ?_ ?_ ?_ ?_)) ?_;(iterate 4 (exact sd));rintro _ _ ⟨rfl,rfl⟩))|((with_reducible refine qcallD_of (f:=69) true ?_);simp (disch:=omega) only [push_cast,seval,h5,Aoz,Auz];(refine qcall0D (BCall.ofP (B1z _ _ _ _ _ ?_ ?_ ?_ ?_)) ⟨_,_,rfl,rfl⟩ ?_;(iterate 4 (exact sd));rintro _ _ ⟨rfl,rfl⟩)))<;>(try simp (disch:=omega) only [push_cast,seval,h5,Aoz,Auz]))
 | ((first|refine Apz false ?_|refine qcallD_of false ?_);simp (disch:=omega) only [push_cast,seval,h5,Aoz,Auz])
 | ((first|((first|refine call0D (labelsOf1_ok _ _ ?_ ?_) ?_|refine qcall0D (labelsOf1_ok _ _ ?_ ?_) ⟨_,_,rfl,rfl⟩ ?_);(iterate 2 (exact sd));rintro _ _ ⟨rfl,rfl⟩)|((first|refine call0D (labelsOf_ok _ _ ?_ ?_) ?_|refine qcall0D (labelsOf_ok _ _ ?_ ?_) ⟨_,_,rfl,rfl⟩ ?_);(iterate 2 (exact sd));rintro _ _ ⟨rfl,rfl⟩)|((first|refine call0D (iwithout_ok _ _ _ _ ?_ ?_ ?_) ?_|refine qcall0D (iwithout_ok _ _ _ _ ?_ ?_ ?_) ⟨_,_,rfl,rfl⟩ ?_);(iterate 3 (exact sd));rintro _ _ ⟨rfl,rfl⟩)|((first|refine call0D (waysOfZ_ok _ _ _ ?_ ?_ ?_) ?_|refine qcall0D (waysOfZ_ok _ _ _ ?_ ?_ ?_) ⟨_,_,rfl,rfl⟩ ?_);(iterate 3 (exact sd));rintro _ _ ⟨rfl,rfl⟩)|((first|refine call0D (waysOf_ok _ _ _ _ ?_ ?_ ?_) ?_|refine qcall0D (waysOf_ok _ _ _ _ ?_ ?_ ?_) ⟨_,_,rfl,rfl⟩ ?_);(iterate 3 (exact sd));rintro _ _ ⟨rfl,rfl⟩)|((first|refine call0D (BCall.ofP (sopW_ok _ _ _ _ ?_ ?_ ?_)) ?_|refine qcall0D (BCall.ofP (sopW_ok _ _ _ _ ?_ ?_ ?_)) ⟨_,_,rfl,rfl⟩ ?_);(iterate 3 (exact sd));rintro _ _ ⟨rfl,rfl⟩))<;>(try simp (disch:=omega) only [push_cast,seval,h5,Aoz,Auz]))
 | (refine Ahz ⟨.inr rfl,[880],[],_,by decide,rfl,?_⟩;(try simp (disch:=omega) only [push_cast,seval,↓Amz,↓Aiz,↓List.map_cons,↓List.map_nil,h5,Aoz,Auz]))))
  refine C9z (fun k:Nat=>mkS [(2,.rows false (LL false ls) ls.length),(3,.rows false (IL out) out.length),(4,.ref 64 5 0),(9,.own 512 k 1),(16,.rows false (TL false ts) ts.length),(17,.int .i64 ts.length),(18,.int .i64 k)] [(64,IL e),(512,FC 70 false true ((facs ts ls).take k))]) (fun k=>k ≤ ts.length) (fun k=>ts.length - k) 0 (Nat.zero_le _) ?_ ?_
  · refine SubW.adopt [9] 512 1 (by simp [Vw.hk]) (SubW.of ?_)
    simp only [adL,List.map_cons,List.map_nil,adA,List.contains_cons,List.contains_nil]
    have e0:FC 70 false true []=[]:=rfl
    (refine Sub.of_lists ?_ ?_ ?_ ?_ ?_<;>simp [Vw.mkS,Vw.lk,Vw.hk,AV.inn,innL,Aqz,Anz,Asz,-List.map_set,-List.getD_eq_getElem?_getD,e0,Atz,Ajz])
  · intro k hk
    have hfk:((facs ts ls).take k).length=k:=by rw [List.length_take,hfl];omega
    have hFl:=Hhz 70 false true ((facs ts ls).take k)
    rw [hfk] at hFl
    by_cases hlt:k < ts.length
    · obtain ⟨t,ht⟩:=F5z hlt
      obtain ⟨l,hl⟩:=F5z (show k < ls.length by omega)
      have hdt:=TL_drop false ts k ht
      have hdl:=I3z false ls k hl
      have hk1:k + 1 ≤ ts.length:=by omega
      have hkl:k + 1 ≤ ls.length:=by omega
      have hbt:=hb3 t (List.mem_of_getElem? ht)
      have hbl:=hb4 l (List.mem_of_getElem? hl)
      obtain ⟨⟨c1,c2⟩,c3,c4,c5⟩:=hC.lab k t l ht hl
      have q1:vSh t.1=true ∧ l.length=t.1.length ∧ t.2.length ≤ 1099511627776 ∧ ∀ x ∈ l,0 ≤ x ∧ x ≤ 4:=⟨c1,c3,by omega,c4⟩
      have hsn:=facs_take ht hl
      have hsn2:=FC_snoc 70 false true ((facs ts ls).take k) (t.2,lbS l,fsT l (rowS t.1) t.1.length)
      rw [← hsn] at hsn2
      generalize hU:FC 70 false true ((facs ts ls).take k)=U at *
      (repeat' (first
 | (first|refine Akz ?_|refine Aez ?_)
 | ((first|refine Alz ?_|refine Cuz (mid:=l54r5a) (post:=l54r5b) [] Axz (by decide) ?_|refine Adz ?_|refine Afz ?_|refine Agz ?_);simp (disch:=omega) only [push_cast,seval,l54r0,l54r1,l54r2,l54r3,l54r4,l54r5a,l54r5b,l54r5,l54r6,l54r7,l54r8,l54r9,l54r10,l54r11,l54r12,l54r13,l54r14,hdt,hdl,htl,hll,hk1,hkl,h5,Aoz,hFl])
 | ((first|refine Aaz ?_ ?_|refine Acz ?_ ?_|refine Abz ?_ ?_)<;>intro h<;>(try simp only [h])<;>(try simp only [bitvec_to_nat] at h)<;>(try simp only [h])<;>(first|(exfalso;omega)|(exfalso;simp_all;done)|(simp (disch:=omega) only [push_cast,seval,hdt,hdl,htl,hll,hk1,hkl,h5,Aoz,hFl])|skip))
 | ((first|((with_reducible refine Apz (f:=69) true ?_);simp (disch:=omega) only [push_cast,seval,hdt,hdl,htl,hll,hk1,hkl,h5,Aoz,hFl];(refine call0D (BCall.ofP (B1z _ _ _ _ _ ?_ ?_ ?_ ?_)) ?_;(iterate 4 (exact sd));rintro _ _ ⟨rfl,rfl⟩))|((with_reducible refine qcallD_of (f:=69) true ?_);simp (disch:=omega) only [push_cast,seval,hdt,hdl,htl,hll,hk1,hkl,h5,Aoz,hFl];(refine qcall0D (BCall.ofP (B1z _ _ _ _ _ ?_ ?_ ?_ ?_)) ⟨_,_,rfl,rfl⟩ ?_;(iterate 4 (exact sd));rintro _ _ ⟨rfl,rfl⟩)))<;>(try simp (disch:=omega) only [push_cast,seval,hdt,hdl,htl,hll,hk1,hkl,h5,Aoz,hFl]))
 | ((first|refine Apz false ?_|refine qcallD_of false ?_);simp (disch:=omega) only [push_cast,seval,hdt,hdl,htl,hll,hk1,hkl,h5,Aoz,hFl])
 | ((first|((first|refine call0D (labelsOf1_ok _ _ ?_ ?_) ?_|refine qcall0D (labelsOf1_ok _ _ ?_ ?_) ⟨_,_,rfl,rfl⟩ ?_);(iterate 2 (exact sd));rintro _ _ ⟨rfl,rfl⟩)|((first|refine call0D (labelsOf_ok _ _ ?_ ?_) ?_|refine qcall0D (labelsOf_ok _ _ ?_ ?_) ⟨_,_,rfl,rfl⟩ ?_);(iterate 2 (exact sd));rintro _ _ ⟨rfl,rfl⟩)|((first|refine call0D (iwithout_ok _ _ _ _ ?_ ?_ ?_) ?_|refine qcall0D (iwithout_ok _ _ _ _ ?_ ?_ ?_) ⟨_,_,rfl,rfl⟩ ?_);(iterate 3 (exact sd));rintro _ _ ⟨rfl,rfl⟩)|((first|refine call0D (waysOfZ_ok _ _ _ ?_ ?_ ?_) ?_|refine qcall0D (waysOfZ_ok _ _ _ ?_ ?_ ?_) ⟨_,_,rfl,rfl⟩ ?_);(iterate 3 (exact sd));rintro _ _ ⟨rfl,rfl⟩)|((first|refine call0D (waysOf_ok _ _ _ _ ?_ ?_ ?_) ?_|refine qcall0D (waysOf_ok _ _ _ _ ?_ ?_ ?_) ⟨_,_,rfl,rfl⟩ ?_);(iterate 3 (exact sd));rintro _ _ ⟨rfl,rfl⟩)|((first|refine call0D (BCall.ofP (sopW_ok _ _ _ _ ?_ ?_ ?_)) ?_|refine qcall0D (BCall.ofP (sopW_ok _ _ _ _ ?_ ?_ ?_)) ⟨_,_,rfl,rfl⟩ ?_);(iterate 3 (exact sd));rintro _ _ ⟨rfl,rfl⟩))<;>(try simp (disch:=omega) only [push_cast,seval,hdt,hdl,htl,hll,hk1,hkl,h5,Aoz,hFl]))
 | (refine Ahz ⟨.inr rfl,[880],[],_,by decide,rfl,?_⟩;(try simp (disch:=omega) only [push_cast,seval,↓Amz,↓Aiz,↓List.map_cons,↓List.map_nil,hdt,hdl,htl,hll,hk1,hkl,h5,Aoz,hFl]))))
      refine ⟨k + 1,by omega,by omega,SubW.of ?_⟩
      (refine Sub.of_lists ?_ ?_ ?_ ?_ ?_<;>simp [Vw.mkS,Vw.lk,Vw.hk,AV.inn,innL,Aqz,Anz,Asz,-List.map_set,-List.getD_eq_getElem?_getD,hsn2,Atz,Ajz,E1z])
    · have ek:k=ts.length:=by omega
      have htk:(facs ts ls).take k=facs ts ls:=List.take_of_length_le (by omega)
      rw [htk] at hFl ⊢
      have hS:∀ x ∈ sumd ls out,(0 ≤ x ∧ x ≤ 4):=fun x hx=>(Egz.1 hx).1.1
      have hS2:∀ x ∈ sumd ls out,0 ≤ gE e x ∧ gE e x ≤ 60:=fun x hx=>(hC.used x (Egz.1 hx).1.2).2
      have hSl:(sumd ls out).length ≤ 5:=by
        have h1:=wiL_len (lbS ls.flatten) out
        have h2:=Dwz ls.flatten 5
        show (wiL (lbS ls.flatten) out).length ≤ 5
        have h3:(lbS ls.flatten).length ≤ 5:=h2
        omega
      have hs9:=Dsz (xs:=(sumd ls out).map (gE e)) ⟨fun x hx=>by obtain ⟨y,hy,rfl⟩:=List.mem_map.1 hx;exact hS2 y hy,by simp;omega⟩
      obtain ⟨N2,hN2⟩:∃ N2:Nat,(pr ((sumd ls out).map (gE e))).toNat=N2:=⟨_,rfl⟩
      have hN2b:N2 ≤ 46656000000:=by omega
      have q1:ls.length ≤ 1099511627776 ∧ (∀ l ∈ ls,l.length ≤ 1099511627776) ∧ ∀ l ∈ ls,∀ x ∈ l,0 ≤ x ∧ x ≤ 4:=⟨by omega,fun l hl=>by have:=hb4 l hl;omega,fun l hl x hx=>(hC.used x (List.mem_flatten.2 ⟨l,hl,hx⟩)).1⟩
      have q2:out.length ≤ 6 ∧ (∀ x ∈ out,0 ≤ x ∧ x ≤ 4) ∧ ∀ x ∈ out,0 ≤ gE e x ∧ gE e x ≤ 60:=⟨hb2,hO,hO2⟩
      have q3:(sumd ls out).length ≤ 6 ∧ (∀ x ∈ sumd ls out,0 ≤ x ∧ x ≤ 4) ∧ ∀ x ∈ sumd ls out,0 ≤ gE e x ∧ gE e x ≤ 60:=⟨by omega,hS,hS2⟩
      have q4:(lbS ls.flatten).length ≤ 1099511627776 ∧ out.length ≤ 1099511627776:=⟨by have h3:(lbS ls.flatten).length ≤ 5:=Dwz ls.flatten 5;omega,by omega⟩
      have hsd:wiL (lbS ls.flatten) out=sumd ls out:=rfl
      have hFL:∀ p,innL p (FC 70 false true (facs ts ls))=true:=fun p=>E1z 70 false true p _
      have hWl:=Crz e out Z5 rfl N
      generalize hF:FC 70 false true (facs ts ls)=F at *
      (repeat' (first
 | (first|refine Akz ?_|refine Aez ?_)
 | ((first|refine Alz ?_|refine Arz (mid:=l54r5a) (post:=l54r5b) Axz (by decide) ?_|refine Adz ?_|refine Afz ?_|refine Agz ?_);simp (disch:=omega) only [push_cast,seval,l54r0,l54r1,l54r2,l54r3,l54r4,l54r5a,l54r5b,l54r5,l54r6,l54r7,l54r8,l54r9,l54r10,l54r11,l54r12,l54r13,l54r14,h5,Aoz,Auz,hNN,hN2,hsd,hFl,hWl])
 | ((first|refine Aaz ?_ ?_|refine Acz ?_ ?_|refine Abz ?_ ?_)<;>intro h<;>(try simp only [h])<;>(try simp only [bitvec_to_nat] at h)<;>(try simp only [h])<;>(first|(exfalso;omega)|(exfalso;simp_all;done)|(simp (disch:=omega) only [push_cast,seval,h5,Aoz,Auz,hNN,hN2,hsd,hFl,hWl])|skip))
 | ((first|((with_reducible refine Apz (f:=69) true ?_);simp (disch:=omega) only [push_cast,seval,h5,Aoz,Auz,hNN,hN2,hsd,hFl,hWl];(refine call0D (BCall.ofP (B1z _ _ _ _ _ ?_ ?_ ?_ ?_)) ?_;(iterate 4 (exact sd));rintro _ _ ⟨rfl,rfl⟩))|((with_reducible refine qcallD_of (f:=69) true ?_);simp (disch:=omega) only [push_cast,seval,h5,Aoz,Auz,hNN,hN2,hsd,hFl,hWl];(refine qcall0D (BCall.ofP (B1z _ _ _ _ _ ?_ ?_ ?_ ?_)) ⟨_,_,rfl,rfl⟩ ?_;(iterate 4 (exact sd));rintro _ _ ⟨rfl,rfl⟩)))<;>(try simp (disch:=omega) only [push_cast,seval,h5,Aoz,Auz,hNN,hN2,hsd,hFl,hWl]))
 | ((first|refine Apz false ?_|refine qcallD_of false ?_);simp (disch:=omega) only [push_cast,seval,h5,Aoz,Auz,hNN,hN2,hsd,hFl,hWl])
 | ((first|((first|refine call0D (labelsOf1_ok _ _ ?_ ?_) ?_|refine qcall0D (BCall.ofP (plainI (labelsOf1_ok _ _ ?_ ?_))) ⟨_,_,rfl,rfl⟩ ?_);(iterate 2 (exact sd));rintro _ _ ⟨rfl,rfl⟩)|((first|refine call0D (labelsOf_ok _ _ ?_ ?_) ?_|refine qcall0D (BCall.ofP (plainI (labelsOf_ok _ _ ?_ ?_))) ⟨_,_,rfl,rfl⟩ ?_);(iterate 2 (exact sd));rintro _ _ ⟨rfl,rfl⟩)|((first|refine call0D (iwithout_ok _ _ _ _ ?_ ?_ ?_) ?_|refine qcall0D (BCall.ofP (plainI (iwithout_ok _ _ _ _ ?_ ?_ ?_))) ⟨_,_,rfl,rfl⟩ ?_);(iterate 3 (exact sd));rintro _ _ ⟨rfl,rfl⟩)|((first|refine call0D (waysOfZ_ok _ _ _ ?_ ?_ ?_) ?_|refine qcall0D (waysOfZ_ok _ _ _ ?_ ?_ ?_) ⟨_,_,rfl,rfl⟩ ?_);(iterate 3 (exact sd));rintro _ _ ⟨rfl,rfl⟩)|((first|refine call0D (waysOf_ok _ _ _ _ ?_ ?_ ?_) ?_|refine qcall0D (waysOf_ok _ _ _ _ ?_ ?_ ?_) ⟨_,_,rfl,rfl⟩ ?_);(iterate 3 (exact sd));rintro _ _ ⟨rfl,rfl⟩)|((first|refine call0D (BCall.ofP (sopW_ok _ _ _ _ ?_ ?_ ?_)) ?_|refine qcall0D (BCall.ofP (sopW_ok _ _ _ _ ?_ ?_ ?_)) ⟨_,_,rfl,rfl⟩ ?_);(iterate 3 (exact sd));rintro _ _ ⟨rfl,rfl⟩))<;>(try simp (disch:=omega) only [push_cast,seval,h5,Aoz,Auz,hNN,hN2,hsd,hFl,hWl]))
 | (refine Ahz ⟨.inr rfl,[880],[],_,by decide,rfl,?_⟩;(try simp (disch:=omega) only [push_cast,seval,↓Amz,↓Aiz,↓List.map_cons,↓List.map_nil,h5,Aoz,Auz,hNN,hN2,hsd,hFl,hWl]))))
      refine C9z (fun j:Nat=>mkS [(4,.ref 64 5 0),(9,.own 512 ts.length 1),(12,.own 592 (sumd ls out).length 1),(13,.own 880 j 1),(41,.own 656 N 5),(42,.int .i64 N),(43,.int .i64 j)] [(64,IL e),(512,F),(592,IL (sumd ls out)),(656,IL (waysF e out Z5 N)),(880,IL (ctV ts ls out e j))]) (fun j=>j ≤ N) (fun j=>N - j) 0 (Nat.zero_le _) ?_ ?_
      · refine SubW.adopt [13] 880 1 (by simp [Vw.hk]) (SubW.of ?_)
        simp only [adL,List.map_cons,List.map_nil,adA,List.contains_cons,List.contains_nil]
        have e0:IL (ctV ts ls out e 0)=[]:=rfl
        rw [← ek]
        (refine Sub.of_lists ?_ ?_ ?_ ?_ ?_<;>simp [Vw.mkS,Vw.lk,Vw.hk,AV.inn,innL,Aqz,Anz,Asz,-List.map_set,-List.getD_eq_getElem?_getD,e0,hFL])
      · intro j hj
        have hVl:=Fyz ts ls out e j
        by_cases hjl:j < N
        · have hwk:(waysT e out Z5 N)[j]?=some (wayK e out Z5 j):=by simp [waysT,hjl]
          have hwt5:∀ v ∈ waysT e out Z5 N,v.length=5:=fun v hv=>by obtain ⟨i,_,rfl⟩:=List.mem_map.1 hv;rw [Cpz];rfl
          have hd5:((IL (waysF e out Z5 N)).drop (j * 5)).take 5=IL (wayK e out Z5 j):=Fvz hwt5 hwk
          have hk5:(wayK e out Z5 j).length=5:=by rw [Cpz];rfl
          have hsum:=prog_sum hC ho hN hjl
          have hpos:=used_pos hC ho hN hjl
          have hwo:∀ x ∈ out,fitW e (wayK e out Z5 j) x:=fun x hx=>wayK_in (Int.natCast_nonneg _) (Hlz rfl hO) hpos hx
          rw [hN2] at hsum
          have q5:e.length=5 ∧ (wayK e out Z5 j).length=5:=⟨h5,hk5⟩
          have hW2l:=Crz e (sumd ls out) (wayK e out Z5 j) hk5 N2
          have q6:(N2 ≤ 1099511627776 ∧ ts.length ≤ 1099511627776) ∧ (∀ w ∈ waysT e (sumd ls out) (wayK e out Z5 j) N2,w.length=5) ∧ ∀ w ∈ waysT e (sumd ls out) (wayK e out Z5 j) N2,∀ f ∈ facs ts ls,fcOk f w:=by
            refine ⟨⟨by omega,by omega⟩,fun w hw=>by obtain ⟨i,_,rfl⟩:=List.mem_map.1 hw;rw [Cpz];exact hk5,fun w hw=>?_⟩
            obtain ⟨i,hi,rfl⟩:=List.mem_map.1 hw
            have hi2:=List.mem_range.1 hi
            refine facs_ok hC (fit_two hC ho hk5 hwo (by rw [Cpz];exact hk5) (fun y hy hn=>Iez hy (Hlz hk5 hS) hn) (fun x hx=>wayK_in (Int.natCast_nonneg _) (Hlz hk5 hS) (fun y hy=>?_) hx)) (fun t ht=>by have:=hb3 t ht;omega)
            have:=C4z (xs:=(sumd ls out).map (gE e)) (by omega) (fun z hz=>by obtain ⟨y,hy,rfl⟩:=List.mem_map.1 hz;exact (hS2 y hy).1)
            exact this _ (List.mem_map.2 ⟨y,hy,rfl⟩)
          have hWT2:=waysT_len e (sumd ls out) (wayK e out Z5 j) N2
          have hnx:=ctV_succ ts ls out e j
          have hs5:=fun a b c d f=>set5I hk5 a b c d f
          subst hF
          generalize hV:ctV ts ls out e j=V at *
          (repeat' (first
 | (first|refine Akz ?_|refine Aez ?_)
 | ((first|refine Alz ?_|refine Arz (mid:=l54r5a) (post:=l54r5b) Axz (by decide) ?_|refine Adz ?_|refine Afz ?_|refine Agz ?_);simp (disch:=omega) only [push_cast,seval,l54r0,l54r1,l54r2,l54r3,l54r4,l54r5a,l54r5b,l54r5,l54r6,l54r7,l54r8,l54r9,l54r10,l54r11,l54r12,l54r13,l54r14,h5,hk5,Aoz,Auz,hd5,hs5,hNN,hN2,hsd,hFl,hWl,hW2l,hVl,hsum])
 | ((first|refine Aaz ?_ ?_|refine Acz ?_ ?_|refine Abz ?_ ?_)<;>intro h<;>(try simp only [h])<;>(try simp only [bitvec_to_nat] at h)<;>(try simp only [h])<;>(first|(exfalso;omega)|(exfalso;simp_all;done)|(simp (disch:=omega) only [push_cast,seval,h5,hk5,Aoz,Auz,hd5,hs5,hNN,hN2,hsd,hFl,hWl,hW2l,hVl,hsum])|skip))
 | ((first|((with_reducible refine Apz (f:=69) true ?_);simp (disch:=omega) only [push_cast,seval,h5,hk5,Aoz,Auz,hd5,hs5,hNN,hN2,hsd,hFl,hWl,hW2l,hVl,hsum];(refine call0D (BCall.ofP (B1z _ _ _ _ _ ?_ ?_ ?_ ?_)) ?_;(iterate 4 (exact sd));rintro _ _ ⟨rfl,rfl⟩))|((with_reducible refine qcallD_of (f:=69) true ?_);simp (disch:=omega) only [push_cast,seval,h5,hk5,Aoz,Auz,hd5,hs5,hNN,hN2,hsd,hFl,hWl,hW2l,hVl,hsum];(refine qcall0D (BCall.ofP (B1z _ _ _ _ _ ?_ ?_ ?_ ?_)) ⟨_,_,rfl,rfl⟩ ?_;(iterate 4 (exact sd));rintro _ _ ⟨rfl,rfl⟩)))<;>(try simp (disch:=omega) only [push_cast,seval,h5,hk5,Aoz,Auz,hd5,hs5,hNN,hN2,hsd,hFl,hWl,hW2l,hVl,hsum]))
 | ((first|refine Apz false ?_|refine qcallD_of false ?_);simp (disch:=omega) only [push_cast,seval,h5,hk5,Aoz,Auz,hd5,hs5,hNN,hN2,hsd,hFl,hWl,hW2l,hVl,hsum])
 | ((first|((first|refine call0D (labelsOf1_ok _ _ ?_ ?_) ?_|refine qcall0D (labelsOf1_ok _ _ ?_ ?_) ⟨_,_,rfl,rfl⟩ ?_);(iterate 2 (exact sd));rintro _ _ ⟨rfl,rfl⟩)|((first|refine call0D (labelsOf_ok _ _ ?_ ?_) ?_|refine qcall0D (labelsOf_ok _ _ ?_ ?_) ⟨_,_,rfl,rfl⟩ ?_);(iterate 2 (exact sd));rintro _ _ ⟨rfl,rfl⟩)|((first|refine call0D (iwithout_ok _ _ _ _ ?_ ?_ ?_) ?_|refine qcall0D (iwithout_ok _ _ _ _ ?_ ?_ ?_) ⟨_,_,rfl,rfl⟩ ?_);(iterate 3 (exact sd));rintro _ _ ⟨rfl,rfl⟩)|((first|refine call0D (waysOfZ_ok _ _ _ ?_ ?_ ?_) ?_|refine qcall0D (waysOfZ_ok _ _ _ ?_ ?_ ?_) ⟨_,_,rfl,rfl⟩ ?_);(iterate 3 (exact sd));rintro _ _ ⟨rfl,rfl⟩)|((first|refine call0D (waysOf_ok _ _ _ _ ?_ ?_ ?_) ?_|refine qcall0D (waysOf_ok _ _ _ _ ?_ ?_ ?_) ⟨_,_,rfl,rfl⟩ ?_);(iterate 3 (exact sd));rintro _ _ ⟨rfl,rfl⟩)|((first|refine call0D (BCall.ofP (sopW_ok _ _ _ _ ?_ ?_ ?_)) ?_|refine qcall0D (BCall.ofP (sopW_ok _ _ _ _ ?_ ?_ ?_)) ⟨_,_,rfl,rfl⟩ ?_);(iterate 3 (exact sd));rintro _ _ ⟨rfl,rfl⟩))<;>(try simp (disch:=omega) only [push_cast,seval,h5,hk5,Aoz,Auz,hd5,hs5,hNN,hN2,hsd,hFl,hWl,hW2l,hVl,hsum]))
 | (refine Ahz ⟨.inr rfl,[880],[],_,by decide,rfl,?_⟩; (try simp (disch := omega) only [push_cast,seval,↓Amz,↓Aiz,↓List.map_cons,↓List.map_nil,h5,hk5,Aoz,Auz,hd5,hs5,hNN,hN2,hsd,hFl,hWl,hW2l,hVl,hsum]))))
          refine ⟨j + 1,by omega,by omega,SubW.of ?_⟩
          rw [hnx]
          (refine Sub.of_lists ?_ ?_ ?_ ?_ ?_<;>simp [Vw.mkS,Vw.lk,Vw.hk,AV.inn,innL,Aqz,Anz,Asz,-List.map_set,-List.getD_eq_getElem?_getD,hFL])
        · have ej:j=N:=by omega
          subst ej
          generalize hV:ctV ts ls out e j=V at *
          (repeat' (first
 | (first|refine Akz ?_|refine Aez ?_)
 | ((first|refine Alz ?_|refine Arz (mid:=l54r5a) (post:=l54r5b) Axz (by decide) ?_|refine Adz ?_|refine Afz ?_|refine Agz ?_);simp (disch:=omega) only [push_cast,seval,l54r0,l54r1,l54r2,l54r3,l54r4,l54r5a,l54r5b,l54r5,l54r6,l54r7,l54r8,l54r9,l54r10,l54r11,l54r12,l54r13,l54r14,h5,Aoz,Auz,hNN,hFl,hWl,hVl])
 | ((first|refine Aaz ?_ ?_|refine Acz ?_ ?_|refine Abz ?_ ?_)<;>intro h<;>(try simp only [h])<;>(try simp only [bitvec_to_nat] at h)<;>(try simp only [h])<;>(first|(exfalso;omega)|(exfalso;simp_all;done)|(simp (disch:=omega) only [push_cast,seval,h5,Aoz,Auz,hNN,hFl,hWl,hVl])|skip))
 | ((first|((with_reducible refine Apz (f:=69) true ?_);simp (disch:=omega) only [push_cast,seval,h5,Aoz,Auz,hNN,hFl,hWl,hVl];(refine call0D (BCall.ofP (B1z _ _ _ _ _ ?_ ?_ ?_ ?_)) ?_;(iterate 4 (exact sd));rintro _ _ ⟨rfl,rfl⟩))|((with_reducible refine qcallD_of (f:=69) true ?_);simp (disch:=omega) only [push_cast,seval,h5,Aoz,Auz,hNN,hFl,hWl,hVl];(refine qcall0D (BCall.ofP (B1z _ _ _ _ _ ?_ ?_ ?_ ?_)) ⟨_,_,rfl,rfl⟩ ?_;(iterate 4 (exact sd));rintro _ _ ⟨rfl,rfl⟩)))<;>(try simp (disch:=omega) only [push_cast,seval,h5,Aoz,Auz,hNN,hFl,hWl,hVl]))
 | ((first|refine Apz false ?_|refine qcallD_of false ?_);simp (disch:=omega) only [push_cast,seval,h5,Aoz,Auz,hNN,hFl,hWl,hVl])
 | ((first|((first|refine call0D (labelsOf1_ok _ _ ?_ ?_) ?_|refine qcall0D (labelsOf1_ok _ _ ?_ ?_) ⟨_,_,rfl,rfl⟩ ?_);(iterate 2 (exact sd));rintro _ _ ⟨rfl,rfl⟩)|((first|refine call0D (labelsOf_ok _ _ ?_ ?_) ?_|refine qcall0D (labelsOf_ok _ _ ?_ ?_) ⟨_,_,rfl,rfl⟩ ?_);(iterate 2 (exact sd));rintro _ _ ⟨rfl,rfl⟩)|((first|refine call0D (iwithout_ok _ _ _ _ ?_ ?_ ?_) ?_|refine qcall0D (iwithout_ok _ _ _ _ ?_ ?_ ?_) ⟨_,_,rfl,rfl⟩ ?_);(iterate 3 (exact sd));rintro _ _ ⟨rfl,rfl⟩)|((first|refine call0D (waysOfZ_ok _ _ _ ?_ ?_ ?_) ?_|refine qcall0D (waysOfZ_ok _ _ _ ?_ ?_ ?_) ⟨_,_,rfl,rfl⟩ ?_);(iterate 3 (exact sd));rintro _ _ ⟨rfl,rfl⟩)|((first|refine call0D (waysOf_ok _ _ _ _ ?_ ?_ ?_) ?_|refine qcall0D (waysOf_ok _ _ _ _ ?_ ?_ ?_) ⟨_,_,rfl,rfl⟩ ?_);(iterate 3 (exact sd));rintro _ _ ⟨rfl,rfl⟩)|((first|refine call0D (BCall.ofP (sopW_ok _ _ _ _ ?_ ?_ ?_)) ?_|refine qcall0D (BCall.ofP (sopW_ok _ _ _ _ ?_ ?_ ?_)) ⟨_,_,rfl,rfl⟩ ?_);(iterate 3 (exact sd));rintro _ _ ⟨rfl,rfl⟩))<;>(try simp (disch:=omega) only [push_cast,seval,h5,Aoz,Auz,hNN,hFl,hWl,hVl]))
 | (refine Ahz ⟨.inr rfl,[880],[],_,by decide,rfl,?_⟩; (try simp (disch := omega) only [push_cast,seval,↓Amz,↓Aiz,↓List.map_cons,↓List.map_nil,h5,Aoz,Auz,hNN,hFl,hWl,hVl]))))
          all_goals exact ⟨by rw [hVl],rfl⟩

end Go.Proofs.Ytfmogaimamphdaa
set_option linter.unusedSimpArgs false
set_option linter.unusedVariables false
set_option maxRecDepth 4000
set_option maxHeartbeats 4000000
namespace Go.Proofs.Ytfmogaimamphdaa
open VwM Vw Go

theorem ctOk_of {ts:List Tn} {ls:List (List Int)} {e:List Int} (h:exO ts ls=some e):CtOk ts ls e:=by
  obtain ⟨f1,f2,f3,f4,f5,f6,f7,f8⟩:=exO_facts h
  refine ⟨f1,f8,fun i t l ht hl=>?_,fun x hx=>?_,f2⟩
  · have hv:=B6z.1 (f7 t (List.mem_of_getElem? ht))
    exact ⟨⟨hv.1,hv.2.1⟩,(f6 i t l ht hl).1,fun x hx=>f5 x (List.mem_flatten.2 ⟨l,List.mem_of_getElem? hl,hx⟩),(f6 i t l ht hl).2⟩
  · have hr:=f5 x hx
    refine ⟨hr,?_⟩
    obtain ⟨c,rfl⟩:∃ c:Nat,x=c:=⟨x.toNat,by omega⟩
    have:=f3 c (by omega) hx
    unfold gE;rw [Int.toNat_natCast];exact this
end Go.Proofs.Ytfmogaimamphdaa
set_option linter.unusedSimpArgs false
set_option linter.unusedVariables false
set_option maxRecDepth 4000
set_option maxHeartbeats 4000000
namespace Go.Proofs.Ytfmogaimamphdaa
open VwM Vw Go

def ctC (out e:List Int):Bool:=(allI out 0 4 && decide out.Nodup) && vSh (out.map (gE e)) && decide (pr (spE e) ≤ 4000)
def ctW (ts:List Tn) (ls:List (List Int)) (out e:List Int):Tn:=(out.map (gE e),ctV ts ls out e (pr (out.map (gE e))).toNat)
def ctT (ts:List Tn) (ls:List (List Int)) (out:List Int):Option Tn:=(exO ts ls).bind fun e=>if (ctC out e && vT (ctW ts ls out e))=true then some (ctW ts ls out e) else none
def t0 (o:Option Tn):Tn:=o.getD ([],[])
theorem ctT_none {ts:List Tn} {ls:List (List Int)} {out:List Int} (h:exO ts ls=none):ctT ts ls out=none:=by unfold ctT;rw [h];rfl
theorem ctT_no {ts:List Tn} {ls:List (List Int)} {out e:List Int} (h:exO ts ls=some e) (h2:(ctC out e && vT (ctW ts ls out e))=false):ctT ts ls out=none:=by unfold ctT;rw [h];simp only [Option.bind_some];rw [h2];rfl
theorem ctT_yes {ts:List Tn} {ls:List (List Int)} {out e:List Int} (h:exO ts ls=some e) (h2:ctC out e=true) (h3:vT (ctW ts ls out e)=true):ctT ts ls out=some (ctW ts ls out e):=by unfold ctT;rw [h];simp only [Option.bind_some];rw [h2,h3];rfl
/-- All labels of a good result are used. -/
theorem out_used {ts:List Tn} {ls:List (List Int)} {out e:List Int} (hC:CtOk ts ls e) (h1:allI out 0 4=true) (h2:vSh (out.map (gE e))=true):∀ x ∈ out,x ∈ ls.flatten:=fun x hx=>by
  have hr:=Bdz.1 h1 x hx
  refine Classical.byContradiction fun hn=>?_
  obtain ⟨c,rfl⟩:∃ c:Nat,x=c:=⟨x.toNat,by omega⟩
  have h3:=hC.un c (by omega) hn
  have h4:=(A5z h2).1.1 (gE e c) (List.mem_map.2 ⟨_,hx,rfl⟩)
  unfold gE at h4;rw [Int.toNat_natCast] at h4
  omega
theorem space_le {ts:List Tn} {ls:List (List Int)} {e:List Int} (hC:CtOk ts ls e):∀ x ∈ e,x ≤ 60:=fun y hy=>by
  obtain ⟨c,hc,rfl⟩:=Dgz.1 hy
  by_cases hm:(c:Int) ∈ ls.flatten
  · have:=(hC.used _ hm).2;unfold gE at this;rw [Int.toNat_natCast] at this;omega
  · have:=hC.un c (by have:=hC.len;omega) hm;omega
theorem space_bound {ts:List Tn} {ls:List (List Int)} {e:List Int} (hC:CtOk ts ls e):0 ≤ pr (spE e) ∧ pr (spE e) ≤ 46656000000:=Dsz ⟨fun z hz=>by
    obtain ⟨y,hy,rfl⟩:=List.mem_map.1 hz
    have:=space_le hC y hy
    split<;>omega,by rw [spE_length,hC.len];omega⟩
theorem lbS_short {out:List Int} (h:∀ x ∈ out,0 ≤ x ∧ x ≤ 4):((lbS out).length:Int) < out.length ↔ ¬ out.Nodup:=by
  constructor
  · intro hlt hn
    have hp:(lbS out).Perm out:=by
      rw [List.perm_ext_iff_of_nodup (Dxz out) hn]
      exact fun a=>by rw [Dtz];exact ⟨fun h=>h.2,fun ha=>⟨h a ha,ha⟩⟩
    have:=hp.length_eq
    omega
  · intro hn
    refine Classical.byContradiction fun hge=>hn ?_
    have hsub:∀ {A B:List Int},A.Nodup → (∀ x ∈ A,x ∈ B) → A.length ≥ B.length → B.Nodup:=by
      intro A
      induction A with
 | nil=>intro B _ _ hl;have:B=[]:=List.eq_nil_of_length_eq_zero (by simpa using hl);subst this;exact List.nodup_nil
 | cons a A ih =>
        intro B hA hs hl
        rw [List.nodup_cons] at hA
        have haB:=hs a (by simp)
        have hpm:=List.perm_cons_erase haB
        have hle:(B.erase a).length + 1=B.length:=by have:=hpm.length_eq;simp at this;omega
        have:=ih (B:=B.erase a) hA.2 (fun x hx=>(List.mem_erase_of_ne (by intro e;apply hA.1;rw [← e];assumption)).2 (hs x (by simp [hx]))) (by simp at hl;omega)
        rw [hpm.nodup_iff,List.nodup_cons]
        refine ⟨fun hm=>?_,this⟩
        -- a stands twice in B: then A's members and one more lie in B.erase a
        have hcount:A.length + 1 ≤ (B.erase a).length:=by
          have h2:∀ {A B:List Int},A.Nodup → (∀ x ∈ A,x ∈ B) → A.length ≤ B.length:=by
            intro A
            induction A with
            | nil=>intro B _ _;simp
            | cons c A ih2 =>
              intro B hA hs
              rw [List.nodup_cons] at hA
              have hc:=hs c (by simp)
              have hpm2:=List.perm_cons_erase hc
              have hl2:=hpm2.length_eq
              have:=ih2 (B:=B.erase c) hA.2 (fun x hx=>(List.mem_erase_of_ne (by intro e;apply hA.1;rw [← e];assumption)).2 (hs x (by simp [hx])))
              simp at hl2 ⊢
              omega
          have:=h2 (A:=a :: A) (B:=B.erase a) (List.nodup_cons.2 hA) (fun x hx=>by
            rcases List.mem_cons.1 hx with rfl|hx
            · exact hm
            · exact (List.mem_erase_of_ne (by intro e;apply hA.1;rw [← e];assumption)).2 (hs x (by simp [hx])))
          simpa using this
        simp at hl
        omega
    exact hsub (Dxz out) (fun x hx=>(Dtz.1 hx).2) (by omega)


/-- What a contraction yields: a tensor,whether it is possible. -/
abbrev OTn (o:Option Tn):AV → List (List AV) → Prop:=fun r H'=>r=.tup [.agg [.own 0 (t0 o).1.length 1,.own 1 (t0 o).2.length 1],.bool o.isSome] ∧ H'=[IL (t0 o).1,IL (t0 o).2]
set_option maxHeartbeats 32000000 in
theorem iCon_ok (ts:List Tn) (ls:List (List Int)) (out:List Int) (n m q:Nat) (hn:ts.length=n) (hm:ls.length=m) (hq:out.length=q)
    (hb:(n ≤ 1048576 ∧ m ≤ 1048576 ∧ q ≤ 1048576) ∧ (∀ t ∈ ts,t.1.length ≤ 1099511627776 ∧ t.2.length ≤ 1099511627776) ∧ ∀ l ∈ ls,l.length ≤ 1099511627776) :
    BCall Try.prog 26 [.rows false (TL false ts) n,.rows false (LL false ls) m,.rows false (IL out) q] [] (OTn (ctT ts ls out)):=by
  subst hn hm hq
  obtain ⟨⟨hb0,hb1,hb2⟩,hb3,hb4⟩:=hb
  refine A8z (pins:=[]) (pin:=0) l26_eq rfl rfl rfl ?_
  have q1:ts.length ≤ 1099511627776 ∧ ls.length ≤ 1099511627776 ∧ out.length ≤ 1099511627776 ∧ (∀ t ∈ ts,t.1.length ≤ 1099511627776 ∧ t.2.length ≤ 1099511627776) ∧ ∀ l ∈ ls,l.length ≤ 1099511627776:=⟨by omega,by omega,by omega,hb3,hb4⟩
  have hxp:=exP_eq ts ls out
  have s5:=fun (g:List Int) (hg:g.length=5) a b c d f=>set5I hg a b c d f
  have t5:=fun (g:List Int) (hg:g.length=5)=>Auz hg
  cases hx0:exP ts ls out with
  | none =>
    have hno:ctT ts ls out=none:=by
      cases ha:allI out 0 4 with
 | false =>
        cases he:exO ts ls with
        | none=>exact ctT_none he
        | some e=>exact ctT_no he (by unfold ctC;rw [ha];rfl)
 | true=>rw [hx0,if_pos ha] at hxp;exact ctT_none hxp.symm
    rw [hno]
    rw [hx0] at hxp
    have hxp:=hx0
    (repeat' (first
 | (first|refine Akz ?_|refine Aez ?_)
 | ((first|refine Alz ?_|refine Adz ?_|refine Afz ?_|refine Agz ?_);simp (disch:=omega) only [push_cast,seval,l26r0,l26r1,l26r2,l26r3,l26r4,l26r5,l26r6,l26r7,l26r8,l26r9,l26r10,hxp,set5,tak5,Bvz,s5,t5,Aoz,Option.isSome_none,Option.getD_none,Atz,Ajz])
 | ((first|refine Aaz ?_ ?_|refine Acz ?_ ?_|refine Abz ?_ ?_)<;>intro h<;>(try simp only [h])<;>(try simp only [bitvec_to_nat] at h)<;>(try simp only [h])<;>(first|(exfalso;omega)|(exfalso;simp_all;done)|(simp (disch:=omega) only [push_cast,seval,hxp,set5,tak5,Bvz,s5,t5,Aoz,Option.isSome_none,Option.getD_none,Atz,Ajz])|skip))
 | ((first|refine Apz false ?_|refine qcallD_of false ?_);simp (disch:=omega) only [push_cast,seval,hxp,set5,tak5,Bvz,s5,t5,Aoz,Option.isSome_none,Option.getD_none,Atz,Ajz])
 | ((first|(refine call0D (BCall.ofP (Bwz _ _ _ _ _ _ ?_ ?_ ?_ ?_)) ?_;(iterate 4 (exact sd));rintro _ _ ⟨⟨g,hg5,rfl⟩,rfl⟩;(try simp only [hxp,Option.getD_none,Option.getD_some] at hg5))|(refine call0D (BCall.ofP (extentsOfN_ok _ _ _ _ ?_ ?_ ?_)) ?_;(iterate 3 (exact sd));rintro _ _ ⟨⟨g,hg5,rfl⟩,rfl⟩;(try simp only [hxp,Option.getD_none,Option.getD_some] at hg5))|((first|refine call0D (labelsOf1_ok _ _ ?_ ?_) ?_|refine qcall0D (labelsOf1_ok _ _ ?_ ?_) ⟨_,_,rfl,rfl⟩ ?_);(iterate 2 (exact sd));rintro _ _ ⟨rfl,rfl⟩)|((first|refine call0D (labelsOf_ok _ _ ?_ ?_) ?_|refine qcall0D (labelsOf_ok _ _ ?_ ?_) ⟨_,_,rfl,rfl⟩ ?_);(iterate 2 (exact sd));rintro _ _ ⟨rfl,rfl⟩)|((first|refine call0D (BCall.ofP (costOf_ok _ _ _ ?_ ?_)) ?_|refine qcall0D (BCall.ofP (costOf_ok _ _ _ ?_ ?_)) ⟨_,_,rfl,rfl⟩ ?_);(iterate 2 (exact sd));rintro _ _ ⟨rfl,rfl⟩)|((first|refine call0D (BCall.ofP (costOf2_ok _ _ _ _ _ ?_ ?_ ?_)) ?_|refine qcall0D (BCall.ofP (costOf2_ok _ _ _ _ _ ?_ ?_ ?_)) ⟨_,_,rfl,rfl⟩ ?_);(iterate 3 (exact sd));rintro _ _ ⟨rfl,rfl⟩)|((first|refine call0D (tblOf_ok _ _ _ ?_ ?_) ?_|refine qcall0D (tblOf_ok _ _ _ ?_ ?_) ⟨_,_,rfl,rfl⟩ ?_);(iterate 2 (exact sd));rintro _ _ ⟨rfl,rfl⟩)|((first|refine call0D (BCall.ofP (iValidShape_ok _ _ ?_ ?_)) ?_|refine qcall0D (BCall.ofP (iValidShape_ok _ _ ?_ ?_)) ⟨_,_,rfl,rfl⟩ ?_);(iterate 2 (exact sd));rintro _ _ ⟨rfl,rfl⟩)|((first|refine call0D (icontr_ok _ _ _ _ _ _ _ ?_ ?_ ?_ ?_) ?_|refine qcall0D (icontr_ok _ _ _ _ _ _ _ ?_ ?_ ?_ ?_) ⟨_,_,rfl,rfl⟩ ?_);(iterate 4 (exact sd));rintro _ _ ⟨rfl,rfl⟩)|((first|refine call0D (BCall.ofP (ivT_ok _ _ _ _ ?_ ?_ ?_)) ?_|refine qcall0D (BCall.ofP (ivT_ok _ _ _ _ ?_ ?_ ?_)) ⟨_,_,rfl,rfl⟩ ?_);(iterate 3 (exact sd));rintro _ _ ⟨rfl,rfl⟩))<;>(try simp (disch:=omega) only [push_cast,seval,hxp,set5,tak5,Bvz,s5,t5,Aoz,Option.isSome_none,Option.getD_none,Atz,Ajz]))
 | (refine Ahz ⟨.inr rfl,[16000,16016],[(16000,1),(16016,1)],_,by decide,rfl,?_⟩;(try simp (disch:=omega) only [push_cast,seval,↓Amz,↓Aiz,↓List.map_cons,↓List.map_nil,hxp,set5,tak5,Bvz,s5,t5,Aoz,Option.isSome_none,Option.getD_none,Atz,Ajz]))))
    all_goals exact ⟨rfl,rfl⟩
  | some e =>
    rw [hx0] at hxp
    have ha:allI out 0 4=true:=by
      cases ha:allI out 0 4 with
 | false=>rw [ha] at hxp;cases hxp
 | true=>rfl
    rw [if_pos ha] at hxp
    have hx:=hxp.symm
    have hxp:=hx0
    have hC:=ctOk_of hx
    have h5:=hC.len
    have hO:=Bdz.1 ha
    have q2:out.length ≤ 1099511627776 ∧ ∀ x ∈ out,0 ≤ x ∧ x ≤ 4:=⟨by omega,hO⟩
    have hcost:pr ((lbS ls.flatten).map (gE e))=pr (spE e):=(spE_lbS h5 hC.un (fun k hk hm=>by have:=(hC.used _ hm).2.1;unfold gE at this;rw [Int.toNat_natCast] at this;exact this)).symm
    have q3:e.length=5 ∧ ls.length ≤ 1099511627776 ∧ (∀ l ∈ ls,l.length ≤ 1099511627776) ∧ (∀ l ∈ ls,∀ x ∈ l,0 ≤ x ∧ x ≤ 4) ∧ ∀ l ∈ ls,∀ x ∈ l,0 ≤ gE e x ∧ gE e x ≤ 60:=⟨h5,by omega,hb4,fun l hl x hx=>(hC.used x (List.mem_flatten.2 ⟨l,hl,hx⟩)).1,fun l hl x hx=>(hC.used x (List.mem_flatten.2 ⟨l,hl,hx⟩)).2⟩
    have hsp:=space_bound hC
    have hsh:=lbS_short hO
    have s5e:=fun a b c d f=>set5I h5 a b c d f
    have t5e:=Auz h5
    by_cases hn:out.Nodup
    · have hge:¬ (((lbS out).length:Int) < out.length):=fun h=>hsh.1 h hn
      have hlb:(lbS out).length ≤ 5:=Dwz out 5
      by_cases hc:pr (spE e) ≤ 4000
      · have hOl:(out.map (gE e)).length=out.length:=List.length_map _
        have q4:e.length=5 ∧ out.length ≤ 1099511627776 ∧ ∀ x ∈ out,0 ≤ x ∧ x ≤ 4:=⟨h5,by omega,hO⟩
        cases hvs:vSh (out.map (gE e)) with
        | false =>
          have hno:=ctT_no (ts:=ts) (ls:=ls) (out:=out) (e:=e) hx (by unfold ctC;rw [hvs];simp)
          rw [hno]
          generalize hOS:out.map (gE e)=OS at *
          have q5:OS.length ≤ 1099511627776:=by omega
          (repeat' (first
 | (first|refine Akz ?_|refine Aez ?_)
 | ((first|refine Alz ?_|refine Adz ?_|refine Afz ?_|refine Agz ?_);simp (disch:=omega) only [push_cast,seval,l26r0,l26r1,l26r2,l26r3,l26r4,l26r5,l26r6,l26r7,l26r8,l26r9,l26r10,hxp,hge,hcost,hc,hvs,hOS,hOl,s5e,t5e,h5,Aoz,Bvz,Option.isSome_none,Option.isSome_some,Option.getD_some,Atz,Ajz])
 | ((first|refine Aaz ?_ ?_|refine Acz ?_ ?_|refine Abz ?_ ?_)<;>intro h<;>(try simp only [h])<;>(try simp only [bitvec_to_nat] at h)<;>(try simp only [h])<;>(first|(exfalso;omega)|(exfalso;simp_all;done)|(simp (disch:=omega) only [push_cast,seval,hxp,hge,hcost,hc,hvs,hOS,hOl,s5e,t5e,h5,Aoz,Bvz,Option.isSome_none,Option.isSome_some,Option.getD_some,Atz,Ajz])|skip))
 | ((first|refine Apz false ?_|refine qcallD_of false ?_);simp (disch:=omega) only [push_cast,seval,hxp,hge,hcost,hc,hvs,hOS,hOl,s5e,t5e,h5,Aoz,Bvz,Option.isSome_none,Option.isSome_some,Option.getD_some,Atz,Ajz])
 | ((first|(refine call0D (BCall.ofP (Bwz _ _ _ _ _ _ ?_ ?_ ?_ ?_)) ?_;(iterate 4 (exact sd));rintro _ _ ⟨⟨g,hg5,rfl⟩,rfl⟩;(try simp only [hxp,Option.getD_none,Option.getD_some] at hg5))|(refine call0D (BCall.ofP (extentsOfN_ok _ _ _ _ ?_ ?_ ?_)) ?_;(iterate 3 (exact sd));rintro _ _ ⟨⟨g,hg5,rfl⟩,rfl⟩;(try simp only [hxp,Option.getD_none,Option.getD_some] at hg5))|((first|refine call0D (labelsOf1_ok _ _ ?_ ?_) ?_|refine qcall0D (BCall.ofP (plainI (labelsOf1_ok _ _ ?_ ?_))) ⟨_,_,rfl,rfl⟩ ?_);(iterate 2 (exact sd));rintro _ _ ⟨rfl,rfl⟩)|((first|refine call0D (labelsOf_ok _ _ ?_ ?_) ?_|refine qcall0D (BCall.ofP (plainI (labelsOf_ok _ _ ?_ ?_))) ⟨_,_,rfl,rfl⟩ ?_);(iterate 2 (exact sd));rintro _ _ ⟨rfl,rfl⟩)|((first|refine call0D (BCall.ofP (costOf_ok _ _ _ ?_ ?_)) ?_|refine qcall0D (BCall.ofP (costOf_ok _ _ _ ?_ ?_)) ⟨_,_,rfl,rfl⟩ ?_);(iterate 2 (exact sd));rintro _ _ ⟨rfl,rfl⟩)|((first|refine call0D (BCall.ofP (costOf2_ok _ _ _ _ _ ?_ ?_ ?_)) ?_|refine qcall0D (BCall.ofP (costOf2_ok _ _ _ _ _ ?_ ?_ ?_)) ⟨_,_,rfl,rfl⟩ ?_);(iterate 3 (exact sd));rintro _ _ ⟨rfl,rfl⟩)|((first|refine call0D (tblOf_ok _ _ _ ?_ ?_) ?_|refine qcall0D (tblOf_ok _ _ _ ?_ ?_) ⟨_,_,rfl,rfl⟩ ?_);(iterate 2 (exact sd));rintro _ _ ⟨rfl,rfl⟩)|((first|refine call0D (BCall.ofP (iValidShape_ok _ _ ?_ ?_)) ?_|refine qcall0D (BCall.ofP (iValidShape_ok _ _ ?_ ?_)) ⟨_,_,rfl,rfl⟩ ?_);(iterate 2 (exact sd));rintro _ _ ⟨rfl,rfl⟩)|((first|refine call0D (icontr_ok _ _ _ _ _ _ _ ?_ ?_ ?_ ?_) ?_|refine qcall0D (icontr_ok _ _ _ _ _ _ _ ?_ ?_ ?_ ?_) ⟨_,_,rfl,rfl⟩ ?_);(iterate 4 (exact sd));rintro _ _ ⟨rfl,rfl⟩)|((first|refine call0D (BCall.ofP (ivT_ok _ _ _ _ ?_ ?_ ?_)) ?_|refine qcall0D (BCall.ofP (ivT_ok _ _ _ _ ?_ ?_ ?_)) ⟨_,_,rfl,rfl⟩ ?_);(iterate 3 (exact sd));rintro _ _ ⟨rfl,rfl⟩))<;>(try simp (disch:=omega) only [push_cast,seval,hxp,hge,hcost,hc,hvs,hOS,hOl,s5e,t5e,h5,Aoz,Bvz,Option.isSome_none,Option.isSome_some,Option.getD_some,Atz,Ajz]))
 | (refine Ahz ⟨.inr rfl,[16000,16016],[(16000,1),(16016,1)],_,by decide,rfl,?_⟩; (try simp (disch := omega) only [push_cast,seval,↓Amz,↓Aiz,↓List.map_cons,↓List.map_nil,hxp,hge,hcost,hc,hvs,hOS,hOl,s5e,t5e,h5,Aoz,Bvz,Option.isSome_none,Option.isSome_some,Option.getD_some,Atz,Ajz]))))
          all_goals exact ⟨rfl,rfl⟩
        | true =>
          have ho:=out_used hC ha hvs
          have hgs:=A5z hvs
          have hcc:ctC out e=true:=by unfold ctC;rw [ha,hvs];simp [hn,hc]
          obtain ⟨hv1,⟨hv2,hv3⟩,hv4,_⟩:=exO_some hx
          have hb3':∀ t ∈ ts,t.1.length ≤ 1000 ∧ t.2.length ≤ 1000:=fun t ht=>by
            have h1:=B6z.1 (List.all_eq_true.1 hv1 t ht)
            have h2:=A5z h1.1
            have h3:=h2.1.2
            have h4:=h1.2.1
            omega
          have hb4':∀ l ∈ ls,l.length ≤ 1000:=fun l hl=>by
            obtain ⟨i,hi⟩:=List.mem_iff_getElem?.1 hl
            have hil:=(List.getElem?_eq_some_iff.1 hi).1
            have hit:ts[i]?=some (ts[i]'(by omega)):=List.getElem?_eq_getElem _
            have h1:=(hC.lab i _ l hit hi).2.1
            have h2:=hb3' _ (List.mem_of_getElem? hit)
            omega
          have hVl:=Fyz ts ls out e (pr (out.map (gE e))).toNat
          have hW:ctW ts ls out e=(out.map (gE e),ctV ts ls out e (pr (out.map (gE e))).toNat):=rfl
          have hyes:=fun h=>ctT_yes (ts:=ts) (ls:=ls) (out:=out) (e:=e) hx hcc h
          have hnot:=fun h=>ctT_no (ts:=ts) (ls:=ls) (out:=out) (e:=e) hx h
          rw [hcc,Bool.true_and] at hnot
          have hN60:(pr (out.map (gE e))).toNat ≤ 60:=by omega
          have hol:out.length ≤ 4:=by have:=hgs.1.2;omega
          have q6:CtOk ts ls e ∧ (ts.length ≤ 1000 ∧ out.length ≤ 6) ∧ (∀ x ∈ out,x ∈ ls.flatten) ∧ (∀ t ∈ ts,t.1.length ≤ 1000 ∧ t.2.length ≤ 1000) ∧ ∀ l ∈ ls,l.length ≤ 1000:=⟨hC,⟨by omega,by omega⟩,ho,hb3',hb4'⟩
          rw [hW] at hyes hnot
          generalize hOS:out.map (gE e)=OS at *
          generalize hV:ctV ts ls out e (pr OS).toNat=V at *
          generalize hNN:(pr OS).toNat=N at *
          have q7:OS.length ≤ 1099511627776:=by omega
          have q8:OS.length ≤ 1099511627776 ∧ V.length ≤ 1099511627776:=⟨by omega,by omega⟩
          have q9:out.length ≤ 1099511627776 ∧ N ≤ 1099511627776:=⟨by omega,by omega⟩
          cases hvt:vT (OS,V) with
          | false =>
            rw [hnot hvt]
            (repeat' (first
 | (first|refine Akz ?_|refine Aez ?_)
 | ((first|refine Alz ?_|refine Adz ?_|refine Afz ?_|refine Agz ?_);simp (disch:=omega) only [push_cast,seval,l26r0,l26r1,l26r2,l26r3,l26r4,l26r5,l26r6,l26r7,l26r8,l26r9,l26r10,hxp,hge,hcost,hc,hvs,hvt,hOS,hOl,hV,hVl,hNN,s5e,t5e,h5,Aoz,Bvz,Option.isSome_none,Option.isSome_some,Option.getD_some,Atz,Ajz])
 | ((first|refine Aaz ?_ ?_|refine Acz ?_ ?_|refine Abz ?_ ?_)<;>intro h<;>(try simp only [h])<;>(try simp only [bitvec_to_nat] at h)<;>(try simp only [h])<;>(first|(exfalso;omega)|(exfalso;simp_all;done)|(simp (disch:=omega) only [push_cast,seval,hxp,hge,hcost,hc,hvs,hvt,hOS,hOl,hV,hVl,hNN,s5e,t5e,h5,Aoz,Bvz,Option.isSome_none,Option.isSome_some,Option.getD_some,Atz,Ajz])|skip))
 | ((first|refine Apz false ?_|refine qcallD_of false ?_);simp (disch:=omega) only [push_cast,seval,hxp,hge,hcost,hc,hvs,hvt,hOS,hOl,hV,hVl,hNN,s5e,t5e,h5,Aoz,Bvz,Option.isSome_none,Option.isSome_some,Option.getD_some,Atz,Ajz])
 | ((first|(refine call0D (BCall.ofP (Bwz _ _ _ _ _ _ ?_ ?_ ?_ ?_)) ?_;(iterate 4 (exact sd));rintro _ _ ⟨⟨g,hg5,rfl⟩,rfl⟩;(try simp only [hxp,Option.getD_none,Option.getD_some] at hg5))|(refine call0D (BCall.ofP (extentsOfN_ok _ _ _ _ ?_ ?_ ?_)) ?_;(iterate 3 (exact sd));rintro _ _ ⟨⟨g,hg5,rfl⟩,rfl⟩;(try simp only [hxp,Option.getD_none,Option.getD_some] at hg5))|((first|refine call0D (labelsOf1_ok _ _ ?_ ?_) ?_|refine qcall0D (BCall.ofP (plainI (labelsOf1_ok _ _ ?_ ?_))) ⟨_,_,rfl,rfl⟩ ?_);(iterate 2 (exact sd));rintro _ _ ⟨rfl,rfl⟩)|((first|refine call0D (labelsOf_ok _ _ ?_ ?_) ?_|refine qcall0D (BCall.ofP (plainI (labelsOf_ok _ _ ?_ ?_))) ⟨_,_,rfl,rfl⟩ ?_);(iterate 2 (exact sd));rintro _ _ ⟨rfl,rfl⟩)|((first|refine call0D (BCall.ofP (costOf_ok _ _ _ ?_ ?_)) ?_|refine qcall0D (BCall.ofP (costOf_ok _ _ _ ?_ ?_)) ⟨_,_,rfl,rfl⟩ ?_);(iterate 2 (exact sd));rintro _ _ ⟨rfl,rfl⟩)|((first|refine call0D (BCall.ofP (costOf2_ok _ _ _ _ _ ?_ ?_ ?_)) ?_|refine qcall0D (BCall.ofP (costOf2_ok _ _ _ _ _ ?_ ?_ ?_)) ⟨_,_,rfl,rfl⟩ ?_);(iterate 3 (exact sd));rintro _ _ ⟨rfl,rfl⟩)|((first|refine call0D (tblOf_ok _ _ _ ?_ ?_) ?_|refine qcall0D (tblOf_ok _ _ _ ?_ ?_) ⟨_,_,rfl,rfl⟩ ?_);(iterate 2 (exact sd));rintro _ _ ⟨rfl,rfl⟩)|((first|refine call0D (BCall.ofP (iValidShape_ok _ _ ?_ ?_)) ?_|refine qcall0D (BCall.ofP (iValidShape_ok _ _ ?_ ?_)) ⟨_,_,rfl,rfl⟩ ?_);(iterate 2 (exact sd));rintro _ _ ⟨rfl,rfl⟩)|((first|refine call0D (icontr_ok _ _ _ _ _ _ _ ?_ ?_ ?_ ?_) ?_|refine qcall0D (icontr_ok _ _ _ _ _ _ _ ?_ ?_ ?_ ?_) ⟨_,_,rfl,rfl⟩ ?_);(iterate 4 (exact sd));rintro _ _ ⟨rfl,rfl⟩)|((first|refine call0D (BCall.ofP (ivT_ok _ _ _ _ ?_ ?_ ?_)) ?_|refine qcall0D (BCall.ofP (ivT_ok _ _ _ _ ?_ ?_ ?_)) ⟨_,_,rfl,rfl⟩ ?_);(iterate 3 (exact sd));rintro _ _ ⟨rfl,rfl⟩))<;>(try simp (disch:=omega) only [push_cast,seval,hxp,hge,hcost,hc,hvs,hvt,hOS,hOl,hV,hVl,hNN,s5e,t5e,h5,Aoz,Bvz,Option.isSome_none,Option.isSome_some,Option.getD_some,Atz,Ajz]))
 | (refine Ahz ⟨.inr rfl,[16000,16016],[(16000,1),(16016,1)],_,by decide,rfl,?_⟩; (try simp (disch := omega) only [push_cast,seval,↓Amz,↓Aiz,↓List.map_cons,↓List.map_nil,hxp,hge,hcost,hc,hvs,hvt,hOS,hOl,hV,hVl,hNN,s5e,t5e,h5,Aoz,Bvz,Option.isSome_none,Option.isSome_some,Option.getD_some,Atz,Ajz]))))
            all_goals exact ⟨rfl,rfl⟩
          | true =>
            rw [hyes hvt]
            (repeat' (first
 | (first|refine Akz ?_|refine Aez ?_)
 | ((first|refine Alz ?_|refine Adz ?_|refine Afz ?_|refine Agz ?_);simp (disch:=omega) only [push_cast,seval,l26r0,l26r1,l26r2,l26r3,l26r4,l26r5,l26r6,l26r7,l26r8,l26r9,l26r10,hxp,hge,hcost,hc,hvs,hvt,hOS,hOl,hV,hVl,hNN,s5e,t5e,h5,Aoz,Bvz,Option.isSome_none,Option.isSome_some,Option.getD_some,Atz,Ajz])
 | ((first|refine Aaz ?_ ?_|refine Acz ?_ ?_|refine Abz ?_ ?_)<;>intro h<;>(try simp only [h])<;>(try simp only [bitvec_to_nat] at h)<;>(try simp only [h])<;>(first|(exfalso;omega)|(exfalso;simp_all;done)|(simp (disch:=omega) only [push_cast,seval,hxp,hge,hcost,hc,hvs,hvt,hOS,hOl,hV,hVl,hNN,s5e,t5e,h5,Aoz,Bvz,Option.isSome_none,Option.isSome_some,Option.getD_some,Atz,Ajz])|skip))
 | ((first|refine Apz false ?_|refine qcallD_of false ?_);simp (disch:=omega) only [push_cast,seval,hxp,hge,hcost,hc,hvs,hvt,hOS,hOl,hV,hVl,hNN,s5e,t5e,h5,Aoz,Bvz,Option.isSome_none,Option.isSome_some,Option.getD_some,Atz,Ajz])
 | ((first|(refine call0D (BCall.ofP (Bwz _ _ _ _ _ _ ?_ ?_ ?_ ?_)) ?_;(iterate 4 (exact sd));rintro _ _ ⟨⟨g,hg5,rfl⟩,rfl⟩;(try simp only [hxp,Option.getD_none,Option.getD_some] at hg5))|(refine call0D (BCall.ofP (extentsOfN_ok _ _ _ _ ?_ ?_ ?_)) ?_;(iterate 3 (exact sd));rintro _ _ ⟨⟨g,hg5,rfl⟩,rfl⟩;(try simp only [hxp,Option.getD_none,Option.getD_some] at hg5))|((first|refine call0D (labelsOf1_ok _ _ ?_ ?_) ?_|refine qcall0D (BCall.ofP (plainI (labelsOf1_ok _ _ ?_ ?_))) ⟨_,_,rfl,rfl⟩ ?_);(iterate 2 (exact sd));rintro _ _ ⟨rfl,rfl⟩)|((first|refine call0D (labelsOf_ok _ _ ?_ ?_) ?_|refine qcall0D (BCall.ofP (plainI (labelsOf_ok _ _ ?_ ?_))) ⟨_,_,rfl,rfl⟩ ?_);(iterate 2 (exact sd));rintro _ _ ⟨rfl,rfl⟩)|((first|refine call0D (BCall.ofP (costOf_ok _ _ _ ?_ ?_)) ?_|refine qcall0D (BCall.ofP (costOf_ok _ _ _ ?_ ?_)) ⟨_,_,rfl,rfl⟩ ?_);(iterate 2 (exact sd));rintro _ _ ⟨rfl,rfl⟩)|((first|refine call0D (BCall.ofP (costOf2_ok _ _ _ _ _ ?_ ?_ ?_)) ?_|refine qcall0D (BCall.ofP (costOf2_ok _ _ _ _ _ ?_ ?_ ?_)) ⟨_,_,rfl,rfl⟩ ?_);(iterate 3 (exact sd));rintro _ _ ⟨rfl,rfl⟩)|((first|refine call0D (tblOf_ok _ _ _ ?_ ?_) ?_|refine qcall0D (tblOf_ok _ _ _ ?_ ?_) ⟨_,_,rfl,rfl⟩ ?_);(iterate 2 (exact sd));rintro _ _ ⟨rfl,rfl⟩)|((first|refine call0D (BCall.ofP (iValidShape_ok _ _ ?_ ?_)) ?_|refine qcall0D (BCall.ofP (iValidShape_ok _ _ ?_ ?_)) ⟨_,_,rfl,rfl⟩ ?_);(iterate 2 (exact sd));rintro _ _ ⟨rfl,rfl⟩)|((first|refine call0D (icontr_ok _ _ _ _ _ _ _ ?_ ?_ ?_ ?_) ?_|refine qcall0D (icontr_ok _ _ _ _ _ _ _ ?_ ?_ ?_ ?_) ⟨_,_,rfl,rfl⟩ ?_);(iterate 4 (exact sd));rintro _ _ ⟨rfl,rfl⟩)|((first|refine call0D (BCall.ofP (ivT_ok _ _ _ _ ?_ ?_ ?_)) ?_|refine qcall0D (BCall.ofP (ivT_ok _ _ _ _ ?_ ?_ ?_)) ⟨_,_,rfl,rfl⟩ ?_);(iterate 3 (exact sd));rintro _ _ ⟨rfl,rfl⟩))<;>(try simp (disch:=omega) only [push_cast,seval,hxp,hge,hcost,hc,hvs,hvt,hOS,hOl,hV,hVl,hNN,s5e,t5e,h5,Aoz,Bvz,Option.isSome_none,Option.isSome_some,Option.getD_some,Atz,Ajz]))
 | (refine Ahz ⟨.inr rfl,[608,784],[],_,by decide,rfl,?_⟩; (try simp (disch := omega) only [push_cast,seval,↓Amz,↓Aiz,↓List.map_cons,↓List.map_nil,hxp,hge,hcost,hc,hvs,hvt,hOS,hOl,hV,hVl,hNN,s5e,t5e,h5,Aoz,Bvz,Option.isSome_none,Option.isSome_some,Option.getD_some,Atz,Ajz]))))
            all_goals exact ⟨by simp only [t0,Option.getD_some,Option.isSome_some,hOl,hVl],rfl⟩
      · have hno:=ctT_no (ts:=ts) (ls:=ls) (out:=out) (e:=e) hx (by unfold ctC;rw [show decide (pr (spE e) ≤ 4000)=false by simpa using hc];simp)
        rw [hno]
        (repeat' (first
 | (first|refine Akz ?_|refine Aez ?_)
 | ((first|refine Alz ?_|refine Adz ?_|refine Afz ?_|refine Agz ?_);simp (disch:=omega) only [push_cast,seval,l26r0,l26r1,l26r2,l26r3,l26r4,l26r5,l26r6,l26r7,l26r8,l26r9,l26r10,hxp,hge,hcost,hc,s5e,t5e,h5,Aoz,Bvz,Option.isSome_none,Option.isSome_some,Option.getD_some,Atz,Ajz])
 | ((first|refine Aaz ?_ ?_|refine Acz ?_ ?_|refine Abz ?_ ?_)<;>intro h<;>(try simp only [h])<;>(try simp only [bitvec_to_nat] at h)<;>(try simp only [h])<;>(first|(exfalso;omega)|(exfalso;simp_all;done)|(simp (disch:=omega) only [push_cast,seval,hxp,hge,hcost,hc,s5e,t5e,h5,Aoz,Bvz,Option.isSome_none,Option.isSome_some,Option.getD_some,Atz,Ajz])|skip))
 | ((first|refine Apz false ?_|refine qcallD_of false ?_);simp (disch:=omega) only [push_cast,seval,hxp,hge,hcost,hc,s5e,t5e,h5,Aoz,Bvz,Option.isSome_none,Option.isSome_some,Option.getD_some,Atz,Ajz])
 | ((first|(refine call0D (BCall.ofP (Bwz _ _ _ _ _ _ ?_ ?_ ?_ ?_)) ?_;(iterate 4 (exact sd));rintro _ _ ⟨⟨g,hg5,rfl⟩,rfl⟩;(try simp only [hxp,Option.getD_none,Option.getD_some] at hg5))|(refine call0D (BCall.ofP (extentsOfN_ok _ _ _ _ ?_ ?_ ?_)) ?_;(iterate 3 (exact sd));rintro _ _ ⟨⟨g,hg5,rfl⟩,rfl⟩;(try simp only [hxp,Option.getD_none,Option.getD_some] at hg5))|((first|refine call0D (labelsOf1_ok _ _ ?_ ?_) ?_|refine qcall0D (BCall.ofP (plainI (labelsOf1_ok _ _ ?_ ?_))) ⟨_,_,rfl,rfl⟩ ?_);(iterate 2 (exact sd));rintro _ _ ⟨rfl,rfl⟩)|((first|refine call0D (labelsOf_ok _ _ ?_ ?_) ?_|refine qcall0D (BCall.ofP (plainI (labelsOf_ok _ _ ?_ ?_))) ⟨_,_,rfl,rfl⟩ ?_);(iterate 2 (exact sd));rintro _ _ ⟨rfl,rfl⟩)|((first|refine call0D (BCall.ofP (costOf_ok _ _ _ ?_ ?_)) ?_|refine qcall0D (BCall.ofP (costOf_ok _ _ _ ?_ ?_)) ⟨_,_,rfl,rfl⟩ ?_);(iterate 2 (exact sd));rintro _ _ ⟨rfl,rfl⟩)|((first|refine call0D (BCall.ofP (costOf2_ok _ _ _ _ _ ?_ ?_ ?_)) ?_|refine qcall0D (BCall.ofP (costOf2_ok _ _ _ _ _ ?_ ?_ ?_)) ⟨_,_,rfl,rfl⟩ ?_);(iterate 3 (exact sd));rintro _ _ ⟨rfl,rfl⟩)|((first|refine call0D (tblOf_ok _ _ _ ?_ ?_) ?_|refine qcall0D (tblOf_ok _ _ _ ?_ ?_) ⟨_,_,rfl,rfl⟩ ?_);(iterate 2 (exact sd));rintro _ _ ⟨rfl,rfl⟩)|((first|refine call0D (BCall.ofP (iValidShape_ok _ _ ?_ ?_)) ?_|refine qcall0D (BCall.ofP (iValidShape_ok _ _ ?_ ?_)) ⟨_,_,rfl,rfl⟩ ?_);(iterate 2 (exact sd));rintro _ _ ⟨rfl,rfl⟩)|((first|refine call0D (icontr_ok _ _ _ _ _ _ _ ?_ ?_ ?_ ?_) ?_|refine qcall0D (icontr_ok _ _ _ _ _ _ _ ?_ ?_ ?_ ?_) ⟨_,_,rfl,rfl⟩ ?_);(iterate 4 (exact sd));rintro _ _ ⟨rfl,rfl⟩)|((first|refine call0D (BCall.ofP (ivT_ok _ _ _ _ ?_ ?_ ?_)) ?_|refine qcall0D (BCall.ofP (ivT_ok _ _ _ _ ?_ ?_ ?_)) ⟨_,_,rfl,rfl⟩ ?_);(iterate 3 (exact sd));rintro _ _ ⟨rfl,rfl⟩))<;>(try simp (disch:=omega) only [push_cast,seval,hxp,hge,hcost,hc,s5e,t5e,h5,Aoz,Bvz,Option.isSome_none,Option.isSome_some,Option.getD_some,Atz,Ajz]))
 | (refine Ahz ⟨.inr rfl,[16000,16016],[(16000,1),(16016,1)],_,by decide,rfl,?_⟩;(try simp (disch:=omega) only [push_cast,seval,↓Amz,↓Aiz,↓List.map_cons,↓List.map_nil,hxp,hge,hcost,hc,s5e,t5e,h5,Aoz,Bvz,Option.isSome_none,Option.isSome_some,Option.getD_some,Atz,Ajz]))))
        all_goals exact ⟨rfl,rfl⟩
    · have hlt:=hsh.2 hn
      have hno:=ctT_no (ts:=ts) (ls:=ls) (out:=out) (e:=e) hx (by unfold ctC;rw [show decide out.Nodup=false by simpa using hn];simp)
      rw [hno]
      have hll:=Dwz out 5
      (repeat' (first
 | (first|refine Akz ?_|refine Aez ?_)
 | ((first|refine Alz ?_|refine Adz ?_|refine Afz ?_|refine Agz ?_);simp (disch:=omega) only [push_cast,seval,l26r0,l26r1,l26r2,l26r3,l26r4,l26r5,l26r6,l26r7,l26r8,l26r9,l26r10,hxp,hlt,s5e,t5e,h5,Aoz,Bvz,Option.isSome_none,Option.isSome_some,Option.getD_some,Atz,Ajz])
 | ((first|refine Aaz ?_ ?_|refine Acz ?_ ?_|refine Abz ?_ ?_)<;>intro h<;>(try simp only [h])<;>(try simp only [bitvec_to_nat] at h)<;>(try simp only [h])<;>(first|(exfalso;omega)|(exfalso;simp_all;done)|(simp (disch:=omega) only [push_cast,seval,hxp,hlt,s5e,t5e,h5,Aoz,Bvz,Option.isSome_none,Option.isSome_some,Option.getD_some,Atz,Ajz])|skip))
 | ((first|refine Apz false ?_|refine qcallD_of false ?_);simp (disch:=omega) only [push_cast,seval,hxp,hlt,s5e,t5e,h5,Aoz,Bvz,Option.isSome_none,Option.isSome_some,Option.getD_some,Atz,Ajz])
 | ((first|(refine call0D (BCall.ofP (Bwz _ _ _ _ _ _ ?_ ?_ ?_ ?_)) ?_;(iterate 4 (exact sd));rintro _ _ ⟨⟨g,hg5,rfl⟩,rfl⟩;(try simp only [hxp,Option.getD_none,Option.getD_some] at hg5))|(refine call0D (BCall.ofP (extentsOfN_ok _ _ _ _ ?_ ?_ ?_)) ?_;(iterate 3 (exact sd));rintro _ _ ⟨⟨g,hg5,rfl⟩,rfl⟩;(try simp only [hxp,Option.getD_none,Option.getD_some] at hg5))|((first|refine call0D (labelsOf1_ok _ _ ?_ ?_) ?_|refine qcall0D (BCall.ofP (plainI (labelsOf1_ok _ _ ?_ ?_))) ⟨_,_,rfl,rfl⟩ ?_);(iterate 2 (exact sd));rintro _ _ ⟨rfl,rfl⟩)|((first|refine call0D (labelsOf_ok _ _ ?_ ?_) ?_|refine qcall0D (BCall.ofP (plainI (labelsOf_ok _ _ ?_ ?_))) ⟨_,_,rfl,rfl⟩ ?_);(iterate 2 (exact sd));rintro _ _ ⟨rfl,rfl⟩)|((first|refine call0D (BCall.ofP (costOf_ok _ _ _ ?_ ?_)) ?_|refine qcall0D (BCall.ofP (costOf_ok _ _ _ ?_ ?_)) ⟨_,_,rfl,rfl⟩ ?_);(iterate 2 (exact sd));rintro _ _ ⟨rfl,rfl⟩)|((first|refine call0D (BCall.ofP (costOf2_ok _ _ _ _ _ ?_ ?_ ?_)) ?_|refine qcall0D (BCall.ofP (costOf2_ok _ _ _ _ _ ?_ ?_ ?_)) ⟨_,_,rfl,rfl⟩ ?_);(iterate 3 (exact sd));rintro _ _ ⟨rfl,rfl⟩)|((first|refine call0D (tblOf_ok _ _ _ ?_ ?_) ?_|refine qcall0D (tblOf_ok _ _ _ ?_ ?_) ⟨_,_,rfl,rfl⟩ ?_);(iterate 2 (exact sd));rintro _ _ ⟨rfl,rfl⟩)|((first|refine call0D (BCall.ofP (iValidShape_ok _ _ ?_ ?_)) ?_|refine qcall0D (BCall.ofP (iValidShape_ok _ _ ?_ ?_)) ⟨_,_,rfl,rfl⟩ ?_);(iterate 2 (exact sd));rintro _ _ ⟨rfl,rfl⟩)|((first|refine call0D (icontr_ok _ _ _ _ _ _ _ ?_ ?_ ?_ ?_) ?_|refine qcall0D (icontr_ok _ _ _ _ _ _ _ ?_ ?_ ?_ ?_) ⟨_,_,rfl,rfl⟩ ?_);(iterate 4 (exact sd));rintro _ _ ⟨rfl,rfl⟩)|((first|refine call0D (BCall.ofP (ivT_ok _ _ _ _ ?_ ?_ ?_)) ?_|refine qcall0D (BCall.ofP (ivT_ok _ _ _ _ ?_ ?_ ?_)) ⟨_,_,rfl,rfl⟩ ?_);(iterate 3 (exact sd));rintro _ _ ⟨rfl,rfl⟩))<;>(try simp (disch:=omega) only [push_cast,seval,hxp,hlt,s5e,t5e,h5,Aoz,Bvz,Option.isSome_none,Option.isSome_some,Option.getD_some,Atz,Ajz]))
 | (refine Ahz ⟨.inr rfl,[16000,16016],[(16000,1),(16016,1)],_,by decide,rfl,?_⟩;(try simp (disch:=omega) only [push_cast,seval,↓Amz,↓Aiz,↓List.map_cons,↓List.map_nil,hxp,hlt,s5e,t5e,h5,Aoz,Bvz,Option.isSome_none,Option.isSome_some,Option.getD_some,Atz,Ajz]))))
      all_goals exact ⟨rfl,rfl⟩

end Go.Proofs.Ytfmogaimamphdaa
set_option linter.unusedSimpArgs false
set_option linter.unusedVariables false
set_option maxRecDepth 4000
set_option maxHeartbeats 4000000
namespace Go.Proofs.Ytfmogaimamphdaa
open VwM Vw Go

/-- The product of two matrices,the trace of one: contractions with labels that are written down. -/
abbrev mmT (a b:Tn):Option Tn:=ctT [a,b] [[0,1],[1,2]] [0,2]
abbrev trT (t:Tn):Option Tn:=ctT [t] [[0,0]] []
abbrev bTn (t:Tn):Prop:=t.1.length ≤ 1099511627776 ∧ t.2.length ≤ 1099511627776
def OTr (o:Option Tn):AV:=.tup [.int .i64 ((t0 o).2.getD 0 0),.bool o.isSome]


end Go.Proofs.Ytfmogaimamphdaa
set_option linter.unusedSimpArgs false
set_option linter.unusedVariables false
set_option maxRecDepth 4000
set_option maxHeartbeats 4000000
namespace Go.Proofs.Ytfmogaimamphdaa
open VwM Vw Go

def sdT (t:Tn) (d:Int):Option Tn:=if vT t=true ∧ 0 ≤ d ∧ d < t.1.length then ctT [t] [nums 0 1 t.1.length] (wo (nums 0 1 t.1.length) d.toNat) else none
theorem numU_v:∀ n:Nat,n < 5 → vR (pS 0 n) (pE 0 1 n) (pC 1 n)=true ∧ nums (pS 0 n) (pC 1 n) (cntN (pS 0 n) (pE 0 1 n) (pC 1 n))=nums 0 1 n:=by decide
theorem nums_len (a c:Int) (n:Nat):(nums a c n).length=n:=by simp [nums]


theorem inumU_ok (n:Nat) (hb:n ≤ 4):BCall Try.prog 30 [rng (pS 0 n) (pE 0 1 n) (pC 1 n)] [] (OI (nums 0 1 n)):=by
  have h:=numU_v n (by omega)
  have h2:=inumbers_ok _ _ _ h.1
  rw [h.2] at h2
  exact h2


theorem iCon1_ok (a1 a2 l out:List Int) (n1 n2 m q:Nat) (hn:(a1.length=n1 ∧ a2.length=n2) ∧ l.length=m ∧ out.length=q) (hb:(n1 ≤ 1099511627776 ∧ n2 ≤ 1099511627776) ∧ m ≤ 1099511627776 ∧ q ≤ 1048576) :
    BCall Try.prog 26 [.rows false [.rows false (IL a1) n1,.rows false (IL a2) n2] 1,.rows false [.rows false (IL l) m] 1,.rows false (IL out) q] [] (OTn (ctT [(a1,a2)] [l] out)):=by
  obtain ⟨⟨rfl,rfl⟩,rfl,rfl⟩:=hn
  exact iCon_ok [(a1,a2)] [l] out 1 1 _ rfl rfl rfl ⟨by omega,by simp;omega,by simp;omega⟩


end Go.Proofs.Ytfmogaimamphdaa
