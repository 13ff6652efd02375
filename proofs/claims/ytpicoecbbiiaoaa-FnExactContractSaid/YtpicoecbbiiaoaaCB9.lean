/- Texts of this verifier. -/
import Derived.Test.YtpicoecbbiiaoaaCB8
import Derived.Test.YtpicoecbbiiaoaaCM1
import Derived.Test.YtpicoecbbiiaoaaCW3
set_option linter.unusedSimpArgs false
set_option linter.unusedVariables false
set_option maxRecDepth 4000
set_option maxHeartbeats 4000000
namespace Go.Proofs.Ytpicoecbbiiaoaa
open VwM Vw Go

theorem waysOfZ_ok (e L:List Int) (m:Nat) (hm:L.length=m) (he:e.length=5) (hb:m ≤ 6 ∧ (∀ x ∈ L,0 ≤ x ∧ x ≤ 4) ∧ ∀ x ∈ L,0 ≤ gE e x ∧ gE e x ≤ 60):BCall Try.prog 89 [.agg (IL e),.rows false (IL L) m,.agg [.int .i64 0,.int .i64 0,.int .i64 0,.int .i64 0,.int .i64 0]] [] (fun r H'=>r=.own 0 (pr (L.map (gE e))).toNat 5 ∧ H'=[IL (waysF e L Z5 (pr (L.map (gE e))).toNat)]):=waysOf_ok e Z5 L m hm ⟨he,rfl⟩ hb


def ctV (ts:List Tn) (ls:List (List Int)) (out e:List Int) (n:Nat):List Int:=(List.range n).map fun p=>w64 (ctE ts ls out e p)
theorem ctV_len (ts:List Tn) (ls:List (List Int)) (out e:List Int) (n:Nat):(ctV ts ls out e n).length=n:=by simp [ctV]
theorem ctV_succ (ts:List Tn) (ls:List (List Int)) (out e:List Int) (n:Nat):ctV ts ls out e (n + 1)=ctV ts ls out e n ++ [w64 (ctE ts ls out e n)]:=by simp [ctV,List.range_succ]
theorem facs_take {ts:List Tn} {ls:List (List Int)} {i:Nat} {t:Tn} {l:List Int} (ht:ts[i]?=some t) (hl:ls[i]?=some l):(facs ts ls).take (i + 1)=(facs ts ls).take i ++ [(t.2,lbS l,fsT l (rowS t.1) t.1.length)]:=by
  rw [List.take_add_one,facs_get ht hl];rfl
theorem FC_snoc (g:Nat) (b1 b2:Bool) (fs:List Fc) (f:Fc):FC g b1 b2 fs ++ [.clo (.func g) [.agg (.rows b1 (IL f.1) f.1.length :: .rows b2 (IL f.2.1) f.2.1.length :: IL f.2.2)] []]=FC g b1 b2 (fs ++ [f]):=by rw [FC_append];rfl


set_option maxHeartbeats 32000000 in
theorem icontr_ok (ts:List Tn) (ls:List (List Int)) (out e:List Int) (n m q:Nat) (hn:ts.length=n) (hm:ls.length=m) (hq:out.length=q)
    (hb:CtOk ts ls e ∧ (n ≤ 1000 ∧ q ≤ 6) ∧ (∀ x ∈ out,x ∈ ls.flatten) ∧ (∀ t ∈ ts,t.1.length ≤ 1000 ∧ t.2.length ≤ 1000) ∧ ∀ l ∈ ls,l.length ≤ 1000) :
    BCall Try.prog 63 [.agg (IL e),.rows false (TL false ts) n,.rows false (LL false ls) m,.rows false (IL out) q] [] (OI (ctV ts ls out e (pr (out.map (gE e))).toNat)):=by
  subst hn hm hq
  obtain ⟨hC,⟨hb1,hb2⟩,ho,hb3,hb4⟩:=hb
  have h5:=hC.len
  have hlen:=hC.num
  have htl:=Bbz false ts
  have hll:=Bcz false ls
  have hO:∀ x ∈ out,(0 ≤ x ∧ x ≤ 4):=fun x hx=>(hC.used x (ho x hx)).1
  have hO2:∀ x ∈ out,0 ≤ gE e x ∧ gE e x ≤ 60:=fun x hx=>(hC.used x (ho x hx)).2
  have hp0:0 ≤ pr (out.map (gE e)):=Dvz fun z hz=>by obtain ⟨y,hy,rfl⟩:=List.mem_map.1 hz;exact (hO2 y hy).1
  have hp9:=Ciz (xs:=out.map (gE e)) ⟨fun x hx=>by obtain ⟨y,hy,rfl⟩:=List.mem_map.1 hx;exact hO2 y hy,by simpa using hb2⟩
  obtain ⟨N,hN⟩:∃ N:Nat,pr (out.map (gE e))=N:=⟨(pr (out.map (gE e))).toNat,by omega⟩
  have hNN:(pr (out.map (gE e))).toNat=N:=by omega
  rw [hNN]
  have hfl:=facs_len hlen
  refine A5z (pins:=[]) (pin:=0) l63_eq rfl rfl rfl ?_
  (repeat' (first
 | (first|refine Akz ?_|refine Agz ?_)
 | ((first|refine Alz ?_|refine Atz (mid:=l63r5a) (post:=l63r5b) Azz (by decide) ?_|refine Afz ?_|refine Ahz ?_|refine Aiz ?_);simp (disch:=omega) only [push_cast,seval,l63r0,l63r1,l63r2,l63r3,l63r4,l63r5a,l63r5b,l63r5,l63r6,l63r7,l63r8,l63r9,l63r10,l63r11,l63r12,l63r13,l63r14,h5,Anz,Auz])
 | ((first|refine Abz ?_ ?_|refine Aez ?_ ?_|refine Adz ?_ ?_)<;>intro h<;>(try simp only [h])<;>(try simp only [bitvec_to_nat] at h)<;>(try simp only [h])<;>(first|(exfalso;omega)|(exfalso;simp_all;done)|(simp (disch:=omega) only [push_cast,seval,h5,Anz,Auz])|skip))
 | ((first|((with_reducible refine Aoz (f:=87) true ?_);simp (disch:=omega) only [push_cast,seval,h5,Anz,Auz];(refine call0D (BCall.ofP (B0z _ _ _ _ _ ?_ ?_ ?_ ?_)) ?_;(iterate 4 (exact sd));rintro _ _ ⟨rfl,rfl⟩))|((with_reducible refine qcallD_of (f:=87) true ?_);simp (disch:=omega) only [push_cast,seval,h5,Anz,Auz];(refine qcall0D (BCall.ofP (B0z _ _ _ _ _ ?_ ?_ ?_ ?_)) ⟨_,_,rfl,rfl⟩ ?_;(iterate 4 (exact sd));rintro _ _ ⟨rfl,rfl⟩)))<;>(try simp (disch:=omega) only [push_cast,seval,h5,Anz,Auz]))
 | ((first|refine Aoz false ?_|refine qcallD_of false ?_);simp (disch:=omega) only [push_cast,seval,h5,Anz,Auz])
 | ((first|((first|refine call0D (labelsOf1_ok _ _ ?_ ?_) ?_|refine qcall0D (labelsOf1_ok _ _ ?_ ?_) ⟨_,_,rfl,rfl⟩ ?_);(iterate 2 (exact sd));rintro _ _ ⟨rfl,rfl⟩)|((first|refine call0D (labelsOf_ok _ _ ?_ ?_) ?_|refine qcall0D (labelsOf_ok _ _ ?_ ?_) ⟨_,_,rfl,rfl⟩ ?_);(iterate 2 (exact sd));rintro _ _ ⟨rfl,rfl⟩)|((first|refine call0D (iwithout_ok _ _ _ _ ?_ ?_ ?_) ?_|refine qcall0D (iwithout_ok _ _ _ _ ?_ ?_ ?_) ⟨_,_,rfl,rfl⟩ ?_);(iterate 3 (exact sd));rintro _ _ ⟨rfl,rfl⟩)|((first|refine call0D (waysOfZ_ok _ _ _ ?_ ?_ ?_) ?_|refine qcall0D (waysOfZ_ok _ _ _ ?_ ?_ ?_) ⟨_,_,rfl,rfl⟩ ?_);(iterate 3 (exact sd));rintro _ _ ⟨rfl,rfl⟩)|((first|refine call0D (waysOf_ok _ _ _ _ ?_ ?_ ?_) ?_|refine qcall0D (waysOf_ok _ _ _ _ ?_ ?_ ?_) ⟨_,_,rfl,rfl⟩ ?_);(iterate 3 (exact sd));rintro _ _ ⟨rfl,rfl⟩)|((first|refine call0D (BCall.ofP (sopW_ok _ _ _ _ ?_ ?_ ?_)) ?_|refine qcall0D (BCall.ofP (sopW_ok _ _ _ _ ?_ ?_ ?_)) ⟨_,_,rfl,rfl⟩ ?_);(iterate 3 (exact sd));rintro _ _ ⟨rfl,rfl⟩))<;>(try simp (disch:=omega) only [push_cast,seval,h5,Anz,Auz]))
 | (refine Ajz ⟨.inr rfl,[880],[],_,by decide,rfl,?_⟩;(try simp (disch:=omega) only [push_cast,seval,↓Arz,↓Apz,↓List.map_cons,↓List.map_nil,h5,Anz,Auz]))))
  refine Clz (fun k:Nat=>mkS [(2,.rows false (LL false ls) ls.length),(3,.rows false (IL out) out.length),(4,.ref 64 5 0),(9,.own 512 k 1),(16,.rows false (TL false ts) ts.length),(17,.int .i64 ts.length),(18,.int .i64 k)] [(64,IL e),(512,FC 88 false true ((facs ts ls).take k))]) (fun k=>k ≤ ts.length) (fun k=>ts.length - k) 0 (Nat.zero_le _) ?_ ?_
  · refine SubW.adopt [9] 512 1 (by simp [Vw.hk]) (SubW.of ?_)
    simp only [adL,List.map_cons,List.map_nil,adA,List.contains_cons,List.contains_nil]
    have e0:FC 88 false true []=[]:=rfl
    (refine Sub.of_lists ?_ ?_ ?_ ?_ ?_<;>simp [Vw.mkS,Vw.lk,Vw.hk,AV.inn,innL,Aqz,Amz,Asz,-List.map_set,-List.getD_eq_getElem?_getD,e0,Acz,Aaz])
  · intro k hk
    have hfk:((facs ts ls).take k).length=k:=by rw [List.length_take,hfl];omega
    have hFl:=H0z 88 false true ((facs ts ls).take k)
    rw [hfk] at hFl
    by_cases hlt:k < ts.length
    · obtain ⟨t,ht⟩:=Cbz hlt
      obtain ⟨l,hl⟩:=Cbz (show k < ls.length by omega)
      have hdt:=Cnz false ts k ht
      have hdl:=C4z false ls k hl
      have hk1:k + 1 ≤ ts.length:=by omega
      have hkl:k + 1 ≤ ls.length:=by omega
      have hbt:=hb3 t (List.mem_of_getElem? ht)
      have hbl:=hb4 l (List.mem_of_getElem? hl)
      obtain ⟨⟨c1,c2⟩,c3,c4,c5⟩:=hC.lab k t l ht hl
      have q1:vSh t.1=true ∧ l.length=t.1.length ∧ t.2.length ≤ 1099511627776 ∧ ∀ x ∈ l,0 ≤ x ∧ x ≤ 4:=⟨c1,c3,by omega,c4⟩
      have hsn:=facs_take ht hl
      have hsn2:=FC_snoc 88 false true ((facs ts ls).take k) (t.2,lbS l,fsT l (rowS t.1) t.1.length)
      rw [← hsn] at hsn2
      generalize hU:FC 88 false true ((facs ts ls).take k)=U at *
      (repeat' (first
 | (first|refine Akz ?_|refine Agz ?_)
 | ((first|refine Alz ?_|refine Hwz (mid:=l63r5a) (post:=l63r5b) [] Azz (by decide) ?_|refine Afz ?_|refine Ahz ?_|refine Aiz ?_);simp (disch:=omega) only [push_cast,seval,l63r0,l63r1,l63r2,l63r3,l63r4,l63r5a,l63r5b,l63r5,l63r6,l63r7,l63r8,l63r9,l63r10,l63r11,l63r12,l63r13,l63r14,hdt,hdl,htl,hll,hk1,hkl,h5,Anz,hFl])
 | ((first|refine Abz ?_ ?_|refine Aez ?_ ?_|refine Adz ?_ ?_)<;>intro h<;>(try simp only [h])<;>(try simp only [bitvec_to_nat] at h)<;>(try simp only [h])<;>(first|(exfalso;omega)|(exfalso;simp_all;done)|(simp (disch:=omega) only [push_cast,seval,hdt,hdl,htl,hll,hk1,hkl,h5,Anz,hFl])|skip))
 | ((first|((with_reducible refine Aoz (f:=87) true ?_);simp (disch:=omega) only [push_cast,seval,hdt,hdl,htl,hll,hk1,hkl,h5,Anz,hFl];(refine call0D (BCall.ofP (B0z _ _ _ _ _ ?_ ?_ ?_ ?_)) ?_;(iterate 4 (exact sd));rintro _ _ ⟨rfl,rfl⟩))|((with_reducible refine qcallD_of (f:=87) true ?_);simp (disch:=omega) only [push_cast,seval,hdt,hdl,htl,hll,hk1,hkl,h5,Anz,hFl];(refine qcall0D (BCall.ofP (B0z _ _ _ _ _ ?_ ?_ ?_ ?_)) ⟨_,_,rfl,rfl⟩ ?_;(iterate 4 (exact sd));rintro _ _ ⟨rfl,rfl⟩)))<;>(try simp (disch:=omega) only [push_cast,seval,hdt,hdl,htl,hll,hk1,hkl,h5,Anz,hFl]))
 | ((first|refine Aoz false ?_|refine qcallD_of false ?_);simp (disch:=omega) only [push_cast,seval,hdt,hdl,htl,hll,hk1,hkl,h5,Anz,hFl])
 | ((first|((first|refine call0D (labelsOf1_ok _ _ ?_ ?_) ?_|refine qcall0D (labelsOf1_ok _ _ ?_ ?_) ⟨_,_,rfl,rfl⟩ ?_);(iterate 2 (exact sd));rintro _ _ ⟨rfl,rfl⟩)|((first|refine call0D (labelsOf_ok _ _ ?_ ?_) ?_|refine qcall0D (labelsOf_ok _ _ ?_ ?_) ⟨_,_,rfl,rfl⟩ ?_);(iterate 2 (exact sd));rintro _ _ ⟨rfl,rfl⟩)|((first|refine call0D (iwithout_ok _ _ _ _ ?_ ?_ ?_) ?_|refine qcall0D (iwithout_ok _ _ _ _ ?_ ?_ ?_) ⟨_,_,rfl,rfl⟩ ?_);(iterate 3 (exact sd));rintro _ _ ⟨rfl,rfl⟩)|((first|refine call0D (waysOfZ_ok _ _ _ ?_ ?_ ?_) ?_|refine qcall0D (waysOfZ_ok _ _ _ ?_ ?_ ?_) ⟨_,_,rfl,rfl⟩ ?_);(iterate 3 (exact sd));rintro _ _ ⟨rfl,rfl⟩)|((first|refine call0D (waysOf_ok _ _ _ _ ?_ ?_ ?_) ?_|refine qcall0D (waysOf_ok _ _ _ _ ?_ ?_ ?_) ⟨_,_,rfl,rfl⟩ ?_);(iterate 3 (exact sd));rintro _ _ ⟨rfl,rfl⟩)|((first|refine call0D (BCall.ofP (sopW_ok _ _ _ _ ?_ ?_ ?_)) ?_|refine qcall0D (BCall.ofP (sopW_ok _ _ _ _ ?_ ?_ ?_)) ⟨_,_,rfl,rfl⟩ ?_);(iterate 3 (exact sd));rintro _ _ ⟨rfl,rfl⟩))<;>(try simp (disch:=omega) only [push_cast,seval,hdt,hdl,htl,hll,hk1,hkl,h5,Anz,hFl]))
 | (refine Ajz ⟨.inr rfl,[880],[],_,by decide,rfl,?_⟩;(try simp (disch:=omega) only [push_cast,seval,↓Arz,↓Apz,↓List.map_cons,↓List.map_nil,hdt,hdl,htl,hll,hk1,hkl,h5,Anz,hFl]))))
      refine ⟨k + 1,by omega,by omega,SubW.of ?_⟩
      (refine Sub.of_lists ?_ ?_ ?_ ?_ ?_<;>simp [Vw.mkS,Vw.lk,Vw.hk,AV.inn,innL,Aqz,Amz,Asz,-List.map_set,-List.getD_eq_getElem?_getD,hsn2,Acz,Aaz,Eyz])
    · have ek:k=ts.length:=by omega
      have htk:(facs ts ls).take k=facs ts ls:=List.take_of_length_le (by omega)
      rw [htk] at hFl ⊢
      have hS:∀ x ∈ sumd ls out,(0 ≤ x ∧ x ≤ 4):=fun x hx=>(Cwz.1 hx).1.1
      have hS2:∀ x ∈ sumd ls out,0 ≤ gE e x ∧ gE e x ≤ 60:=fun x hx=>(hC.used x (Cwz.1 hx).1.2).2
      have hSl:(sumd ls out).length ≤ 5:=by
        have h1:=wiL_len (lbS ls.flatten) out
        have h2:=Dlz ls.flatten 5
        show (wiL (lbS ls.flatten) out).length ≤ 5
        have h3:(lbS ls.flatten).length ≤ 5:=h2
        omega
      have hs9:=Ciz (xs:=(sumd ls out).map (gE e)) ⟨fun x hx=>by obtain ⟨y,hy,rfl⟩:=List.mem_map.1 hx;exact hS2 y hy,by simp;omega⟩
      obtain ⟨N2,hN2⟩:∃ N2:Nat,(pr ((sumd ls out).map (gE e))).toNat=N2:=⟨_,rfl⟩
      have hN2b:N2 ≤ 46656000000:=by omega
      have q1:ls.length ≤ 1099511627776 ∧ (∀ l ∈ ls,l.length ≤ 1099511627776) ∧ ∀ l ∈ ls,∀ x ∈ l,0 ≤ x ∧ x ≤ 4:=⟨by omega,fun l hl=>by have:=hb4 l hl;omega,fun l hl x hx=>(hC.used x (List.mem_flatten.2 ⟨l,hl,hx⟩)).1⟩
      have q2:out.length ≤ 6 ∧ (∀ x ∈ out,0 ≤ x ∧ x ≤ 4) ∧ ∀ x ∈ out,0 ≤ gE e x ∧ gE e x ≤ 60:=⟨hb2,hO,hO2⟩
      have q3:(sumd ls out).length ≤ 6 ∧ (∀ x ∈ sumd ls out,0 ≤ x ∧ x ≤ 4) ∧ ∀ x ∈ sumd ls out,0 ≤ gE e x ∧ gE e x ≤ 60:=⟨by omega,hS,hS2⟩
      have q4:(lbS ls.flatten).length ≤ 1099511627776 ∧ out.length ≤ 1099511627776:=⟨by have h3:(lbS ls.flatten).length ≤ 5:=Dlz ls.flatten 5;omega,by omega⟩
      have hsd:wiL (lbS ls.flatten) out=sumd ls out:=rfl
      have hFL:∀ p,innL p (FC 88 false true (facs ts ls))=true:=fun p=>Eyz 88 false true p _
      have hWl:=Cqz e out Z5 rfl N
      generalize hF:FC 88 false true (facs ts ls)=F at *
      (repeat' (first
 | (first|refine Akz ?_|refine Agz ?_)
 | ((first|refine Alz ?_|refine Atz (mid:=l63r5a) (post:=l63r5b) Azz (by decide) ?_|refine Afz ?_|refine Ahz ?_|refine Aiz ?_);simp (disch:=omega) only [push_cast,seval,l63r0,l63r1,l63r2,l63r3,l63r4,l63r5a,l63r5b,l63r5,l63r6,l63r7,l63r8,l63r9,l63r10,l63r11,l63r12,l63r13,l63r14,h5,Anz,Auz,hNN,hN2,hsd,hFl,hWl])
 | ((first|refine Abz ?_ ?_|refine Aez ?_ ?_|refine Adz ?_ ?_)<;>intro h<;>(try simp only [h])<;>(try simp only [bitvec_to_nat] at h)<;>(try simp only [h])<;>(first|(exfalso;omega)|(exfalso;simp_all;done)|(simp (disch:=omega) only [push_cast,seval,h5,Anz,Auz,hNN,hN2,hsd,hFl,hWl])|skip))
 | ((first|((with_reducible refine Aoz (f:=87) true ?_);simp (disch:=omega) only [push_cast,seval,h5,Anz,Auz,hNN,hN2,hsd,hFl,hWl];(refine call0D (BCall.ofP (B0z _ _ _ _ _ ?_ ?_ ?_ ?_)) ?_;(iterate 4 (exact sd));rintro _ _ ⟨rfl,rfl⟩))|((with_reducible refine qcallD_of (f:=87) true ?_);simp (disch:=omega) only [push_cast,seval,h5,Anz,Auz,hNN,hN2,hsd,hFl,hWl];(refine qcall0D (BCall.ofP (B0z _ _ _ _ _ ?_ ?_ ?_ ?_)) ⟨_,_,rfl,rfl⟩ ?_;(iterate 4 (exact sd));rintro _ _ ⟨rfl,rfl⟩)))<;>(try simp (disch:=omega) only [push_cast,seval,h5,Anz,Auz,hNN,hN2,hsd,hFl,hWl]))
 | ((first|refine Aoz false ?_|refine qcallD_of false ?_);simp (disch:=omega) only [push_cast,seval,h5,Anz,Auz,hNN,hN2,hsd,hFl,hWl])
 | ((first|((first|refine call0D (labelsOf1_ok _ _ ?_ ?_) ?_|refine qcall0D (BCall.ofP (plainI (labelsOf1_ok _ _ ?_ ?_))) ⟨_,_,rfl,rfl⟩ ?_);(iterate 2 (exact sd));rintro _ _ ⟨rfl,rfl⟩)|((first|refine call0D (labelsOf_ok _ _ ?_ ?_) ?_|refine qcall0D (BCall.ofP (plainI (labelsOf_ok _ _ ?_ ?_))) ⟨_,_,rfl,rfl⟩ ?_);(iterate 2 (exact sd));rintro _ _ ⟨rfl,rfl⟩)|((first|refine call0D (iwithout_ok _ _ _ _ ?_ ?_ ?_) ?_|refine qcall0D (BCall.ofP (plainI (iwithout_ok _ _ _ _ ?_ ?_ ?_))) ⟨_,_,rfl,rfl⟩ ?_);(iterate 3 (exact sd));rintro _ _ ⟨rfl,rfl⟩)|((first|refine call0D (waysOfZ_ok _ _ _ ?_ ?_ ?_) ?_|refine qcall0D (waysOfZ_ok _ _ _ ?_ ?_ ?_) ⟨_,_,rfl,rfl⟩ ?_);(iterate 3 (exact sd));rintro _ _ ⟨rfl,rfl⟩)|((first|refine call0D (waysOf_ok _ _ _ _ ?_ ?_ ?_) ?_|refine qcall0D (waysOf_ok _ _ _ _ ?_ ?_ ?_) ⟨_,_,rfl,rfl⟩ ?_);(iterate 3 (exact sd));rintro _ _ ⟨rfl,rfl⟩)|((first|refine call0D (BCall.ofP (sopW_ok _ _ _ _ ?_ ?_ ?_)) ?_|refine qcall0D (BCall.ofP (sopW_ok _ _ _ _ ?_ ?_ ?_)) ⟨_,_,rfl,rfl⟩ ?_);(iterate 3 (exact sd));rintro _ _ ⟨rfl,rfl⟩))<;>(try simp (disch:=omega) only [push_cast,seval,h5,Anz,Auz,hNN,hN2,hsd,hFl,hWl]))
 | (refine Ajz ⟨.inr rfl,[880],[],_,by decide,rfl,?_⟩;(try simp (disch:=omega) only [push_cast,seval,↓Arz,↓Apz,↓List.map_cons,↓List.map_nil,h5,Anz,Auz,hNN,hN2,hsd,hFl,hWl]))))
      refine Clz (fun j:Nat=>mkS [(4,.ref 64 5 0),(9,.own 512 ts.length 1),(12,.own 592 (sumd ls out).length 1),(13,.own 880 j 1),(41,.own 656 N 5),(42,.int .i64 N),(43,.int .i64 j)] [(64,IL e),(512,F),(592,IL (sumd ls out)),(656,IL (waysF e out Z5 N)),(880,IL (ctV ts ls out e j))]) (fun j=>j ≤ N) (fun j=>N - j) 0 (Nat.zero_le _) ?_ ?_
      · refine SubW.adopt [13] 880 1 (by simp [Vw.hk]) (SubW.of ?_)
        simp only [adL,List.map_cons,List.map_nil,adA,List.contains_cons,List.contains_nil]
        have e0:IL (ctV ts ls out e 0)=[]:=rfl
        rw [← ek]
        (refine Sub.of_lists ?_ ?_ ?_ ?_ ?_<;>simp [Vw.mkS,Vw.lk,Vw.hk,AV.inn,innL,Aqz,Amz,Asz,-List.map_set,-List.getD_eq_getElem?_getD,e0,hFL])
      · intro j hj
        have hVl:=ctV_len ts ls out e j
        by_cases hjl:j < N
        · have hwk:(waysT e out Z5 N)[j]?=some (wayK e out Z5 j):=by simp [waysT,hjl]
          have hwt5:∀ v ∈ waysT e out Z5 N,v.length=5:=fun v hv=>by obtain ⟨i,_,rfl⟩:=List.mem_map.1 hv;rw [Dez];rfl
          have hd5:((IL (waysF e out Z5 N)).drop (j * 5)).take 5=IL (wayK e out Z5 j):=F1z hwt5 hwk
          have hk5:(wayK e out Z5 j).length=5:=by rw [Dez];rfl
          have hsum:=prog_sum hC ho hN hjl
          have hpos:=used_pos hC ho hN hjl
          have hwo:∀ x ∈ out,fitW e (wayK e out Z5 j) x:=fun x hx=>Isz (Int.natCast_nonneg _) (I7z rfl hO) hpos hx
          rw [hN2] at hsum
          have q5:e.length=5 ∧ (wayK e out Z5 j).length=5:=⟨h5,hk5⟩
          have hW2l:=Cqz e (sumd ls out) (wayK e out Z5 j) hk5 N2
          have q6:(N2 ≤ 1099511627776 ∧ ts.length ≤ 1099511627776) ∧ (∀ w ∈ waysT e (sumd ls out) (wayK e out Z5 j) N2,w.length=5) ∧ ∀ w ∈ waysT e (sumd ls out) (wayK e out Z5 j) N2,∀ f ∈ facs ts ls,fcOk f w:=by
            refine ⟨⟨by omega,by omega⟩,fun w hw=>by obtain ⟨i,_,rfl⟩:=List.mem_map.1 hw;rw [Dez];exact hk5,fun w hw=>?_⟩
            obtain ⟨i,hi,rfl⟩:=List.mem_map.1 hw
            have hi2:=List.mem_range.1 hi
            refine facs_ok hC (fit_two hC ho hk5 hwo (by rw [Dez];exact hk5) (fun y hy hn=>wayK_out hy (I7z hk5 hS) hn) (fun x hx=>Isz (Int.natCast_nonneg _) (I7z hk5 hS) (fun y hy=>?_) hx)) (fun t ht=>by have:=hb3 t ht;omega)
            have:=Cdz (xs:=(sumd ls out).map (gE e)) (by omega) (fun z hz=>by obtain ⟨y,hy,rfl⟩:=List.mem_map.1 hz;exact (hS2 y hy).1)
            exact this _ (List.mem_map.2 ⟨y,hy,rfl⟩)
          have hWT2:=waysT_len e (sumd ls out) (wayK e out Z5 j) N2
          have hnx:=ctV_succ ts ls out e j
          have hs5:=fun a b c d f=>set5I hk5 a b c d f
          subst hF
          generalize hV:ctV ts ls out e j=V at *
          (repeat' (first
 | (first|refine Akz ?_|refine Agz ?_)
 | ((first|refine Alz ?_|refine Atz (mid:=l63r5a) (post:=l63r5b) Azz (by decide) ?_|refine Afz ?_|refine Ahz ?_|refine Aiz ?_);simp (disch:=omega) only [push_cast,seval,l63r0,l63r1,l63r2,l63r3,l63r4,l63r5a,l63r5b,l63r5,l63r6,l63r7,l63r8,l63r9,l63r10,l63r11,l63r12,l63r13,l63r14,h5,hk5,Anz,Auz,hd5,hs5,hNN,hN2,hsd,hFl,hWl,hW2l,hVl,hsum])
 | ((first|refine Abz ?_ ?_|refine Aez ?_ ?_|refine Adz ?_ ?_)<;>intro h<;>(try simp only [h])<;>(try simp only [bitvec_to_nat] at h)<;>(try simp only [h])<;>(first|(exfalso;omega)|(exfalso;simp_all;done)|(simp (disch:=omega) only [push_cast,seval,h5,hk5,Anz,Auz,hd5,hs5,hNN,hN2,hsd,hFl,hWl,hW2l,hVl,hsum])|skip))
 | ((first|((with_reducible refine Aoz (f:=87) true ?_);simp (disch:=omega) only [push_cast,seval,h5,hk5,Anz,Auz,hd5,hs5,hNN,hN2,hsd,hFl,hWl,hW2l,hVl,hsum];(refine call0D (BCall.ofP (B0z _ _ _ _ _ ?_ ?_ ?_ ?_)) ?_;(iterate 4 (exact sd));rintro _ _ ⟨rfl,rfl⟩))|((with_reducible refine qcallD_of (f:=87) true ?_);simp (disch:=omega) only [push_cast,seval,h5,hk5,Anz,Auz,hd5,hs5,hNN,hN2,hsd,hFl,hWl,hW2l,hVl,hsum];(refine qcall0D (BCall.ofP (B0z _ _ _ _ _ ?_ ?_ ?_ ?_)) ⟨_,_,rfl,rfl⟩ ?_;(iterate 4 (exact sd));rintro _ _ ⟨rfl,rfl⟩)))<;>(try simp (disch:=omega) only [push_cast,seval,h5,hk5,Anz,Auz,hd5,hs5,hNN,hN2,hsd,hFl,hWl,hW2l,hVl,hsum]))
 | ((first|refine Aoz false ?_|refine qcallD_of false ?_);simp (disch:=omega) only [push_cast,seval,h5,hk5,Anz,Auz,hd5,hs5,hNN,hN2,hsd,hFl,hWl,hW2l,hVl,hsum])
 | ((first|((first|refine call0D (labelsOf1_ok _ _ ?_ ?_) ?_|refine qcall0D (labelsOf1_ok _ _ ?_ ?_) ⟨_,_,rfl,rfl⟩ ?_);(iterate 2 (exact sd));rintro _ _ ⟨rfl,rfl⟩)|((first|refine call0D (labelsOf_ok _ _ ?_ ?_) ?_|refine qcall0D (labelsOf_ok _ _ ?_ ?_) ⟨_,_,rfl,rfl⟩ ?_);(iterate 2 (exact sd));rintro _ _ ⟨rfl,rfl⟩)|((first|refine call0D (iwithout_ok _ _ _ _ ?_ ?_ ?_) ?_|refine qcall0D (iwithout_ok _ _ _ _ ?_ ?_ ?_) ⟨_,_,rfl,rfl⟩ ?_);(iterate 3 (exact sd));rintro _ _ ⟨rfl,rfl⟩)|((first|refine call0D (waysOfZ_ok _ _ _ ?_ ?_ ?_) ?_|refine qcall0D (waysOfZ_ok _ _ _ ?_ ?_ ?_) ⟨_,_,rfl,rfl⟩ ?_);(iterate 3 (exact sd));rintro _ _ ⟨rfl,rfl⟩)|((first|refine call0D (waysOf_ok _ _ _ _ ?_ ?_ ?_) ?_|refine qcall0D (waysOf_ok _ _ _ _ ?_ ?_ ?_) ⟨_,_,rfl,rfl⟩ ?_);(iterate 3 (exact sd));rintro _ _ ⟨rfl,rfl⟩)|((first|refine call0D (BCall.ofP (sopW_ok _ _ _ _ ?_ ?_ ?_)) ?_|refine qcall0D (BCall.ofP (sopW_ok _ _ _ _ ?_ ?_ ?_)) ⟨_,_,rfl,rfl⟩ ?_);(iterate 3 (exact sd));rintro _ _ ⟨rfl,rfl⟩))<;>(try simp (disch:=omega) only [push_cast,seval,h5,hk5,Anz,Auz,hd5,hs5,hNN,hN2,hsd,hFl,hWl,hW2l,hVl,hsum]))
 | (refine Ajz ⟨.inr rfl,[880],[],_,by decide,rfl,?_⟩; (try simp (disch := omega) only [push_cast,seval,↓Arz,↓Apz,↓List.map_cons,↓List.map_nil,h5,hk5,Anz,Auz,hd5,hs5,hNN,hN2,hsd,hFl,hWl,hW2l,hVl,hsum]))))
          refine ⟨j + 1,by omega,by omega,SubW.of ?_⟩
          rw [hnx]
          (refine Sub.of_lists ?_ ?_ ?_ ?_ ?_<;>simp [Vw.mkS,Vw.lk,Vw.hk,AV.inn,innL,Aqz,Amz,Asz,-List.map_set,-List.getD_eq_getElem?_getD,hFL])
        · have ej:j=N:=by omega
          subst ej
          generalize hV:ctV ts ls out e j=V at *
          (repeat' (first
 | (first|refine Akz ?_|refine Agz ?_)
 | ((first|refine Alz ?_|refine Atz (mid:=l63r5a) (post:=l63r5b) Azz (by decide) ?_|refine Afz ?_|refine Ahz ?_|refine Aiz ?_);simp (disch:=omega) only [push_cast,seval,l63r0,l63r1,l63r2,l63r3,l63r4,l63r5a,l63r5b,l63r5,l63r6,l63r7,l63r8,l63r9,l63r10,l63r11,l63r12,l63r13,l63r14,h5,Anz,Auz,hNN,hFl,hWl,hVl])
 | ((first|refine Abz ?_ ?_|refine Aez ?_ ?_|refine Adz ?_ ?_)<;>intro h<;>(try simp only [h])<;>(try simp only [bitvec_to_nat] at h)<;>(try simp only [h])<;>(first|(exfalso;omega)|(exfalso;simp_all;done)|(simp (disch:=omega) only [push_cast,seval,h5,Anz,Auz,hNN,hFl,hWl,hVl])|skip))
 | ((first|((with_reducible refine Aoz (f:=87) true ?_);simp (disch:=omega) only [push_cast,seval,h5,Anz,Auz,hNN,hFl,hWl,hVl];(refine call0D (BCall.ofP (B0z _ _ _ _ _ ?_ ?_ ?_ ?_)) ?_;(iterate 4 (exact sd));rintro _ _ ⟨rfl,rfl⟩))|((with_reducible refine qcallD_of (f:=87) true ?_);simp (disch:=omega) only [push_cast,seval,h5,Anz,Auz,hNN,hFl,hWl,hVl];(refine qcall0D (BCall.ofP (B0z _ _ _ _ _ ?_ ?_ ?_ ?_)) ⟨_,_,rfl,rfl⟩ ?_;(iterate 4 (exact sd));rintro _ _ ⟨rfl,rfl⟩)))<;>(try simp (disch:=omega) only [push_cast,seval,h5,Anz,Auz,hNN,hFl,hWl,hVl]))
 | ((first|refine Aoz false ?_|refine qcallD_of false ?_);simp (disch:=omega) only [push_cast,seval,h5,Anz,Auz,hNN,hFl,hWl,hVl])
 | ((first|((first|refine call0D (labelsOf1_ok _ _ ?_ ?_) ?_|refine qcall0D (labelsOf1_ok _ _ ?_ ?_) ⟨_,_,rfl,rfl⟩ ?_);(iterate 2 (exact sd));rintro _ _ ⟨rfl,rfl⟩)|((first|refine call0D (labelsOf_ok _ _ ?_ ?_) ?_|refine qcall0D (labelsOf_ok _ _ ?_ ?_) ⟨_,_,rfl,rfl⟩ ?_);(iterate 2 (exact sd));rintro _ _ ⟨rfl,rfl⟩)|((first|refine call0D (iwithout_ok _ _ _ _ ?_ ?_ ?_) ?_|refine qcall0D (iwithout_ok _ _ _ _ ?_ ?_ ?_) ⟨_,_,rfl,rfl⟩ ?_);(iterate 3 (exact sd));rintro _ _ ⟨rfl,rfl⟩)|((first|refine call0D (waysOfZ_ok _ _ _ ?_ ?_ ?_) ?_|refine qcall0D (waysOfZ_ok _ _ _ ?_ ?_ ?_) ⟨_,_,rfl,rfl⟩ ?_);(iterate 3 (exact sd));rintro _ _ ⟨rfl,rfl⟩)|((first|refine call0D (waysOf_ok _ _ _ _ ?_ ?_ ?_) ?_|refine qcall0D (waysOf_ok _ _ _ _ ?_ ?_ ?_) ⟨_,_,rfl,rfl⟩ ?_);(iterate 3 (exact sd));rintro _ _ ⟨rfl,rfl⟩)|((first|refine call0D (BCall.ofP (sopW_ok _ _ _ _ ?_ ?_ ?_)) ?_|refine qcall0D (BCall.ofP (sopW_ok _ _ _ _ ?_ ?_ ?_)) ⟨_,_,rfl,rfl⟩ ?_);(iterate 3 (exact sd));rintro _ _ ⟨rfl,rfl⟩))<;>(try simp (disch:=omega) only [push_cast,seval,h5,Anz,Auz,hNN,hFl,hWl,hVl]))
 | (refine Ajz ⟨.inr rfl,[880],[],_,by decide,rfl,?_⟩; (try simp (disch := omega) only [push_cast,seval,↓Arz,↓Apz,↓List.map_cons,↓List.map_nil,h5,Anz,Auz,hNN,hFl,hWl,hVl]))))
          all_goals exact ⟨by rw [hVl],rfl⟩

end Go.Proofs.Ytpicoecbbiiaoaa
set_option linter.unusedSimpArgs false
set_option linter.unusedVariables false
set_option maxRecDepth 4000
set_option maxHeartbeats 4000000
namespace Go.Proofs.Ytpicoecbbiiaoaa
open VwM Vw Go

theorem ctOk_of {ts:List Tn} {ls:List (List Int)} {e:List Int} (h:exO ts ls=some e):CtOk ts ls e:=by
  obtain ⟨f1,f2,f3,f4,f5,f6,f7,f8⟩:=exO_facts h
  refine ⟨f1,f8,fun i t l ht hl=>?_,fun x hx=>?_,f2⟩
  · have hv:=Fsz.1 (f7 t (List.mem_of_getElem? ht))
    exact ⟨⟨hv.1,hv.2.1⟩,(f6 i t l ht hl).1,fun x hx=>f5 x (List.mem_flatten.2 ⟨l,List.mem_of_getElem? hl,hx⟩),(f6 i t l ht hl).2⟩
  · have hr:=f5 x hx
    refine ⟨hr,?_⟩
    obtain ⟨c,rfl⟩:∃ c:Nat,x=c:=⟨x.toNat,by omega⟩
    have:=f3 c (by omega) hx
    unfold gE;rw [Int.toNat_natCast];exact this
theorem pos9 {xs:List Int} (hg:good9 xs) (h:0 < pr xs):∀ i,i < xs.length → 1 ≤ xs.getD i 0:=fun i hi=>by
  have:=Cdz h (fun x hx=>(hg.1 x hx).1) _ (A9z (xs:=xs) (j:=i) hi)
  omega


theorem unrank9_ok (xs:List Int) (n:Nat) (k:Int) (hn:xs.length=n) (hg:good9 xs ∧ 0 ≤ k ∧ k < pr xs):BCall Try.prog 71 [.rows false (IL xs) n,.int .i64 k] [] (OI (unr xs k)):=by
  subst hn
  obtain ⟨hg,hk0,hk1⟩:=hg
  have hl:=hg.2
  have hprb:=Ciz hg
  have hp:=pos9 hg (by omega)
  refine A5z (pins:=[]) (pin:=0) l71_eq rfl rfl rfl ?_
  (repeat' (first
 | (first|refine Akz ?_|refine Agz ?_)
 | ((first|refine Alz ?_|refine Afz ?_|refine Ahz ?_|refine Aiz ?_);simp (disch:=omega) only [push_cast,seval,l71r0,l71r1,l71r2,l71r3,l71r4,l71r5,l71r6,l71r7])
 | ((first|refine Abz ?_ ?_|refine Aez ?_ ?_|refine Adz ?_ ?_)<;>intro h<;>(try simp only [h])<;>(try simp only [bitvec_to_nat] at h)<;>(try simp only [h])<;>(first|(exfalso;omega)|(exfalso;simp_all;done)|(simp (disch:=omega) only [push_cast,seval])|skip))
 | (refine Ajz ⟨.inr rfl,[144],[],_,by decide,rfl,?_⟩;(try simp (disch:=omega) only [push_cast,seval,↓Arz,↓Apz,↓List.map_cons,↓List.map_nil]);(first|done|(show AV.own _ _ _=_ ∧ _)))))
  refine Ayz (fun j:Nat=>mkS [(0,RI xs),(6,.int .i64 ((xs.length:Int) - 1 - (j:Int))),(1,.int .i64 (kS xs k j)),(5,.own 144 xs.length 1)] [(144,IL (filledD (dig xs k) xs.length j))])
    (fun j=>j ≤ xs.length) (fun j=>xs.length - j) 0 (Nat.zero_le _) ?_ ?_
  · (refine Sub.of_lists ?_ ?_ ?_ ?_ ?_<;>simp [Vw.mkS,Vw.lk,Vw.hk,AV.inn,innL,Aqz,Amz,Asz,-List.map_set,-List.getD_eq_getElem?_getD,filledD_zero,kS])
  · intro j hj
    by_cases hlt:j < xs.length
    · have e1:=down_nat xs.length j hlt
      have h1:=Dmz hk0 hp j hj
      have h2:=Dmz hk0 hp (j + 1) hlt
      have h3:=hp (xs.length - 1 - j) (by omega)
      have h4:¬ xs.getD (xs.length - 1 - j) 0=0:=by omega
      simp only [kS] at h2
      have e3:=filledD_set (dig xs k) xs.length j hlt
      have e6:dig xs k (xs.length - 1 - j)=(kS xs k j).tmod (xs.getD (xs.length - 1 - j) 0):=by
        unfold dig
        rw [show xs.length - 1 - (xs.length - 1 - j)=j by omega]
      rw [e6] at e3
      (repeat' (first
 | (first|refine Akz ?_|refine Agz ?_)
 | ((first|refine Alz ?_|refine Afz ?_|refine Ahz ?_|refine Aiz ?_);simp (disch:=omega) only [push_cast,seval,l71r0,l71r1,l71r2,l71r3,l71r4,l71r5,l71r6,l71r7,e1,h4])
 | ((first|refine Abz ?_ ?_|refine Aez ?_ ?_|refine Adz ?_ ?_)<;>intro h<;>(try simp only [h])<;>(try simp only [bitvec_to_nat] at h)<;>(try simp only [h])<;>(first|(exfalso;omega)|(exfalso;simp_all;done)|(simp (disch:=omega) only [push_cast,seval,e1,h4])|skip))
 | (refine Ajz ⟨.inr rfl,[144],[],_,by decide,rfl,?_⟩;(try simp (disch:=omega) only [push_cast,seval,↓Arz,↓Apz,↓List.map_cons,↓List.map_nil,e1,h4]);(first|done|(show AV.own _ _ _=_ ∧ _)))))
      refine ⟨j + 1,by omega,by omega,?_⟩
      have e4:(xs.length:Int) - 1 - ((j:Int) + 1)=(xs.length:Int) - 1 - (j:Int) - 1:=by omega
      (refine Sub.of_lists ?_ ?_ ?_ ?_ ?_<;>simp [Vw.mkS,Vw.lk,Vw.hk,AV.inn,innL,Aqz,Amz,Asz,-List.map_set,-List.getD_eq_getElem?_getD,Boz,e3,e4,kS])
    · (repeat' (first
 | (first|refine Akz ?_|refine Agz ?_)
 | ((first|refine Alz ?_|refine Afz ?_|refine Ahz ?_|refine Aiz ?_);simp (disch:=omega) only [push_cast,seval,l71r0,l71r1,l71r2,l71r3,l71r4,l71r5,l71r6,l71r7])
 | ((first|refine Abz ?_ ?_|refine Aez ?_ ?_|refine Adz ?_ ?_)<;>intro h<;>(try simp only [h])<;>(try simp only [bitvec_to_nat] at h)<;>(try simp only [h])<;>(first|(exfalso;omega)|(exfalso;simp_all;done)|(simp (disch:=omega) only [push_cast,seval])|skip))
 | (refine Ajz ⟨.inr rfl,[144],[],_,by decide,rfl,?_⟩;(try simp (disch:=omega) only [push_cast,seval,↓Arz,↓Apz,↓List.map_cons,↓List.map_nil]);(first|done|(show AV.own _ _ _=_ ∧ _)))))
      have e:j=xs.length:=by omega
      rw [e,filledD_all]
      simp [OI,unr]


set_option maxHeartbeats 32000000 in
theorem scontr_ok (ts:List Tn) (ls:List (List Int)) (out e:List Int) (n m q:Nat) (hn:ts.length=n) (hm:ls.length=m) (hq:out.length=q)
    (hb:CtOk ts ls e ∧ n ≤ 1000 ∧ (∀ x ∈ out,x ∈ ls.flatten) ∧ out.Nodup ∧ vSh (out.map (gE e))=true ∧ (∀ t ∈ ts,t.1.length ≤ 1000 ∧ t.2.length ≤ 1000) ∧ (∀ l ∈ ls,l.length ≤ 1000) ∧ pr (spE e) ≤ 4000) :
    BCall Try.prog 85 [.rows false (TL false ts) n,.rows false (LL false ls) m,.rows false (IL out) q,.rows false (IL e) 5] [] (fun r H'=>r=.agg [.own 0 q 1,.own 1 (pr (out.map (gE e))).toNat 1] ∧ H'=[IL (out.map (gE e)),IL (ctV ts ls out e (pr (out.map (gE e))).toNat)]):=by
  subst hn hm hq
  obtain ⟨hC,hb1,ho,hon,hs,hb3,hb4,hb5⟩:=hb
  have h5:=hC.len
  have hlen:=hC.num
  have htl:=Bbz false ts
  have hll:=Bcz false ls
  have hO:∀ x ∈ out,(0 ≤ x ∧ x ≤ 4):=fun x hx=>(hC.used x (ho x hx)).1
  have hgs:=(Bdz hs)
  have hol:out.length ≤ 4:=by have:=hgs.1.2;simpa using this
  obtain ⟨N,hN⟩:∃ N:Nat,pr (out.map (gE e))=N:=⟨(pr (out.map (gE e))).toNat,by omega⟩
  have hNN:(pr (out.map (gE e))).toNat=N:=by omega
  have hNb:N ≤ 60:=by omega
  rw [hNN]
  have hsp9:good9 (spE e):=⟨fun z hz=>by
    obtain ⟨y,hy,rfl⟩:=List.mem_map.1 hz
    split
    · omega
    · obtain ⟨c,hc,rfl⟩:=Dkz.1 hy
      by_cases hm:(c:Int) ∈ ls.flatten
      · have:=(hC.used _ hm).2;unfold gE at this;rw [Int.toNat_natCast] at this;omega
      · have:=hC.un c (by omega) hm;omega,by rw [B6z,h5];omega⟩
  have hpp:=Ciz hsp9
  have hspl:(spE e).length=5:=by rw [B6z,h5]
  obtain ⟨M,hM⟩:∃ M:Nat,pr (spE e)=M:=⟨(pr (spE e)).toNat,by omega⟩
  have q1:(5:Nat) ≤ 6 ∧ ∀ x ∈ e,x ≤ 60:=⟨by omega,fun y hy=>by
      obtain ⟨c,hc,rfl⟩:=Dkz.1 hy
      by_cases hm:(c:Int) ∈ ls.flatten
      · have:=(hC.used _ hm).2;unfold gE at this;rw [Int.toNat_natCast] at this;omega
      · have:=hC.un c (by omega) hm;omega⟩
  have q2:((5:Nat) ≤ 1000000 ∧ out.length ≤ 1000000) ∧ ∀ x ∈ out,0 ≤ x ∧ x < ((5:Nat):Int):=⟨⟨by omega,by omega⟩,fun x hx=>by have:=hO x hx;omega⟩
  have hOl:(out.map (gE e)).length=out.length:=List.length_map _
  refine A5z (pins:=[]) (pin:=0) l85_eq rfl rfl rfl ?_
  generalize hOS:out.map (gE e)=OS at *
  (repeat' (first
 | (first|refine Akz ?_|refine Agz ?_)
 | ((first|refine Alz ?_|refine Atz (mid:=l85r10a) (post:=l85r10b) Azz (by decide) ?_|refine Atz (mid:=l85r12a) (post:=l85r12b) Azz (by decide) ?_|refine Atz (mid:=l85r13a) (post:=l85r13b) Azz (by decide) ?_|refine Afz ?_|refine Ahz ?_|refine Aiz ?_);simp (disch:=omega) only [push_cast,seval,l85r0,l85r1,l85r2,l85r3,l85r4,l85r5,l85r6,l85r7,l85r8,l85r9,l85r10a,l85r10b,l85r10,l85r11,l85r12a,l85r12b,l85r12,l85r13a,l85r13b,l85r13,l85r14,l85r15,h5,hspl,hN,hM,Anz,hOS])
 | ((first|refine Abz ?_ ?_|refine Aez ?_ ?_|refine Adz ?_ ?_)<;>intro h<;>(try simp only [h])<;>(try simp only [bitvec_to_nat] at h)<;>(try simp only [h])<;>(first|(exfalso;omega)|(exfalso;simp_all;done)|(simp (disch:=omega) only [push_cast,seval,h5,hspl,hN,hM,Anz,hOS])|skip))
 | ((first|refine Aoz false ?_|refine qcallD_of false ?_);simp (disch:=omega) only [push_cast,seval,h5,hspl,hN,hM,Anz,hOS])
 | ((first|((first|refine call0D (sspace_ok _ _ ?_ ?_) ?_|refine qcall0D (sspace_ok _ _ ?_ ?_) ⟨_,_,rfl,rfl⟩ ?_);(iterate 2 (exact sd));rintro _ _ ⟨rfl,rfl⟩)|((first|refine call0D (spick_ok _ _ _ _ ?_ ?_ ?_) ?_|refine qcall0D (spick_ok _ _ _ _ ?_ ?_ ?_) ⟨_,_,rfl,rfl⟩ ?_);(iterate 3 (exact sd));rintro _ _ ⟨rfl,rfl⟩)|((first|refine call0D (BCall.ofP (scount_ok _ _ ?_ ?_)) ?_|refine qcall0D (BCall.ofP (scount_ok _ _ ?_ ?_)) ⟨_,_,rfl,rfl⟩ ?_);(iterate 2 (exact sd));rintro _ _ ⟨rfl,rfl⟩)|((first|refine call0D (unrank9_ok _ _ _ ?_ ?_) ?_|refine qcall0D (unrank9_ok _ _ _ ?_ ?_) ⟨_,_,rfl,rfl⟩ ?_);(iterate 2 (exact sd));rintro _ _ ⟨rfl,rfl⟩)|((first|refine call0D (BCall.ofP (srank_ok _ _ _ _ ?_ ?_ ?_)) ?_|refine qcall0D (BCall.ofP (srank_ok _ _ _ _ ?_ ?_ ?_)) ⟨_,_,rfl,rfl⟩ ?_);(iterate 3 (exact sd));rintro _ _ ⟨rfl,rfl⟩))<;>(try simp (disch:=omega) only [push_cast,seval,h5,hspl,hN,hM,Anz,hOS]))
 | (refine Ajz ⟨.inr rfl,[384,464],[],_,by decide,rfl,?_⟩;(try simp (disch:=omega) only [push_cast,seval,↓Arz,↓Apz,↓List.map_cons,↓List.map_nil,h5,hspl,hN,hM,Anz,hOS]))))
  refine Ayz (fun k:Nat=>mkS [(0,.rows false (TL false ts) ts.length),(1,.rows false (LL false ls) ls.length),(2,.rows false (IL out) out.length),(8,.ref 128 2 0),(9,.own 304 5 1),(10,.int .i64 M),(11,.ref 176 2 0),(12,.int .i64 k)] [(128,[.val (.slice none 0 0),.val (.slice none 0 0)]),(176,[.own 384 out.length 1,.own 464 N 1]),(304,IL (spE e)),(384,IL OS),(464,IL (vsT ts ls out e N k))]) (fun k=>k ≤ M) (fun k=>M - k) 0 (Nat.zero_le _) ?_ ?_
  · have e0:IL (vsT ts ls out e N 0)=List.replicate N (.int .i64 0):=by rw [vsT_zero];simp [IL]
    (refine Sub.of_lists ?_ ?_ ?_ ?_ ?_<;>simp [Vw.mkS,Vw.lk,Vw.hk,AV.inn,innL,Aqz,Amz,Asz,-List.map_set,-List.getD_eq_getElem?_getD,e0,hOl,Acz,Aaz])
  · intro k hk
    have hvl:=vsT_len ts ls out e N k
    by_cases hkM:k < M
    · have hkp:(k:Int) < pr (spE e):=by omega
      have q3:good9 (spE e) ∧ 0 ≤ (k:Int) ∧ (k:Int) < pr (spE e):=⟨hsp9,by omega,hkp⟩
      have hfit:=unr_fit hC hkp
      obtain ⟨r1,r2,r3,r4⟩:=rkO_fit hC ho (hOS ▸ hs) hfit
      rw [hOS] at r1 r3 r4
      obtain ⟨p,hp⟩:∃ p:Nat,rkO e out (unr (spE e) k)=p:=⟨(rkO e out (unr (spE e) k)).toNat,by omega⟩
      have hpN:p < N:=by omega
      have hst:=vsT_step (ts:=ts) (ls:=ls) hpN hp
      have hw5:=hfit.1
      have hlabw:∀ x ∈ ls.flatten,0 ≤ x ∧ x < ((5:Nat):Int):=fun x hx=>by have:=(hC.used x hx).1;omega
      generalize hW:unr (spE e) k=w at *
      generalize hV:vsT ts ls out e N k=V at *
      rw [hp] at r4
      have r4b:dot (fun i=>(out.map (gE w)).getD i 0) (rowS OS) out.length=p:=by rw [← r4,hOl]
      have q4:good4 OS ∧ vIx OS (out.map (gE w))=true:=⟨hgs.1,r1⟩
      (repeat' (first
 | (first|refine Akz ?_|refine Agz ?_)
 | ((first|refine Alz ?_|refine Atz (mid:=l85r10a) (post:=l85r10b) Azz (by decide) ?_|refine Atz (mid:=l85r12a) (post:=l85r12b) Azz (by decide) ?_|refine Atz (mid:=l85r13a) (post:=l85r13b) Azz (by decide) ?_|refine Afz ?_|refine Ahz ?_|refine Aiz ?_);simp (disch:=omega) only [push_cast,seval,l85r0,l85r1,l85r2,l85r3,l85r4,l85r5,l85r6,l85r7,l85r8,l85r9,l85r10a,l85r10b,l85r10,l85r11,l85r12a,l85r12b,l85r12,l85r13a,l85r13b,l85r13,l85r14,l85r15,h5,hspl,hN,hM,Anz,hW,hw5])
 | ((first|refine Abz ?_ ?_|refine Aez ?_ ?_|refine Adz ?_ ?_)<;>intro h<;>(try simp only [h])<;>(try simp only [bitvec_to_nat] at h)<;>(try simp only [h])<;>(first|(exfalso;omega)|(exfalso;simp_all;done)|(simp (disch:=omega) only [push_cast,seval,h5,hspl,hN,hM,Anz,hW,hw5])|skip))
 | ((first|refine Aoz false ?_|refine qcallD_of false ?_);simp (disch:=omega) only [push_cast,seval,h5,hspl,hN,hM,Anz,hW,hw5])
 | ((first|((first|refine call0D (sspace_ok _ _ ?_ ?_) ?_|refine qcall0D (sspace_ok _ _ ?_ ?_) ⟨_,_,rfl,rfl⟩ ?_);(iterate 2 (exact sd));rintro _ _ ⟨rfl,rfl⟩)|((first|refine call0D (spick_ok _ _ _ _ ?_ ?_ ?_) ?_|refine qcall0D (spick_ok _ _ _ _ ?_ ?_ ?_) ⟨_,_,rfl,rfl⟩ ?_);(iterate 3 (exact sd));rintro _ _ ⟨rfl,rfl⟩)|((first|refine call0D (BCall.ofP (scount_ok _ _ ?_ ?_)) ?_|refine qcall0D (BCall.ofP (scount_ok _ _ ?_ ?_)) ⟨_,_,rfl,rfl⟩ ?_);(iterate 2 (exact sd));rintro _ _ ⟨rfl,rfl⟩)|((first|refine call0D (unrank9_ok _ _ _ ?_ ?_) ?_|refine qcall0D (unrank9_ok _ _ _ ?_ ?_) ⟨_,_,rfl,rfl⟩ ?_);(iterate 2 (exact sd));rintro _ _ ⟨rfl,rfl⟩)|((first|refine call0D (BCall.ofP (srank_ok _ _ _ _ ?_ ?_ ?_)) ?_|refine qcall0D (BCall.ofP (srank_ok _ _ _ _ ?_ ?_ ?_)) ⟨_,_,rfl,rfl⟩ ?_);(iterate 3 (exact sd));rintro _ _ ⟨rfl,rfl⟩))<;>(try simp (disch:=omega) only [push_cast,seval,h5,hspl,hN,hM,Anz,hW,hw5]))
 | (refine Ajz ⟨.inr rfl,[384,464],[],_,by decide,rfl,?_⟩;(try simp (disch:=omega) only [push_cast,seval,↓Arz,↓Apz,↓List.map_cons,↓List.map_nil,h5,hspl,hN,hM,Anz,hW,hw5]))))
      refine Ayz (fun j:Nat=>mkS [(0,.rows false (TL false ts) ts.length),(1,.rows false (LL false ls) ls.length),(2,.rows false (IL out) out.length),(8,.ref 128 2 0),(9,.own 304 5 1),(10,.int .i64 M),(11,.ref 176 2 0),(12,.int .i64 k),(13,.own 608 5 1),(14,.int .i64 (w64 (prodL (((ts.zip ls).take j).map fun q=>tv q.1 q.2 w)))),(15,.int .i64 j)] [(128,[.val (.slice none 0 0),.val (.slice none 0 0)]),(176,[.own 384 out.length 1,.own 464 N 1]),(304,IL (spE e)),(384,IL OS),(464,IL V),(608,IL w)]) (fun j=>j ≤ ts.length) (fun j=>ts.length - j) 0 (Nat.zero_le _) ?_ ?_
      · have e0:(1:Int)=w64 (prodL []):=by decide
        (refine Sub.of_lists ?_ ?_ ?_ ?_ ?_<;>simp [Vw.mkS,Vw.lk,Vw.hk,AV.inn,innL,Aqz,Amz,Asz,-List.map_set,-List.getD_eq_getElem?_getD,e0,Acz,Aaz])
      · intro j hj
        by_cases hjl:j < ts.length
        · obtain ⟨t,ht⟩:=Cbz hjl
          obtain ⟨l,hl⟩:=Cbz (show j < ls.length by omega)
          have hdt:=TL_d1 false ts j ht
          have hdt2:=TL_d2 false ts j ht
          have hj3:j * 2 + 1 ≤ ts.length * 2:=by omega
          have hdl:=C4z false ls j hl
          have hk1:j + 1 ≤ ts.length:=by omega
          have hkl:j + 1 ≤ ls.length:=by omega
          have hj2:j * 2 + 2 ≤ ts.length * 2:=by omega
          have hbt:=hb3 t (List.mem_of_getElem? ht)
          have hbl:=hb4 l (List.mem_of_getElem? hl)
          obtain ⟨⟨c1,c2⟩,c3,c4,c5⟩:=hC.lab j t l ht hl
          obtain ⟨t1,t2,t3,t4,t5⟩:=tv_ok hC hfit ht hl
          obtain ⟨D,hD⟩:∃ D:Nat,dot (fun i=>gE w (l.getD i 0)) (rowS t.1) t.1.length=D:=⟨(dot (fun i=>gE w (l.getD i 0)) (rowS t.1) t.1.length).toNat,by omega⟩
          have hDl:D < t.2.length:=by omega
          have hD2:dot (fun i=>(l.map (gE w)).getD i 0) (rowS t.1) t.1.length=D:=by rw [(map_ix c3 (fit_lab hC hfit ht hl)).2];exact hD
          have htv:tv t l w=t.2.getD D 0:=by unfold tv;rw [hD,Int.toNat_natCast]
          have q5:((5:Nat) ≤ 1000000 ∧ l.length ≤ 1000000) ∧ ∀ x ∈ l,0 ≤ x ∧ x < ((5:Nat):Int):=⟨⟨by omega,by omega⟩,fun x hx=>hlabw x (List.mem_flatten.2 ⟨l,List.mem_of_getElem? hl,hx⟩)⟩
          have q6:good4 t.1 ∧ vIx t.1 (l.map (gE w))=true:=⟨(Bdz c1).1,t5⟩
          have hzj:(ts.zip ls)[j]?=some (t,l):=List.getElem?_zip_eq_some.2 ⟨ht,hl⟩
          have hps:=prod_step (fun q:Tn × List Int=>tv q.1 q.2 w) (ts.zip ls) hzj
          simp only [htv] at hps
          generalize hP:w64 (prodL (List.map (fun q:Tn × List Int=>tv q.1 q.2 w) (List.take j (ts.zip ls))))=P at *
          rw [List.map_take] at hps
          (repeat' (first
 | (first|refine Akz ?_|refine Agz ?_)
 | ((first|refine Alz ?_|refine Atz (mid:=l85r10a) (post:=l85r10b) Azz (by decide) ?_|refine Atz (mid:=l85r12a) (post:=l85r12b) Azz (by decide) ?_|refine Atz (mid:=l85r13a) (post:=l85r13b) Azz (by decide) ?_|refine Afz ?_|refine Ahz ?_|refine Aiz ?_);simp (disch:=omega) only [push_cast,seval,l85r0,l85r1,l85r2,l85r3,l85r4,l85r5,l85r6,l85r7,l85r8,l85r9,l85r10a,l85r10b,l85r10,l85r11,l85r12a,l85r12b,l85r12,l85r13a,l85r13b,l85r13,l85r14,l85r15,hdt,hdt2,hdl,htl,hll,hk1,hkl,hj2,hj3,h5,hw5,Anz,hD2])
 | ((first|refine Abz ?_ ?_|refine Aez ?_ ?_|refine Adz ?_ ?_)<;>intro h<;>(try simp only [h])<;>(try simp only [bitvec_to_nat] at h)<;>(try simp only [h])<;>(first|(exfalso;omega)|(exfalso;simp_all;done)|(simp (disch:=omega) only [push_cast,seval,hdt,hdt2,hdl,htl,hll,hk1,hkl,hj2,hj3,h5,hw5,Anz,hD2])|skip))
 | ((first|refine Aoz false ?_|refine qcallD_of false ?_);simp (disch:=omega) only [push_cast,seval,hdt,hdt2,hdl,htl,hll,hk1,hkl,hj2,hj3,h5,hw5,Anz,hD2])
 | ((first|((first|refine call0D (sspace_ok _ _ ?_ ?_) ?_|refine qcall0D (sspace_ok _ _ ?_ ?_) ⟨_,_,rfl,rfl⟩ ?_);(iterate 2 (exact sd));rintro _ _ ⟨rfl,rfl⟩)|((first|refine call0D (spick_ok _ _ _ _ ?_ ?_ ?_) ?_|refine qcall0D (BCall.ofP (plainI (spick_ok _ _ _ _ ?_ ?_ ?_))) ⟨_,_,rfl,rfl⟩ ?_);(iterate 3 (exact sd));rintro _ _ ⟨rfl,rfl⟩)|((first|refine call0D (BCall.ofP (scount_ok _ _ ?_ ?_)) ?_|refine qcall0D (BCall.ofP (scount_ok _ _ ?_ ?_)) ⟨_,_,rfl,rfl⟩ ?_);(iterate 2 (exact sd));rintro _ _ ⟨rfl,rfl⟩)|((first|refine call0D (unrank9_ok _ _ _ ?_ ?_) ?_|refine qcall0D (unrank9_ok _ _ _ ?_ ?_) ⟨_,_,rfl,rfl⟩ ?_);(iterate 2 (exact sd));rintro _ _ ⟨rfl,rfl⟩)|((first|refine call0D (BCall.ofP (srank_ok _ _ _ _ ?_ ?_ ?_)) ?_|refine qcall0D (BCall.ofP (srank_ok _ _ _ _ ?_ ?_ ?_)) ⟨_,_,rfl,rfl⟩ ?_);(iterate 3 (exact sd));rintro _ _ ⟨rfl,rfl⟩))<;>(try simp (disch:=omega) only [push_cast,seval,hdt,hdt2,hdl,htl,hll,hk1,hkl,hj2,hj3,h5,hw5,Anz,hD2]))
 | (refine Ajz ⟨.inr rfl,[384,464],[],_,by decide,rfl,?_⟩; (try simp (disch := omega) only [push_cast,seval,↓Arz,↓Apz,↓List.map_cons,↓List.map_nil,hdt,hdt2,hdl,htl,hll,hk1,hkl,hj2,hj3,h5,hw5,Anz,hD2]))))
          refine ⟨j + 1,by omega,by omega,?_⟩
          (refine Sub.of_lists ?_ ?_ ?_ ?_ ?_<;>simp [Vw.mkS,Vw.lk,Vw.hk,AV.inn,innL,Aqz,Amz,Asz,-List.map_set,-List.getD_eq_getElem?_getD,hps,Acz,Aaz])
        · have ej:j=ts.length:=by omega
          have hall:(ts.zip ls).take j=ts.zip ls:=List.take_of_length_le (by rw [List.length_zip];omega)
          rw [hall]
          have hgp:prodL ((ts.zip ls).map fun q=>tv q.1 q.2 w)=gP ts ls w:=rfl
          rw [hgp]
          generalize hG:w64 (gP ts ls w)=G at *
          (repeat' (first
 | (first|refine Akz ?_|refine Agz ?_)
 | ((first|refine Alz ?_|refine Atz (mid:=l85r10a) (post:=l85r10b) Azz (by decide) ?_|refine Atz (mid:=l85r12a) (post:=l85r12b) Azz (by decide) ?_|refine Atz (mid:=l85r13a) (post:=l85r13b) Azz (by decide) ?_|refine Afz ?_|refine Ahz ?_|refine Aiz ?_);simp (disch:=omega) only [push_cast,seval,l85r0,l85r1,l85r2,l85r3,l85r4,l85r5,l85r6,l85r7,l85r8,l85r9,l85r10a,l85r10b,l85r10,l85r11,l85r12a,l85r12b,l85r12,l85r13a,l85r13b,l85r13,l85r14,l85r15,h5,hw5,Anz,hOl,hOS,hvl,r4b,Boz])
 | ((first|refine Abz ?_ ?_|refine Aez ?_ ?_|refine Adz ?_ ?_)<;>intro h<;>(try simp only [h])<;>(try simp only [bitvec_to_nat] at h)<;>(try simp only [h])<;>(first|(exfalso;omega)|(exfalso;simp_all;done)|(simp (disch:=omega) only [push_cast,seval,h5,hw5,Anz,hOl,hOS,hvl,r4b,Boz])|skip))
 | ((first|refine Aoz false ?_|refine qcallD_of false ?_);simp (disch:=omega) only [push_cast,seval,h5,hw5,Anz,hOl,hOS,hvl,r4b,Boz])
 | ((first|((first|refine call0D (sspace_ok _ _ ?_ ?_) ?_|refine qcall0D (sspace_ok _ _ ?_ ?_) ⟨_,_,rfl,rfl⟩ ?_);(iterate 2 (exact sd));rintro _ _ ⟨rfl,rfl⟩)|((first|refine call0D (spick_ok _ _ _ _ ?_ ?_ ?_) ?_|refine qcall0D (BCall.ofP (plainI (spick_ok _ _ _ _ ?_ ?_ ?_))) ⟨_,_,rfl,rfl⟩ ?_);(iterate 3 (exact sd));rintro _ _ ⟨rfl,rfl⟩)|((first|refine call0D (BCall.ofP (scount_ok _ _ ?_ ?_)) ?_|refine qcall0D (BCall.ofP (scount_ok _ _ ?_ ?_)) ⟨_,_,rfl,rfl⟩ ?_);(iterate 2 (exact sd));rintro _ _ ⟨rfl,rfl⟩)|((first|refine call0D (unrank9_ok _ _ _ ?_ ?_) ?_|refine qcall0D (unrank9_ok _ _ _ ?_ ?_) ⟨_,_,rfl,rfl⟩ ?_);(iterate 2 (exact sd));rintro _ _ ⟨rfl,rfl⟩)|((first|refine call0D (BCall.ofP (srank_ok _ _ _ _ ?_ ?_ ?_)) ?_|refine qcall0D (BCall.ofP (srank_ok _ _ _ _ ?_ ?_ ?_)) ⟨_,_,rfl,rfl⟩ ?_);(iterate 3 (exact sd));rintro _ _ ⟨rfl,rfl⟩))<;>(try simp (disch:=omega) only [push_cast,seval,h5,hw5,Anz,hOl,hOS,hvl,r4b,Boz]))
 | (refine Ajz ⟨.inr rfl,[384,464],[],_,by decide,rfl,?_⟩; (try simp (disch := omega) only [push_cast,seval,↓Arz,↓Apz,↓List.map_cons,↓List.map_nil,h5,hw5,Anz,hOl,hOS,hvl,r4b,Boz]))))
          refine ⟨k + 1,by omega,by omega,?_⟩
          (refine Sub.of_lists ?_ ?_ ?_ ?_ ?_<;>simp [Vw.mkS,Vw.lk,Vw.hk,AV.inn,innL,Aqz,Amz,Asz,-List.map_set,-List.getD_eq_getElem?_getD,hst,Boz,Acz,Aaz])
    · have ek:k=M:=by omega
      have hfin:vsT ts ls out e N k=ctV ts ls out e N:=by
        unfold vsT ctV
        refine List.map_congr_left fun p hp=>?_
        have hpN:=List.mem_range.1 hp
        have:=model_sum hC ho hon (hOS ▸ hs) (by rw [hOS];exact hN) hpN
        rw [hM,Int.toNat_natCast,← ek] at this
        rw [this]
      rw [hfin] at hvl ⊢
      generalize hV:ctV ts ls out e N=V at *
      (repeat' (first
 | (first|refine Akz ?_|refine Agz ?_)
 | ((first|refine Alz ?_|refine Atz (mid:=l85r10a) (post:=l85r10b) Azz (by decide) ?_|refine Atz (mid:=l85r12a) (post:=l85r12b) Azz (by decide) ?_|refine Atz (mid:=l85r13a) (post:=l85r13b) Azz (by decide) ?_|refine Afz ?_|refine Ahz ?_|refine Aiz ?_);simp (disch:=omega) only [push_cast,seval,l85r0,l85r1,l85r2,l85r3,l85r4,l85r5,l85r6,l85r7,l85r8,l85r9,l85r10a,l85r10b,l85r10,l85r11,l85r12a,l85r12b,l85r12,l85r13a,l85r13b,l85r13,l85r14,l85r15,h5,Anz,hOl,hOS,hvl])
 | ((first|refine Abz ?_ ?_|refine Aez ?_ ?_|refine Adz ?_ ?_)<;>intro h<;>(try simp only [h])<;>(try simp only [bitvec_to_nat] at h)<;>(try simp only [h])<;>(first|(exfalso;omega)|(exfalso;simp_all;done)|(simp (disch:=omega) only [push_cast,seval,h5,Anz,hOl,hOS,hvl])|skip))
 | ((first|refine Aoz false ?_|refine qcallD_of false ?_);simp (disch:=omega) only [push_cast,seval,h5,Anz,hOl,hOS,hvl])
 | ((first|((first|refine call0D (sspace_ok _ _ ?_ ?_) ?_|refine qcall0D (sspace_ok _ _ ?_ ?_) ⟨_,_,rfl,rfl⟩ ?_);(iterate 2 (exact sd));rintro _ _ ⟨rfl,rfl⟩)|((first|refine call0D (spick_ok _ _ _ _ ?_ ?_ ?_) ?_|refine qcall0D (spick_ok _ _ _ _ ?_ ?_ ?_) ⟨_,_,rfl,rfl⟩ ?_);(iterate 3 (exact sd));rintro _ _ ⟨rfl,rfl⟩)|((first|refine call0D (BCall.ofP (scount_ok _ _ ?_ ?_)) ?_|refine qcall0D (BCall.ofP (scount_ok _ _ ?_ ?_)) ⟨_,_,rfl,rfl⟩ ?_);(iterate 2 (exact sd));rintro _ _ ⟨rfl,rfl⟩)|((first|refine call0D (unrank9_ok _ _ _ ?_ ?_) ?_|refine qcall0D (unrank9_ok _ _ _ ?_ ?_) ⟨_,_,rfl,rfl⟩ ?_);(iterate 2 (exact sd));rintro _ _ ⟨rfl,rfl⟩)|((first|refine call0D (BCall.ofP (srank_ok _ _ _ _ ?_ ?_ ?_)) ?_|refine qcall0D (BCall.ofP (srank_ok _ _ _ _ ?_ ?_ ?_)) ⟨_,_,rfl,rfl⟩ ?_);(iterate 3 (exact sd));rintro _ _ ⟨rfl,rfl⟩))<;>(try simp (disch:=omega) only [push_cast,seval,h5,Anz,hOl,hOS,hvl]))
 | (refine Ajz ⟨.inr rfl,[384,464],[],_,by decide,rfl,?_⟩;(try simp (disch:=omega) only [push_cast,seval,↓Arz,↓Apz,↓List.map_cons,↓List.map_nil,h5,Anz,hOl,hOS,hvl]))))

end Go.Proofs.Ytpicoecbbiiaoaa
