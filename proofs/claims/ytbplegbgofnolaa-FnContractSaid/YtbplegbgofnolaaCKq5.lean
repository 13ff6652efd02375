import Derived.Test.YtbplegbgofnolaaCKq4
import Derived.Test.YtbplegbgofnolaaCM1
set_option linter.unusedSimpArgs false
set_option linter.unusedVariables false
set_option maxRecDepth 4000
set_option maxHeartbeats 4000000
namespace Go.Proofs.Ytbplegbgofnolaa
open VwM Vw Go

theorem waysOfZ_ok (e L:List Int) (m:Nat) (hm:L.length=m) (he:e.length=5) (hb:m ≤ 6 ∧ (∀ x ∈ L,0 ≤ x ∧ x ≤ 4) ∧ ∀ x ∈ L,0 ≤ gE e x ∧ gE e x ≤ 60):BCall Try.prog 98 [.agg (IL e),.rows false (IL L) m,.agg [.int .i64 0,.int .i64 0,.int .i64 0,.int .i64 0,.int .i64 0]] [] (fun r H'=>r=.own 0 (pr (L.map (gE e))).toNat 5 ∧ H'=[IL (waysF e L Z5 (pr (L.map (gE e))).toNat)]):=waysOf_ok e Z5 L m hm ⟨he,rfl⟩ hb


def ctV (ts:List Tn) (ls:List (List Int)) (out e:List Int) (n:Nat):List Int:=(List.range n).map fun p=>w64 (ctE ts ls out e p)
theorem Ezz (ts:List Tn) (ls:List (List Int)) (out e:List Int) (n:Nat):(ctV ts ls out e n).length=n:=by simp [ctV]
theorem ctV_succ (ts:List Tn) (ls:List (List Int)) (out e:List Int) (n:Nat):ctV ts ls out e (n + 1)=ctV ts ls out e n ++ [w64 (ctE ts ls out e n)]:=by simp [ctV,List.range_succ]
theorem facs_take {ts:List Tn} {ls:List (List Int)} {i:Nat} {t:Tn} {l:List Int} (ht:ts[i]?=some t) (hl:ls[i]?=some l):(facs ts ls).take (i + 1)=(facs ts ls).take i ++ [(t.2,lbS l,fsT l (rowS t.1) t.1.length)]:=by
  rw [List.take_add_one,facs_get ht hl];rfl
theorem FC_snoc (g:Nat) (b1 b2:Bool) (fs:List Fc) (f:Fc):FC g b1 b2 fs ++ [.clo (.func g) [.agg (.rows b1 (IL f.1) f.1.length :: .rows b2 (IL f.2.1) f.2.1.length :: IL f.2.2)] []]=FC g b1 b2 (fs ++ [f]):=by rw [FC_append];rfl


set_option maxHeartbeats 32000000 in
theorem icontr_ok (ts:List Tn) (ls:List (List Int)) (out e:List Int) (n m q:Nat) (hn:ts.length=n) (hm:ls.length=m) (hq:out.length=q)
    (hb:CtOk ts ls e ∧ (n ≤ 1000 ∧ q ≤ 6) ∧ (∀ x ∈ out,x ∈ ls.flatten) ∧ (∀ t ∈ ts,t.1.length ≤ 1000 ∧ t.2.length ≤ 1000) ∧ ∀ l ∈ ls,l.length ≤ 1000) :
    BCall Try.prog 58 [.agg (IL e),.rows false (TL false ts) n,.rows false (LL false ls) m,.rows false (IL out) q] [] (OI (ctV ts ls out e (pr (out.map (gE e))).toNat)):=by
  subst hn hm hq
  obtain ⟨hC,⟨hb1,hb2⟩,ho,hb3,hb4⟩:=hb
  have h5:=hC.len
  have hlen:=hC.num
  have htl:=Caz false ts
  have hll:=Cbz false ls
  have hO:∀ x ∈ out,(0 ≤ x ∧ x ≤ 4):=fun x hx=>(hC.used x (ho x hx)).1
  have hO2:∀ x ∈ out,0 ≤ gE e x ∧ gE e x ≤ 60:=fun x hx=>(hC.used x (ho x hx)).2
  have hp0:0 ≤ pr (out.map (gE e)):=Duz fun z hz=>by obtain ⟨y,hy,rfl⟩:=List.mem_map.1 hz;exact (hO2 y hy).1
  have hp9:=Csz (xs:=out.map (gE e)) ⟨fun x hx=>by obtain ⟨y,hy,rfl⟩:=List.mem_map.1 hx;exact hO2 y hy,by simpa using hb2⟩
  obtain ⟨N,hN⟩:∃ N:Nat,pr (out.map (gE e))=N:=⟨(pr (out.map (gE e))).toNat,by omega⟩
  have hNN:(pr (out.map (gE e))).toNat=N:=by omega
  rw [hNN]
  have hfl:=facs_len hlen
  refine A3z (pins:=[]) (pin:=0) l58_eq rfl rfl rfl ?_
  (repeat' (first
 | (first|refine Anz ?_|refine Agz ?_)
 | ((first|refine Aoz ?_|refine Asz (mid:=l58r5a) (post:=l58r5b) Awz (by decide) ?_|refine Afz ?_|refine Ahz ?_|refine Aiz ?_);simp (disch:=omega) only [push_cast,seval,l58r0,l58r1,l58r2,l58r3,l58r4,l58r5a,l58r5b,l58r5,l58r6,l58r7,l58r8,l58r9,l58r10,l58r11,l58r12,l58r13,l58r14,h5,Apz,Auz])
 | ((first|refine Acz ?_ ?_|refine Aez ?_ ?_|refine Adz ?_ ?_)<;>intro h<;>(try simp only [h])<;>(try simp only [bitvec_to_nat] at h)<;>(try simp only [h])<;>(first|(exfalso;omega)|(exfalso;simp_all;done)|(simp (disch:=omega) only [push_cast,seval,h5,Apz,Auz])|skip))
 | ((first|((with_reducible refine Aqz (f:=96) true ?_);simp (disch:=omega) only [push_cast,seval,h5,Apz,Auz];(refine call0D (BCall.ofP (B9z _ _ _ _ _ ?_ ?_ ?_ ?_)) ?_;(iterate 4 (exact sd));rintro _ _ ⟨rfl,rfl⟩))|((with_reducible refine qcallD_of (f:=96) true ?_);simp (disch:=omega) only [push_cast,seval,h5,Apz,Auz];(refine qcall0D (BCall.ofP (B9z _ _ _ _ _ ?_ ?_ ?_ ?_)) ⟨_,_,rfl,rfl⟩ ?_;(iterate 4 (exact sd));rintro _ _ ⟨rfl,rfl⟩)))<;>(try simp (disch:=omega) only [push_cast,seval,h5,Apz,Auz]))
 | ((first|refine Aqz false ?_|refine qcallD_of false ?_);simp (disch:=omega) only [push_cast,seval,h5,Apz,Auz])
 | ((first|((first|refine call0D (labelsOf1_ok _ _ ?_ ?_) ?_|refine qcall0D (labelsOf1_ok _ _ ?_ ?_) ⟨_,_,rfl,rfl⟩ ?_);(iterate 2 (exact sd));rintro _ _ ⟨rfl,rfl⟩)|((first|refine call0D (labelsOf_ok _ _ ?_ ?_) ?_|refine qcall0D (labelsOf_ok _ _ ?_ ?_) ⟨_,_,rfl,rfl⟩ ?_);(iterate 2 (exact sd));rintro _ _ ⟨rfl,rfl⟩)|((first|refine call0D (iwithout_ok _ _ _ _ ?_ ?_ ?_) ?_|refine qcall0D (iwithout_ok _ _ _ _ ?_ ?_ ?_) ⟨_,_,rfl,rfl⟩ ?_);(iterate 3 (exact sd));rintro _ _ ⟨rfl,rfl⟩)|((first|refine call0D (waysOfZ_ok _ _ _ ?_ ?_ ?_) ?_|refine qcall0D (waysOfZ_ok _ _ _ ?_ ?_ ?_) ⟨_,_,rfl,rfl⟩ ?_);(iterate 3 (exact sd));rintro _ _ ⟨rfl,rfl⟩)|((first|refine call0D (waysOf_ok _ _ _ _ ?_ ?_ ?_) ?_|refine qcall0D (waysOf_ok _ _ _ _ ?_ ?_ ?_) ⟨_,_,rfl,rfl⟩ ?_);(iterate 3 (exact sd));rintro _ _ ⟨rfl,rfl⟩)|((first|refine call0D (BCall.ofP (sopW_ok _ _ _ _ ?_ ?_ ?_)) ?_|refine qcall0D (BCall.ofP (sopW_ok _ _ _ _ ?_ ?_ ?_)) ⟨_,_,rfl,rfl⟩ ?_);(iterate 3 (exact sd));rintro _ _ ⟨rfl,rfl⟩))<;>(try simp (disch:=omega) only [push_cast,seval,h5,Apz,Auz]))
 | (refine Akz ⟨.inr rfl,[880],[],_,by decide,rfl,?_⟩;(try simp (disch:=omega) only [push_cast,seval,↓Alz,↓Ajz,↓List.map_cons,↓List.map_nil,h5,Apz,Auz]))))
  refine Cgz (fun k:Nat=>mkS [(2,.rows false (LL false ls) ls.length),(3,.rows false (IL out) out.length),(4,.ref 64 5 0),(9,.own 512 k 1),(16,.rows false (TL false ts) ts.length),(17,.int .i64 ts.length),(18,.int .i64 k)] [(64,IL e),(512,FC 97 false true ((facs ts ls).take k))]) (fun k=>k ≤ ts.length) (fun k=>ts.length - k) 0 (Nat.zero_le _) ?_ ?_
  · refine SubW.adopt [9] 512 1 (by simp [Vw.hk]) (SubW.of ?_)
    simp only [adL,List.map_cons,List.map_nil,adA,List.contains_cons,List.contains_nil]
    have e0:FC 97 false true []=[]:=rfl
    (refine Sub.of_lists ?_ ?_ ?_ ?_ ?_<;>simp [Vw.mkS,Vw.lk,Vw.hk,AV.inn,innL,Arz,Amz,Atz,-List.map_set,-List.getD_eq_getElem?_getD,e0,Abz,Aaz])
  · intro k hk
    have hfk:((facs ts ls).take k).length=k:=by rw [List.length_take,hfl];omega
    have hFl:=Hnz 97 false true ((facs ts ls).take k)
    rw [hfk] at hFl
    by_cases hlt:k < ts.length
    · obtain ⟨t,ht⟩:=Dbz hlt
      obtain ⟨l,hl⟩:=Dbz (show k < ls.length by omega)
      have hdt:=E1z false ts k ht
      have hdl:=F2z false ls k hl
      have hk1:k + 1 ≤ ts.length:=by omega
      have hkl:k + 1 ≤ ls.length:=by omega
      have hbt:=hb3 t (List.mem_of_getElem? ht)
      have hbl:=hb4 l (List.mem_of_getElem? hl)
      obtain ⟨⟨c1,c2⟩,c3,c4,c5⟩:=hC.lab k t l ht hl
      have q1:vSh t.1=true ∧ l.length=t.1.length ∧ t.2.length ≤ 1099511627776 ∧ ∀ x ∈ l,0 ≤ x ∧ x ≤ 4:=⟨c1,c3,by omega,c4⟩
      have hsn:=facs_take ht hl
      have hsn2:=FC_snoc 97 false true ((facs ts ls).take k) (t.2,lbS l,fsT l (rowS t.1) t.1.length)
      rw [← hsn] at hsn2
      generalize hU:FC 97 false true ((facs ts ls).take k)=U at *
      (repeat' (first
 | (first|refine Anz ?_|refine Agz ?_)
 | ((first|refine Aoz ?_|refine Blz (mid:=l58r5a) (post:=l58r5b) [] Awz (by decide) ?_|refine Afz ?_|refine Ahz ?_|refine Aiz ?_);simp (disch:=omega) only [push_cast,seval,l58r0,l58r1,l58r2,l58r3,l58r4,l58r5a,l58r5b,l58r5,l58r6,l58r7,l58r8,l58r9,l58r10,l58r11,l58r12,l58r13,l58r14,hdt,hdl,htl,hll,hk1,hkl,h5,Apz,hFl])
 | ((first|refine Acz ?_ ?_|refine Aez ?_ ?_|refine Adz ?_ ?_)<;>intro h<;>(try simp only [h])<;>(try simp only [bitvec_to_nat] at h)<;>(try simp only [h])<;>(first|(exfalso;omega)|(exfalso;simp_all;done)|(simp (disch:=omega) only [push_cast,seval,hdt,hdl,htl,hll,hk1,hkl,h5,Apz,hFl])|skip))
 | ((first|((with_reducible refine Aqz (f:=96) true ?_);simp (disch:=omega) only [push_cast,seval,hdt,hdl,htl,hll,hk1,hkl,h5,Apz,hFl];(refine call0D (BCall.ofP (B9z _ _ _ _ _ ?_ ?_ ?_ ?_)) ?_;(iterate 4 (exact sd));rintro _ _ ⟨rfl,rfl⟩))|((with_reducible refine qcallD_of (f:=96) true ?_);simp (disch:=omega) only [push_cast,seval,hdt,hdl,htl,hll,hk1,hkl,h5,Apz,hFl];(refine qcall0D (BCall.ofP (B9z _ _ _ _ _ ?_ ?_ ?_ ?_)) ⟨_,_,rfl,rfl⟩ ?_;(iterate 4 (exact sd));rintro _ _ ⟨rfl,rfl⟩)))<;>(try simp (disch:=omega) only [push_cast,seval,hdt,hdl,htl,hll,hk1,hkl,h5,Apz,hFl]))
 | ((first|refine Aqz false ?_|refine qcallD_of false ?_);simp (disch:=omega) only [push_cast,seval,hdt,hdl,htl,hll,hk1,hkl,h5,Apz,hFl])
 | ((first|((first|refine call0D (labelsOf1_ok _ _ ?_ ?_) ?_|refine qcall0D (labelsOf1_ok _ _ ?_ ?_) ⟨_,_,rfl,rfl⟩ ?_);(iterate 2 (exact sd));rintro _ _ ⟨rfl,rfl⟩)|((first|refine call0D (labelsOf_ok _ _ ?_ ?_) ?_|refine qcall0D (labelsOf_ok _ _ ?_ ?_) ⟨_,_,rfl,rfl⟩ ?_);(iterate 2 (exact sd));rintro _ _ ⟨rfl,rfl⟩)|((first|refine call0D (iwithout_ok _ _ _ _ ?_ ?_ ?_) ?_|refine qcall0D (iwithout_ok _ _ _ _ ?_ ?_ ?_) ⟨_,_,rfl,rfl⟩ ?_);(iterate 3 (exact sd));rintro _ _ ⟨rfl,rfl⟩)|((first|refine call0D (waysOfZ_ok _ _ _ ?_ ?_ ?_) ?_|refine qcall0D (waysOfZ_ok _ _ _ ?_ ?_ ?_) ⟨_,_,rfl,rfl⟩ ?_);(iterate 3 (exact sd));rintro _ _ ⟨rfl,rfl⟩)|((first|refine call0D (waysOf_ok _ _ _ _ ?_ ?_ ?_) ?_|refine qcall0D (waysOf_ok _ _ _ _ ?_ ?_ ?_) ⟨_,_,rfl,rfl⟩ ?_);(iterate 3 (exact sd));rintro _ _ ⟨rfl,rfl⟩)|((first|refine call0D (BCall.ofP (sopW_ok _ _ _ _ ?_ ?_ ?_)) ?_|refine qcall0D (BCall.ofP (sopW_ok _ _ _ _ ?_ ?_ ?_)) ⟨_,_,rfl,rfl⟩ ?_);(iterate 3 (exact sd));rintro _ _ ⟨rfl,rfl⟩))<;>(try simp (disch:=omega) only [push_cast,seval,hdt,hdl,htl,hll,hk1,hkl,h5,Apz,hFl]))
 | (refine Akz ⟨.inr rfl,[880],[],_,by decide,rfl,?_⟩;(try simp (disch:=omega) only [push_cast,seval,↓Alz,↓Ajz,↓List.map_cons,↓List.map_nil,hdt,hdl,htl,hll,hk1,hkl,h5,Apz,hFl]))))
      refine ⟨k + 1,by omega,by omega,SubW.of ?_⟩
      (refine Sub.of_lists ?_ ?_ ?_ ?_ ?_<;>simp [Vw.mkS,Vw.lk,Vw.hk,AV.inn,innL,Arz,Amz,Atz,-List.map_set,-List.getD_eq_getElem?_getD,hsn2,Abz,Aaz,Etz])
    · have ek:k=ts.length:=by omega
      have htk:(facs ts ls).take k=facs ts ls:=List.take_of_length_le (by omega)
      rw [htk] at hFl ⊢
      have hS:∀ x ∈ sumd ls out,(0 ≤ x ∧ x ≤ 4):=fun x hx=>(Cvz.1 hx).1.1
      have hS2:∀ x ∈ sumd ls out,0 ≤ gE e x ∧ gE e x ≤ 60:=fun x hx=>(hC.used x (Cvz.1 hx).1.2).2
      have hSl:(sumd ls out).length ≤ 5:=by
        have h1:=wiL_len (lbS ls.flatten) out
        have h2:=Dkz ls.flatten 5
        show (wiL (lbS ls.flatten) out).length ≤ 5
        have h3:(lbS ls.flatten).length ≤ 5:=h2
        omega
      have hs9:=Csz (xs:=(sumd ls out).map (gE e)) ⟨fun x hx=>by obtain ⟨y,hy,rfl⟩:=List.mem_map.1 hx;exact hS2 y hy,by simp;omega⟩
      obtain ⟨N2,hN2⟩:∃ N2:Nat,(pr ((sumd ls out).map (gE e))).toNat=N2:=⟨_,rfl⟩
      have hN2b:N2 ≤ 46656000000:=by omega
      have q1:ls.length ≤ 1099511627776 ∧ (∀ l ∈ ls,l.length ≤ 1099511627776) ∧ ∀ l ∈ ls,∀ x ∈ l,0 ≤ x ∧ x ≤ 4:=⟨by omega,fun l hl=>by have:=hb4 l hl;omega,fun l hl x hx=>(hC.used x (List.mem_flatten.2 ⟨l,hl,hx⟩)).1⟩
      have q2:out.length ≤ 6 ∧ (∀ x ∈ out,0 ≤ x ∧ x ≤ 4) ∧ ∀ x ∈ out,0 ≤ gE e x ∧ gE e x ≤ 60:=⟨hb2,hO,hO2⟩
      have q3:(sumd ls out).length ≤ 6 ∧ (∀ x ∈ sumd ls out,0 ≤ x ∧ x ≤ 4) ∧ ∀ x ∈ sumd ls out,0 ≤ gE e x ∧ gE e x ≤ 60:=⟨by omega,hS,hS2⟩
      have q4:(lbS ls.flatten).length ≤ 1099511627776 ∧ out.length ≤ 1099511627776:=⟨by have h3:(lbS ls.flatten).length ≤ 5:=Dkz ls.flatten 5;omega,by omega⟩
      have hsd:wiL (lbS ls.flatten) out=sumd ls out:=rfl
      have hFL:∀ p,innL p (FC 97 false true (facs ts ls))=true:=fun p=>Etz 97 false true p _
      have hWl:=Cwz e out Z5 rfl N
      generalize hF:FC 97 false true (facs ts ls)=F at *
      (repeat' (first
 | (first|refine Anz ?_|refine Agz ?_)
 | ((first|refine Aoz ?_|refine Asz (mid:=l58r5a) (post:=l58r5b) Awz (by decide) ?_|refine Afz ?_|refine Ahz ?_|refine Aiz ?_);simp (disch:=omega) only [push_cast,seval,l58r0,l58r1,l58r2,l58r3,l58r4,l58r5a,l58r5b,l58r5,l58r6,l58r7,l58r8,l58r9,l58r10,l58r11,l58r12,l58r13,l58r14,h5,Apz,Auz,hNN,hN2,hsd,hFl,hWl])
 | ((first|refine Acz ?_ ?_|refine Aez ?_ ?_|refine Adz ?_ ?_)<;>intro h<;>(try simp only [h])<;>(try simp only [bitvec_to_nat] at h)<;>(try simp only [h])<;>(first|(exfalso;omega)|(exfalso;simp_all;done)|(simp (disch:=omega) only [push_cast,seval,h5,Apz,Auz,hNN,hN2,hsd,hFl,hWl])|skip))
 | ((first|((with_reducible refine Aqz (f:=96) true ?_);simp (disch:=omega) only [push_cast,seval,h5,Apz,Auz,hNN,hN2,hsd,hFl,hWl];(refine call0D (BCall.ofP (B9z _ _ _ _ _ ?_ ?_ ?_ ?_)) ?_;(iterate 4 (exact sd));rintro _ _ ⟨rfl,rfl⟩))|((with_reducible refine qcallD_of (f:=96) true ?_);simp (disch:=omega) only [push_cast,seval,h5,Apz,Auz,hNN,hN2,hsd,hFl,hWl];(refine qcall0D (BCall.ofP (B9z _ _ _ _ _ ?_ ?_ ?_ ?_)) ⟨_,_,rfl,rfl⟩ ?_;(iterate 4 (exact sd));rintro _ _ ⟨rfl,rfl⟩)))<;>(try simp (disch:=omega) only [push_cast,seval,h5,Apz,Auz,hNN,hN2,hsd,hFl,hWl]))
 | ((first|refine Aqz false ?_|refine qcallD_of false ?_);simp (disch:=omega) only [push_cast,seval,h5,Apz,Auz,hNN,hN2,hsd,hFl,hWl])
 | ((first|((first|refine call0D (labelsOf1_ok _ _ ?_ ?_) ?_|refine qcall0D (BCall.ofP (plainI (labelsOf1_ok _ _ ?_ ?_))) ⟨_,_,rfl,rfl⟩ ?_);(iterate 2 (exact sd));rintro _ _ ⟨rfl,rfl⟩)|((first|refine call0D (labelsOf_ok _ _ ?_ ?_) ?_|refine qcall0D (BCall.ofP (plainI (labelsOf_ok _ _ ?_ ?_))) ⟨_,_,rfl,rfl⟩ ?_);(iterate 2 (exact sd));rintro _ _ ⟨rfl,rfl⟩)|((first|refine call0D (iwithout_ok _ _ _ _ ?_ ?_ ?_) ?_|refine qcall0D (BCall.ofP (plainI (iwithout_ok _ _ _ _ ?_ ?_ ?_))) ⟨_,_,rfl,rfl⟩ ?_);(iterate 3 (exact sd));rintro _ _ ⟨rfl,rfl⟩)|((first|refine call0D (waysOfZ_ok _ _ _ ?_ ?_ ?_) ?_|refine qcall0D (waysOfZ_ok _ _ _ ?_ ?_ ?_) ⟨_,_,rfl,rfl⟩ ?_);(iterate 3 (exact sd));rintro _ _ ⟨rfl,rfl⟩)|((first|refine call0D (waysOf_ok _ _ _ _ ?_ ?_ ?_) ?_|refine qcall0D (waysOf_ok _ _ _ _ ?_ ?_ ?_) ⟨_,_,rfl,rfl⟩ ?_);(iterate 3 (exact sd));rintro _ _ ⟨rfl,rfl⟩)|((first|refine call0D (BCall.ofP (sopW_ok _ _ _ _ ?_ ?_ ?_)) ?_|refine qcall0D (BCall.ofP (sopW_ok _ _ _ _ ?_ ?_ ?_)) ⟨_,_,rfl,rfl⟩ ?_);(iterate 3 (exact sd));rintro _ _ ⟨rfl,rfl⟩))<;>(try simp (disch:=omega) only [push_cast,seval,h5,Apz,Auz,hNN,hN2,hsd,hFl,hWl]))
 | (refine Akz ⟨.inr rfl,[880],[],_,by decide,rfl,?_⟩;(try simp (disch:=omega) only [push_cast,seval,↓Alz,↓Ajz,↓List.map_cons,↓List.map_nil,h5,Apz,Auz,hNN,hN2,hsd,hFl,hWl]))))
      refine Cgz (fun j:Nat=>mkS [(4,.ref 64 5 0),(9,.own 512 ts.length 1),(12,.own 592 (sumd ls out).length 1),(13,.own 880 j 1),(41,.own 656 N 5),(42,.int .i64 N),(43,.int .i64 j)] [(64,IL e),(512,F),(592,IL (sumd ls out)),(656,IL (waysF e out Z5 N)),(880,IL (ctV ts ls out e j))]) (fun j=>j ≤ N) (fun j=>N - j) 0 (Nat.zero_le _) ?_ ?_
      · refine SubW.adopt [13] 880 1 (by simp [Vw.hk]) (SubW.of ?_)
        simp only [adL,List.map_cons,List.map_nil,adA,List.contains_cons,List.contains_nil]
        have e0:IL (ctV ts ls out e 0)=[]:=rfl
        rw [← ek]
        (refine Sub.of_lists ?_ ?_ ?_ ?_ ?_<;>simp [Vw.mkS,Vw.lk,Vw.hk,AV.inn,innL,Arz,Amz,Atz,-List.map_set,-List.getD_eq_getElem?_getD,e0,hFL])
      · intro j hj
        have hVl:=Ezz ts ls out e j
        by_cases hjl:j < N
        · have hwk:(waysT e out Z5 N)[j]?=some (wayK e out Z5 j):=by simp [waysT,hjl]
          have hwt5:∀ v ∈ waysT e out Z5 N,v.length=5:=fun v hv=>by obtain ⟨i,_,rfl⟩:=List.mem_map.1 hv;rw [Cqz];rfl
          have hd5:((IL (waysF e out Z5 N)).drop (j * 5)).take 5=IL (wayK e out Z5 j):=Fxz hwt5 hwk
          have hk5:(wayK e out Z5 j).length=5:=by rw [Cqz];rfl
          have hsum:=prog_sum hC ho hN hjl
          have hpos:=used_pos hC ho hN hjl
          have hwo:∀ x ∈ out,fitW e (wayK e out Z5 j) x:=fun x hx=>Ihz (Int.natCast_nonneg _) (Fez rfl hO) hpos hx
          rw [hN2] at hsum
          have q5:e.length=5 ∧ (wayK e out Z5 j).length=5:=⟨h5,hk5⟩
          have hW2l:=Cwz e (sumd ls out) (wayK e out Z5 j) hk5 N2
          have q6:(N2 ≤ 1099511627776 ∧ ts.length ≤ 1099511627776) ∧ (∀ w ∈ waysT e (sumd ls out) (wayK e out Z5 j) N2,w.length=5) ∧ ∀ w ∈ waysT e (sumd ls out) (wayK e out Z5 j) N2,∀ f ∈ facs ts ls,fcOk f w:=by
            refine ⟨⟨by omega,by omega⟩,fun w hw=>by obtain ⟨i,_,rfl⟩:=List.mem_map.1 hw;rw [Cqz];exact hk5,fun w hw=>?_⟩
            obtain ⟨i,hi,rfl⟩:=List.mem_map.1 hw
            have hi2:=List.mem_range.1 hi
            refine facs_ok hC (fit_two hC ho hk5 hwo (by rw [Cqz];exact hk5) (fun y hy hn=>Igz hy (Fez hk5 hS) hn) (fun x hx=>Ihz (Int.natCast_nonneg _) (Fez hk5 hS) (fun y hy=>?_) hx)) (fun t ht=>by have:=hb3 t ht;omega)
            have:=Ciz (xs:=(sumd ls out).map (gE e)) (by omega) (fun z hz=>by obtain ⟨y,hy,rfl⟩:=List.mem_map.1 hz;exact (hS2 y hy).1)
            exact this _ (List.mem_map.2 ⟨y,hy,rfl⟩)
          have hWT2:=waysT_len e (sumd ls out) (wayK e out Z5 j) N2
          have hnx:=ctV_succ ts ls out e j
          have hs5:=fun a b c d f=>set5I hk5 a b c d f
          subst hF
          generalize hV:ctV ts ls out e j=V at *
          (repeat' (first
 | (first|refine Anz ?_|refine Agz ?_)
 | ((first|refine Aoz ?_|refine Asz (mid:=l58r5a) (post:=l58r5b) Awz (by decide) ?_|refine Afz ?_|refine Ahz ?_|refine Aiz ?_);simp (disch:=omega) only [push_cast,seval,l58r0,l58r1,l58r2,l58r3,l58r4,l58r5a,l58r5b,l58r5,l58r6,l58r7,l58r8,l58r9,l58r10,l58r11,l58r12,l58r13,l58r14,h5,hk5,Apz,Auz,hd5,hs5,hNN,hN2,hsd,hFl,hWl,hW2l,hVl,hsum])
 | ((first|refine Acz ?_ ?_|refine Aez ?_ ?_|refine Adz ?_ ?_)<;>intro h<;>(try simp only [h])<;>(try simp only [bitvec_to_nat] at h)<;>(try simp only [h])<;>(first|(exfalso;omega)|(exfalso;simp_all;done)|(simp (disch:=omega) only [push_cast,seval,h5,hk5,Apz,Auz,hd5,hs5,hNN,hN2,hsd,hFl,hWl,hW2l,hVl,hsum])|skip))
 | ((first|((with_reducible refine Aqz (f:=96) true ?_);simp (disch:=omega) only [push_cast,seval,h5,hk5,Apz,Auz,hd5,hs5,hNN,hN2,hsd,hFl,hWl,hW2l,hVl,hsum];(refine call0D (BCall.ofP (B9z _ _ _ _ _ ?_ ?_ ?_ ?_)) ?_;(iterate 4 (exact sd));rintro _ _ ⟨rfl,rfl⟩))|((with_reducible refine qcallD_of (f:=96) true ?_);simp (disch:=omega) only [push_cast,seval,h5,hk5,Apz,Auz,hd5,hs5,hNN,hN2,hsd,hFl,hWl,hW2l,hVl,hsum];(refine qcall0D (BCall.ofP (B9z _ _ _ _ _ ?_ ?_ ?_ ?_)) ⟨_,_,rfl,rfl⟩ ?_;(iterate 4 (exact sd));rintro _ _ ⟨rfl,rfl⟩)))<;>(try simp (disch:=omega) only [push_cast,seval,h5,hk5,Apz,Auz,hd5,hs5,hNN,hN2,hsd,hFl,hWl,hW2l,hVl,hsum]))
 | ((first|refine Aqz false ?_|refine qcallD_of false ?_);simp (disch:=omega) only [push_cast,seval,h5,hk5,Apz,Auz,hd5,hs5,hNN,hN2,hsd,hFl,hWl,hW2l,hVl,hsum])
 | ((first|((first|refine call0D (labelsOf1_ok _ _ ?_ ?_) ?_|refine qcall0D (labelsOf1_ok _ _ ?_ ?_) ⟨_,_,rfl,rfl⟩ ?_);(iterate 2 (exact sd));rintro _ _ ⟨rfl,rfl⟩)|((first|refine call0D (labelsOf_ok _ _ ?_ ?_) ?_|refine qcall0D (labelsOf_ok _ _ ?_ ?_) ⟨_,_,rfl,rfl⟩ ?_);(iterate 2 (exact sd));rintro _ _ ⟨rfl,rfl⟩)|((first|refine call0D (iwithout_ok _ _ _ _ ?_ ?_ ?_) ?_|refine qcall0D (iwithout_ok _ _ _ _ ?_ ?_ ?_) ⟨_,_,rfl,rfl⟩ ?_);(iterate 3 (exact sd));rintro _ _ ⟨rfl,rfl⟩)|((first|refine call0D (waysOfZ_ok _ _ _ ?_ ?_ ?_) ?_|refine qcall0D (waysOfZ_ok _ _ _ ?_ ?_ ?_) ⟨_,_,rfl,rfl⟩ ?_);(iterate 3 (exact sd));rintro _ _ ⟨rfl,rfl⟩)|((first|refine call0D (waysOf_ok _ _ _ _ ?_ ?_ ?_) ?_|refine qcall0D (waysOf_ok _ _ _ _ ?_ ?_ ?_) ⟨_,_,rfl,rfl⟩ ?_);(iterate 3 (exact sd));rintro _ _ ⟨rfl,rfl⟩)|((first|refine call0D (BCall.ofP (sopW_ok _ _ _ _ ?_ ?_ ?_)) ?_|refine qcall0D (BCall.ofP (sopW_ok _ _ _ _ ?_ ?_ ?_)) ⟨_,_,rfl,rfl⟩ ?_);(iterate 3 (exact sd));rintro _ _ ⟨rfl,rfl⟩))<;>(try simp (disch:=omega) only [push_cast,seval,h5,hk5,Apz,Auz,hd5,hs5,hNN,hN2,hsd,hFl,hWl,hW2l,hVl,hsum]))
 | (refine Akz ⟨.inr rfl,[880],[],_,by decide,rfl,?_⟩; (try simp (disch := omega) only [push_cast,seval,↓Alz,↓Ajz,↓List.map_cons,↓List.map_nil,h5,hk5,Apz,Auz,hd5,hs5,hNN,hN2,hsd,hFl,hWl,hW2l,hVl,hsum]))))
          refine ⟨j + 1,by omega,by omega,SubW.of ?_⟩
          rw [hnx]
          (refine Sub.of_lists ?_ ?_ ?_ ?_ ?_<;>simp [Vw.mkS,Vw.lk,Vw.hk,AV.inn,innL,Arz,Amz,Atz,-List.map_set,-List.getD_eq_getElem?_getD,hFL])
        · have ej:j=N:=by omega
          subst ej
          generalize hV:ctV ts ls out e j=V at *
          (repeat' (first
 | (first|refine Anz ?_|refine Agz ?_)
 | ((first|refine Aoz ?_|refine Asz (mid:=l58r5a) (post:=l58r5b) Awz (by decide) ?_|refine Afz ?_|refine Ahz ?_|refine Aiz ?_);simp (disch:=omega) only [push_cast,seval,l58r0,l58r1,l58r2,l58r3,l58r4,l58r5a,l58r5b,l58r5,l58r6,l58r7,l58r8,l58r9,l58r10,l58r11,l58r12,l58r13,l58r14,h5,Apz,Auz,hNN,hFl,hWl,hVl])
 | ((first|refine Acz ?_ ?_|refine Aez ?_ ?_|refine Adz ?_ ?_)<;>intro h<;>(try simp only [h])<;>(try simp only [bitvec_to_nat] at h)<;>(try simp only [h])<;>(first|(exfalso;omega)|(exfalso;simp_all;done)|(simp (disch:=omega) only [push_cast,seval,h5,Apz,Auz,hNN,hFl,hWl,hVl])|skip))
 | ((first|((with_reducible refine Aqz (f:=96) true ?_);simp (disch:=omega) only [push_cast,seval,h5,Apz,Auz,hNN,hFl,hWl,hVl];(refine call0D (BCall.ofP (B9z _ _ _ _ _ ?_ ?_ ?_ ?_)) ?_;(iterate 4 (exact sd));rintro _ _ ⟨rfl,rfl⟩))|((with_reducible refine qcallD_of (f:=96) true ?_);simp (disch:=omega) only [push_cast,seval,h5,Apz,Auz,hNN,hFl,hWl,hVl];(refine qcall0D (BCall.ofP (B9z _ _ _ _ _ ?_ ?_ ?_ ?_)) ⟨_,_,rfl,rfl⟩ ?_;(iterate 4 (exact sd));rintro _ _ ⟨rfl,rfl⟩)))<;>(try simp (disch:=omega) only [push_cast,seval,h5,Apz,Auz,hNN,hFl,hWl,hVl]))
 | ((first|refine Aqz false ?_|refine qcallD_of false ?_);simp (disch:=omega) only [push_cast,seval,h5,Apz,Auz,hNN,hFl,hWl,hVl])
 | ((first|((first|refine call0D (labelsOf1_ok _ _ ?_ ?_) ?_|refine qcall0D (labelsOf1_ok _ _ ?_ ?_) ⟨_,_,rfl,rfl⟩ ?_);(iterate 2 (exact sd));rintro _ _ ⟨rfl,rfl⟩)|((first|refine call0D (labelsOf_ok _ _ ?_ ?_) ?_|refine qcall0D (labelsOf_ok _ _ ?_ ?_) ⟨_,_,rfl,rfl⟩ ?_);(iterate 2 (exact sd));rintro _ _ ⟨rfl,rfl⟩)|((first|refine call0D (iwithout_ok _ _ _ _ ?_ ?_ ?_) ?_|refine qcall0D (iwithout_ok _ _ _ _ ?_ ?_ ?_) ⟨_,_,rfl,rfl⟩ ?_);(iterate 3 (exact sd));rintro _ _ ⟨rfl,rfl⟩)|((first|refine call0D (waysOfZ_ok _ _ _ ?_ ?_ ?_) ?_|refine qcall0D (waysOfZ_ok _ _ _ ?_ ?_ ?_) ⟨_,_,rfl,rfl⟩ ?_);(iterate 3 (exact sd));rintro _ _ ⟨rfl,rfl⟩)|((first|refine call0D (waysOf_ok _ _ _ _ ?_ ?_ ?_) ?_|refine qcall0D (waysOf_ok _ _ _ _ ?_ ?_ ?_) ⟨_,_,rfl,rfl⟩ ?_);(iterate 3 (exact sd));rintro _ _ ⟨rfl,rfl⟩)|((first|refine call0D (BCall.ofP (sopW_ok _ _ _ _ ?_ ?_ ?_)) ?_|refine qcall0D (BCall.ofP (sopW_ok _ _ _ _ ?_ ?_ ?_)) ⟨_,_,rfl,rfl⟩ ?_);(iterate 3 (exact sd));rintro _ _ ⟨rfl,rfl⟩))<;>(try simp (disch:=omega) only [push_cast,seval,h5,Apz,Auz,hNN,hFl,hWl,hVl]))
 | (refine Akz ⟨.inr rfl,[880],[],_,by decide,rfl,?_⟩; (try simp (disch := omega) only [push_cast,seval,↓Alz,↓Ajz,↓List.map_cons,↓List.map_nil,h5,Apz,Auz,hNN,hFl,hWl,hVl]))))
          all_goals exact ⟨by rw [hVl],rfl⟩

end Go.Proofs.Ytbplegbgofnolaa
