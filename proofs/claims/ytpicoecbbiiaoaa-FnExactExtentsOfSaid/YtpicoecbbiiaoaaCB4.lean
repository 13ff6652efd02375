/- Texts of this verifier. -/
import Derived.Test.YtpicoecbbiiaoaaCB3
import Derived.Test.YtpicoecbbiiaoaaCM1
import Derived.Test.YtpicoecbbiiaoaaCW3
set_option linter.unusedSimpArgs false
set_option linter.unusedVariables false
set_option maxRecDepth 4000
set_option maxHeartbeats 4000000
namespace Go.Proofs.Ytpicoecbbiiaoaa
open VwM Vw Go

set_option maxHeartbeats 8000000 in
theorem Gcz (ts:List Tn) (ls:List (List Int)) (n m:Nat) (hn:ts.length=n) (hm:ls.length=m) (hb:n ≤ 1099511627776 ∧ m ≤ 1099511627776 ∧ ∀ t ∈ ts,t.1.length ≤ 1099511627776 ∧ t.2.length ≤ 1099511627776) :
    PCall Try.prog 48 [.rows false (TL false ts) n,.rows false (LL false ls) m] (fun r=>r=.bool (ts.all vT && (decide (1 ≤ ts.length) && decide (ts.length ≤ 3)) && decide (ls.length=ts.length))):=by
  subst hn hm
  obtain ⟨hb0,hb1,hb2⟩:=hb
  refine A0z l48_eq rfl ?_
  have htl:=A9z false ts
  (repeat' (first
 | (first|refine Alz ?_|refine Agz ?_)
 | ((first|refine Amz ?_|refine Afz ?_|refine Ahz ?_|refine Aiz ?_);simp (disch:=omega) only [push_cast,seval,l48r0,l48r1,l48r2,l48r3,l48r4,l48r5,l48r6,Aaz,Abz])
 | ((first|refine Acz ?_ ?_|refine Aez ?_ ?_|refine Adz ?_ ?_)<;>intro h<;>(try simp only [h])<;>(try simp only [bitvec_to_nat] at h)<;>(try simp only [h])<;>(first|(exfalso;omega)|(exfalso;simp_all;done)|(simp (disch:=omega) only [push_cast,seval,Aaz,Abz])|skip))
 | ((first|refine Anz false ?_|refine Ajz false ?_);simp (disch:=omega) only [push_cast,seval,Aaz,Abz])
 | ((first|((first|refine call0D (BCall.ofP (Elz _ _ _ _ ?_ ?_ ?_)) ?_|refine qcall0D (BCall.ofP (Elz _ _ _ _ ?_ ?_ ?_)) ⟨_,_,rfl,rfl⟩ ?_);(iterate 3 (exact sd));rintro _ _ ⟨rfl,rfl⟩)|((first|refine call0D (BCall.ofP (inRange_ok _ _ _)) ?_|refine qcall0D (BCall.ofP (inRange_ok _ _ _)) ⟨_,_,rfl,rfl⟩ ?_);rintro _ _ ⟨rfl,rfl⟩))<;>(try simp (disch:=omega) only [push_cast,seval,Aaz,Abz]))
 | (refine Akz ⟨.inr rfl,_,rfl,?_⟩;(try simp (disch:=omega) only [push_cast,seval,Aaz,Abz]))))
  refine A2z (fun i:Nat=>mkS [(0,.rows false (TL false ts) ts.length),(1,.rows false (LL false ls) ls.length),(5,.int .i64 i)] []) (fun i=>i ≤ ts.length ∧ ∀ k t,k < i → ts[k]?=some t → vT t=true) (fun i=>ts.length - i) 0 ⟨Nat.zero_le _,fun k t h=>absurd h (Nat.not_lt_zero _)⟩ ?_ ?_
  · (refine Sub.of_lists ?_ ?_ ?_ ?_ ?_<;>simp [Vw.mkS,Vw.lk,Vw.hk,AV.inn,innL,Apz,Aoz,Atz,-List.map_set,-List.getD_eq_getElem?_getD,Aaz,Abz])
  · rintro i ⟨hi,hall⟩
    by_cases hlt:i < ts.length
    · obtain ⟨⟨x,y⟩,ht⟩:=Crz hlt
      have hbt:=hb2 _ (List.mem_of_getElem? ht)
      have hd:=Cqz false ts i ht
      simp only at hd hbt
      have hil:i * 2 + 2 ≤ ts.length * 2:=by omega
      cases hv:vT (x,y) with
 | false =>
        have hf:ts.all vT=false:=Bool.eq_false_iff.2 fun h=>by
          have:=List.all_eq_true.1 h _ (List.mem_of_getElem? ht)
          rw [hv] at this;cases this
        (repeat' (first
 | (first|refine Alz ?_|refine Agz ?_)
 | ((first|refine Amz ?_|refine Afz ?_|refine Ahz ?_|refine Aiz ?_);simp (disch:=omega) only [push_cast,seval,l48r0,l48r1,l48r2,l48r3,l48r4,l48r5,l48r6,hd,htl,hil,hv,Aaz,Abz])
 | ((first|refine Acz ?_ ?_|refine Aez ?_ ?_|refine Adz ?_ ?_)<;>intro h<;>(try simp only [h])<;>(try simp only [bitvec_to_nat] at h)<;>(try simp only [h])<;>(first|(exfalso;omega)|(exfalso;simp_all;done)|(simp (disch:=omega) only [push_cast,seval,hd,htl,hil,hv,Aaz,Abz])|skip))
 | ((first|refine Anz false ?_|refine Ajz false ?_);simp (disch:=omega) only [push_cast,seval,hd,htl,hil,hv,Aaz,Abz])
 | ((first|((first|refine call0D (BCall.ofP (Elz _ _ _ _ ?_ ?_ ?_)) ?_|refine qcall0D (BCall.ofP (Elz _ _ _ _ ?_ ?_ ?_)) ⟨_,_,rfl,rfl⟩ ?_);(iterate 3 (exact sd));rintro _ _ ⟨rfl,rfl⟩)|((first|refine call0D (BCall.ofP (inRange_ok _ _ _)) ?_|refine qcall0D (BCall.ofP (inRange_ok _ _ _)) ⟨_,_,rfl,rfl⟩ ?_);rintro _ _ ⟨rfl,rfl⟩))<;>(try simp (disch:=omega) only [push_cast,seval,hd,htl,hil,hv,Aaz,Abz]))
 | (refine Akz ⟨.inr rfl,_,rfl,?_⟩;(try simp (disch:=omega) only [push_cast,seval,hd,htl,hil,hv,Aaz,Abz]))))
        all_goals (rw [hf];rfl)
 | true =>
        (repeat' (first
 | (first|refine Alz ?_|refine Agz ?_)
 | ((first|refine Amz ?_|refine Afz ?_|refine Ahz ?_|refine Aiz ?_);simp (disch:=omega) only [push_cast,seval,l48r0,l48r1,l48r2,l48r3,l48r4,l48r5,l48r6,hd,htl,hil,hv,Aaz,Abz])
 | ((first|refine Acz ?_ ?_|refine Aez ?_ ?_|refine Adz ?_ ?_)<;>intro h<;>(try simp only [h])<;>(try simp only [bitvec_to_nat] at h)<;>(try simp only [h])<;>(first|(exfalso;omega)|(exfalso;simp_all;done)|(simp (disch:=omega) only [push_cast,seval,hd,htl,hil,hv,Aaz,Abz])|skip))
 | ((first|refine Anz false ?_|refine Ajz false ?_);simp (disch:=omega) only [push_cast,seval,hd,htl,hil,hv,Aaz,Abz])
 | ((first|((first|refine call0D (BCall.ofP (Elz _ _ _ _ ?_ ?_ ?_)) ?_|refine qcall0D (BCall.ofP (Elz _ _ _ _ ?_ ?_ ?_)) ⟨_,_,rfl,rfl⟩ ?_);(iterate 3 (exact sd));rintro _ _ ⟨rfl,rfl⟩)|((first|refine call0D (BCall.ofP (inRange_ok _ _ _)) ?_|refine qcall0D (BCall.ofP (inRange_ok _ _ _)) ⟨_,_,rfl,rfl⟩ ?_);rintro _ _ ⟨rfl,rfl⟩))<;>(try simp (disch:=omega) only [push_cast,seval,hd,htl,hil,hv,Aaz,Abz]))
 | (refine Akz ⟨.inr rfl,_,rfl,?_⟩;(try simp (disch:=omega) only [push_cast,seval,hd,htl,hil,hv,Aaz,Abz]))))
        refine ⟨i + 1,⟨by omega,fun k t hk hkt=>?_⟩,by omega,?_⟩
        · by_cases e:k=i
          · subst e;rw [ht] at hkt;cases hkt;exact hv
          · exact hall k t (by omega) hkt
        · (refine Sub.of_lists ?_ ?_ ?_ ?_ ?_<;>simp [Vw.mkS,Vw.lk,Vw.hk,AV.inn,innL,Apz,Aoz,Atz,-List.map_set,-List.getD_eq_getElem?_getD,Aaz,Abz])
    · have ei:i=ts.length:=by omega
      subst ei
      have hf:ts.all vT=true:=List.all_eq_true.2 fun t ht=>by
        obtain ⟨k,hk⟩:=List.mem_iff_getElem?.1 ht
        exact hall k t (List.getElem?_eq_some_iff.1 hk).1 hk
      rw [hf]
      have e1:((1:Int) ≤ (ts.length:Int)) ↔ (1 ≤ ts.length):=by omega
      have e2:((ts.length:Int) ≤ 3) ↔ (ts.length ≤ 3):=by omega
      have e3:((ls.length:Int)=(ts.length:Int)) ↔ (ls.length=ts.length):=by omega
      (repeat' (first
 | (first|refine Alz ?_|refine Agz ?_)
 | ((first|refine Amz ?_|refine Afz ?_|refine Ahz ?_|refine Aiz ?_);simp (disch:=omega) only [push_cast,seval,l48r0,l48r1,l48r2,l48r3,l48r4,l48r5,l48r6,e1,e2,e3,Aaz,Abz])
 | ((first|refine Acz ?_ ?_|refine Aez ?_ ?_|refine Adz ?_ ?_)<;>intro h<;>(try simp only [h])<;>(try simp only [bitvec_to_nat] at h)<;>(try simp only [h])<;>(first|(exfalso;omega)|(exfalso;simp_all;done)|(simp (disch:=omega) only [push_cast,seval,e1,e2,e3,Aaz,Abz])|skip))
 | ((first|refine Anz false ?_|refine Ajz false ?_);simp (disch:=omega) only [push_cast,seval,e1,e2,e3,Aaz,Abz])
 | ((first|((first|refine call0D (BCall.ofP (Elz _ _ _ _ ?_ ?_ ?_)) ?_|refine qcall0D (BCall.ofP (Elz _ _ _ _ ?_ ?_ ?_)) ⟨_,_,rfl,rfl⟩ ?_);(iterate 3 (exact sd));rintro _ _ ⟨rfl,rfl⟩)|((first|refine call0D (BCall.ofP (inRange_ok _ _ _)) ?_|refine qcall0D (BCall.ofP (inRange_ok _ _ _)) ⟨_,_,rfl,rfl⟩ ?_);rintro _ _ ⟨rfl,rfl⟩))<;>(try simp (disch:=omega) only [push_cast,seval,e1,e2,e3,Aaz,Abz]))
 | (refine Akz ⟨.inr rfl,_,rfl,?_⟩;(try simp (disch:=omega) only [push_cast,seval,e1,e2,e3,Aaz,Abz]))))
      all_goals (simp [e1,e2,e3]<;>omega)


abbrev OX (o:Option (List Int)):AV → List (List AV) → Prop:=fun r H'=>r=.tup [.own 0 (o.getD []).length 1,.bool o.isSome] ∧ H'=[IL (o.getD [])]


set_option maxHeartbeats 16000000 in
theorem sext_ok (ts:List Tn) (ls:List (List Int)) (n m:Nat) (hn:ts.length=n) (hm:ls.length=m) (hb:m=n ∧ n ≤ 1099511627776 ∧ (∀ t ∈ ts,t.1.length ≤ 1099511627776 ∧ t.2.length ≤ 1099511627776) ∧ ∀ l ∈ ls,l.length ≤ 1099511627776) :
    BCall Try.prog 49 [.rows false (TL false ts) n,.rows false (LL false ls) m] [] (OX (exT ts ls)):=by
  subst hn hm
  obtain ⟨hmn,hb1,hb2,hb3⟩:=hb
  refine Biz (pins:=[]) (pin:=0) l49_eq rfl rfl rfl ?_
  have htl:=A9z false ts
  have hll:=Bez false ls
  (repeat' (first
 | (first|refine Alz ?_|refine Agz ?_)
 | ((first|refine Amz ?_|refine Aqz (mid:=l49r8a) (post:=l49r8b) A1z (by decide) ?_|refine Aqz (mid:=l49r13a) (post:=l49r13b) A1z (by decide) ?_|refine Afz ?_|refine Ahz ?_|refine Aiz ?_);simp (disch:=omega) only [push_cast,seval,l49r0,l49r1,l49r2,l49r3,l49r4,l49r5,l49r6,l49r7,l49r8a,l49r8b,l49r8,l49r9,l49r10,l49r11,l49r12,l49r13a,l49r13b,l49r13,l49r14,l49r15,l49r16,l49r17,l49r18,Aaz,Abz])
 | ((first|refine Acz ?_ ?_|refine Aez ?_ ?_|refine Adz ?_ ?_)<;>intro h<;>(try simp only [h])<;>(try simp only [bitvec_to_nat] at h)<;>(try simp only [h])<;>(first|(exfalso;omega)|(exfalso;simp_all;done)|(simp (disch:=omega) only [push_cast,seval,Aaz,Abz])|skip))
 | ((first|refine Anz false ?_|refine Ajz false ?_);simp (disch:=omega) only [push_cast,seval,Aaz,Abz])
 | ((first|((first|refine call0D (BCall.ofP (allIn_ok _ _ _ _ ?_ ?_)) ?_|refine qcall0D (BCall.ofP (allIn_ok _ _ _ _ ?_ ?_)) ⟨_,_,rfl,rfl⟩ ?_);(iterate 2 (exact sd));rintro _ _ ⟨rfl,rfl⟩))<;>(try simp (disch:=omega) only [push_cast,seval,Aaz,Abz]))
 | (refine Akz ⟨.inr rfl,[16000],[(16000,1)],_,by decide,rfl,?_⟩;(try simp (disch:=omega) only [push_cast,seval,↓Auz,↓Asz,↓List.map_cons,↓List.map_nil,Aaz,Abz]))))
  refine A2z (fun k:Nat=>mkS [(0,.rows false (TL false ts) ts.length),(1,.rows false (LL false ls) ls.length),(6,.own 176 k 1),(7,.int .i64 k)] [(176,IL (List.replicate k (-1)))]) (fun k=>k ≤ 5) (fun k=>5 - k) 0 (Nat.zero_le _) ?_ ?_
  · (refine Sub.of_lists ?_ ?_ ?_ ?_ ?_<;>simp [Vw.mkS,Vw.lk,Vw.hk,AV.inn,innL,Apz,Aoz,Atz,-List.map_set,-List.getD_eq_getElem?_getD,Aaz,Abz])
  · intro k hk
    by_cases hk5:k < 5
    · have hr:List.replicate (k + 1) (-1:Int)=List.replicate k (-1) ++ [-1]:=List.replicate_succ'
      (repeat' (first
 | (first|refine Alz ?_|refine Agz ?_)
 | ((first|refine Amz ?_|refine Aqz (mid:=l49r8a) (post:=l49r8b) A1z (by decide) ?_|refine Aqz (mid:=l49r13a) (post:=l49r13b) A1z (by decide) ?_|refine Afz ?_|refine Ahz ?_|refine Aiz ?_);simp (disch:=omega) only [push_cast,seval,l49r0,l49r1,l49r2,l49r3,l49r4,l49r5,l49r6,l49r7,l49r8a,l49r8b,l49r8,l49r9,l49r10,l49r11,l49r12,l49r13a,l49r13b,l49r13,l49r14,l49r15,l49r16,l49r17,l49r18,Aaz,Abz])
 | ((first|refine Acz ?_ ?_|refine Aez ?_ ?_|refine Adz ?_ ?_)<;>intro h<;>(try simp only [h])<;>(try simp only [bitvec_to_nat] at h)<;>(try simp only [h])<;>(first|(exfalso;omega)|(exfalso;simp_all;done)|(simp (disch:=omega) only [push_cast,seval,Aaz,Abz])|skip))
 | ((first|refine Anz false ?_|refine Ajz false ?_);simp (disch:=omega) only [push_cast,seval,Aaz,Abz])
 | ((first|((first|refine call0D (BCall.ofP (allIn_ok _ _ _ _ ?_ ?_)) ?_|refine qcall0D (BCall.ofP (allIn_ok _ _ _ _ ?_ ?_)) ⟨_,_,rfl,rfl⟩ ?_);(iterate 2 (exact sd));rintro _ _ ⟨rfl,rfl⟩))<;>(try simp (disch:=omega) only [push_cast,seval,Aaz,Abz]))
 | (refine Akz ⟨.inr rfl,[16000],[(16000,1)],_,by decide,rfl,?_⟩;(try simp (disch:=omega) only [push_cast,seval,↓Auz,↓Asz,↓List.map_cons,↓List.map_nil,Aaz,Abz]))))
      refine ⟨k + 1,by omega,by omega,?_⟩
      (refine Sub.of_lists ?_ ?_ ?_ ?_ ?_<;>simp [Vw.mkS,Vw.lk,Vw.hk,AV.inn,innL,Apz,Aoz,Atz,-List.map_set,-List.getD_eq_getElem?_getD,hr,Aaz,Abz])
    · have ek:k=5:=by omega
      subst ek
      have hr0:List.replicate 5 (-1:Int)=ext0:=rfl
      rw [hr0]
      have l0:=Btz
      (repeat' (first
 | (first|refine Alz ?_|refine Agz ?_)
 | ((first|refine Amz ?_|refine Aqz (mid:=l49r8a) (post:=l49r8b) A1z (by decide) ?_|refine Aqz (mid:=l49r13a) (post:=l49r13b) A1z (by decide) ?_|refine Afz ?_|refine Ahz ?_|refine Aiz ?_);simp (disch:=omega) only [push_cast,seval,l49r0,l49r1,l49r2,l49r3,l49r4,l49r5,l49r6,l49r7,l49r8a,l49r8b,l49r8,l49r9,l49r10,l49r11,l49r12,l49r13a,l49r13b,l49r13,l49r14,l49r15,l49r16,l49r17,l49r18,l0,Aaz,Abz])
 | ((first|refine Acz ?_ ?_|refine Aez ?_ ?_|refine Adz ?_ ?_)<;>intro h<;>(try simp only [h])<;>(try simp only [bitvec_to_nat] at h)<;>(try simp only [h])<;>(first|(exfalso;omega)|(exfalso;simp_all;done)|(simp (disch:=omega) only [push_cast,seval,l0,Aaz,Abz])|skip))
 | ((first|refine Anz false ?_|refine Ajz false ?_);simp (disch:=omega) only [push_cast,seval,l0,Aaz,Abz])
 | ((first|((first|refine call0D (BCall.ofP (allIn_ok _ _ _ _ ?_ ?_)) ?_|refine qcall0D (BCall.ofP (allIn_ok _ _ _ _ ?_ ?_)) ⟨_,_,rfl,rfl⟩ ?_);(iterate 2 (exact sd));rintro _ _ ⟨rfl,rfl⟩))<;>(try simp (disch:=omega) only [push_cast,seval,l0,Aaz,Abz]))
 | (refine Akz ⟨.inr rfl,[16000],[(16000,1)],_,by decide,rfl,?_⟩;(try simp (disch:=omega) only [push_cast,seval,↓Auz,↓Asz,↓List.map_cons,↓List.map_nil,l0,Aaz,Abz]))))
      refine A2z (fun x:Nat × List Int=>mkS [(0,.rows false (TL false ts) ts.length),(1,.rows false (LL false ls) ls.length),(6,.own 176 5 1),(8,.int .i64 x.1)] [(176,IL x.2)])
        (fun x=>x.1 ≤ ts.length ∧ x.2.length=5 ∧ extG ext0 (prsOf (ts.take x.1) (ls.take x.1))=some x.2 ∧ ∀ k t l,k < x.1 → ts[k]?=some t → ls[k]?=some l → l.length=t.1.length ∧ allI l 0 4=true) (fun x=>ts.length - x.1) (0,ext0) ⟨Nat.zero_le _,rfl,rfl,fun k t l h=>absurd h (Nat.not_lt_zero _)⟩ ?_ ?_
      · (refine Sub.of_lists ?_ ?_ ?_ ?_ ?_<;>simp [Vw.mkS,Vw.lk,Vw.hk,AV.inn,innL,Apz,Aoz,Atz,-List.map_set,-List.getD_eq_getElem?_getD,Aaz,Abz])
      · rintro ⟨i,e⟩ ⟨hi,h5,he,hall⟩
        simp only at hi h5 he hall ⊢
        by_cases hlt:i < ts.length
        · obtain ⟨⟨x,y⟩,ht⟩:=Crz hlt
          obtain ⟨l,hl⟩:=Crz (l:=ls) (i:=i) (by omega)
          have hbt:=hb2 _ (List.mem_of_getElem? ht)
          have hbl:=hb3 _ (List.mem_of_getElem? hl)
          have hd:=Cqz false ts i ht
          have hd1:((TL false ts).drop (i * 2)).take 1=[.rows false (IL x) x.length]:=by
            have:=congrArg (List.take 1) hd
            rwa [List.take_take] at this
          have hd2:=Dtz false ls i hl
          simp only at hd hbt
          have hil:i * 2 + 2 ≤ ts.length * 2:=by omega
          have hil1:i * 2 + 1 ≤ ts.length * 2:=by omega
          have hil2:i + 1 ≤ ls.length:=by omega
          by_cases hc:(l.length=x.length ∧ allI l 0 4=true)
          · obtain ⟨hc1,hc2⟩:=hc
            have hlab:=B0z.1 hc2
            (repeat' (first
 | (first|refine Alz ?_|refine Agz ?_)
 | ((first|refine Amz ?_|refine Aqz (mid:=l49r8a) (post:=l49r8b) A1z (by decide) ?_|refine Aqz (mid:=l49r13a) (post:=l49r13b) A1z (by decide) ?_|refine Afz ?_|refine Ahz ?_|refine Aiz ?_);simp (disch:=omega) only [push_cast,seval,l49r0,l49r1,l49r2,l49r3,l49r4,l49r5,l49r6,l49r7,l49r8a,l49r8b,l49r8,l49r9,l49r10,l49r11,l49r12,l49r13a,l49r13b,l49r13,l49r14,l49r15,l49r16,l49r17,l49r18,hd,hd1,hd2,htl,hll,hil,hil1,hil2,hc1,hc2,h5,Aaz,Abz])
 | ((first|refine Acz ?_ ?_|refine Aez ?_ ?_|refine Adz ?_ ?_)<;>intro h<;>(try simp only [h])<;>(try simp only [bitvec_to_nat] at h)<;>(try simp only [h])<;>(first|(exfalso;omega)|(exfalso;simp_all;done)|(simp (disch:=omega) only [push_cast,seval,hd,hd1,hd2,htl,hll,hil,hil1,hil2,hc1,hc2,h5,Aaz,Abz])|skip))
 | ((first|refine Anz false ?_|refine Ajz false ?_);simp (disch:=omega) only [push_cast,seval,hd,hd1,hd2,htl,hll,hil,hil1,hil2,hc1,hc2,h5,Aaz,Abz])
 | ((first|((first|refine call0D (BCall.ofP (allIn_ok _ _ _ _ ?_ ?_)) ?_|refine qcall0D (BCall.ofP (allIn_ok _ _ _ _ ?_ ?_)) ⟨_,_,rfl,rfl⟩ ?_);(iterate 2 (exact sd));rintro _ _ ⟨rfl,rfl⟩))<;>(try simp (disch:=omega) only [push_cast,seval,hd,hd1,hd2,htl,hll,hil,hil1,hil2,hc1,hc2,h5,Aaz,Abz]))
 | (refine Akz ⟨.inr rfl,[16000],[(16000,1)],_,by decide,rfl,?_⟩; (try simp (disch := omega) only [push_cast,seval,↓Auz,↓Asz,↓List.map_cons,↓List.map_nil,hd,hd1,hd2,htl,hll,hil,hil1,hil2,hc1,hc2,h5,Aaz,Abz]))))
            refine A2z (fun z:Nat × List Int=>mkS [(0,.rows false (TL false ts) ts.length),(1,.rows false (LL false ls) ls.length),(6,.own 176 5 1),(8,.int .i64 i),(9,.int .i64 z.1)] [(176,IL z.2)])
              (fun z=>z.1 ≤ x.length ∧ z.2.length=5 ∧ extG ext0 (prsOf (ts.take i) (ls.take i) ++ (l.zip x).take z.1)=some z.2) (fun z=>x.length - z.1) (0,e) ⟨Nat.zero_le _,h5,by rw [List.take_zero,List.append_nil];exact he⟩ ?_ ?_
            · (refine Sub.of_lists ?_ ?_ ?_ ?_ ?_<;>simp [Vw.mkS,Vw.lk,Vw.hk,AV.inn,innL,Apz,Aoz,Atz,-List.map_set,-List.getD_eq_getElem?_getD,Aaz,Abz,hc1])
            · rintro ⟨j,f⟩ ⟨hj,hf5,hf⟩
              simp only at hj hf5 hf ⊢
              by_cases hjl:j < x.length
              · have hk:=hlab _ (Dbz (xs:=l) (j:=j) (by omega))
                obtain ⟨c,hc⟩:∃ c:Nat,l.getD j 0=c:=⟨(l.getD j 0).toNat,by omega⟩
                have hc5:c < 5:=by omega
                have hct:(l.getD j 0).toNat=c:=by omega
                have hjl2:(j:Int) < (l.length:Int):=by omega
                by_cases hbad:0 ≤ f.getD c 0 ∧ f.getD c 0 ≠ x.getD j 0
                · have hno:=exT_fail ht hl (j:=j) (by omega) hjl hf (by rw [hct];exact hbad)
                  have hb1':=hbad.1
                  have hb2':=hbad.2
                  rw [hno]
                  (repeat' (first
 | (first|refine Alz ?_|refine Agz ?_)
 | ((first|refine Amz ?_|refine Aqz (mid:=l49r8a) (post:=l49r8b) A1z (by decide) ?_|refine Aqz (mid:=l49r13a) (post:=l49r13b) A1z (by decide) ?_|refine Afz ?_|refine Ahz ?_|refine Aiz ?_);simp (disch:=omega) only [push_cast,seval,l49r0,l49r1,l49r2,l49r3,l49r4,l49r5,l49r6,l49r7,l49r8a,l49r8b,l49r8,l49r9,l49r10,l49r11,l49r12,l49r13a,l49r13b,l49r13,l49r14,l49r15,l49r16,l49r17,l49r18,hd,hd1,hd2,htl,hll,hil,hil1,hil2,hc,hb1',hb2',hf5,Aaz,Abz])
 | ((first|refine Acz ?_ ?_|refine Aez ?_ ?_|refine Adz ?_ ?_)<;>intro h<;>(try simp only [h])<;>(try simp only [bitvec_to_nat] at h)<;>(try simp only [h])<;>(first|(exfalso;omega)|(exfalso;simp_all;done)|(simp (disch:=omega) only [push_cast,seval,hd,hd1,hd2,htl,hll,hil,hil1,hil2,hc,hb1',hb2',hf5,Aaz,Abz])|skip))
 | ((first|refine Anz false ?_|refine Ajz false ?_);simp (disch:=omega) only [push_cast,seval,hd,hd1,hd2,htl,hll,hil,hil1,hil2,hc,hb1',hb2',hf5,Aaz,Abz])
 | ((first|((first|refine call0D (BCall.ofP (allIn_ok _ _ _ _ ?_ ?_)) ?_|refine qcall0D (BCall.ofP (allIn_ok _ _ _ _ ?_ ?_)) ⟨_,_,rfl,rfl⟩ ?_);(iterate 2 (exact sd));rintro _ _ ⟨rfl,rfl⟩))<;>(try simp (disch:=omega) only [push_cast,seval,hd,hd1,hd2,htl,hll,hil,hil1,hil2,hc,hb1',hb2',hf5,Aaz,Abz]))
 | (refine Akz ⟨.inr rfl,[16000],[(16000,1)],_,by decide,rfl,?_⟩; (try simp (disch := omega) only [push_cast,seval,↓Auz,↓Asz,↓List.map_cons,↓List.map_nil,hd,hd1,hd2,htl,hll,hil,hil1,hil2,hc,hb1',hb2',hf5,Aaz,Abz]))))
                  all_goals (try exact ⟨rfl,rfl⟩)
                · have hstep:=extG_step (p:=(l.getD j 0,x.getD j 0)) hf (by simp only;rw [hct];exact hbad)
                  rw [List.append_assoc,← Dvz (by omega) hjl] at hstep
                  simp only [hct] at hstep
                  by_cases hz:0 ≤ f.getD c 0
                  · have hy:f.getD c 0=x.getD j 0:=by
                      by_cases hq:f.getD c 0=x.getD j 0
                      · exact hq
                      · exact absurd ⟨hz,hq⟩ hbad
                    (repeat' (first
 | (first|refine Alz ?_|refine Agz ?_)
 | ((first|refine Amz ?_|refine Aqz (mid:=l49r8a) (post:=l49r8b) A1z (by decide) ?_|refine Aqz (mid:=l49r13a) (post:=l49r13b) A1z (by decide) ?_|refine Afz ?_|refine Ahz ?_|refine Aiz ?_);simp (disch:=omega) only [push_cast,seval,l49r0,l49r1,l49r2,l49r3,l49r4,l49r5,l49r6,l49r7,l49r8a,l49r8b,l49r8,l49r9,l49r10,l49r11,l49r12,l49r13a,l49r13b,l49r13,l49r14,l49r15,l49r16,l49r17,l49r18,hd,hd1,hd2,htl,hll,hil,hil1,hil2,hc,hz,hy,hf5,Aaz,Abz])
 | ((first|refine Acz ?_ ?_|refine Aez ?_ ?_|refine Adz ?_ ?_)<;>intro h<;>(try simp only [h])<;>(try simp only [bitvec_to_nat] at h)<;>(try simp only [h])<;>(first|(exfalso;omega)|(exfalso;simp_all;done)|(simp (disch:=omega) only [push_cast,seval,hd,hd1,hd2,htl,hll,hil,hil1,hil2,hc,hz,hy,hf5,Aaz,Abz])|skip))
 | ((first|refine Anz false ?_|refine Ajz false ?_);simp (disch:=omega) only [push_cast,seval,hd,hd1,hd2,htl,hll,hil,hil1,hil2,hc,hz,hy,hf5,Aaz,Abz])
 | ((first|((first|refine call0D (BCall.ofP (allIn_ok _ _ _ _ ?_ ?_)) ?_|refine qcall0D (BCall.ofP (allIn_ok _ _ _ _ ?_ ?_)) ⟨_,_,rfl,rfl⟩ ?_);(iterate 2 (exact sd));rintro _ _ ⟨rfl,rfl⟩))<;>(try simp (disch:=omega) only [push_cast,seval,hd,hd1,hd2,htl,hll,hil,hil1,hil2,hc,hz,hy,hf5,Aaz,Abz]))
 | (refine Akz ⟨.inr rfl,[16000],[(16000,1)],_,by decide,rfl,?_⟩; (try simp (disch := omega) only [push_cast,seval,↓Auz,↓Asz,↓List.map_cons,↓List.map_nil,hd,hd1,hd2,htl,hll,hil,hil1,hil2,hc,hz,hy,hf5,Aaz,Abz]))))
                    refine ⟨(j + 1,f.set c (x.getD j 0)),⟨by simp only;omega,by rw [List.length_set];exact hf5,hstep⟩,by simp only;omega,?_⟩
                    (refine Sub.of_lists ?_ ?_ ?_ ?_ ?_<;>simp [Vw.mkS,Vw.lk,Vw.hk,AV.inn,innL,Apz,Aoz,Atz,-List.map_set,-List.getD_eq_getElem?_getD,F9z,Aaz,Abz])
                  · (repeat' (first
 | (first|refine Alz ?_|refine Agz ?_)
 | ((first|refine Amz ?_|refine Aqz (mid:=l49r8a) (post:=l49r8b) A1z (by decide) ?_|refine Aqz (mid:=l49r13a) (post:=l49r13b) A1z (by decide) ?_|refine Afz ?_|refine Ahz ?_|refine Aiz ?_);simp (disch:=omega) only [push_cast,seval,l49r0,l49r1,l49r2,l49r3,l49r4,l49r5,l49r6,l49r7,l49r8a,l49r8b,l49r8,l49r9,l49r10,l49r11,l49r12,l49r13a,l49r13b,l49r13,l49r14,l49r15,l49r16,l49r17,l49r18,hd,hd1,hd2,htl,hll,hil,hil1,hil2,hc,hz,hf5,Aaz,Abz])
 | ((first|refine Acz ?_ ?_|refine Aez ?_ ?_|refine Adz ?_ ?_)<;>intro h<;>(try simp only [h])<;>(try simp only [bitvec_to_nat] at h)<;>(try simp only [h])<;>(first|(exfalso;omega)|(exfalso;simp_all;done)|(simp (disch:=omega) only [push_cast,seval,hd,hd1,hd2,htl,hll,hil,hil1,hil2,hc,hz,hf5,Aaz,Abz])|skip))
 | ((first|refine Anz false ?_|refine Ajz false ?_);simp (disch:=omega) only [push_cast,seval,hd,hd1,hd2,htl,hll,hil,hil1,hil2,hc,hz,hf5,Aaz,Abz])
 | ((first|((first|refine call0D (BCall.ofP (allIn_ok _ _ _ _ ?_ ?_)) ?_|refine qcall0D (BCall.ofP (allIn_ok _ _ _ _ ?_ ?_)) ⟨_,_,rfl,rfl⟩ ?_);(iterate 2 (exact sd));rintro _ _ ⟨rfl,rfl⟩))<;>(try simp (disch:=omega) only [push_cast,seval,hd,hd1,hd2,htl,hll,hil,hil1,hil2,hc,hz,hf5,Aaz,Abz]))
 | (refine Akz ⟨.inr rfl,[16000],[(16000,1)],_,by decide,rfl,?_⟩; (try simp (disch := omega) only [push_cast,seval,↓Auz,↓Asz,↓List.map_cons,↓List.map_nil,hd,hd1,hd2,htl,hll,hil,hil1,hil2,hc,hz,hf5,Aaz,Abz]))))
                    refine ⟨(j + 1,f.set c (x.getD j 0)),⟨by simp only;omega,by rw [List.length_set];exact hf5,hstep⟩,by simp only;omega,?_⟩
                    (refine Sub.of_lists ?_ ?_ ?_ ?_ ?_<;>simp [Vw.mkS,Vw.lk,Vw.hk,AV.inn,innL,Apz,Aoz,Atz,-List.map_set,-List.getD_eq_getElem?_getD,F9z,Aaz,Abz])
              · have ej:j=x.length:=by omega
                have hf':extG ext0 (prsOf (ts.take (i + 1)) (ls.take (i + 1)))=some f:=by
                  rw [Gjz ht hl,← hf,List.take_of_length_le (l:=l.zip x) (by simp;omega)]
                have hjx:¬ (j:Int) < l.length:=by omega
                (repeat' (first
 | (first|refine Alz ?_|refine Agz ?_)
 | ((first|refine Amz ?_|refine Aqz (mid:=l49r8a) (post:=l49r8b) A1z (by decide) ?_|refine Aqz (mid:=l49r13a) (post:=l49r13b) A1z (by decide) ?_|refine Afz ?_|refine Ahz ?_|refine Aiz ?_);simp (disch:=omega) only [push_cast,seval,l49r0,l49r1,l49r2,l49r3,l49r4,l49r5,l49r6,l49r7,l49r8a,l49r8b,l49r8,l49r9,l49r10,l49r11,l49r12,l49r13a,l49r13b,l49r13,l49r14,l49r15,l49r16,l49r17,l49r18,hd,hd1,hd2,htl,hll,hil,hil1,hil2,hf5,Aaz,Abz])
 | ((first|refine Acz ?_ ?_|refine Aez ?_ ?_|refine Adz ?_ ?_)<;>intro h<;>(try simp only [h])<;>(try simp only [bitvec_to_nat] at h)<;>(try simp only [h])<;>(first|(exfalso;omega)|(exfalso;simp_all;done)|(simp (disch:=omega) only [push_cast,seval,hd,hd1,hd2,htl,hll,hil,hil1,hil2,hf5,Aaz,Abz])|skip))
 | ((first|refine Anz false ?_|refine Ajz false ?_);simp (disch:=omega) only [push_cast,seval,hd,hd1,hd2,htl,hll,hil,hil1,hil2,hf5,Aaz,Abz])
 | ((first|((first|refine call0D (BCall.ofP (allIn_ok _ _ _ _ ?_ ?_)) ?_|refine qcall0D (BCall.ofP (allIn_ok _ _ _ _ ?_ ?_)) ⟨_,_,rfl,rfl⟩ ?_);(iterate 2 (exact sd));rintro _ _ ⟨rfl,rfl⟩))<;>(try simp (disch:=omega) only [push_cast,seval,hd,hd1,hd2,htl,hll,hil,hil1,hil2,hf5,Aaz,Abz]))
 | (refine Akz ⟨.inr rfl,[16000],[(16000,1)],_,by decide,rfl,?_⟩; (try simp (disch := omega) only [push_cast,seval,↓Auz,↓Asz,↓List.map_cons,↓List.map_nil,hd,hd1,hd2,htl,hll,hil,hil1,hil2,hf5,Aaz,Abz]))))
                refine ⟨(i + 1,f),⟨by simp only;omega,hf5,hf',fun k t' l' hk ht' hl'=>?_⟩,by simp only;omega,?_⟩
                · by_cases ek:k=i
                  · subst ek;rw [ht] at ht';rw [hl] at hl';cases ht';cases hl';exact ⟨hc1,hc2⟩
                  · simp only at hk;exact hall k t' l' (by omega) ht' hl'
                · (refine Sub.of_lists ?_ ?_ ?_ ?_ ?_<;>simp [Vw.mkS,Vw.lk,Vw.hk,AV.inn,innL,Apz,Aoz,Atz,-List.map_set,-List.getD_eq_getElem?_getD,Aaz,Abz])
          · have hno:=exT_lab ht hl (by rw [Bool.and_eq_false_iff];by_cases h1:l.length=x.length;exact .inr (Bool.eq_false_iff.2 fun h2=>hc ⟨h1,h2⟩);exact .inl (by simp [h1]))
            rw [hno]
            by_cases h1:l.length=x.length
            · have h2:allI l 0 4=false:=Bool.eq_false_iff.2 fun h2=>hc ⟨h1,h2⟩
              (repeat' (first
 | (first|refine Alz ?_|refine Agz ?_)
 | ((first|refine Amz ?_|refine Aqz (mid:=l49r8a) (post:=l49r8b) A1z (by decide) ?_|refine Aqz (mid:=l49r13a) (post:=l49r13b) A1z (by decide) ?_|refine Afz ?_|refine Ahz ?_|refine Aiz ?_);simp (disch:=omega) only [push_cast,seval,l49r0,l49r1,l49r2,l49r3,l49r4,l49r5,l49r6,l49r7,l49r8a,l49r8b,l49r8,l49r9,l49r10,l49r11,l49r12,l49r13a,l49r13b,l49r13,l49r14,l49r15,l49r16,l49r17,l49r18,hd,hd1,hd2,htl,hll,hil,hil1,hil2,h1,h2,h5,Aaz,Abz])
 | ((first|refine Acz ?_ ?_|refine Aez ?_ ?_|refine Adz ?_ ?_)<;>intro h<;>(try simp only [h])<;>(try simp only [bitvec_to_nat] at h)<;>(try simp only [h])<;>(first|(exfalso;omega)|(exfalso;simp_all;done)|(simp (disch:=omega) only [push_cast,seval,hd,hd1,hd2,htl,hll,hil,hil1,hil2,h1,h2,h5,Aaz,Abz])|skip))
 | ((first|refine Anz false ?_|refine Ajz false ?_);simp (disch:=omega) only [push_cast,seval,hd,hd1,hd2,htl,hll,hil,hil1,hil2,h1,h2,h5,Aaz,Abz])
 | ((first|((first|refine call0D (BCall.ofP (allIn_ok _ _ _ _ ?_ ?_)) ?_|refine qcall0D (BCall.ofP (allIn_ok _ _ _ _ ?_ ?_)) ⟨_,_,rfl,rfl⟩ ?_);(iterate 2 (exact sd));rintro _ _ ⟨rfl,rfl⟩))<;>(try simp (disch:=omega) only [push_cast,seval,hd,hd1,hd2,htl,hll,hil,hil1,hil2,h1,h2,h5,Aaz,Abz]))
 | (refine Akz ⟨.inr rfl,[16000],[(16000,1)],_,by decide,rfl,?_⟩; (try simp (disch := omega) only [push_cast,seval,↓Auz,↓Asz,↓List.map_cons,↓List.map_nil,hd,hd1,hd2,htl,hll,hil,hil1,hil2,h1,h2,h5,Aaz,Abz]))))
              all_goals (try exact ⟨rfl,rfl⟩)
            · have h1':¬ (l.length:Int)=x.length:=by omega
              (repeat' (first
 | (first|refine Alz ?_|refine Agz ?_)
 | ((first|refine Amz ?_|refine Aqz (mid:=l49r8a) (post:=l49r8b) A1z (by decide) ?_|refine Aqz (mid:=l49r13a) (post:=l49r13b) A1z (by decide) ?_|refine Afz ?_|refine Ahz ?_|refine Aiz ?_);simp (disch:=omega) only [push_cast,seval,l49r0,l49r1,l49r2,l49r3,l49r4,l49r5,l49r6,l49r7,l49r8a,l49r8b,l49r8,l49r9,l49r10,l49r11,l49r12,l49r13a,l49r13b,l49r13,l49r14,l49r15,l49r16,l49r17,l49r18,hd,hd1,hd2,htl,hll,hil,hil1,hil2,h1',h5,Aaz,Abz])
 | ((first|refine Acz ?_ ?_|refine Aez ?_ ?_|refine Adz ?_ ?_)<;>intro h<;>(try simp only [h])<;>(try simp only [bitvec_to_nat] at h)<;>(try simp only [h])<;>(first|(exfalso;omega)|(exfalso;simp_all;done)|(simp (disch:=omega) only [push_cast,seval,hd,hd1,hd2,htl,hll,hil,hil1,hil2,h1',h5,Aaz,Abz])|skip))
 | ((first|refine Anz false ?_|refine Ajz false ?_);simp (disch:=omega) only [push_cast,seval,hd,hd1,hd2,htl,hll,hil,hil1,hil2,h1',h5,Aaz,Abz])
 | ((first|((first|refine call0D (BCall.ofP (allIn_ok _ _ _ _ ?_ ?_)) ?_|refine qcall0D (BCall.ofP (allIn_ok _ _ _ _ ?_ ?_)) ⟨_,_,rfl,rfl⟩ ?_);(iterate 2 (exact sd));rintro _ _ ⟨rfl,rfl⟩))<;>(try simp (disch:=omega) only [push_cast,seval,hd,hd1,hd2,htl,hll,hil,hil1,hil2,h1',h5,Aaz,Abz]))
 | (refine Akz ⟨.inr rfl,[16000],[(16000,1)],_,by decide,rfl,?_⟩; (try simp (disch := omega) only [push_cast,seval,↓Auz,↓Asz,↓List.map_cons,↓List.map_nil,hd,hd1,hd2,htl,hll,hil,hil1,hil2,h1',h5,Aaz,Abz]))))
              all_goals (try exact ⟨rfl,rfl⟩)
        · have ei:i=ts.length:=by omega
          subst ei
          have hex:=exT_done hmn (fun k t l ht hl=>(hall k t l (List.getElem?_eq_some_iff.1 ht).1 ht hl)) he
          rw [hex]
          (repeat' (first
 | (first|refine Alz ?_|refine Agz ?_)
 | ((first|refine Amz ?_|refine Aqz (mid:=l49r8a) (post:=l49r8b) A1z (by decide) ?_|refine Aqz (mid:=l49r13a) (post:=l49r13b) A1z (by decide) ?_|refine Afz ?_|refine Ahz ?_|refine Aiz ?_);simp (disch:=omega) only [push_cast,seval,l49r0,l49r1,l49r2,l49r3,l49r4,l49r5,l49r6,l49r7,l49r8a,l49r8b,l49r8,l49r9,l49r10,l49r11,l49r12,l49r13a,l49r13b,l49r13,l49r14,l49r15,l49r16,l49r17,l49r18,h5,Aaz,Abz])
 | ((first|refine Acz ?_ ?_|refine Aez ?_ ?_|refine Adz ?_ ?_)<;>intro h<;>(try simp only [h])<;>(try simp only [bitvec_to_nat] at h)<;>(try simp only [h])<;>(first|(exfalso;omega)|(exfalso;simp_all;done)|(simp (disch:=omega) only [push_cast,seval,h5,Aaz,Abz])|skip))
 | ((first|refine Anz false ?_|refine Ajz false ?_);simp (disch:=omega) only [push_cast,seval,h5,Aaz,Abz])
 | ((first|((first|refine call0D (BCall.ofP (allIn_ok _ _ _ _ ?_ ?_)) ?_|refine qcall0D (BCall.ofP (allIn_ok _ _ _ _ ?_ ?_)) ⟨_,_,rfl,rfl⟩ ?_);(iterate 2 (exact sd));rintro _ _ ⟨rfl,rfl⟩))<;>(try simp (disch:=omega) only [push_cast,seval,h5,Aaz,Abz]))
 | (refine Akz ⟨.inr rfl,[176],[],_,by decide,rfl,?_⟩; (try simp (disch := omega) only [push_cast,seval,↓Auz,↓Asz,↓List.map_cons,↓List.map_nil,h5,Aaz,Abz]))))
          all_goals (try exact ⟨by simp [h5],rfl⟩)


set_option maxHeartbeats 8000000 in
theorem sExO_ok (ts:List Tn) (ls:List (List Int)) (n m:Nat) (hn:ts.length=n) (hm:ls.length=m) (hb:n ≤ 1099511627776 ∧ m ≤ 1099511627776 ∧ (∀ t ∈ ts,t.1.length ≤ 1099511627776 ∧ t.2.length ≤ 1099511627776) ∧ ∀ l ∈ ls,l.length ≤ 1099511627776) :
    BCall Try.prog 19 [.rows false (TL false ts) n,.rows false (LL false ls) m] [] (OX (exO ts ls)):=by
  subst hn hm
  obtain ⟨hb0,hb1,hb2,hb3⟩:=hb
  have q0:ts.length ≤ 1099511627776 ∧ ls.length ≤ 1099511627776 ∧ ∀ t ∈ ts,t.1.length ≤ 1099511627776 ∧ t.2.length ≤ 1099511627776:=⟨hb0,hb1,hb2⟩
  refine Biz (pins:=[]) (pin:=0) l19_eq rfl rfl rfl ?_
  cases hc:(ts.all vT && (decide (1 ≤ ts.length) && decide (ts.length ≤ 3)) && decide (ls.length=ts.length)) with
  | false =>
    have hno:exO ts ls=none:=by unfold exO;rw [hc];rfl
    rw [hno]
    (repeat' (first
 | (first|refine Alz ?_|refine Agz ?_)
 | ((first|refine Amz ?_|refine Afz ?_|refine Ahz ?_|refine Aiz ?_);simp (disch:=omega) only [push_cast,seval,l19r0,l19r1,l19r2,l19r3,hc,Aaz,Abz])
 | ((first|refine Acz ?_ ?_|refine Aez ?_ ?_|refine Adz ?_ ?_)<;>intro h<;>(try simp only [h])<;>(try simp only [bitvec_to_nat] at h)<;>(try simp only [h])<;>(first|(exfalso;omega)|(exfalso;simp_all;done)|(simp (disch:=omega) only [push_cast,seval,hc,Aaz,Abz])|skip))
 | ((first|refine Anz false ?_|refine Ajz false ?_);simp (disch:=omega) only [push_cast,seval,hc,Aaz,Abz])
 | ((first|((first|refine call0D (BCall.ofP (Gcz _ _ _ _ ?_ ?_ ?_)) ?_|refine qcall0D (BCall.ofP (Gcz _ _ _ _ ?_ ?_ ?_)) ⟨_,_,rfl,rfl⟩ ?_);(iterate 3 (exact sd));rintro _ _ ⟨rfl,rfl⟩)|((first|refine call0D (sext_ok _ _ _ _ ?_ ?_ ?_) ?_|refine qcall0D (sext_ok _ _ _ _ ?_ ?_ ?_) ⟨_,_,rfl,rfl⟩ ?_);(iterate 3 (exact sd));rintro _ _ ⟨rfl,rfl⟩))<;>(try simp (disch:=omega) only [push_cast,seval,hc,Aaz,Abz]))
 | (refine Akz ⟨.inr rfl,[16000],[(16000,1)],_,by decide,rfl,?_⟩;(try simp (disch:=omega) only [push_cast,seval,↓Auz,↓Asz,↓List.map_cons,↓List.map_nil,hc,Aaz,Abz]))))
    all_goals (try exact ⟨rfl,rfl⟩)
  | true =>
    have hyes:exO ts ls=exT ts ls:=by unfold exO;rw [hc];rfl
    rw [hyes]
    have hlen:ls.length=ts.length:=by simp only [Bool.and_eq_true,decide_eq_true_eq] at hc;exact hc.2
    have q1:ls.length=ts.length ∧ ts.length ≤ 1099511627776 ∧ (∀ t ∈ ts,t.1.length ≤ 1099511627776 ∧ t.2.length ≤ 1099511627776) ∧ ∀ l ∈ ls,l.length ≤ 1099511627776:=⟨hlen,hb0,hb2,hb3⟩
    (repeat' (first
 | (first|refine Alz ?_|refine Agz ?_)
 | ((first|refine Amz ?_|refine Afz ?_|refine Ahz ?_|refine Aiz ?_);simp (disch:=omega) only [push_cast,seval,l19r0,l19r1,l19r2,l19r3,hc,Aaz,Abz])
 | ((first|refine Acz ?_ ?_|refine Aez ?_ ?_|refine Adz ?_ ?_)<;>intro h<;>(try simp only [h])<;>(try simp only [bitvec_to_nat] at h)<;>(try simp only [h])<;>(first|(exfalso;omega)|(exfalso;simp_all;done)|(simp (disch:=omega) only [push_cast,seval,hc,Aaz,Abz])|skip))
 | ((first|refine Anz false ?_|refine Ajz false ?_);simp (disch:=omega) only [push_cast,seval,hc,Aaz,Abz])
 | ((first|((first|refine call0D (BCall.ofP (Gcz _ _ _ _ ?_ ?_ ?_)) ?_|refine qcall0D (BCall.ofP (Gcz _ _ _ _ ?_ ?_ ?_)) ⟨_,_,rfl,rfl⟩ ?_);(iterate 3 (exact sd));rintro _ _ ⟨rfl,rfl⟩)|((first|refine call0D (sext_ok _ _ _ _ ?_ ?_ ?_) ?_|refine qcall0D (sext_ok _ _ _ _ ?_ ?_ ?_) ⟨_,_,rfl,rfl⟩ ?_);(iterate 3 (exact sd));rintro _ _ ⟨rfl,rfl⟩))<;>(try simp (disch:=omega) only [push_cast,seval,hc,Aaz,Abz]))
 | (refine Akz ⟨.inr rfl,[192],[],_,by decide,rfl,?_⟩;(try simp (disch:=omega) only [push_cast,seval,↓Auz,↓Asz,↓List.map_cons,↓List.map_nil,hc,Aaz,Abz]))))
    all_goals (try exact ⟨rfl,rfl⟩)


/-- The cost of a contraction. -/
def coI (ts:List Tn) (ls:List (List Int)):Int:=match exO ts ls with|none=>-1|some e=>pr (spE e)
theorem exO_some {ts:List Tn} {ls:List (List Int)} {e:List Int} (h:exO ts ls=some e):ts.all vT=true ∧ (1 ≤ ts.length ∧ ts.length ≤ 3) ∧ ls.length=ts.length ∧ exT ts ls=some e:=by
  unfold exO at h
  split at h
  · rename_i hc
    simp only [Bool.and_eq_true,decide_eq_true_eq] at hc
    exact ⟨hc.1.1,hc.1.2,hc.2,h⟩
  · cases h
theorem exO_facts {ts:List Tn} {ls:List (List Int)} {e:List Int} (h:exO ts ls=some e) :
    e.length=5 ∧ (∀ k:Nat,k < 5 → (k:Int) ∉ ls.flatten → e.getD k 0 < 0) ∧ (∀ k:Nat,k < 5 → (k:Int) ∈ ls.flatten → 0 ≤ e.getD k 0 ∧ e.getD k 0 ≤ 60) ∧ (∀ k:Nat,k < 5 → -1 ≤ e.getD k 0) ∧
    (∀ x ∈ ls.flatten,0 ≤ x ∧ x ≤ 4) ∧ (∀ (i:Nat) (t:Tn) (l:List Int),ts[i]?=some t → ls[i]?=some l → l.length=t.1.length ∧ ∀ j,j < l.length → gE e (l.getD j 0)=t.1.getD j 0) ∧ (∀ t ∈ ts,vT t=true) ∧ ls.length=ts.length:=by
  obtain ⟨h1,h2,h3,h4⟩:=exO_some h
  have hv:=List.all_eq_true.1 h1
  obtain ⟨a,b,c,d,f,g⟩:=exT_facts h3 (fun t ht=>(vT_spec.1 (hv t ht)).1) h4
  exact ⟨a,b,c,d,f,g,hv,h3⟩
/-- With labels of the result,the program asks the same. -/
theorem exP_eq (ts:List Tn) (ls:List (List Int)) (out:List Int):exP ts ls out=if allI out 0 4=true then exO ts ls else none:=by
  unfold exP agO exO
  cases h1:allI out 0 4<;>cases h2:ts.all vT<;>cases h3:decide (ls.length=ts.length)<;>cases h4:(decide (1 ≤ ts.length) && decide (ts.length ≤ 3))<;>simp
theorem exP_nil (ts:List Tn) (ls:List (List Int)):exP ts ls []=exO ts ls:=by rw [exP_eq];rfl

end Go.Proofs.Ytpicoecbbiiaoaa
