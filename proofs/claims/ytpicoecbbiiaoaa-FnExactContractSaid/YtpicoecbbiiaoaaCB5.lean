/- Texts of this verifier. -/
import Derived.Test.YtpicoecbbiiaoaaCB4
import Derived.Test.YtpicoecbbiiaoaaCM1
import Derived.Test.YtpicoecbbiiaoaaCW3
set_option linter.unusedSimpArgs false
set_option linter.unusedVariables false
set_option maxRecDepth 4000
set_option maxHeartbeats 4000000
namespace Go.Proofs.Ytpicoecbbiiaoaa
open VwM Vw Go

set_option maxHeartbeats 8000000 in
theorem Fuz (ts:List Tn) (ls:List (List Int)) (n m:Nat) (hn:ts.length=n) (hm:ls.length=m) (hb:n ≤ 1099511627776 ∧ m ≤ 1099511627776 ∧ ∀ t ∈ ts,t.1.length ≤ 1099511627776 ∧ t.2.length ≤ 1099511627776) :
    PCall Try.prog 48 [.rows false (TL false ts) n,.rows false (LL false ls) m] (fun r=>r=.bool (ts.all vT && (decide (1 ≤ ts.length) && decide (ts.length ≤ 3)) && decide (ls.length=ts.length))):=by
  subst hn hm
  obtain ⟨hb0,hb1,hb2⟩:=hb
  refine A0z l48_eq rfl ?_
  have htl:=Bbz false ts
  (repeat' (first
 | (first|refine Akz ?_|refine Agz ?_)
 | ((first|refine Alz ?_|refine Afz ?_|refine Ahz ?_|refine Aiz ?_);simp (disch:=omega) only [push_cast,seval,l48r0,l48r1,l48r2,l48r3,l48r4,l48r5,l48r6,Acz,Aaz])
 | ((first|refine Abz ?_ ?_|refine Aez ?_ ?_|refine Adz ?_ ?_)<;>intro h<;>(try simp only [h])<;>(try simp only [bitvec_to_nat] at h)<;>(try simp only [h])<;>(first|(exfalso;omega)|(exfalso;simp_all;done)|(simp (disch:=omega) only [push_cast,seval,Acz,Aaz])|skip))
 | ((first|refine Aoz false ?_|refine qcallD_of false ?_);simp (disch:=omega) only [push_cast,seval,Acz,Aaz])
 | ((first|((first|refine call0D (BCall.ofP (svT_ok _ _ _ _ ?_ ?_ ?_)) ?_|refine qcall0D (BCall.ofP (svT_ok _ _ _ _ ?_ ?_ ?_)) ⟨_,_,rfl,rfl⟩ ?_);(iterate 3 (exact sd));rintro _ _ ⟨rfl,rfl⟩)|((first|refine call0D (BCall.ofP (inRange_ok _ _ _)) ?_|refine qcall0D (BCall.ofP (inRange_ok _ _ _)) ⟨_,_,rfl,rfl⟩ ?_);rintro _ _ ⟨rfl,rfl⟩))<;>(try simp (disch:=omega) only [push_cast,seval,Acz,Aaz]))
 | (refine Ajz ⟨.inr rfl,_,rfl,?_⟩;(try simp (disch:=omega) only [push_cast,seval,Acz,Aaz]))))
  refine Ayz (fun i:Nat=>mkS [(0,.rows false (TL false ts) ts.length),(1,.rows false (LL false ls) ls.length),(5,.int .i64 i)] []) (fun i=>i ≤ ts.length ∧ ∀ k t,k < i → ts[k]?=some t → vT t=true) (fun i=>ts.length - i) 0 ⟨Nat.zero_le _,fun k t h=>absurd h (Nat.not_lt_zero _)⟩ ?_ ?_
  · (refine Sub.of_lists ?_ ?_ ?_ ?_ ?_<;>simp [Vw.mkS,Vw.lk,Vw.hk,AV.inn,innL,Aqz,Amz,Asz,-List.map_set,-List.getD_eq_getElem?_getD,Acz,Aaz])
  · rintro i ⟨hi,hall⟩
    by_cases hlt:i < ts.length
    · obtain ⟨⟨x,y⟩,ht⟩:=Cbz hlt
      have hbt:=hb2 _ (List.mem_of_getElem? ht)
      have hd:=Cnz false ts i ht
      simp only at hd hbt
      have hil:i * 2 + 2 ≤ ts.length * 2:=by omega
      cases hv:vT (x,y) with
 | false =>
        have hf:ts.all vT=false:=Bool.eq_false_iff.2 fun h=>by
          have:=List.all_eq_true.1 h _ (List.mem_of_getElem? ht)
          rw [hv] at this;cases this
        (repeat' (first
 | (first|refine Akz ?_|refine Agz ?_)
 | ((first|refine Alz ?_|refine Afz ?_|refine Ahz ?_|refine Aiz ?_);simp (disch:=omega) only [push_cast,seval,l48r0,l48r1,l48r2,l48r3,l48r4,l48r5,l48r6,hd,htl,hil,hv,Acz,Aaz])
 | ((first|refine Abz ?_ ?_|refine Aez ?_ ?_|refine Adz ?_ ?_)<;>intro h<;>(try simp only [h])<;>(try simp only [bitvec_to_nat] at h)<;>(try simp only [h])<;>(first|(exfalso;omega)|(exfalso;simp_all;done)|(simp (disch:=omega) only [push_cast,seval,hd,htl,hil,hv,Acz,Aaz])|skip))
 | ((first|refine Aoz false ?_|refine qcallD_of false ?_);simp (disch:=omega) only [push_cast,seval,hd,htl,hil,hv,Acz,Aaz])
 | ((first|((first|refine call0D (BCall.ofP (svT_ok _ _ _ _ ?_ ?_ ?_)) ?_|refine qcall0D (BCall.ofP (svT_ok _ _ _ _ ?_ ?_ ?_)) ⟨_,_,rfl,rfl⟩ ?_);(iterate 3 (exact sd));rintro _ _ ⟨rfl,rfl⟩)|((first|refine call0D (BCall.ofP (inRange_ok _ _ _)) ?_|refine qcall0D (BCall.ofP (inRange_ok _ _ _)) ⟨_,_,rfl,rfl⟩ ?_);rintro _ _ ⟨rfl,rfl⟩))<;>(try simp (disch:=omega) only [push_cast,seval,hd,htl,hil,hv,Acz,Aaz]))
 | (refine Ajz ⟨.inr rfl,_,rfl,?_⟩;(try simp (disch:=omega) only [push_cast,seval,hd,htl,hil,hv,Acz,Aaz]))))
        all_goals (rw [hf];rfl)
 | true =>
        (repeat' (first
 | (first|refine Akz ?_|refine Agz ?_)
 | ((first|refine Alz ?_|refine Afz ?_|refine Ahz ?_|refine Aiz ?_);simp (disch:=omega) only [push_cast,seval,l48r0,l48r1,l48r2,l48r3,l48r4,l48r5,l48r6,hd,htl,hil,hv,Acz,Aaz])
 | ((first|refine Abz ?_ ?_|refine Aez ?_ ?_|refine Adz ?_ ?_)<;>intro h<;>(try simp only [h])<;>(try simp only [bitvec_to_nat] at h)<;>(try simp only [h])<;>(first|(exfalso;omega)|(exfalso;simp_all;done)|(simp (disch:=omega) only [push_cast,seval,hd,htl,hil,hv,Acz,Aaz])|skip))
 | ((first|refine Aoz false ?_|refine qcallD_of false ?_);simp (disch:=omega) only [push_cast,seval,hd,htl,hil,hv,Acz,Aaz])
 | ((first|((first|refine call0D (BCall.ofP (svT_ok _ _ _ _ ?_ ?_ ?_)) ?_|refine qcall0D (BCall.ofP (svT_ok _ _ _ _ ?_ ?_ ?_)) ⟨_,_,rfl,rfl⟩ ?_);(iterate 3 (exact sd));rintro _ _ ⟨rfl,rfl⟩)|((first|refine call0D (BCall.ofP (inRange_ok _ _ _)) ?_|refine qcall0D (BCall.ofP (inRange_ok _ _ _)) ⟨_,_,rfl,rfl⟩ ?_);rintro _ _ ⟨rfl,rfl⟩))<;>(try simp (disch:=omega) only [push_cast,seval,hd,htl,hil,hv,Acz,Aaz]))
 | (refine Ajz ⟨.inr rfl,_,rfl,?_⟩;(try simp (disch:=omega) only [push_cast,seval,hd,htl,hil,hv,Acz,Aaz]))))
        refine ⟨i + 1,⟨by omega,fun k t hk hkt=>?_⟩,by omega,?_⟩
        · by_cases e:k=i
          · subst e;rw [ht] at hkt;cases hkt;exact hv
          · exact hall k t (by omega) hkt
        · (refine Sub.of_lists ?_ ?_ ?_ ?_ ?_<;>simp [Vw.mkS,Vw.lk,Vw.hk,AV.inn,innL,Aqz,Amz,Asz,-List.map_set,-List.getD_eq_getElem?_getD,Acz,Aaz])
    · have ei:i=ts.length:=by omega
      subst ei
      have hf:ts.all vT=true:=List.all_eq_true.2 fun t ht=>by
        obtain ⟨k,hk⟩:=List.mem_iff_getElem?.1 ht
        exact hall k t (List.getElem?_eq_some_iff.1 hk).1 hk
      rw [hf]
      have e1:((1:Int) ≤ (ts.length:Int)) ↔ (1 ≤ ts.length):=by omega
      have e2:((ts.length:Int) ≤ 3) ↔ (ts.length ≤ 3):=by omega
      have e3:((ls.length:Int)=(ts.length:Int)) ↔ (ls.length=ts.length):=by omega
      (repeat' (first
 | (first|refine Akz ?_|refine Agz ?_)
 | ((first|refine Alz ?_|refine Afz ?_|refine Ahz ?_|refine Aiz ?_);simp (disch:=omega) only [push_cast,seval,l48r0,l48r1,l48r2,l48r3,l48r4,l48r5,l48r6,e1,e2,e3,Acz,Aaz])
 | ((first|refine Abz ?_ ?_|refine Aez ?_ ?_|refine Adz ?_ ?_)<;>intro h<;>(try simp only [h])<;>(try simp only [bitvec_to_nat] at h)<;>(try simp only [h])<;>(first|(exfalso;omega)|(exfalso;simp_all;done)|(simp (disch:=omega) only [push_cast,seval,e1,e2,e3,Acz,Aaz])|skip))
 | ((first|refine Aoz false ?_|refine qcallD_of false ?_);simp (disch:=omega) only [push_cast,seval,e1,e2,e3,Acz,Aaz])
 | ((first|((first|refine call0D (BCall.ofP (svT_ok _ _ _ _ ?_ ?_ ?_)) ?_|refine qcall0D (BCall.ofP (svT_ok _ _ _ _ ?_ ?_ ?_)) ⟨_,_,rfl,rfl⟩ ?_);(iterate 3 (exact sd));rintro _ _ ⟨rfl,rfl⟩)|((first|refine call0D (BCall.ofP (inRange_ok _ _ _)) ?_|refine qcall0D (BCall.ofP (inRange_ok _ _ _)) ⟨_,_,rfl,rfl⟩ ?_);rintro _ _ ⟨rfl,rfl⟩))<;>(try simp (disch:=omega) only [push_cast,seval,e1,e2,e3,Acz,Aaz]))
 | (refine Ajz ⟨.inr rfl,_,rfl,?_⟩;(try simp (disch:=omega) only [push_cast,seval,e1,e2,e3,Acz,Aaz]))))
      all_goals (simp [e1,e2,e3]<;>omega)


abbrev OX (o:Option (List Int)):AV → List (List AV) → Prop:=fun r H'=>r=.tup [.own 0 (o.getD []).length 1,.bool o.isSome] ∧ H'=[IL (o.getD [])]


set_option maxHeartbeats 16000000 in
theorem Cyz (ts:List Tn) (ls:List (List Int)) (n m:Nat) (hn:ts.length=n) (hm:ls.length=m) (hb:m=n ∧ n ≤ 1099511627776 ∧ (∀ t ∈ ts,t.1.length ≤ 1099511627776 ∧ t.2.length ≤ 1099511627776) ∧ ∀ l ∈ ls,l.length ≤ 1099511627776) :
    BCall Try.prog 49 [.rows false (TL false ts) n,.rows false (LL false ls) m] [] (OX (exT ts ls)):=by
  subst hn hm
  obtain ⟨hmn,hb1,hb2,hb3⟩:=hb
  refine A5z (pins:=[]) (pin:=0) l49_eq rfl rfl rfl ?_
  have htl:=Bbz false ts
  have hll:=Bcz false ls
  (repeat' (first
 | (first|refine Akz ?_|refine Agz ?_)
 | ((first|refine Alz ?_|refine Atz (mid:=l49r8a) (post:=l49r8b) Azz (by decide) ?_|refine Atz (mid:=l49r13a) (post:=l49r13b) Azz (by decide) ?_|refine Afz ?_|refine Ahz ?_|refine Aiz ?_);simp (disch:=omega) only [push_cast,seval,l49r0,l49r1,l49r2,l49r3,l49r4,l49r5,l49r6,l49r7,l49r8a,l49r8b,l49r8,l49r9,l49r10,l49r11,l49r12,l49r13a,l49r13b,l49r13,l49r14,l49r15,l49r16,l49r17,l49r18,Acz,Aaz])
 | ((first|refine Abz ?_ ?_|refine Aez ?_ ?_|refine Adz ?_ ?_)<;>intro h<;>(try simp only [h])<;>(try simp only [bitvec_to_nat] at h)<;>(try simp only [h])<;>(first|(exfalso;omega)|(exfalso;simp_all;done)|(simp (disch:=omega) only [push_cast,seval,Acz,Aaz])|skip))
 | ((first|refine Aoz false ?_|refine qcallD_of false ?_);simp (disch:=omega) only [push_cast,seval,Acz,Aaz])
 | ((first|((first|refine call0D (BCall.ofP (allIn_ok _ _ _ _ ?_ ?_)) ?_|refine qcall0D (BCall.ofP (allIn_ok _ _ _ _ ?_ ?_)) ⟨_,_,rfl,rfl⟩ ?_);(iterate 2 (exact sd));rintro _ _ ⟨rfl,rfl⟩))<;>(try simp (disch:=omega) only [push_cast,seval,Acz,Aaz]))
 | (refine Ajz ⟨.inr rfl,[16000],[(16000,1)],_,by decide,rfl,?_⟩;(try simp (disch:=omega) only [push_cast,seval,↓Arz,↓Apz,↓List.map_cons,↓List.map_nil,Acz,Aaz]))))
  refine Ayz (fun k:Nat=>mkS [(0,.rows false (TL false ts) ts.length),(1,.rows false (LL false ls) ls.length),(6,.own 176 k 1),(7,.int .i64 k)] [(176,IL (List.replicate k (-1)))]) (fun k=>k ≤ 5) (fun k=>5 - k) 0 (Nat.zero_le _) ?_ ?_
  · (refine Sub.of_lists ?_ ?_ ?_ ?_ ?_<;>simp [Vw.mkS,Vw.lk,Vw.hk,AV.inn,innL,Aqz,Amz,Asz,-List.map_set,-List.getD_eq_getElem?_getD,Acz,Aaz])
  · intro k hk
    by_cases hk5:k < 5
    · have hr:List.replicate (k + 1) (-1:Int)=List.replicate k (-1) ++ [-1]:=List.replicate_succ'
      (repeat' (first
 | (first|refine Akz ?_|refine Agz ?_)
 | ((first|refine Alz ?_|refine Atz (mid:=l49r8a) (post:=l49r8b) Azz (by decide) ?_|refine Atz (mid:=l49r13a) (post:=l49r13b) Azz (by decide) ?_|refine Afz ?_|refine Ahz ?_|refine Aiz ?_);simp (disch:=omega) only [push_cast,seval,l49r0,l49r1,l49r2,l49r3,l49r4,l49r5,l49r6,l49r7,l49r8a,l49r8b,l49r8,l49r9,l49r10,l49r11,l49r12,l49r13a,l49r13b,l49r13,l49r14,l49r15,l49r16,l49r17,l49r18,Acz,Aaz])
 | ((first|refine Abz ?_ ?_|refine Aez ?_ ?_|refine Adz ?_ ?_)<;>intro h<;>(try simp only [h])<;>(try simp only [bitvec_to_nat] at h)<;>(try simp only [h])<;>(first|(exfalso;omega)|(exfalso;simp_all;done)|(simp (disch:=omega) only [push_cast,seval,Acz,Aaz])|skip))
 | ((first|refine Aoz false ?_|refine qcallD_of false ?_);simp (disch:=omega) only [push_cast,seval,Acz,Aaz])
 | ((first|((first|refine call0D (BCall.ofP (allIn_ok _ _ _ _ ?_ ?_)) ?_|refine qcall0D (BCall.ofP (allIn_ok _ _ _ _ ?_ ?_)) ⟨_,_,rfl,rfl⟩ ?_);(iterate 2 (exact sd));rintro _ _ ⟨rfl,rfl⟩))<;>(try simp (disch:=omega) only [push_cast,seval,Acz,Aaz]))
 | (refine Ajz ⟨.inr rfl,[16000],[(16000,1)],_,by decide,rfl,?_⟩;(try simp (disch:=omega) only [push_cast,seval,↓Arz,↓Apz,↓List.map_cons,↓List.map_nil,Acz,Aaz]))))
      refine ⟨k + 1,by omega,by omega,?_⟩
      (refine Sub.of_lists ?_ ?_ ?_ ?_ ?_<;>simp [Vw.mkS,Vw.lk,Vw.hk,AV.inn,innL,Aqz,Amz,Asz,-List.map_set,-List.getD_eq_getElem?_getD,hr,Acz,Aaz])
    · have ek:k=5:=by omega
      subst ek
      have hr0:List.replicate 5 (-1:Int)=ext0:=rfl
      rw [hr0]
      have l0:=Cfz
      (repeat' (first
 | (first|refine Akz ?_|refine Agz ?_)
 | ((first|refine Alz ?_|refine Atz (mid:=l49r8a) (post:=l49r8b) Azz (by decide) ?_|refine Atz (mid:=l49r13a) (post:=l49r13b) Azz (by decide) ?_|refine Afz ?_|refine Ahz ?_|refine Aiz ?_);simp (disch:=omega) only [push_cast,seval,l49r0,l49r1,l49r2,l49r3,l49r4,l49r5,l49r6,l49r7,l49r8a,l49r8b,l49r8,l49r9,l49r10,l49r11,l49r12,l49r13a,l49r13b,l49r13,l49r14,l49r15,l49r16,l49r17,l49r18,l0,Acz,Aaz])
 | ((first|refine Abz ?_ ?_|refine Aez ?_ ?_|refine Adz ?_ ?_)<;>intro h<;>(try simp only [h])<;>(try simp only [bitvec_to_nat] at h)<;>(try simp only [h])<;>(first|(exfalso;omega)|(exfalso;simp_all;done)|(simp (disch:=omega) only [push_cast,seval,l0,Acz,Aaz])|skip))
 | ((first|refine Aoz false ?_|refine qcallD_of false ?_);simp (disch:=omega) only [push_cast,seval,l0,Acz,Aaz])
 | ((first|((first|refine call0D (BCall.ofP (allIn_ok _ _ _ _ ?_ ?_)) ?_|refine qcall0D (BCall.ofP (allIn_ok _ _ _ _ ?_ ?_)) ⟨_,_,rfl,rfl⟩ ?_);(iterate 2 (exact sd));rintro _ _ ⟨rfl,rfl⟩))<;>(try simp (disch:=omega) only [push_cast,seval,l0,Acz,Aaz]))
 | (refine Ajz ⟨.inr rfl,[16000],[(16000,1)],_,by decide,rfl,?_⟩;(try simp (disch:=omega) only [push_cast,seval,↓Arz,↓Apz,↓List.map_cons,↓List.map_nil,l0,Acz,Aaz]))))
      refine Ayz (fun x:Nat × List Int=>mkS [(0,.rows false (TL false ts) ts.length),(1,.rows false (LL false ls) ls.length),(6,.own 176 5 1),(8,.int .i64 x.1)] [(176,IL x.2)])
        (fun x=>x.1 ≤ ts.length ∧ x.2.length=5 ∧ extG ext0 (prsOf (ts.take x.1) (ls.take x.1))=some x.2 ∧ ∀ k t l,k < x.1 → ts[k]?=some t → ls[k]?=some l → l.length=t.1.length ∧ allI l 0 4=true) (fun x=>ts.length - x.1) (0,ext0) ⟨Nat.zero_le _,rfl,rfl,fun k t l h=>absurd h (Nat.not_lt_zero _)⟩ ?_ ?_
      · (refine Sub.of_lists ?_ ?_ ?_ ?_ ?_<;>simp [Vw.mkS,Vw.lk,Vw.hk,AV.inn,innL,Aqz,Amz,Asz,-List.map_set,-List.getD_eq_getElem?_getD,Acz,Aaz])
      · rintro ⟨i,e⟩ ⟨hi,h5,he,hall⟩
        simp only at hi h5 he hall ⊢
        by_cases hlt:i < ts.length
        · obtain ⟨⟨x,y⟩,ht⟩:=Cbz hlt
          obtain ⟨l,hl⟩:=Cbz (l:=ls) (i:=i) (by omega)
          have hbt:=hb2 _ (List.mem_of_getElem? ht)
          have hbl:=hb3 _ (List.mem_of_getElem? hl)
          have hd:=Cnz false ts i ht
          have hd1:((TL false ts).drop (i * 2)).take 1=[.rows false (IL x) x.length]:=by
            have:=congrArg (List.take 1) hd
            rwa [List.take_take] at this
          have hd2:=C4z false ls i hl
          simp only at hd hbt
          have hil:i * 2 + 2 ≤ ts.length * 2:=by omega
          have hil1:i * 2 + 1 ≤ ts.length * 2:=by omega
          have hil2:i + 1 ≤ ls.length:=by omega
          by_cases hc:(l.length=x.length ∧ allI l 0 4=true)
          · obtain ⟨hc1,hc2⟩:=hc
            have hlab:=Btz.1 hc2
            (repeat' (first
 | (first|refine Akz ?_|refine Agz ?_)
 | ((first|refine Alz ?_|refine Atz (mid:=l49r8a) (post:=l49r8b) Azz (by decide) ?_|refine Atz (mid:=l49r13a) (post:=l49r13b) Azz (by decide) ?_|refine Afz ?_|refine Ahz ?_|refine Aiz ?_);simp (disch:=omega) only [push_cast,seval,l49r0,l49r1,l49r2,l49r3,l49r4,l49r5,l49r6,l49r7,l49r8a,l49r8b,l49r8,l49r9,l49r10,l49r11,l49r12,l49r13a,l49r13b,l49r13,l49r14,l49r15,l49r16,l49r17,l49r18,hd,hd1,hd2,htl,hll,hil,hil1,hil2,hc1,hc2,h5,Acz,Aaz])
 | ((first|refine Abz ?_ ?_|refine Aez ?_ ?_|refine Adz ?_ ?_)<;>intro h<;>(try simp only [h])<;>(try simp only [bitvec_to_nat] at h)<;>(try simp only [h])<;>(first|(exfalso;omega)|(exfalso;simp_all;done)|(simp (disch:=omega) only [push_cast,seval,hd,hd1,hd2,htl,hll,hil,hil1,hil2,hc1,hc2,h5,Acz,Aaz])|skip))
 | ((first|refine Aoz false ?_|refine qcallD_of false ?_);simp (disch:=omega) only [push_cast,seval,hd,hd1,hd2,htl,hll,hil,hil1,hil2,hc1,hc2,h5,Acz,Aaz])
 | ((first|((first|refine call0D (BCall.ofP (allIn_ok _ _ _ _ ?_ ?_)) ?_|refine qcall0D (BCall.ofP (allIn_ok _ _ _ _ ?_ ?_)) ⟨_,_,rfl,rfl⟩ ?_);(iterate 2 (exact sd));rintro _ _ ⟨rfl,rfl⟩))<;>(try simp (disch:=omega) only [push_cast,seval,hd,hd1,hd2,htl,hll,hil,hil1,hil2,hc1,hc2,h5,Acz,Aaz]))
 | (refine Ajz ⟨.inr rfl,[16000],[(16000,1)],_,by decide,rfl,?_⟩; (try simp (disch := omega) only [push_cast,seval,↓Arz,↓Apz,↓List.map_cons,↓List.map_nil,hd,hd1,hd2,htl,hll,hil,hil1,hil2,hc1,hc2,h5,Acz,Aaz]))))
            refine Ayz (fun z:Nat × List Int=>mkS [(0,.rows false (TL false ts) ts.length),(1,.rows false (LL false ls) ls.length),(6,.own 176 5 1),(8,.int .i64 i),(9,.int .i64 z.1)] [(176,IL z.2)])
              (fun z=>z.1 ≤ x.length ∧ z.2.length=5 ∧ extG ext0 (prsOf (ts.take i) (ls.take i) ++ (l.zip x).take z.1)=some z.2) (fun z=>x.length - z.1) (0,e) ⟨Nat.zero_le _,h5,by rw [List.take_zero,List.append_nil];exact he⟩ ?_ ?_
            · (refine Sub.of_lists ?_ ?_ ?_ ?_ ?_<;>simp [Vw.mkS,Vw.lk,Vw.hk,AV.inn,innL,Aqz,Amz,Asz,-List.map_set,-List.getD_eq_getElem?_getD,Acz,Aaz,hc1])
            · rintro ⟨j,f⟩ ⟨hj,hf5,hf⟩
              simp only at hj hf5 hf ⊢
              by_cases hjl:j < x.length
              · have hk:=hlab _ (A9z (xs:=l) (j:=j) (by omega))
                obtain ⟨c,hc⟩:∃ c:Nat,l.getD j 0=c:=⟨(l.getD j 0).toNat,by omega⟩
                have hc5:c < 5:=by omega
                have hct:(l.getD j 0).toNat=c:=by omega
                have hjl2:(j:Int) < (l.length:Int):=by omega
                by_cases hbad:0 ≤ f.getD c 0 ∧ f.getD c 0 ≠ x.getD j 0
                · have hno:=exT_fail ht hl (j:=j) (by omega) hjl hf (by rw [hct];exact hbad)
                  have hb1':=hbad.1
                  have hb2':=hbad.2
                  rw [hno]
                  (repeat' (first
 | (first|refine Akz ?_|refine Agz ?_)
 | ((first|refine Alz ?_|refine Atz (mid:=l49r8a) (post:=l49r8b) Azz (by decide) ?_|refine Atz (mid:=l49r13a) (post:=l49r13b) Azz (by decide) ?_|refine Afz ?_|refine Ahz ?_|refine Aiz ?_);simp (disch:=omega) only [push_cast,seval,l49r0,l49r1,l49r2,l49r3,l49r4,l49r5,l49r6,l49r7,l49r8a,l49r8b,l49r8,l49r9,l49r10,l49r11,l49r12,l49r13a,l49r13b,l49r13,l49r14,l49r15,l49r16,l49r17,l49r18,hd,hd1,hd2,htl,hll,hil,hil1,hil2,hc,hb1',hb2',hf5,Acz,Aaz])
 | ((first|refine Abz ?_ ?_|refine Aez ?_ ?_|refine Adz ?_ ?_)<;>intro h<;>(try simp only [h])<;>(try simp only [bitvec_to_nat] at h)<;>(try simp only [h])<;>(first|(exfalso;omega)|(exfalso;simp_all;done)|(simp (disch:=omega) only [push_cast,seval,hd,hd1,hd2,htl,hll,hil,hil1,hil2,hc,hb1',hb2',hf5,Acz,Aaz])|skip))
 | ((first|refine Aoz false ?_|refine qcallD_of false ?_);simp (disch:=omega) only [push_cast,seval,hd,hd1,hd2,htl,hll,hil,hil1,hil2,hc,hb1',hb2',hf5,Acz,Aaz])
 | ((first|((first|refine call0D (BCall.ofP (allIn_ok _ _ _ _ ?_ ?_)) ?_|refine qcall0D (BCall.ofP (allIn_ok _ _ _ _ ?_ ?_)) ⟨_,_,rfl,rfl⟩ ?_);(iterate 2 (exact sd));rintro _ _ ⟨rfl,rfl⟩))<;>(try simp (disch:=omega) only [push_cast,seval,hd,hd1,hd2,htl,hll,hil,hil1,hil2,hc,hb1',hb2',hf5,Acz,Aaz]))
 | (refine Ajz ⟨.inr rfl,[16000],[(16000,1)],_,by decide,rfl,?_⟩; (try simp (disch := omega) only [push_cast,seval,↓Arz,↓Apz,↓List.map_cons,↓List.map_nil,hd,hd1,hd2,htl,hll,hil,hil1,hil2,hc,hb1',hb2',hf5,Acz,Aaz]))))
                  all_goals (try exact ⟨rfl,rfl⟩)
                · have hstep:=extG_step (p:=(l.getD j 0,x.getD j 0)) hf (by simp only;rw [hct];exact hbad)
                  rw [List.append_assoc,← E6z (by omega) hjl] at hstep
                  simp only [hct] at hstep
                  by_cases hz:0 ≤ f.getD c 0
                  · have hy:f.getD c 0=x.getD j 0:=by
                      by_cases hq:f.getD c 0=x.getD j 0
                      · exact hq
                      · exact absurd ⟨hz,hq⟩ hbad
                    (repeat' (first
 | (first|refine Akz ?_|refine Agz ?_)
 | ((first|refine Alz ?_|refine Atz (mid:=l49r8a) (post:=l49r8b) Azz (by decide) ?_|refine Atz (mid:=l49r13a) (post:=l49r13b) Azz (by decide) ?_|refine Afz ?_|refine Ahz ?_|refine Aiz ?_);simp (disch:=omega) only [push_cast,seval,l49r0,l49r1,l49r2,l49r3,l49r4,l49r5,l49r6,l49r7,l49r8a,l49r8b,l49r8,l49r9,l49r10,l49r11,l49r12,l49r13a,l49r13b,l49r13,l49r14,l49r15,l49r16,l49r17,l49r18,hd,hd1,hd2,htl,hll,hil,hil1,hil2,hc,hz,hy,hf5,Acz,Aaz])
 | ((first|refine Abz ?_ ?_|refine Aez ?_ ?_|refine Adz ?_ ?_)<;>intro h<;>(try simp only [h])<;>(try simp only [bitvec_to_nat] at h)<;>(try simp only [h])<;>(first|(exfalso;omega)|(exfalso;simp_all;done)|(simp (disch:=omega) only [push_cast,seval,hd,hd1,hd2,htl,hll,hil,hil1,hil2,hc,hz,hy,hf5,Acz,Aaz])|skip))
 | ((first|refine Aoz false ?_|refine qcallD_of false ?_);simp (disch:=omega) only [push_cast,seval,hd,hd1,hd2,htl,hll,hil,hil1,hil2,hc,hz,hy,hf5,Acz,Aaz])
 | ((first|((first|refine call0D (BCall.ofP (allIn_ok _ _ _ _ ?_ ?_)) ?_|refine qcall0D (BCall.ofP (allIn_ok _ _ _ _ ?_ ?_)) ⟨_,_,rfl,rfl⟩ ?_);(iterate 2 (exact sd));rintro _ _ ⟨rfl,rfl⟩))<;>(try simp (disch:=omega) only [push_cast,seval,hd,hd1,hd2,htl,hll,hil,hil1,hil2,hc,hz,hy,hf5,Acz,Aaz]))
 | (refine Ajz ⟨.inr rfl,[16000],[(16000,1)],_,by decide,rfl,?_⟩; (try simp (disch := omega) only [push_cast,seval,↓Arz,↓Apz,↓List.map_cons,↓List.map_nil,hd,hd1,hd2,htl,hll,hil,hil1,hil2,hc,hz,hy,hf5,Acz,Aaz]))))
                    refine ⟨(j + 1,f.set c (x.getD j 0)),⟨by simp only;omega,by rw [List.length_set];exact hf5,hstep⟩,by simp only;omega,?_⟩
                    (refine Sub.of_lists ?_ ?_ ?_ ?_ ?_<;>simp [Vw.mkS,Vw.lk,Vw.hk,AV.inn,innL,Aqz,Amz,Asz,-List.map_set,-List.getD_eq_getElem?_getD,Boz,Acz,Aaz])
                  · (repeat' (first
 | (first|refine Akz ?_|refine Agz ?_)
 | ((first|refine Alz ?_|refine Atz (mid:=l49r8a) (post:=l49r8b) Azz (by decide) ?_|refine Atz (mid:=l49r13a) (post:=l49r13b) Azz (by decide) ?_|refine Afz ?_|refine Ahz ?_|refine Aiz ?_);simp (disch:=omega) only [push_cast,seval,l49r0,l49r1,l49r2,l49r3,l49r4,l49r5,l49r6,l49r7,l49r8a,l49r8b,l49r8,l49r9,l49r10,l49r11,l49r12,l49r13a,l49r13b,l49r13,l49r14,l49r15,l49r16,l49r17,l49r18,hd,hd1,hd2,htl,hll,hil,hil1,hil2,hc,hz,hf5,Acz,Aaz])
 | ((first|refine Abz ?_ ?_|refine Aez ?_ ?_|refine Adz ?_ ?_)<;>intro h<;>(try simp only [h])<;>(try simp only [bitvec_to_nat] at h)<;>(try simp only [h])<;>(first|(exfalso;omega)|(exfalso;simp_all;done)|(simp (disch:=omega) only [push_cast,seval,hd,hd1,hd2,htl,hll,hil,hil1,hil2,hc,hz,hf5,Acz,Aaz])|skip))
 | ((first|refine Aoz false ?_|refine qcallD_of false ?_);simp (disch:=omega) only [push_cast,seval,hd,hd1,hd2,htl,hll,hil,hil1,hil2,hc,hz,hf5,Acz,Aaz])
 | ((first|((first|refine call0D (BCall.ofP (allIn_ok _ _ _ _ ?_ ?_)) ?_|refine qcall0D (BCall.ofP (allIn_ok _ _ _ _ ?_ ?_)) ⟨_,_,rfl,rfl⟩ ?_);(iterate 2 (exact sd));rintro _ _ ⟨rfl,rfl⟩))<;>(try simp (disch:=omega) only [push_cast,seval,hd,hd1,hd2,htl,hll,hil,hil1,hil2,hc,hz,hf5,Acz,Aaz]))
 | (refine Ajz ⟨.inr rfl,[16000],[(16000,1)],_,by decide,rfl,?_⟩; (try simp (disch := omega) only [push_cast,seval,↓Arz,↓Apz,↓List.map_cons,↓List.map_nil,hd,hd1,hd2,htl,hll,hil,hil1,hil2,hc,hz,hf5,Acz,Aaz]))))
                    refine ⟨(j + 1,f.set c (x.getD j 0)),⟨by simp only;omega,by rw [List.length_set];exact hf5,hstep⟩,by simp only;omega,?_⟩
                    (refine Sub.of_lists ?_ ?_ ?_ ?_ ?_<;>simp [Vw.mkS,Vw.lk,Vw.hk,AV.inn,innL,Aqz,Amz,Asz,-List.map_set,-List.getD_eq_getElem?_getD,Boz,Acz,Aaz])
              · have ej:j=x.length:=by omega
                have hf':extG ext0 (prsOf (ts.take (i + 1)) (ls.take (i + 1)))=some f:=by
                  rw [I4z ht hl,← hf,List.take_of_length_le (l:=l.zip x) (by simp;omega)]
                have hjx:¬ (j:Int) < l.length:=by omega
                (repeat' (first
 | (first|refine Akz ?_|refine Agz ?_)
 | ((first|refine Alz ?_|refine Atz (mid:=l49r8a) (post:=l49r8b) Azz (by decide) ?_|refine Atz (mid:=l49r13a) (post:=l49r13b) Azz (by decide) ?_|refine Afz ?_|refine Ahz ?_|refine Aiz ?_);simp (disch:=omega) only [push_cast,seval,l49r0,l49r1,l49r2,l49r3,l49r4,l49r5,l49r6,l49r7,l49r8a,l49r8b,l49r8,l49r9,l49r10,l49r11,l49r12,l49r13a,l49r13b,l49r13,l49r14,l49r15,l49r16,l49r17,l49r18,hd,hd1,hd2,htl,hll,hil,hil1,hil2,hf5,Acz,Aaz])
 | ((first|refine Abz ?_ ?_|refine Aez ?_ ?_|refine Adz ?_ ?_)<;>intro h<;>(try simp only [h])<;>(try simp only [bitvec_to_nat] at h)<;>(try simp only [h])<;>(first|(exfalso;omega)|(exfalso;simp_all;done)|(simp (disch:=omega) only [push_cast,seval,hd,hd1,hd2,htl,hll,hil,hil1,hil2,hf5,Acz,Aaz])|skip))
 | ((first|refine Aoz false ?_|refine qcallD_of false ?_);simp (disch:=omega) only [push_cast,seval,hd,hd1,hd2,htl,hll,hil,hil1,hil2,hf5,Acz,Aaz])
 | ((first|((first|refine call0D (BCall.ofP (allIn_ok _ _ _ _ ?_ ?_)) ?_|refine qcall0D (BCall.ofP (allIn_ok _ _ _ _ ?_ ?_)) ⟨_,_,rfl,rfl⟩ ?_);(iterate 2 (exact sd));rintro _ _ ⟨rfl,rfl⟩))<;>(try simp (disch:=omega) only [push_cast,seval,hd,hd1,hd2,htl,hll,hil,hil1,hil2,hf5,Acz,Aaz]))
 | (refine Ajz ⟨.inr rfl,[16000],[(16000,1)],_,by decide,rfl,?_⟩; (try simp (disch := omega) only [push_cast,seval,↓Arz,↓Apz,↓List.map_cons,↓List.map_nil,hd,hd1,hd2,htl,hll,hil,hil1,hil2,hf5,Acz,Aaz]))))
                refine ⟨(i + 1,f),⟨by simp only;omega,hf5,hf',fun k t' l' hk ht' hl'=>?_⟩,by simp only;omega,?_⟩
                · by_cases ek:k=i
                  · subst ek;rw [ht] at ht';rw [hl] at hl';cases ht';cases hl';exact ⟨hc1,hc2⟩
                  · simp only at hk;exact hall k t' l' (by omega) ht' hl'
                · (refine Sub.of_lists ?_ ?_ ?_ ?_ ?_<;>simp [Vw.mkS,Vw.lk,Vw.hk,AV.inn,innL,Aqz,Amz,Asz,-List.map_set,-List.getD_eq_getElem?_getD,Acz,Aaz])
          · have hno:=exT_lab ht hl (by rw [Bool.and_eq_false_iff];by_cases h1:l.length=x.length;exact .inr (Bool.eq_false_iff.2 fun h2=>hc ⟨h1,h2⟩);exact .inl (by simp [h1]))
            rw [hno]
            by_cases h1:l.length=x.length
            · have h2:allI l 0 4=false:=Bool.eq_false_iff.2 fun h2=>hc ⟨h1,h2⟩
              (repeat' (first
 | (first|refine Akz ?_|refine Agz ?_)
 | ((first|refine Alz ?_|refine Atz (mid:=l49r8a) (post:=l49r8b) Azz (by decide) ?_|refine Atz (mid:=l49r13a) (post:=l49r13b) Azz (by decide) ?_|refine Afz ?_|refine Ahz ?_|refine Aiz ?_);simp (disch:=omega) only [push_cast,seval,l49r0,l49r1,l49r2,l49r3,l49r4,l49r5,l49r6,l49r7,l49r8a,l49r8b,l49r8,l49r9,l49r10,l49r11,l49r12,l49r13a,l49r13b,l49r13,l49r14,l49r15,l49r16,l49r17,l49r18,hd,hd1,hd2,htl,hll,hil,hil1,hil2,h1,h2,h5,Acz,Aaz])
 | ((first|refine Abz ?_ ?_|refine Aez ?_ ?_|refine Adz ?_ ?_)<;>intro h<;>(try simp only [h])<;>(try simp only [bitvec_to_nat] at h)<;>(try simp only [h])<;>(first|(exfalso;omega)|(exfalso;simp_all;done)|(simp (disch:=omega) only [push_cast,seval,hd,hd1,hd2,htl,hll,hil,hil1,hil2,h1,h2,h5,Acz,Aaz])|skip))
 | ((first|refine Aoz false ?_|refine qcallD_of false ?_);simp (disch:=omega) only [push_cast,seval,hd,hd1,hd2,htl,hll,hil,hil1,hil2,h1,h2,h5,Acz,Aaz])
 | ((first|((first|refine call0D (BCall.ofP (allIn_ok _ _ _ _ ?_ ?_)) ?_|refine qcall0D (BCall.ofP (allIn_ok _ _ _ _ ?_ ?_)) ⟨_,_,rfl,rfl⟩ ?_);(iterate 2 (exact sd));rintro _ _ ⟨rfl,rfl⟩))<;>(try simp (disch:=omega) only [push_cast,seval,hd,hd1,hd2,htl,hll,hil,hil1,hil2,h1,h2,h5,Acz,Aaz]))
 | (refine Ajz ⟨.inr rfl,[16000],[(16000,1)],_,by decide,rfl,?_⟩; (try simp (disch := omega) only [push_cast,seval,↓Arz,↓Apz,↓List.map_cons,↓List.map_nil,hd,hd1,hd2,htl,hll,hil,hil1,hil2,h1,h2,h5,Acz,Aaz]))))
              all_goals (try exact ⟨rfl,rfl⟩)
            · have h1':¬ (l.length:Int)=x.length:=by omega
              (repeat' (first
 | (first|refine Akz ?_|refine Agz ?_)
 | ((first|refine Alz ?_|refine Atz (mid:=l49r8a) (post:=l49r8b) Azz (by decide) ?_|refine Atz (mid:=l49r13a) (post:=l49r13b) Azz (by decide) ?_|refine Afz ?_|refine Ahz ?_|refine Aiz ?_);simp (disch:=omega) only [push_cast,seval,l49r0,l49r1,l49r2,l49r3,l49r4,l49r5,l49r6,l49r7,l49r8a,l49r8b,l49r8,l49r9,l49r10,l49r11,l49r12,l49r13a,l49r13b,l49r13,l49r14,l49r15,l49r16,l49r17,l49r18,hd,hd1,hd2,htl,hll,hil,hil1,hil2,h1',h5,Acz,Aaz])
 | ((first|refine Abz ?_ ?_|refine Aez ?_ ?_|refine Adz ?_ ?_)<;>intro h<;>(try simp only [h])<;>(try simp only [bitvec_to_nat] at h)<;>(try simp only [h])<;>(first|(exfalso;omega)|(exfalso;simp_all;done)|(simp (disch:=omega) only [push_cast,seval,hd,hd1,hd2,htl,hll,hil,hil1,hil2,h1',h5,Acz,Aaz])|skip))
 | ((first|refine Aoz false ?_|refine qcallD_of false ?_);simp (disch:=omega) only [push_cast,seval,hd,hd1,hd2,htl,hll,hil,hil1,hil2,h1',h5,Acz,Aaz])
 | ((first|((first|refine call0D (BCall.ofP (allIn_ok _ _ _ _ ?_ ?_)) ?_|refine qcall0D (BCall.ofP (allIn_ok _ _ _ _ ?_ ?_)) ⟨_,_,rfl,rfl⟩ ?_);(iterate 2 (exact sd));rintro _ _ ⟨rfl,rfl⟩))<;>(try simp (disch:=omega) only [push_cast,seval,hd,hd1,hd2,htl,hll,hil,hil1,hil2,h1',h5,Acz,Aaz]))
 | (refine Ajz ⟨.inr rfl,[16000],[(16000,1)],_,by decide,rfl,?_⟩; (try simp (disch := omega) only [push_cast,seval,↓Arz,↓Apz,↓List.map_cons,↓List.map_nil,hd,hd1,hd2,htl,hll,hil,hil1,hil2,h1',h5,Acz,Aaz]))))
              all_goals (try exact ⟨rfl,rfl⟩)
        · have ei:i=ts.length:=by omega
          subst ei
          have hex:=exT_done hmn (fun k t l ht hl=>(hall k t l (List.getElem?_eq_some_iff.1 ht).1 ht hl)) he
          rw [hex]
          (repeat' (first
 | (first|refine Akz ?_|refine Agz ?_)
 | ((first|refine Alz ?_|refine Atz (mid:=l49r8a) (post:=l49r8b) Azz (by decide) ?_|refine Atz (mid:=l49r13a) (post:=l49r13b) Azz (by decide) ?_|refine Afz ?_|refine Ahz ?_|refine Aiz ?_);simp (disch:=omega) only [push_cast,seval,l49r0,l49r1,l49r2,l49r3,l49r4,l49r5,l49r6,l49r7,l49r8a,l49r8b,l49r8,l49r9,l49r10,l49r11,l49r12,l49r13a,l49r13b,l49r13,l49r14,l49r15,l49r16,l49r17,l49r18,h5,Acz,Aaz])
 | ((first|refine Abz ?_ ?_|refine Aez ?_ ?_|refine Adz ?_ ?_)<;>intro h<;>(try simp only [h])<;>(try simp only [bitvec_to_nat] at h)<;>(try simp only [h])<;>(first|(exfalso;omega)|(exfalso;simp_all;done)|(simp (disch:=omega) only [push_cast,seval,h5,Acz,Aaz])|skip))
 | ((first|refine Aoz false ?_|refine qcallD_of false ?_);simp (disch:=omega) only [push_cast,seval,h5,Acz,Aaz])
 | ((first|((first|refine call0D (BCall.ofP (allIn_ok _ _ _ _ ?_ ?_)) ?_|refine qcall0D (BCall.ofP (allIn_ok _ _ _ _ ?_ ?_)) ⟨_,_,rfl,rfl⟩ ?_);(iterate 2 (exact sd));rintro _ _ ⟨rfl,rfl⟩))<;>(try simp (disch:=omega) only [push_cast,seval,h5,Acz,Aaz]))
 | (refine Ajz ⟨.inr rfl,[176],[],_,by decide,rfl,?_⟩; (try simp (disch := omega) only [push_cast,seval,↓Arz,↓Apz,↓List.map_cons,↓List.map_nil,h5,Acz,Aaz]))))
          all_goals (try exact ⟨by simp [h5],rfl⟩)


set_option maxHeartbeats 8000000 in
theorem sspace_ok (e:List Int) (n:Nat) (hn:e.length=n) (hb:n ≤ 6 ∧ ∀ x ∈ e,x ≤ 60):BCall Try.prog 84 [.rows false (IL e) n] [] (fun r H'=>r=.tup [.own 0 (spE e).length 1,.int .i64 (pr (spE e))] ∧ H'=[IL (spE e)]):=by
  subst hn
  obtain ⟨hb0,hb1⟩:=hb
  have hg:good9 (spE e):=⟨fun x hx=>by
    obtain ⟨y,hy,rfl⟩:=List.mem_map.1 hx
    have:=hb1 y hy
    split<;>omega,by rw [B6z];exact hb0⟩
  have hsl:=B6z e
  refine A5z (pins:=[]) (pin:=0) l84_eq rfl rfl rfl ?_
  (repeat' (first
 | (first|refine Akz ?_|refine Agz ?_)
 | ((first|refine Alz ?_|refine Afz ?_|refine Ahz ?_|refine Aiz ?_);simp (disch:=omega) only [push_cast,seval,l84r0,l84r1,l84r2,l84r3,l84r4,l84r5,l84r6,l84r7,l84r8,l84r9,l84r10,l84r11])
 | ((first|refine Abz ?_ ?_|refine Aez ?_ ?_|refine Adz ?_ ?_)<;>intro h<;>(try simp only [h])<;>(try simp only [bitvec_to_nat] at h)<;>(try simp only [h])<;>(first|(exfalso;omega)|(exfalso;simp_all;done)|(simp (disch:=omega) only [push_cast,seval])|skip))
 | (refine Ajz ⟨.inr rfl,[128],[],_,by decide,rfl,?_⟩;(try simp (disch:=omega) only [push_cast,seval,↓Arz,↓Apz,↓List.map_cons,↓List.map_nil]))))
  refine Ayz (fun k:Nat=>mkS [(0,RI e),(4,.own 128 k 1),(5,.int .i64 (pr ((spE e).take k))),(6,.int .i64 k)] [(128,IL ((spE e).take k))]) (fun k=>k ≤ e.length) (fun k=>e.length - k) 0 (Nat.zero_le _) ?_ ?_
  · (refine Sub.of_lists ?_ ?_ ?_ ?_ ?_<;>simp [Vw.mkS,Vw.lk,Vw.hk,AV.inn,innL,Aqz,Amz,Asz,-List.map_set,-List.getD_eq_getElem?_getD,Dwz])
  · intro k hk
    have htl:((spE e).take k).length=k:=by rw [List.length_take,hsl];omega
    by_cases hlt:k < e.length
    · have h1:=Ciz (Ikz hg (k + 1))
      have h2:=Buz (spE e) k (by omega)
      have h3:=Bkz (spE e) k (by omega)
      have hsg:(spE e).getD k 0=if e.getD k 0 < 0 then 1 else e.getD k 0:=by simp [spE,List.getD,hlt]
      rw [hsg] at h2 h3
      rw [h2] at h1
      by_cases hz:e.getD k 0 < 0
      · rw [if_pos hz] at h1 h2 h3
        generalize hU:(spE e).take k=U at *
        generalize hU2:(spE e).take (k + 1)=U2 at *
        (repeat' (first
 | (first|refine Akz ?_|refine Agz ?_)
 | ((first|refine Alz ?_|refine Afz ?_|refine Ahz ?_|refine Aiz ?_);simp (disch:=omega) only [push_cast,seval,l84r0,l84r1,l84r2,l84r3,l84r4,l84r5,l84r6,l84r7,l84r8,l84r9,l84r10,l84r11,hz,htl,List.length_map])
 | ((first|refine Abz ?_ ?_|refine Aez ?_ ?_|refine Adz ?_ ?_)<;>intro h<;>(try simp only [h])<;>(try simp only [bitvec_to_nat] at h)<;>(try simp only [h])<;>(first|(exfalso;omega)|(exfalso;simp_all;done)|(simp (disch:=omega) only [push_cast,seval,hz,htl,List.length_map])|skip))
 | (refine Ajz ⟨.inr rfl,[128],[],_,by decide,rfl,?_⟩;(try simp (disch:=omega) only [push_cast,seval,↓Arz,↓Apz,↓List.map_cons,↓List.map_nil,hz,htl,List.length_map]))))
        refine ⟨k + 1,by omega,by omega,?_⟩
        rw [hU2,h3]
        (refine Sub.of_lists ?_ ?_ ?_ ?_ ?_<;>simp [Vw.mkS,Vw.lk,Vw.hk,AV.inn,innL,Aqz,Amz,Asz,-List.map_set,-List.getD_eq_getElem?_getD,pr_snoc])
      · rw [if_neg hz] at h1 h2 h3
        generalize hU:(spE e).take k=U at *
        generalize hU2:(spE e).take (k + 1)=U2 at *
        (repeat' (first
 | (first|refine Akz ?_|refine Agz ?_)
 | ((first|refine Alz ?_|refine Afz ?_|refine Ahz ?_|refine Aiz ?_);simp (disch:=omega) only [push_cast,seval,l84r0,l84r1,l84r2,l84r3,l84r4,l84r5,l84r6,l84r7,l84r8,l84r9,l84r10,l84r11,hz,htl,List.length_map])
 | ((first|refine Abz ?_ ?_|refine Aez ?_ ?_|refine Adz ?_ ?_)<;>intro h<;>(try simp only [h])<;>(try simp only [bitvec_to_nat] at h)<;>(try simp only [h])<;>(first|(exfalso;omega)|(exfalso;simp_all;done)|(simp (disch:=omega) only [push_cast,seval,hz,htl,List.length_map])|skip))
 | (refine Ajz ⟨.inr rfl,[128],[],_,by decide,rfl,?_⟩;(try simp (disch:=omega) only [push_cast,seval,↓Arz,↓Apz,↓List.map_cons,↓List.map_nil,hz,htl,List.length_map]))))
        refine ⟨k + 1,by omega,by omega,?_⟩
        rw [hU2,h3]
        (refine Sub.of_lists ?_ ?_ ?_ ?_ ?_<;>simp [Vw.mkS,Vw.lk,Vw.hk,AV.inn,innL,Aqz,Amz,Asz,-List.map_set,-List.getD_eq_getElem?_getD,pr_snoc])
    · have ek:(spE e).take k=spE e:=List.take_of_length_le (by omega)
      clear htl
      have hke:k=(spE e).length:=by omega
      rw [ek]
      (repeat' (first
 | (first|refine Akz ?_|refine Agz ?_)
 | ((first|refine Alz ?_|refine Afz ?_|refine Ahz ?_|refine Aiz ?_);simp (disch:=omega) only [push_cast,seval,l84r0,l84r1,l84r2,l84r3,l84r4,l84r5,l84r6,l84r7,l84r8,l84r9,l84r10,l84r11,List.length_map])
 | ((first|refine Abz ?_ ?_|refine Aez ?_ ?_|refine Adz ?_ ?_)<;>intro h<;>(try simp only [h])<;>(try simp only [bitvec_to_nat] at h)<;>(try simp only [h])<;>(first|(exfalso;omega)|(exfalso;simp_all;done)|(simp (disch:=omega) only [push_cast,seval,List.length_map])|skip))
 | (refine Ajz ⟨.inr rfl,[128],[],_,by decide,rfl,?_⟩;(try simp (disch:=omega) only [push_cast,seval,↓Arz,↓Apz,↓List.map_cons,↓List.map_nil,List.length_map]))))
      all_goals (first|exact ⟨by rw [hke],rfl⟩|rw [← hke])


/-- The cost of a contraction. -/
def coI (ts:List Tn) (ls:List (List Int)):Int:=match exO ts ls with|none=>-1|some e=>pr (spE e)
theorem exO_some {ts:List Tn} {ls:List (List Int)} {e:List Int} (h:exO ts ls=some e):ts.all vT=true ∧ (1 ≤ ts.length ∧ ts.length ≤ 3) ∧ ls.length=ts.length ∧ exT ts ls=some e:=by
  unfold exO at h
  split at h
  · rename_i hc
    simp only [Bool.and_eq_true,decide_eq_true_eq] at hc
    exact ⟨hc.1.1,hc.1.2,hc.2,h⟩
  · cases h
theorem exO_facts {ts:List Tn} {ls:List (List Int)} {e:List Int} (h:exO ts ls=some e) :
    e.length=5 ∧ (∀ k:Nat,k < 5 → (k:Int) ∉ ls.flatten → e.getD k 0 < 0) ∧ (∀ k:Nat,k < 5 → (k:Int) ∈ ls.flatten → 0 ≤ e.getD k 0 ∧ e.getD k 0 ≤ 60) ∧ (∀ k:Nat,k < 5 → -1 ≤ e.getD k 0) ∧
    (∀ x ∈ ls.flatten,0 ≤ x ∧ x ≤ 4) ∧ (∀ (i:Nat) (t:Tn) (l:List Int),ts[i]?=some t → ls[i]?=some l → l.length=t.1.length ∧ ∀ j,j < l.length → gE e (l.getD j 0)=t.1.getD j 0) ∧ (∀ t ∈ ts,vT t=true) ∧ ls.length=ts.length:=by
  obtain ⟨h1,h2,h3,h4⟩:=exO_some h
  have hv:=List.all_eq_true.1 h1
  obtain ⟨a,b,c,d,f,g⟩:=exT_facts h3 (fun t ht=>(Fsz.1 (hv t ht)).1) h4
  exact ⟨a,b,c,d,f,g,hv,h3⟩
/-- With labels of the result,the program asks the same. -/
theorem exP_eq (ts:List Tn) (ls:List (List Int)) (out:List Int):exP ts ls out=if allI out 0 4=true then exO ts ls else none:=by
  unfold exP agO exO
  cases h1:allI out 0 4<;>cases h2:ts.all vT<;>cases h3:decide (ls.length=ts.length)<;>cases h4:(decide (1 ≤ ts.length) && decide (ts.length ≤ 3))<;>simp
end Go.Proofs.Ytpicoecbbiiaoaa
