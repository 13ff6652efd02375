/- Texts of this verifier. -/
import Derived.Test.YtfgohhkcmgiddaaCB4
import Derived.Test.YtfgohhkcmgiddaaCM1
import Derived.Test.YtfgohhkcmgiddaaCW3
set_option linter.unusedSimpArgs false
set_option linter.unusedVariables false
set_option maxRecDepth 4000
set_option maxHeartbeats 4000000
namespace Go.Proofs.Ytfgohhkcmgiddaa
open VwM Vw Go

set_option maxHeartbeats 8000000 in
theorem Fuz (ts:List Tn) (ls:List (List Int)) (n m:Nat) (hn:ts.length=n) (hm:ls.length=m) (hb:n ≤ 1099511627776 ∧ m ≤ 1099511627776 ∧ ∀ t ∈ ts,t.1.length ≤ 1099511627776 ∧ t.2.length ≤ 1099511627776) :
    PCall Try.prog 30 [.rows false (TL false ts) n,.rows false (LL false ls) m] (fun r=>r=.bool (ts.all vT && (decide (1 ≤ ts.length) && decide (ts.length ≤ 3)) && decide (ls.length=ts.length))):=by
  subst hn hm
  obtain ⟨hb0,hb1,hb2⟩:=hb
  refine A1z l30_eq rfl ?_
  have htl:=Chz false ts
  (repeat' (first
 | (first|refine Akz ?_|refine Aez ?_)
 | ((first|refine Alz ?_|refine Adz ?_|refine Agz ?_|refine Ahz ?_);simp (disch:=omega) only [push_cast,seval,l30r0,l30r1,l30r2,l30r3,l30r4,l30r5,l30r6,Ajz,Afz])
 | ((first|refine Aaz ?_ ?_|refine Acz ?_ ?_|refine Abz ?_ ?_)<;>intro h<;>(try simp only [h])<;>(try simp only [bitvec_to_nat] at h)<;>(try simp only [h])<;>(first|(exfalso;omega)|(exfalso;simp_all;done)|(simp (disch:=omega) only [push_cast,seval,Ajz,Afz])|skip))
 | ((first|refine Apz false ?_|refine qcallD_of false ?_);simp (disch:=omega) only [push_cast,seval,Ajz,Afz])
 | ((first|((first|refine call0D (BCall.ofP (svT_ok _ _ _ _ ?_ ?_ ?_)) ?_|refine qcall0D (BCall.ofP (svT_ok _ _ _ _ ?_ ?_ ?_)) ⟨_,_,rfl,rfl⟩ ?_);(iterate 3 (exact sd));rintro _ _ ⟨rfl,rfl⟩)|((first|refine call0D (BCall.ofP (inRange_ok _ _ _)) ?_|refine qcall0D (BCall.ofP (inRange_ok _ _ _)) ⟨_,_,rfl,rfl⟩ ?_);rintro _ _ ⟨rfl,rfl⟩))<;>(try simp (disch:=omega) only [push_cast,seval,Ajz,Afz]))
 | (refine Aiz ⟨.inr rfl,_,rfl,?_⟩;(try simp (disch:=omega) only [push_cast,seval,Ajz,Afz]))))
  refine A2z (fun i:Nat=>mkS [(0,.rows false (TL false ts) ts.length),(1,.rows false (LL false ls) ls.length),(5,.int .i64 i)] []) (fun i=>i ≤ ts.length ∧ ∀ k t,k < i → ts[k]?=some t → vT t=true) (fun i=>ts.length - i) 0 ⟨Nat.zero_le _,fun k t h=>absurd h (Nat.not_lt_zero _)⟩ ?_ ?_
  · (refine Sub.of_lists ?_ ?_ ?_ ?_ ?_<;>simp [Vw.mkS,Vw.lk,Vw.hk,AV.inn,innL,Arz,Aoz,Atz,-List.map_set,-List.getD_eq_getElem?_getD,Ajz,Afz])
  · rintro i ⟨hi,hall⟩
    by_cases hlt:i < ts.length
    · obtain ⟨⟨x,y⟩,ht⟩:=C6z hlt
      have hbt:=hb2 _ (List.mem_of_getElem? ht)
      have hd:=E5z false ts i ht
      simp only at hd hbt
      have hil:i * 2 + 2 ≤ ts.length * 2:=by omega
      cases hv:vT (x,y) with
 | false =>
        have hf:ts.all vT=false:=Bool.eq_false_iff.2 fun h=>by
          have:=List.all_eq_true.1 h _ (List.mem_of_getElem? ht)
          rw [hv] at this;cases this
        (repeat' (first
 | (first|refine Akz ?_|refine Aez ?_)
 | ((first|refine Alz ?_|refine Adz ?_|refine Agz ?_|refine Ahz ?_);simp (disch:=omega) only [push_cast,seval,l30r0,l30r1,l30r2,l30r3,l30r4,l30r5,l30r6,hd,htl,hil,hv,Ajz,Afz])
 | ((first|refine Aaz ?_ ?_|refine Acz ?_ ?_|refine Abz ?_ ?_)<;>intro h<;>(try simp only [h])<;>(try simp only [bitvec_to_nat] at h)<;>(try simp only [h])<;>(first|(exfalso;omega)|(exfalso;simp_all;done)|(simp (disch:=omega) only [push_cast,seval,hd,htl,hil,hv,Ajz,Afz])|skip))
 | ((first|refine Apz false ?_|refine qcallD_of false ?_);simp (disch:=omega) only [push_cast,seval,hd,htl,hil,hv,Ajz,Afz])
 | ((first|((first|refine call0D (BCall.ofP (svT_ok _ _ _ _ ?_ ?_ ?_)) ?_|refine qcall0D (BCall.ofP (svT_ok _ _ _ _ ?_ ?_ ?_)) ⟨_,_,rfl,rfl⟩ ?_);(iterate 3 (exact sd));rintro _ _ ⟨rfl,rfl⟩)|((first|refine call0D (BCall.ofP (inRange_ok _ _ _)) ?_|refine qcall0D (BCall.ofP (inRange_ok _ _ _)) ⟨_,_,rfl,rfl⟩ ?_);rintro _ _ ⟨rfl,rfl⟩))<;>(try simp (disch:=omega) only [push_cast,seval,hd,htl,hil,hv,Ajz,Afz]))
 | (refine Aiz ⟨.inr rfl,_,rfl,?_⟩;(try simp (disch:=omega) only [push_cast,seval,hd,htl,hil,hv,Ajz,Afz]))))
        all_goals (rw [hf];rfl)
 | true =>
        (repeat' (first
 | (first|refine Akz ?_|refine Aez ?_)
 | ((first|refine Alz ?_|refine Adz ?_|refine Agz ?_|refine Ahz ?_);simp (disch:=omega) only [push_cast,seval,l30r0,l30r1,l30r2,l30r3,l30r4,l30r5,l30r6,hd,htl,hil,hv,Ajz,Afz])
 | ((first|refine Aaz ?_ ?_|refine Acz ?_ ?_|refine Abz ?_ ?_)<;>intro h<;>(try simp only [h])<;>(try simp only [bitvec_to_nat] at h)<;>(try simp only [h])<;>(first|(exfalso;omega)|(exfalso;simp_all;done)|(simp (disch:=omega) only [push_cast,seval,hd,htl,hil,hv,Ajz,Afz])|skip))
 | ((first|refine Apz false ?_|refine qcallD_of false ?_);simp (disch:=omega) only [push_cast,seval,hd,htl,hil,hv,Ajz,Afz])
 | ((first|((first|refine call0D (BCall.ofP (svT_ok _ _ _ _ ?_ ?_ ?_)) ?_|refine qcall0D (BCall.ofP (svT_ok _ _ _ _ ?_ ?_ ?_)) ⟨_,_,rfl,rfl⟩ ?_);(iterate 3 (exact sd));rintro _ _ ⟨rfl,rfl⟩)|((first|refine call0D (BCall.ofP (inRange_ok _ _ _)) ?_|refine qcall0D (BCall.ofP (inRange_ok _ _ _)) ⟨_,_,rfl,rfl⟩ ?_);rintro _ _ ⟨rfl,rfl⟩))<;>(try simp (disch:=omega) only [push_cast,seval,hd,htl,hil,hv,Ajz,Afz]))
 | (refine Aiz ⟨.inr rfl,_,rfl,?_⟩;(try simp (disch:=omega) only [push_cast,seval,hd,htl,hil,hv,Ajz,Afz]))))
        refine ⟨i + 1,⟨by omega,fun k t hk hkt=>?_⟩,by omega,?_⟩
        · by_cases e:k=i
          · subst e;rw [ht] at hkt;cases hkt;exact hv
          · exact hall k t (by omega) hkt
        · (refine Sub.of_lists ?_ ?_ ?_ ?_ ?_<;>simp [Vw.mkS,Vw.lk,Vw.hk,AV.inn,innL,Arz,Aoz,Atz,-List.map_set,-List.getD_eq_getElem?_getD,Ajz,Afz])
    · have ei:i=ts.length:=by omega
      subst ei
      have hf:ts.all vT=true:=List.all_eq_true.2 fun t ht=>by
        obtain ⟨k,hk⟩:=List.mem_iff_getElem?.1 ht
        exact hall k t (List.getElem?_eq_some_iff.1 hk).1 hk
      rw [hf]
      have e1:((1:Int) ≤ (ts.length:Int)) ↔ (1 ≤ ts.length):=by omega
      have e2:((ts.length:Int) ≤ 3) ↔ (ts.length ≤ 3):=by omega
      have e3:((ls.length:Int)=(ts.length:Int)) ↔ (ls.length=ts.length):=by omega
      (repeat' (first
 | (first|refine Akz ?_|refine Aez ?_)
 | ((first|refine Alz ?_|refine Adz ?_|refine Agz ?_|refine Ahz ?_);simp (disch:=omega) only [push_cast,seval,l30r0,l30r1,l30r2,l30r3,l30r4,l30r5,l30r6,e1,e2,e3,Ajz,Afz])
 | ((first|refine Aaz ?_ ?_|refine Acz ?_ ?_|refine Abz ?_ ?_)<;>intro h<;>(try simp only [h])<;>(try simp only [bitvec_to_nat] at h)<;>(try simp only [h])<;>(first|(exfalso;omega)|(exfalso;simp_all;done)|(simp (disch:=omega) only [push_cast,seval,e1,e2,e3,Ajz,Afz])|skip))
 | ((first|refine Apz false ?_|refine qcallD_of false ?_);simp (disch:=omega) only [push_cast,seval,e1,e2,e3,Ajz,Afz])
 | ((first|((first|refine call0D (BCall.ofP (svT_ok _ _ _ _ ?_ ?_ ?_)) ?_|refine qcall0D (BCall.ofP (svT_ok _ _ _ _ ?_ ?_ ?_)) ⟨_,_,rfl,rfl⟩ ?_);(iterate 3 (exact sd));rintro _ _ ⟨rfl,rfl⟩)|((first|refine call0D (BCall.ofP (inRange_ok _ _ _)) ?_|refine qcall0D (BCall.ofP (inRange_ok _ _ _)) ⟨_,_,rfl,rfl⟩ ?_);rintro _ _ ⟨rfl,rfl⟩))<;>(try simp (disch:=omega) only [push_cast,seval,e1,e2,e3,Ajz,Afz]))
 | (refine Aiz ⟨.inr rfl,_,rfl,?_⟩;(try simp (disch:=omega) only [push_cast,seval,e1,e2,e3,Ajz,Afz]))))
      all_goals (simp [e1,e2,e3]<;>omega)


abbrev OX (o:Option (List Int)):AV → List (List AV) → Prop:=fun r H'=>r=.tup [.own 0 (o.getD []).length 1,.bool o.isSome] ∧ H'=[IL (o.getD [])]


set_option maxHeartbeats 16000000 in
theorem Czz (ts:List Tn) (ls:List (List Int)) (n m:Nat) (hn:ts.length=n) (hm:ls.length=m) (hb:m=n ∧ n ≤ 1099511627776 ∧ (∀ t ∈ ts,t.1.length ≤ 1099511627776 ∧ t.2.length ≤ 1099511627776) ∧ ∀ l ∈ ls,l.length ≤ 1099511627776) :
    BCall Try.prog 51 [.rows false (TL false ts) n,.rows false (LL false ls) m] [] (OX (exT ts ls)):=by
  subst hn hm
  obtain ⟨hmn,hb1,hb2,hb3⟩:=hb
  refine A7z (pins:=[]) (pin:=0) l51_eq rfl rfl rfl ?_
  have htl:=Chz false ts
  have hll:=Ciz false ls
  (repeat' (first
 | (first|refine Akz ?_|refine Aez ?_)
 | ((first|refine Alz ?_|refine Asz (mid:=l51r8a) (post:=l51r8b) Axz (by decide) ?_|refine Asz (mid:=l51r13a) (post:=l51r13b) Axz (by decide) ?_|refine Adz ?_|refine Agz ?_|refine Ahz ?_);simp (disch:=omega) only [push_cast,seval,l51r0,l51r1,l51r2,l51r3,l51r4,l51r5,l51r6,l51r7,l51r8a,l51r8b,l51r8,l51r9,l51r10,l51r11,l51r12,l51r13a,l51r13b,l51r13,l51r14,l51r15,l51r16,l51r17,l51r18,Ajz,Afz])
 | ((first|refine Aaz ?_ ?_|refine Acz ?_ ?_|refine Abz ?_ ?_)<;>intro h<;>(try simp only [h])<;>(try simp only [bitvec_to_nat] at h)<;>(try simp only [h])<;>(first|(exfalso;omega)|(exfalso;simp_all;done)|(simp (disch:=omega) only [push_cast,seval,Ajz,Afz])|skip))
 | ((first|refine Apz false ?_|refine qcallD_of false ?_);simp (disch:=omega) only [push_cast,seval,Ajz,Afz])
 | ((first|((first|refine call0D (BCall.ofP (allIn_ok _ _ _ _ ?_ ?_)) ?_|refine qcall0D (BCall.ofP (allIn_ok _ _ _ _ ?_ ?_)) ⟨_,_,rfl,rfl⟩ ?_);(iterate 2 (exact sd));rintro _ _ ⟨rfl,rfl⟩))<;>(try simp (disch:=omega) only [push_cast,seval,Ajz,Afz]))
 | (refine Aiz ⟨.inr rfl,[16000],[(16000,1)],_,by decide,rfl,?_⟩;(try simp (disch:=omega) only [push_cast,seval,↓Aqz,↓Amz,↓List.map_cons,↓List.map_nil,Ajz,Afz]))))
  refine A2z (fun k:Nat=>mkS [(0,.rows false (TL false ts) ts.length),(1,.rows false (LL false ls) ls.length),(6,.own 176 k 1),(7,.int .i64 k)] [(176,IL (List.replicate k (-1)))]) (fun k=>k ≤ 5) (fun k=>5 - k) 0 (Nat.zero_le _) ?_ ?_
  · (refine Sub.of_lists ?_ ?_ ?_ ?_ ?_<;>simp [Vw.mkS,Vw.lk,Vw.hk,AV.inn,innL,Arz,Aoz,Atz,-List.map_set,-List.getD_eq_getElem?_getD,Ajz,Afz])
  · intro k hk
    by_cases hk5:k < 5
    · have hr:List.replicate (k + 1) (-1:Int)=List.replicate k (-1) ++ [-1]:=List.replicate_succ'
      (repeat' (first
 | (first|refine Akz ?_|refine Aez ?_)
 | ((first|refine Alz ?_|refine Asz (mid:=l51r8a) (post:=l51r8b) Axz (by decide) ?_|refine Asz (mid:=l51r13a) (post:=l51r13b) Axz (by decide) ?_|refine Adz ?_|refine Agz ?_|refine Ahz ?_);simp (disch:=omega) only [push_cast,seval,l51r0,l51r1,l51r2,l51r3,l51r4,l51r5,l51r6,l51r7,l51r8a,l51r8b,l51r8,l51r9,l51r10,l51r11,l51r12,l51r13a,l51r13b,l51r13,l51r14,l51r15,l51r16,l51r17,l51r18,Ajz,Afz])
 | ((first|refine Aaz ?_ ?_|refine Acz ?_ ?_|refine Abz ?_ ?_)<;>intro h<;>(try simp only [h])<;>(try simp only [bitvec_to_nat] at h)<;>(try simp only [h])<;>(first|(exfalso;omega)|(exfalso;simp_all;done)|(simp (disch:=omega) only [push_cast,seval,Ajz,Afz])|skip))
 | ((first|refine Apz false ?_|refine qcallD_of false ?_);simp (disch:=omega) only [push_cast,seval,Ajz,Afz])
 | ((first|((first|refine call0D (BCall.ofP (allIn_ok _ _ _ _ ?_ ?_)) ?_|refine qcall0D (BCall.ofP (allIn_ok _ _ _ _ ?_ ?_)) ⟨_,_,rfl,rfl⟩ ?_);(iterate 2 (exact sd));rintro _ _ ⟨rfl,rfl⟩))<;>(try simp (disch:=omega) only [push_cast,seval,Ajz,Afz]))
 | (refine Aiz ⟨.inr rfl,[16000],[(16000,1)],_,by decide,rfl,?_⟩;(try simp (disch:=omega) only [push_cast,seval,↓Aqz,↓Amz,↓List.map_cons,↓List.map_nil,Ajz,Afz]))))
      refine ⟨k + 1,by omega,by omega,?_⟩
      (refine Sub.of_lists ?_ ?_ ?_ ?_ ?_<;>simp [Vw.mkS,Vw.lk,Vw.hk,AV.inn,innL,Arz,Aoz,Atz,-List.map_set,-List.getD_eq_getElem?_getD,hr,Ajz,Afz])
    · have ek:k=5:=by omega
      subst ek
      have hr0:List.replicate 5 (-1:Int)=ext0:=rfl
      rw [hr0]
      have l0:=Buz
      (repeat' (first
 | (first|refine Akz ?_|refine Aez ?_)
 | ((first|refine Alz ?_|refine Asz (mid:=l51r8a) (post:=l51r8b) Axz (by decide) ?_|refine Asz (mid:=l51r13a) (post:=l51r13b) Axz (by decide) ?_|refine Adz ?_|refine Agz ?_|refine Ahz ?_);simp (disch:=omega) only [push_cast,seval,l51r0,l51r1,l51r2,l51r3,l51r4,l51r5,l51r6,l51r7,l51r8a,l51r8b,l51r8,l51r9,l51r10,l51r11,l51r12,l51r13a,l51r13b,l51r13,l51r14,l51r15,l51r16,l51r17,l51r18,l0,Ajz,Afz])
 | ((first|refine Aaz ?_ ?_|refine Acz ?_ ?_|refine Abz ?_ ?_)<;>intro h<;>(try simp only [h])<;>(try simp only [bitvec_to_nat] at h)<;>(try simp only [h])<;>(first|(exfalso;omega)|(exfalso;simp_all;done)|(simp (disch:=omega) only [push_cast,seval,l0,Ajz,Afz])|skip))
 | ((first|refine Apz false ?_|refine qcallD_of false ?_);simp (disch:=omega) only [push_cast,seval,l0,Ajz,Afz])
 | ((first|((first|refine call0D (BCall.ofP (allIn_ok _ _ _ _ ?_ ?_)) ?_|refine qcall0D (BCall.ofP (allIn_ok _ _ _ _ ?_ ?_)) ⟨_,_,rfl,rfl⟩ ?_);(iterate 2 (exact sd));rintro _ _ ⟨rfl,rfl⟩))<;>(try simp (disch:=omega) only [push_cast,seval,l0,Ajz,Afz]))
 | (refine Aiz ⟨.inr rfl,[16000],[(16000,1)],_,by decide,rfl,?_⟩;(try simp (disch:=omega) only [push_cast,seval,↓Aqz,↓Amz,↓List.map_cons,↓List.map_nil,l0,Ajz,Afz]))))
      refine A2z (fun x:Nat × List Int=>mkS [(0,.rows false (TL false ts) ts.length),(1,.rows false (LL false ls) ls.length),(6,.own 176 5 1),(8,.int .i64 x.1)] [(176,IL x.2)])
        (fun x=>x.1 ≤ ts.length ∧ x.2.length=5 ∧ extG ext0 (prsOf (ts.take x.1) (ls.take x.1))=some x.2 ∧ ∀ k t l,k < x.1 → ts[k]?=some t → ls[k]?=some l → l.length=t.1.length ∧ allI l 0 4=true) (fun x=>ts.length - x.1) (0,ext0) ⟨Nat.zero_le _,rfl,rfl,fun k t l h=>absurd h (Nat.not_lt_zero _)⟩ ?_ ?_
      · (refine Sub.of_lists ?_ ?_ ?_ ?_ ?_<;>simp [Vw.mkS,Vw.lk,Vw.hk,AV.inn,innL,Arz,Aoz,Atz,-List.map_set,-List.getD_eq_getElem?_getD,Ajz,Afz])
      · rintro ⟨i,e⟩ ⟨hi,h5,he,hall⟩
        simp only at hi h5 he hall ⊢
        by_cases hlt:i < ts.length
        · obtain ⟨⟨x,y⟩,ht⟩:=C6z hlt
          obtain ⟨l,hl⟩:=C6z (l:=ls) (i:=i) (by omega)
          have hbt:=hb2 _ (List.mem_of_getElem? ht)
          have hbl:=hb3 _ (List.mem_of_getElem? hl)
          have hd:=E5z false ts i ht
          have hd1:((TL false ts).drop (i * 2)).take 1=[.rows false (IL x) x.length]:=by
            have:=congrArg (List.take 1) hd
            rwa [List.take_take] at this
          have hd2:=F7z false ls i hl
          simp only at hd hbt
          have hil:i * 2 + 2 ≤ ts.length * 2:=by omega
          have hil1:i * 2 + 1 ≤ ts.length * 2:=by omega
          have hil2:i + 1 ≤ ls.length:=by omega
          by_cases hc:(l.length=x.length ∧ allI l 0 4=true)
          · obtain ⟨hc1,hc2⟩:=hc
            have hlab:=Bdz.1 hc2
            (repeat' (first
 | (first|refine Akz ?_|refine Aez ?_)
 | ((first|refine Alz ?_|refine Asz (mid:=l51r8a) (post:=l51r8b) Axz (by decide) ?_|refine Asz (mid:=l51r13a) (post:=l51r13b) Axz (by decide) ?_|refine Adz ?_|refine Agz ?_|refine Ahz ?_);simp (disch:=omega) only [push_cast,seval,l51r0,l51r1,l51r2,l51r3,l51r4,l51r5,l51r6,l51r7,l51r8a,l51r8b,l51r8,l51r9,l51r10,l51r11,l51r12,l51r13a,l51r13b,l51r13,l51r14,l51r15,l51r16,l51r17,l51r18,hd,hd1,hd2,htl,hll,hil,hil1,hil2,hc1,hc2,h5,Ajz,Afz])
 | ((first|refine Aaz ?_ ?_|refine Acz ?_ ?_|refine Abz ?_ ?_)<;>intro h<;>(try simp only [h])<;>(try simp only [bitvec_to_nat] at h)<;>(try simp only [h])<;>(first|(exfalso;omega)|(exfalso;simp_all;done)|(simp (disch:=omega) only [push_cast,seval,hd,hd1,hd2,htl,hll,hil,hil1,hil2,hc1,hc2,h5,Ajz,Afz])|skip))
 | ((first|refine Apz false ?_|refine qcallD_of false ?_);simp (disch:=omega) only [push_cast,seval,hd,hd1,hd2,htl,hll,hil,hil1,hil2,hc1,hc2,h5,Ajz,Afz])
 | ((first|((first|refine call0D (BCall.ofP (allIn_ok _ _ _ _ ?_ ?_)) ?_|refine qcall0D (BCall.ofP (allIn_ok _ _ _ _ ?_ ?_)) ⟨_,_,rfl,rfl⟩ ?_);(iterate 2 (exact sd));rintro _ _ ⟨rfl,rfl⟩))<;>(try simp (disch:=omega) only [push_cast,seval,hd,hd1,hd2,htl,hll,hil,hil1,hil2,hc1,hc2,h5,Ajz,Afz]))
 | (refine Aiz ⟨.inr rfl,[16000],[(16000,1)],_,by decide,rfl,?_⟩; (try simp (disch := omega) only [push_cast,seval,↓Aqz,↓Amz,↓List.map_cons,↓List.map_nil,hd,hd1,hd2,htl,hll,hil,hil1,hil2,hc1,hc2,h5,Ajz,Afz]))))
            refine A2z (fun z:Nat × List Int=>mkS [(0,.rows false (TL false ts) ts.length),(1,.rows false (LL false ls) ls.length),(6,.own 176 5 1),(8,.int .i64 i),(9,.int .i64 z.1)] [(176,IL z.2)])
              (fun z=>z.1 ≤ x.length ∧ z.2.length=5 ∧ extG ext0 (prsOf (ts.take i) (ls.take i) ++ (l.zip x).take z.1)=some z.2) (fun z=>x.length - z.1) (0,e) ⟨Nat.zero_le _,h5,by rw [List.take_zero,List.append_nil];exact he⟩ ?_ ?_
            · (refine Sub.of_lists ?_ ?_ ?_ ?_ ?_<;>simp [Vw.mkS,Vw.lk,Vw.hk,AV.inn,innL,Arz,Aoz,Atz,-List.map_set,-List.getD_eq_getElem?_getD,Ajz,Afz,hc1])
            · rintro ⟨j,f⟩ ⟨hj,hf5,hf⟩
              simp only at hj hf5 hf ⊢
              by_cases hjl:j < x.length
              · have hk:=hlab _ (A5z (xs:=l) (j:=j) (by omega))
                obtain ⟨c,hc⟩:∃ c:Nat,l.getD j 0=c:=⟨(l.getD j 0).toNat,by omega⟩
                have hc5:c < 5:=by omega
                have hct:(l.getD j 0).toNat=c:=by omega
                have hjl2:(j:Int) < (l.length:Int):=by omega
                by_cases hbad:0 ≤ f.getD c 0 ∧ f.getD c 0 ≠ x.getD j 0
                · have hno:=exT_fail ht hl (j:=j) (by omega) hjl hf (by rw [hct];exact hbad)
                  have hb1':=hbad.1
                  have hb2':=hbad.2
                  rw [hno]
                  (repeat' (first
 | (first|refine Akz ?_|refine Aez ?_)
 | ((first|refine Alz ?_|refine Asz (mid:=l51r8a) (post:=l51r8b) Axz (by decide) ?_|refine Asz (mid:=l51r13a) (post:=l51r13b) Axz (by decide) ?_|refine Adz ?_|refine Agz ?_|refine Ahz ?_);simp (disch:=omega) only [push_cast,seval,l51r0,l51r1,l51r2,l51r3,l51r4,l51r5,l51r6,l51r7,l51r8a,l51r8b,l51r8,l51r9,l51r10,l51r11,l51r12,l51r13a,l51r13b,l51r13,l51r14,l51r15,l51r16,l51r17,l51r18,hd,hd1,hd2,htl,hll,hil,hil1,hil2,hc,hb1',hb2',hf5,Ajz,Afz])
 | ((first|refine Aaz ?_ ?_|refine Acz ?_ ?_|refine Abz ?_ ?_)<;>intro h<;>(try simp only [h])<;>(try simp only [bitvec_to_nat] at h)<;>(try simp only [h])<;>(first|(exfalso;omega)|(exfalso;simp_all;done)|(simp (disch:=omega) only [push_cast,seval,hd,hd1,hd2,htl,hll,hil,hil1,hil2,hc,hb1',hb2',hf5,Ajz,Afz])|skip))
 | ((first|refine Apz false ?_|refine qcallD_of false ?_);simp (disch:=omega) only [push_cast,seval,hd,hd1,hd2,htl,hll,hil,hil1,hil2,hc,hb1',hb2',hf5,Ajz,Afz])
 | ((first|((first|refine call0D (BCall.ofP (allIn_ok _ _ _ _ ?_ ?_)) ?_|refine qcall0D (BCall.ofP (allIn_ok _ _ _ _ ?_ ?_)) ⟨_,_,rfl,rfl⟩ ?_);(iterate 2 (exact sd));rintro _ _ ⟨rfl,rfl⟩))<;>(try simp (disch:=omega) only [push_cast,seval,hd,hd1,hd2,htl,hll,hil,hil1,hil2,hc,hb1',hb2',hf5,Ajz,Afz]))
 | (refine Aiz ⟨.inr rfl,[16000],[(16000,1)],_,by decide,rfl,?_⟩; (try simp (disch := omega) only [push_cast,seval,↓Aqz,↓Amz,↓List.map_cons,↓List.map_nil,hd,hd1,hd2,htl,hll,hil,hil1,hil2,hc,hb1',hb2',hf5,Ajz,Afz]))))
                  all_goals (try exact ⟨rfl,rfl⟩)
                · have hstep:=extG_step (p:=(l.getD j 0,x.getD j 0)) hf (by simp only;rw [hct];exact hbad)
                  rw [List.append_assoc,← E7z (by omega) hjl] at hstep
                  simp only [hct] at hstep
                  by_cases hz:0 ≤ f.getD c 0
                  · have hy:f.getD c 0=x.getD j 0:=by
                      by_cases hq:f.getD c 0=x.getD j 0
                      · exact hq
                      · exact absurd ⟨hz,hq⟩ hbad
                    (repeat' (first
 | (first|refine Akz ?_|refine Aez ?_)
 | ((first|refine Alz ?_|refine Asz (mid:=l51r8a) (post:=l51r8b) Axz (by decide) ?_|refine Asz (mid:=l51r13a) (post:=l51r13b) Axz (by decide) ?_|refine Adz ?_|refine Agz ?_|refine Ahz ?_);simp (disch:=omega) only [push_cast,seval,l51r0,l51r1,l51r2,l51r3,l51r4,l51r5,l51r6,l51r7,l51r8a,l51r8b,l51r8,l51r9,l51r10,l51r11,l51r12,l51r13a,l51r13b,l51r13,l51r14,l51r15,l51r16,l51r17,l51r18,hd,hd1,hd2,htl,hll,hil,hil1,hil2,hc,hz,hy,hf5,Ajz,Afz])
 | ((first|refine Aaz ?_ ?_|refine Acz ?_ ?_|refine Abz ?_ ?_)<;>intro h<;>(try simp only [h])<;>(try simp only [bitvec_to_nat] at h)<;>(try simp only [h])<;>(first|(exfalso;omega)|(exfalso;simp_all;done)|(simp (disch:=omega) only [push_cast,seval,hd,hd1,hd2,htl,hll,hil,hil1,hil2,hc,hz,hy,hf5,Ajz,Afz])|skip))
 | ((first|refine Apz false ?_|refine qcallD_of false ?_);simp (disch:=omega) only [push_cast,seval,hd,hd1,hd2,htl,hll,hil,hil1,hil2,hc,hz,hy,hf5,Ajz,Afz])
 | ((first|((first|refine call0D (BCall.ofP (allIn_ok _ _ _ _ ?_ ?_)) ?_|refine qcall0D (BCall.ofP (allIn_ok _ _ _ _ ?_ ?_)) ⟨_,_,rfl,rfl⟩ ?_);(iterate 2 (exact sd));rintro _ _ ⟨rfl,rfl⟩))<;>(try simp (disch:=omega) only [push_cast,seval,hd,hd1,hd2,htl,hll,hil,hil1,hil2,hc,hz,hy,hf5,Ajz,Afz]))
 | (refine Aiz ⟨.inr rfl,[16000],[(16000,1)],_,by decide,rfl,?_⟩; (try simp (disch := omega) only [push_cast,seval,↓Aqz,↓Amz,↓List.map_cons,↓List.map_nil,hd,hd1,hd2,htl,hll,hil,hil1,hil2,hc,hz,hy,hf5,Ajz,Afz]))))
                    refine ⟨(j + 1,f.set c (x.getD j 0)),⟨by simp only;omega,by rw [List.length_set];exact hf5,hstep⟩,by simp only;omega,?_⟩
                    (refine Sub.of_lists ?_ ?_ ?_ ?_ ?_<;>simp [Vw.mkS,Vw.lk,Vw.hk,AV.inn,innL,Arz,Aoz,Atz,-List.map_set,-List.getD_eq_getElem?_getD,Bmz,Ajz,Afz])
                  · (repeat' (first
 | (first|refine Akz ?_|refine Aez ?_)
 | ((first|refine Alz ?_|refine Asz (mid:=l51r8a) (post:=l51r8b) Axz (by decide) ?_|refine Asz (mid:=l51r13a) (post:=l51r13b) Axz (by decide) ?_|refine Adz ?_|refine Agz ?_|refine Ahz ?_);simp (disch:=omega) only [push_cast,seval,l51r0,l51r1,l51r2,l51r3,l51r4,l51r5,l51r6,l51r7,l51r8a,l51r8b,l51r8,l51r9,l51r10,l51r11,l51r12,l51r13a,l51r13b,l51r13,l51r14,l51r15,l51r16,l51r17,l51r18,hd,hd1,hd2,htl,hll,hil,hil1,hil2,hc,hz,hf5,Ajz,Afz])
 | ((first|refine Aaz ?_ ?_|refine Acz ?_ ?_|refine Abz ?_ ?_)<;>intro h<;>(try simp only [h])<;>(try simp only [bitvec_to_nat] at h)<;>(try simp only [h])<;>(first|(exfalso;omega)|(exfalso;simp_all;done)|(simp (disch:=omega) only [push_cast,seval,hd,hd1,hd2,htl,hll,hil,hil1,hil2,hc,hz,hf5,Ajz,Afz])|skip))
 | ((first|refine Apz false ?_|refine qcallD_of false ?_);simp (disch:=omega) only [push_cast,seval,hd,hd1,hd2,htl,hll,hil,hil1,hil2,hc,hz,hf5,Ajz,Afz])
 | ((first|((first|refine call0D (BCall.ofP (allIn_ok _ _ _ _ ?_ ?_)) ?_|refine qcall0D (BCall.ofP (allIn_ok _ _ _ _ ?_ ?_)) ⟨_,_,rfl,rfl⟩ ?_);(iterate 2 (exact sd));rintro _ _ ⟨rfl,rfl⟩))<;>(try simp (disch:=omega) only [push_cast,seval,hd,hd1,hd2,htl,hll,hil,hil1,hil2,hc,hz,hf5,Ajz,Afz]))
 | (refine Aiz ⟨.inr rfl,[16000],[(16000,1)],_,by decide,rfl,?_⟩; (try simp (disch := omega) only [push_cast,seval,↓Aqz,↓Amz,↓List.map_cons,↓List.map_nil,hd,hd1,hd2,htl,hll,hil,hil1,hil2,hc,hz,hf5,Ajz,Afz]))))
                    refine ⟨(j + 1,f.set c (x.getD j 0)),⟨by simp only;omega,by rw [List.length_set];exact hf5,hstep⟩,by simp only;omega,?_⟩
                    (refine Sub.of_lists ?_ ?_ ?_ ?_ ?_<;>simp [Vw.mkS,Vw.lk,Vw.hk,AV.inn,innL,Arz,Aoz,Atz,-List.map_set,-List.getD_eq_getElem?_getD,Bmz,Ajz,Afz])
              · have ej:j=x.length:=by omega
                have hf':extG ext0 (prsOf (ts.take (i + 1)) (ls.take (i + 1)))=some f:=by
                  rw [I2z ht hl,← hf,List.take_of_length_le (l:=l.zip x) (by simp;omega)]
                have hjx:¬ (j:Int) < l.length:=by omega
                (repeat' (first
 | (first|refine Akz ?_|refine Aez ?_)
 | ((first|refine Alz ?_|refine Asz (mid:=l51r8a) (post:=l51r8b) Axz (by decide) ?_|refine Asz (mid:=l51r13a) (post:=l51r13b) Axz (by decide) ?_|refine Adz ?_|refine Agz ?_|refine Ahz ?_);simp (disch:=omega) only [push_cast,seval,l51r0,l51r1,l51r2,l51r3,l51r4,l51r5,l51r6,l51r7,l51r8a,l51r8b,l51r8,l51r9,l51r10,l51r11,l51r12,l51r13a,l51r13b,l51r13,l51r14,l51r15,l51r16,l51r17,l51r18,hd,hd1,hd2,htl,hll,hil,hil1,hil2,hf5,Ajz,Afz])
 | ((first|refine Aaz ?_ ?_|refine Acz ?_ ?_|refine Abz ?_ ?_)<;>intro h<;>(try simp only [h])<;>(try simp only [bitvec_to_nat] at h)<;>(try simp only [h])<;>(first|(exfalso;omega)|(exfalso;simp_all;done)|(simp (disch:=omega) only [push_cast,seval,hd,hd1,hd2,htl,hll,hil,hil1,hil2,hf5,Ajz,Afz])|skip))
 | ((first|refine Apz false ?_|refine qcallD_of false ?_);simp (disch:=omega) only [push_cast,seval,hd,hd1,hd2,htl,hll,hil,hil1,hil2,hf5,Ajz,Afz])
 | ((first|((first|refine call0D (BCall.ofP (allIn_ok _ _ _ _ ?_ ?_)) ?_|refine qcall0D (BCall.ofP (allIn_ok _ _ _ _ ?_ ?_)) ⟨_,_,rfl,rfl⟩ ?_);(iterate 2 (exact sd));rintro _ _ ⟨rfl,rfl⟩))<;>(try simp (disch:=omega) only [push_cast,seval,hd,hd1,hd2,htl,hll,hil,hil1,hil2,hf5,Ajz,Afz]))
 | (refine Aiz ⟨.inr rfl,[16000],[(16000,1)],_,by decide,rfl,?_⟩; (try simp (disch := omega) only [push_cast,seval,↓Aqz,↓Amz,↓List.map_cons,↓List.map_nil,hd,hd1,hd2,htl,hll,hil,hil1,hil2,hf5,Ajz,Afz]))))
                refine ⟨(i + 1,f),⟨by simp only;omega,hf5,hf',fun k t' l' hk ht' hl'=>?_⟩,by simp only;omega,?_⟩
                · by_cases ek:k=i
                  · subst ek;rw [ht] at ht';rw [hl] at hl';cases ht';cases hl';exact ⟨hc1,hc2⟩
                  · simp only at hk;exact hall k t' l' (by omega) ht' hl'
                · (refine Sub.of_lists ?_ ?_ ?_ ?_ ?_<;>simp [Vw.mkS,Vw.lk,Vw.hk,AV.inn,innL,Arz,Aoz,Atz,-List.map_set,-List.getD_eq_getElem?_getD,Ajz,Afz])
          · have hno:=exT_lab ht hl (by rw [Bool.and_eq_false_iff];by_cases h1:l.length=x.length;exact .inr (Bool.eq_false_iff.2 fun h2=>hc ⟨h1,h2⟩);exact .inl (by simp [h1]))
            rw [hno]
            by_cases h1:l.length=x.length
            · have h2:allI l 0 4=false:=Bool.eq_false_iff.2 fun h2=>hc ⟨h1,h2⟩
              (repeat' (first
 | (first|refine Akz ?_|refine Aez ?_)
 | ((first|refine Alz ?_|refine Asz (mid:=l51r8a) (post:=l51r8b) Axz (by decide) ?_|refine Asz (mid:=l51r13a) (post:=l51r13b) Axz (by decide) ?_|refine Adz ?_|refine Agz ?_|refine Ahz ?_);simp (disch:=omega) only [push_cast,seval,l51r0,l51r1,l51r2,l51r3,l51r4,l51r5,l51r6,l51r7,l51r8a,l51r8b,l51r8,l51r9,l51r10,l51r11,l51r12,l51r13a,l51r13b,l51r13,l51r14,l51r15,l51r16,l51r17,l51r18,hd,hd1,hd2,htl,hll,hil,hil1,hil2,h1,h2,h5,Ajz,Afz])
 | ((first|refine Aaz ?_ ?_|refine Acz ?_ ?_|refine Abz ?_ ?_)<;>intro h<;>(try simp only [h])<;>(try simp only [bitvec_to_nat] at h)<;>(try simp only [h])<;>(first|(exfalso;omega)|(exfalso;simp_all;done)|(simp (disch:=omega) only [push_cast,seval,hd,hd1,hd2,htl,hll,hil,hil1,hil2,h1,h2,h5,Ajz,Afz])|skip))
 | ((first|refine Apz false ?_|refine qcallD_of false ?_);simp (disch:=omega) only [push_cast,seval,hd,hd1,hd2,htl,hll,hil,hil1,hil2,h1,h2,h5,Ajz,Afz])
 | ((first|((first|refine call0D (BCall.ofP (allIn_ok _ _ _ _ ?_ ?_)) ?_|refine qcall0D (BCall.ofP (allIn_ok _ _ _ _ ?_ ?_)) ⟨_,_,rfl,rfl⟩ ?_);(iterate 2 (exact sd));rintro _ _ ⟨rfl,rfl⟩))<;>(try simp (disch:=omega) only [push_cast,seval,hd,hd1,hd2,htl,hll,hil,hil1,hil2,h1,h2,h5,Ajz,Afz]))
 | (refine Aiz ⟨.inr rfl,[16000],[(16000,1)],_,by decide,rfl,?_⟩; (try simp (disch := omega) only [push_cast,seval,↓Aqz,↓Amz,↓List.map_cons,↓List.map_nil,hd,hd1,hd2,htl,hll,hil,hil1,hil2,h1,h2,h5,Ajz,Afz]))))
              all_goals (try exact ⟨rfl,rfl⟩)
            · have h1':¬ (l.length:Int)=x.length:=by omega
              (repeat' (first
 | (first|refine Akz ?_|refine Aez ?_)
 | ((first|refine Alz ?_|refine Asz (mid:=l51r8a) (post:=l51r8b) Axz (by decide) ?_|refine Asz (mid:=l51r13a) (post:=l51r13b) Axz (by decide) ?_|refine Adz ?_|refine Agz ?_|refine Ahz ?_);simp (disch:=omega) only [push_cast,seval,l51r0,l51r1,l51r2,l51r3,l51r4,l51r5,l51r6,l51r7,l51r8a,l51r8b,l51r8,l51r9,l51r10,l51r11,l51r12,l51r13a,l51r13b,l51r13,l51r14,l51r15,l51r16,l51r17,l51r18,hd,hd1,hd2,htl,hll,hil,hil1,hil2,h1',h5,Ajz,Afz])
 | ((first|refine Aaz ?_ ?_|refine Acz ?_ ?_|refine Abz ?_ ?_)<;>intro h<;>(try simp only [h])<;>(try simp only [bitvec_to_nat] at h)<;>(try simp only [h])<;>(first|(exfalso;omega)|(exfalso;simp_all;done)|(simp (disch:=omega) only [push_cast,seval,hd,hd1,hd2,htl,hll,hil,hil1,hil2,h1',h5,Ajz,Afz])|skip))
 | ((first|refine Apz false ?_|refine qcallD_of false ?_);simp (disch:=omega) only [push_cast,seval,hd,hd1,hd2,htl,hll,hil,hil1,hil2,h1',h5,Ajz,Afz])
 | ((first|((first|refine call0D (BCall.ofP (allIn_ok _ _ _ _ ?_ ?_)) ?_|refine qcall0D (BCall.ofP (allIn_ok _ _ _ _ ?_ ?_)) ⟨_,_,rfl,rfl⟩ ?_);(iterate 2 (exact sd));rintro _ _ ⟨rfl,rfl⟩))<;>(try simp (disch:=omega) only [push_cast,seval,hd,hd1,hd2,htl,hll,hil,hil1,hil2,h1',h5,Ajz,Afz]))
 | (refine Aiz ⟨.inr rfl,[16000],[(16000,1)],_,by decide,rfl,?_⟩; (try simp (disch := omega) only [push_cast,seval,↓Aqz,↓Amz,↓List.map_cons,↓List.map_nil,hd,hd1,hd2,htl,hll,hil,hil1,hil2,h1',h5,Ajz,Afz]))))
              all_goals (try exact ⟨rfl,rfl⟩)
        · have ei:i=ts.length:=by omega
          subst ei
          have hex:=exT_done hmn (fun k t l ht hl=>(hall k t l (List.getElem?_eq_some_iff.1 ht).1 ht hl)) he
          rw [hex]
          (repeat' (first
 | (first|refine Akz ?_|refine Aez ?_)
 | ((first|refine Alz ?_|refine Asz (mid:=l51r8a) (post:=l51r8b) Axz (by decide) ?_|refine Asz (mid:=l51r13a) (post:=l51r13b) Axz (by decide) ?_|refine Adz ?_|refine Agz ?_|refine Ahz ?_);simp (disch:=omega) only [push_cast,seval,l51r0,l51r1,l51r2,l51r3,l51r4,l51r5,l51r6,l51r7,l51r8a,l51r8b,l51r8,l51r9,l51r10,l51r11,l51r12,l51r13a,l51r13b,l51r13,l51r14,l51r15,l51r16,l51r17,l51r18,h5,Ajz,Afz])
 | ((first|refine Aaz ?_ ?_|refine Acz ?_ ?_|refine Abz ?_ ?_)<;>intro h<;>(try simp only [h])<;>(try simp only [bitvec_to_nat] at h)<;>(try simp only [h])<;>(first|(exfalso;omega)|(exfalso;simp_all;done)|(simp (disch:=omega) only [push_cast,seval,h5,Ajz,Afz])|skip))
 | ((first|refine Apz false ?_|refine qcallD_of false ?_);simp (disch:=omega) only [push_cast,seval,h5,Ajz,Afz])
 | ((first|((first|refine call0D (BCall.ofP (allIn_ok _ _ _ _ ?_ ?_)) ?_|refine qcall0D (BCall.ofP (allIn_ok _ _ _ _ ?_ ?_)) ⟨_,_,rfl,rfl⟩ ?_);(iterate 2 (exact sd));rintro _ _ ⟨rfl,rfl⟩))<;>(try simp (disch:=omega) only [push_cast,seval,h5,Ajz,Afz]))
 | (refine Aiz ⟨.inr rfl,[176],[],_,by decide,rfl,?_⟩; (try simp (disch := omega) only [push_cast,seval,↓Aqz,↓Amz,↓List.map_cons,↓List.map_nil,h5,Ajz,Afz]))))
          all_goals (try exact ⟨by simp [h5],rfl⟩)


set_option maxHeartbeats 8000000 in
theorem sspace_ok (e:List Int) (n:Nat) (hn:e.length=n) (hb:n ≤ 6 ∧ ∀ x ∈ e,x ≤ 60):BCall Try.prog 53 [.rows false (IL e) n] [] (fun r H'=>r=.tup [.own 0 (spE e).length 1,.int .i64 (pr (spE e))] ∧ H'=[IL (spE e)]):=by
  subst hn
  obtain ⟨hb0,hb1⟩:=hb
  have hg:good9 (spE e):=⟨fun x hx=>by
    obtain ⟨y,hy,rfl⟩:=List.mem_map.1 hx
    have:=hb1 y hy
    split<;>omega,by rw [Byz];exact hb0⟩
  have hsl:=Byz e
  refine A7z (pins:=[]) (pin:=0) l53_eq rfl rfl rfl ?_
  (repeat' (first
 | (first|refine Akz ?_|refine Aez ?_)
 | ((first|refine Alz ?_|refine Adz ?_|refine Agz ?_|refine Ahz ?_);simp (disch:=omega) only [push_cast,seval,l53r0,l53r1,l53r2,l53r3,l53r4,l53r5,l53r6,l53r7,l53r8,l53r9,l53r10,l53r11])
 | ((first|refine Aaz ?_ ?_|refine Acz ?_ ?_|refine Abz ?_ ?_)<;>intro h<;>(try simp only [h])<;>(try simp only [bitvec_to_nat] at h)<;>(try simp only [h])<;>(first|(exfalso;omega)|(exfalso;simp_all;done)|(simp (disch:=omega) only [push_cast,seval])|skip))
 | (refine Aiz ⟨.inr rfl,[128],[],_,by decide,rfl,?_⟩;(try simp (disch:=omega) only [push_cast,seval,↓Aqz,↓Amz,↓List.map_cons,↓List.map_nil]))))
  refine A2z (fun k:Nat=>mkS [(0,RI e),(4,.own 128 k 1),(5,.int .i64 (pr ((spE e).take k))),(6,.int .i64 k)] [(128,IL ((spE e).take k))]) (fun k=>k ≤ e.length) (fun k=>e.length - k) 0 (Nat.zero_le _) ?_ ?_
  · (refine Sub.of_lists ?_ ?_ ?_ ?_ ?_<;>simp [Vw.mkS,Vw.lk,Vw.hk,AV.inn,innL,Arz,Aoz,Atz,-List.map_set,-List.getD_eq_getElem?_getD,Dvz])
  · intro k hk
    have htl:((spE e).take k).length=k:=by rw [List.length_take,hsl];omega
    by_cases hlt:k < e.length
    · have h1:=Ccz (Ifz hg (k + 1))
      have h2:=Bqz (spE e) k (by omega)
      have h3:=Bjz (spE e) k (by omega)
      have hsg:(spE e).getD k 0=if e.getD k 0 < 0 then 1 else e.getD k 0:=by simp [spE,List.getD,hlt]
      rw [hsg] at h2 h3
      rw [h2] at h1
      by_cases hz:e.getD k 0 < 0
      · rw [if_pos hz] at h1 h2 h3
        generalize hU:(spE e).take k=U at *
        generalize hU2:(spE e).take (k + 1)=U2 at *
        (repeat' (first
 | (first|refine Akz ?_|refine Aez ?_)
 | ((first|refine Alz ?_|refine Adz ?_|refine Agz ?_|refine Ahz ?_);simp (disch:=omega) only [push_cast,seval,l53r0,l53r1,l53r2,l53r3,l53r4,l53r5,l53r6,l53r7,l53r8,l53r9,l53r10,l53r11,hz,htl,List.length_map])
 | ((first|refine Aaz ?_ ?_|refine Acz ?_ ?_|refine Abz ?_ ?_)<;>intro h<;>(try simp only [h])<;>(try simp only [bitvec_to_nat] at h)<;>(try simp only [h])<;>(first|(exfalso;omega)|(exfalso;simp_all;done)|(simp (disch:=omega) only [push_cast,seval,hz,htl,List.length_map])|skip))
 | (refine Aiz ⟨.inr rfl,[128],[],_,by decide,rfl,?_⟩;(try simp (disch:=omega) only [push_cast,seval,↓Aqz,↓Amz,↓List.map_cons,↓List.map_nil,hz,htl,List.length_map]))))
        refine ⟨k + 1,by omega,by omega,?_⟩
        rw [hU2,h3]
        (refine Sub.of_lists ?_ ?_ ?_ ?_ ?_<;>simp [Vw.mkS,Vw.lk,Vw.hk,AV.inn,innL,Arz,Aoz,Atz,-List.map_set,-List.getD_eq_getElem?_getD,I3z])
      · rw [if_neg hz] at h1 h2 h3
        generalize hU:(spE e).take k=U at *
        generalize hU2:(spE e).take (k + 1)=U2 at *
        (repeat' (first
 | (first|refine Akz ?_|refine Aez ?_)
 | ((first|refine Alz ?_|refine Adz ?_|refine Agz ?_|refine Ahz ?_);simp (disch:=omega) only [push_cast,seval,l53r0,l53r1,l53r2,l53r3,l53r4,l53r5,l53r6,l53r7,l53r8,l53r9,l53r10,l53r11,hz,htl,List.length_map])
 | ((first|refine Aaz ?_ ?_|refine Acz ?_ ?_|refine Abz ?_ ?_)<;>intro h<;>(try simp only [h])<;>(try simp only [bitvec_to_nat] at h)<;>(try simp only [h])<;>(first|(exfalso;omega)|(exfalso;simp_all;done)|(simp (disch:=omega) only [push_cast,seval,hz,htl,List.length_map])|skip))
 | (refine Aiz ⟨.inr rfl,[128],[],_,by decide,rfl,?_⟩;(try simp (disch:=omega) only [push_cast,seval,↓Aqz,↓Amz,↓List.map_cons,↓List.map_nil,hz,htl,List.length_map]))))
        refine ⟨k + 1,by omega,by omega,?_⟩
        rw [hU2,h3]
        (refine Sub.of_lists ?_ ?_ ?_ ?_ ?_<;>simp [Vw.mkS,Vw.lk,Vw.hk,AV.inn,innL,Arz,Aoz,Atz,-List.map_set,-List.getD_eq_getElem?_getD,I3z])
    · have ek:(spE e).take k=spE e:=List.take_of_length_le (by omega)
      clear htl
      have hke:k=(spE e).length:=by omega
      rw [ek]
      (repeat' (first
 | (first|refine Akz ?_|refine Aez ?_)
 | ((first|refine Alz ?_|refine Adz ?_|refine Agz ?_|refine Ahz ?_);simp (disch:=omega) only [push_cast,seval,l53r0,l53r1,l53r2,l53r3,l53r4,l53r5,l53r6,l53r7,l53r8,l53r9,l53r10,l53r11,List.length_map])
 | ((first|refine Aaz ?_ ?_|refine Acz ?_ ?_|refine Abz ?_ ?_)<;>intro h<;>(try simp only [h])<;>(try simp only [bitvec_to_nat] at h)<;>(try simp only [h])<;>(first|(exfalso;omega)|(exfalso;simp_all;done)|(simp (disch:=omega) only [push_cast,seval,List.length_map])|skip))
 | (refine Aiz ⟨.inr rfl,[128],[],_,by decide,rfl,?_⟩;(try simp (disch:=omega) only [push_cast,seval,↓Aqz,↓Amz,↓List.map_cons,↓List.map_nil,List.length_map]))))
      all_goals (first|exact ⟨by rw [hke],rfl⟩|rw [← hke])


/-- The cost of a contraction. -/
def coI (ts:List Tn) (ls:List (List Int)):Int:=match exO ts ls with|none=>-1|some e=>pr (spE e)
theorem Goz {ts:List Tn} {ls:List (List Int)} {e:List Int} (h:exO ts ls=some e):ts.all vT=true ∧ (1 ≤ ts.length ∧ ts.length ≤ 3) ∧ ls.length=ts.length ∧ exT ts ls=some e:=by
  unfold exO at h
  split at h
  · rename_i hc
    simp only [Bool.and_eq_true,decide_eq_true_eq] at hc
    exact ⟨hc.1.1,hc.1.2,hc.2,h⟩
  · cases h
theorem exO_facts {ts:List Tn} {ls:List (List Int)} {e:List Int} (h:exO ts ls=some e) :
    e.length=5 ∧ (∀ k:Nat,k < 5 → (k:Int) ∉ ls.flatten → e.getD k 0 < 0) ∧ (∀ k:Nat,k < 5 → (k:Int) ∈ ls.flatten → 0 ≤ e.getD k 0 ∧ e.getD k 0 ≤ 60) ∧ (∀ k:Nat,k < 5 → -1 ≤ e.getD k 0) ∧
    (∀ x ∈ ls.flatten,0 ≤ x ∧ x ≤ 4) ∧ (∀ (i:Nat) (t:Tn) (l:List Int),ts[i]?=some t → ls[i]?=some l → l.length=t.1.length ∧ ∀ j,j < l.length → gE e (l.getD j 0)=t.1.getD j 0) ∧ (∀ t ∈ ts,vT t=true) ∧ ls.length=ts.length:=by
  obtain ⟨h1,h2,h3,h4⟩:=Goz h
  have hv:=List.all_eq_true.1 h1
  obtain ⟨a,b,c,d,f,g⟩:=exT_facts h3 (fun t ht=>(B5z.1 (hv t ht)).1) h4
  exact ⟨a,b,c,d,f,g,hv,h3⟩
/-- With labels of the result,the program asks the same. -/
theorem exP_eq (ts:List Tn) (ls:List (List Int)) (out:List Int):exP ts ls out=if allI out 0 4=true then exO ts ls else none:=by
  unfold exP agO exO
  cases h1:allI out 0 4<;>cases h2:ts.all vT<;>cases h3:decide (ls.length=ts.length)<;>cases h4:(decide (1 ≤ ts.length) && decide (ts.length ≤ 3))<;>simp
end Go.Proofs.Ytfgohhkcmgiddaa
set_option linter.unusedSimpArgs false
set_option linter.unusedVariables false
set_option maxRecDepth 4000
set_option maxHeartbeats 4000000
namespace Go.Proofs.Ytfgohhkcmgiddaa
open VwM Vw Go

set_option maxHeartbeats 8000000 in
theorem iwithout_ok (xs ys:List Int) (n m:Nat) (hn:xs.length=n) (hm:ys.length=m) (hb:n ≤ 1099511627776 ∧ m ≤ 1099511627776):BCall Try.prog 43 [.rows false (IL xs) n,.rows false (IL ys) m] [] (OI (wiL xs ys)):=by
  subst hn hm
  obtain ⟨hb0,hb1⟩:=hb
  refine A7z (pins:=[]) (pin:=0) l43_eq rfl rfl rfl ?_
  (repeat' (first
 | (first|refine Akz ?_|refine Aez ?_)
 | ((first|refine Alz ?_|refine Adz ?_|refine Agz ?_|refine Ahz ?_);simp (disch:=omega) only [push_cast,seval,l43r0,l43r1,l43r2,l43r3,l43r4,l43r5,l43r6,l43r7,l43r8])
 | ((first|refine Aaz ?_ ?_|refine Acz ?_ ?_|refine Abz ?_ ?_)<;>intro h<;>(try simp only [h])<;>(try simp only [bitvec_to_nat] at h)<;>(try simp only [h])<;>(first|(exfalso;omega)|(exfalso;simp_all;done)|(simp (disch:=omega) only [push_cast,seval])|skip))
 | ((first|refine Apz false ?_|refine qcallD_of false ?_);simp (disch:=omega) only [push_cast,seval])
 | ((first|((first|refine call0D (BCall.ofP (A0z _ _ _ ?_ ?_)) ?_|refine qcall0D (BCall.ofP (A0z _ _ _ ?_ ?_)) ⟨_,_,rfl,rfl⟩ ?_);(iterate 2 (exact sd));rintro _ _ ⟨rfl,rfl⟩))<;>(try simp (disch:=omega) only [push_cast,seval]))
 | (refine Aiz ⟨.inr rfl,[336],[],_,by decide,rfl,?_⟩;(try simp (disch:=omega) only [push_cast,seval,↓Aqz,↓Amz,↓List.map_cons,↓List.map_nil]))))
  refine D5z (fun k:Nat=>mkS [(1,RI ys),(5,.own 336 (wiL (xs.take k) ys).length 1),(8,RI xs),(9,.int .i64 xs.length),(10,.int .i64 k)] [(336,IL (wiL (xs.take k) ys))]) (fun k=>k ≤ xs.length) (fun k=>xs.length - k) 0 (Nat.zero_le _) ?_ ?_
  · refine SubW.adopt [5] 336 1 (by simp [Vw.hk]) (SubW.of ?_)
    simp only [adL,List.map_cons,List.map_nil,adA,List.contains_cons,List.contains_nil]
    have e0:wiL [] ys=[]:=rfl
    (refine Sub.of_lists ?_ ?_ ?_ ?_ ?_<;>simp [Vw.mkS,Vw.lk,Vw.hk,AV.inn,innL,Arz,Aoz,Atz,-List.map_set,-List.getD_eq_getElem?_getD,e0])
  · intro k hk
    have hwl:=wiL_len (xs.take k) ys
    rw [List.length_take] at hwl
    by_cases hlt:k < xs.length
    · by_cases hin:xs.getD k 0 ∈ ys
      · have e3:=wiL_in hlt hin
        generalize hU:wiL (xs.take k) ys=U at *
        (repeat' (first
 | (first|refine Akz ?_|refine Aez ?_)
 | ((first|refine Alz ?_|refine Adz ?_|refine Agz ?_|refine Ahz ?_);simp (disch:=omega) only [push_cast,seval,l43r0,l43r1,l43r2,l43r3,l43r4,l43r5,l43r6,l43r7,l43r8,hin,decide_true])
 | ((first|refine Aaz ?_ ?_|refine Acz ?_ ?_|refine Abz ?_ ?_)<;>intro h<;>(try simp only [h])<;>(try simp only [bitvec_to_nat] at h)<;>(try simp only [h])<;>(first|(exfalso;omega)|(exfalso;simp_all;done)|(simp (disch:=omega) only [push_cast,seval,hin,decide_true])|skip))
 | ((first|refine Apz false ?_|refine qcallD_of false ?_);simp (disch:=omega) only [push_cast,seval,hin,decide_true])
 | ((first|((first|refine call0D (BCall.ofP (A0z _ _ _ ?_ ?_)) ?_|refine qcall0D (BCall.ofP (A0z _ _ _ ?_ ?_)) ⟨_,_,rfl,rfl⟩ ?_);(iterate 2 (exact sd));rintro _ _ ⟨rfl,rfl⟩))<;>(try simp (disch:=omega) only [push_cast,seval,hin,decide_true]))
 | (refine Aiz ⟨.inr rfl,[336],[],_,by decide,rfl,?_⟩;(try simp (disch:=omega) only [push_cast,seval,↓Aqz,↓Amz,↓List.map_cons,↓List.map_nil,hin,decide_true]))))
        refine ⟨k + 1,by omega,by omega,SubW.of ?_⟩
        (refine Sub.of_lists ?_ ?_ ?_ ?_ ?_<;>simp [Vw.mkS,Vw.lk,Vw.hk,AV.inn,innL,Arz,Aoz,Atz,-List.map_set,-List.getD_eq_getElem?_getD,e3])
      · have e3:=wiL_out hlt hin
        generalize hU:wiL (xs.take k) ys=U at *
        (repeat' (first
 | (first|refine Akz ?_|refine Aez ?_)
 | ((first|refine Alz ?_|refine Adz ?_|refine Agz ?_|refine Ahz ?_);simp (disch:=omega) only [push_cast,seval,l43r0,l43r1,l43r2,l43r3,l43r4,l43r5,l43r6,l43r7,l43r8,hin,decide_false,List.length_map])
 | ((first|refine Aaz ?_ ?_|refine Acz ?_ ?_|refine Abz ?_ ?_)<;>intro h<;>(try simp only [h])<;>(try simp only [bitvec_to_nat] at h)<;>(try simp only [h])<;>(first|(exfalso;omega)|(exfalso;simp_all;done)|(simp (disch:=omega) only [push_cast,seval,hin,decide_false,List.length_map])|skip))
 | ((first|refine Apz false ?_|refine qcallD_of false ?_);simp (disch:=omega) only [push_cast,seval,hin,decide_false,List.length_map])
 | ((first|((first|refine call0D (BCall.ofP (A0z _ _ _ ?_ ?_)) ?_|refine qcall0D (BCall.ofP (A0z _ _ _ ?_ ?_)) ⟨_,_,rfl,rfl⟩ ?_);(iterate 2 (exact sd));rintro _ _ ⟨rfl,rfl⟩))<;>(try simp (disch:=omega) only [push_cast,seval,hin,decide_false,List.length_map]))
 | (refine Aiz ⟨.inr rfl,[336],[],_,by decide,rfl,?_⟩;(try simp (disch:=omega) only [push_cast,seval,↓Aqz,↓Amz,↓List.map_cons,↓List.map_nil,hin,decide_false,List.length_map]))))
        refine ⟨k + 1,by omega,by omega,SubW.of ?_⟩
        (refine Sub.of_lists ?_ ?_ ?_ ?_ ?_<;>simp [Vw.mkS,Vw.lk,Vw.hk,AV.inn,innL,Arz,Aoz,Atz,-List.map_set,-List.getD_eq_getElem?_getD,e3])
    · rw [List.take_of_length_le (by omega)] at hwl ⊢
      (repeat' (first
 | (first|refine Akz ?_|refine Aez ?_)
 | ((first|refine Alz ?_|refine Adz ?_|refine Agz ?_|refine Ahz ?_);simp (disch:=omega) only [push_cast,seval,l43r0,l43r1,l43r2,l43r3,l43r4,l43r5,l43r6,l43r7,l43r8,List.length_map])
 | ((first|refine Aaz ?_ ?_|refine Acz ?_ ?_|refine Abz ?_ ?_)<;>intro h<;>(try simp only [h])<;>(try simp only [bitvec_to_nat] at h)<;>(try simp only [h])<;>(first|(exfalso;omega)|(exfalso;simp_all;done)|(simp (disch:=omega) only [push_cast,seval,List.length_map])|skip))
 | ((first|refine Apz false ?_|refine qcallD_of false ?_);simp (disch:=omega) only [push_cast,seval,List.length_map])
 | ((first|((first|refine call0D (BCall.ofP (A0z _ _ _ ?_ ?_)) ?_|refine qcall0D (BCall.ofP (A0z _ _ _ ?_ ?_)) ⟨_,_,rfl,rfl⟩ ?_);(iterate 2 (exact sd));rintro _ _ ⟨rfl,rfl⟩))<;>(try simp (disch:=omega) only [push_cast,seval,List.length_map]))
 | (refine Aiz ⟨.inr rfl,[336],[],_,by decide,rfl,?_⟩;(try simp (disch:=omega) only [push_cast,seval,↓Aqz,↓Amz,↓List.map_cons,↓List.map_nil,List.length_map]))))
      all_goals (first|exact ⟨rfl,rfl⟩|skip)


def sumLen (ls:List (List Int)) (k:Nat):Nat:=(ls.take k).flatten.length
theorem costOf2_ok (e a b:List Int) (n m:Nat) (hn:a.length=n) (hm:b.length=m) (hb:e.length=5 ∧ (n ≤ 1099511627776 ∧ m ≤ 1099511627776) ∧ ((∀ x ∈ a,0 ≤ x ∧ x ≤ 4) ∧ ∀ x ∈ b,0 ≤ x ∧ x ≤ 4) ∧ (∀ x ∈ a,0 ≤ gE e x ∧ gE e x ≤ 60) ∧ ∀ x ∈ b,0 ≤ gE e x ∧ gE e x ≤ 60):PCall Try.prog 22 [.agg (IL e),.rows false [.rows false (IL a) n,.rows false (IL b) m] 2] (fun r=>r=.int .i64 (pr ((lbS (a ++ b)).map (gE e)))):=by
  subst hn hm
  have h:=costOf_ok e [a,b] 2 rfl ⟨hb.1,by omega,fun l hl=>by simp at hl;rcases hl with rfl|rfl<;>omega,fun l hl=>by
    simp at hl;rcases hl with rfl|rfl
    · exact hb.2.2.1.1
    · exact hb.2.2.1.2,fun l hl=>by
    simp at hl;rcases hl with rfl|rfl
    · exact hb.2.2.2.1
    · exact hb.2.2.2.2⟩
  have e2:([a,b]:List (List Int)).flatten=a ++ b:=by simp
  rw [e2] at h
  exact h

end Go.Proofs.Ytfgohhkcmgiddaa
set_option linter.unusedSimpArgs false
set_option linter.unusedVariables false
set_option maxRecDepth 4000
set_option maxHeartbeats 4000000
namespace Go.Proofs.Ytfgohhkcmgiddaa
open VwM Vw Go

end Go.Proofs.Ytfgohhkcmgiddaa
set_option linter.unusedSimpArgs false
set_option linter.unusedVariables false
set_option maxRecDepth 4000
set_option maxHeartbeats 4000000
namespace Go.Proofs.Ytfgohhkcmgiddaa
open VwM Vw Go

/-- What the inner loop of the cost by two has found after q lists. -/
def rcO (e:List Int) (ls:List (List Int)) (K:List Int) (i j k q:Nat):Int:=if (k:Int) ∈ (besT ls i j q).flatten ∨ (0 < q ∧ (k:Int) ∈ K) then e.getD k 0 else -1
end Go.Proofs.Ytfgohhkcmgiddaa
set_option linter.unusedSimpArgs false
set_option linter.unusedVariables false
set_option maxRecDepth 4000
set_option maxHeartbeats 4000000
namespace Go.Proofs.Ytfgohhkcmgiddaa
open VwM Vw Go

def pairB (i j:Int) (n:Nat):Bool:=!decide (i=j) && (decide (0 ≤ i) && decide (i ≤ (n:Int) - 1)) && (decide (0 ≤ j) && decide (j ≤ (n:Int) - 1))
def cbI (ts:List Tn) (ls:List (List Int)) (out:List Int) (i j:Int):Int:=match exP ts ls out with|none=>-1|some e=>if pairB i j ts.length=true then cbN e ls out i.toNat j.toNat else -1
end Go.Proofs.Ytfgohhkcmgiddaa
