/- Texts of this verifier. -/
import Derived.Test.YtkpcjppnjmhanaaDoorCB12
import Derived.Test.YtkpcjppnjmhanaaDoorCM1
set_option maxHeartbeats 4000000
set_option linter.unusedSimpArgs false
set_option linter.unusedSectionVars false
set_option linter.unusedVariables false
set_option maxRecDepth 4000
namespace Go.Proofs.YtkpcjppnjmhanaaDoor
open VwM Vw Go
variable [SentA]

/-- The last of the open exports. -/
theorem Ifz {es:List Ex} {L:List Int} {x:Int}:∀ {n:Nat},opensT es n=L ++ [x] → ∃ (q:Nat) (e:Ex),x=q ∧ q < n ∧ es[q]?=some e ∧ e.2.2=true ∧ (∀ j f,q < j → j < n → es[j]?=some f → ¬ f.2.2=true) ∧ opensT es q=L
  | 0,h=>by simp [opensT] at h
  | k + 1,h=>by
    cases hk:es[k]? with
    | none =>
      simp only [opensT,hk] at h
      obtain ⟨q,e,h1,h2,h3,h4,h5,h6⟩:=Ifz h
      refine ⟨q,e,h1,by omega,h3,h4,fun j f hj hjk hf=>?_,h6⟩
      by_cases hjk':j=k
      · subst hjk';rw [hk] at hf;cases hf
      · exact h5 j f hj (by omega) hf
    | some g =>
      by_cases hg:g.2.2=true
      · rw [Gpz hk hg] at h
        obtain ⟨h1,h2⟩:=List.append_inj' h rfl
        injection h2 with h2
        exact ⟨k,g,h2.symm,by omega,hk,hg,fun j f hj hjk=>by omega,h1⟩
      · rw [Fdz hk hg] at h
        obtain ⟨q,e,h1,h2,h3,h4,h5,h6⟩:=Ifz h
        refine ⟨q,e,h1,by omega,h3,h4,fun j f hj hjk hf=>?_,h6⟩
        by_cases hjk':j=k
        · subst hjk';rw [hk] at hf;injection hf with hf;rw [← hf];exact hg
        · exact h5 j f hj (by omega) hf
theorem opens_low {es es':List Ex}:∀ {n:Nat},(∀ j,j < n → es[j]?=es'[j]?) → opensT es n=opensT es' n
  | 0,_=>rfl
  | k + 1,h=>by
    simp only [opensT,h k (by omega),opens_low (n:=k) fun j hj=>h j (by omega)]
theorem opens_up {es:List Ex} {q:Nat}:∀ {n:Nat},q ≤ n → (∀ j f,q ≤ j → j < n → es[j]?=some f → ¬ f.2.2=true) → opensT es n=opensT es q
  | 0,h,_=>by
    have e0:q=0:=by omega
    rw [e0]
  | k + 1,h,hh=>by
    by_cases e:q=k + 1
    · rw [e]
    · have ih:=opens_up (es:=es) (q:=q) (n:=k) (by omega) fun j f hj hk=>hh j f hj (by omega)
      cases hk:es[k]? with
 | none=>simp only [opensT,hk];exact ih
 | some f=>rw [Fdz hk (hh k f (by omega) (by omega) hk)];exact ih
/-- The last open export can be released;after it the others are open. -/
theorem rel_last {cs:List Int} {es:List Ex} {L:List Int} {x:Int} (hv:vB cs es=true) (h:opensT es es.length=L ++ [x]):relG cs es x=true ∧ opensT (relE es x.toNat) (relE es x.toNat).length=L:=by
  obtain ⟨q,e,rfl,hq,he,ho,hlast,hL⟩:=Ifz h
  have hk:kidsT es (q:Int) es.length=[]:=Esz.2 fun i f hi hf=>by
    rintro ⟨h1,h2⟩
    have h3:=(Efz.1 ((Fwz.1 hv).2.2 i f hf)).1.1
    exact hlast i f (by omega) hi hf h1
  constructor
  · unfold relG opA
    rw [hv,hk]
    simp only [Int.toNat_natCast,he,ho,Bool.true_and,Bool.and_eq_true,decide_eq_true_eq,List.length_nil,and_true]
    omega
  · rw [A4z,Int.toNat_natCast,Lez he]
    rw [opens_up (q:=q) (by omega)]
    · rw [← hL]
      exact opens_low fun j hj=>by rw [List.getElem?_set_ne (by omega)]
    · intro j f hj hjn hf
      by_cases e1:q=j
      · subst e1
        rw [List.getElem?_set_self hq] at hf
        injection hf with hf
        rw [← hf];simp
      · rw [List.getElem?_set_ne e1] at hf
        exact hlast j f (by omega) hjn hf


theorem Etz (cs:List Int) (es:List Ex) (m n:Nat) (id:Int) (hm:cs.length=m) (hn:es.length=n) (hb:m ≤ 1048576 ∧ n ≤ 1048576 ∧ exB 1048576 es) :
    PCall Tryd.prog 19 [.agg [.rows false (IL cs) m,.rows false (EL false es) n],.int .i64 id] (fun r=>r=.tup [.agg [.rows true (IL (ifB (relG cs es id) cs)) (ifB (relG cs es id) cs).length,.rows true (EL true (ifB (relG cs es id) (relE es id.toNat))) (ifB (relG cs es id) (relE es id.toNat)).length],.bool (relG cs es id)]) :=
  OBf_plain (Jpz cs es m n id hm hn hb)


theorem Gcz (cs:List Int) (es:List Ex) (m n:Nat) (s:Int) (hm:cs.length=m) (hn:es.length=n) (hb:m ≤ 1048576 ∧ n ≤ 1048576 ∧ exB 1048576 es) :
    PCall Tryd.prog 20 [.agg [.rows false (IL cs) m,.rows false (EL false es) n],.int .i64 s] (fun r=>r=.tup [.agg [.rows true (IL (ifB (rzG cs es s) (zz cs s.toNat))) (ifB (rzG cs es s) (zz cs s.toNat)).length,.rows true (EL true (ifB (rzG cs es s) es)) (ifB (rzG cs es s) es).length],.bool (rzG cs es s)]) :=
  OBf_plain (iRz_ok cs es m n s hm hn hb)


theorem drawOOB_ok (bs:List Int) (n:Nat) (hn:bs.length=n) (hb:n ≤ 1099511627776 ∧ ∀ x ∈ bs,0 ≤ x ∧ x ≤ 255):BCall Tryd.prog 17 [.rows false (UL bs) n] [] (fun r H'=>∃ cs es,sbQ cs es ∧ r=.agg [.own 0 cs.length 1,.own 1 es.length 5] ∧ H'=[IL cs,EL false es]):=by
  subst hn
  refine A3z (pins:=[]) (pin:=0) l17_eq rfl rfl rfl ?_
  (repeat' (first
 | (first|refine Apz ?_|refine Aiz ?_)
 | ((first|refine Aqz ?_|refine Ahz ?_|refine Ajz ?_|refine Akz ?_);simp (disch:=omega) only [push_cast,seval,l17r0,l17r1,Aaz])
 | ((first|refine Acz ?_ ?_|refine Agz ?_ ?_|refine Afz ?_ ?_)<;>intro h<;>(try simp only [h])<;>(try simp only [bitvec_to_nat] at h)<;>(try simp only [h])<;>(first|(exfalso;omega)|(exfalso;simp_all;done)|(simp (disch:=omega) only [push_cast,seval,Aaz])|skip))
 | ((first|((with_reducible refine Arz (f:=25) true ?_);simp (disch:=omega) only [push_cast,seval,Aaz];(refine Adz (newReader_ok _ _ ?_ ?_) ?_;(iterate 2 (exact sd));rintro _ _ ⟨bs0,hbs0,rfl,rfl⟩))|((with_reducible refine A2z (f:=24) [64] true ?_);simp (disch:=omega) only [push_cast,seval,Aaz];(refine Gkz (id:=64) (someB_ok _ _ ?_ ?_) (by (simp (disch:=omega) only [push_cast,seval,Aaz])<;>rfl) ?_;(iterate 2 (exact sd));rintro _ _ ⟨csG,esG,pG,hsG,hpG,rfl,rfl⟩)))<;>(try simp (disch:=omega) only [push_cast,seval,Aaz]))))
  all_goals ((refine Anz ⟨.inr rfl,[80,81],[],_,by decide,rfl,?_⟩;(try simp (disch:=omega) only [push_cast,seval,↓Aoz,↓Alz,↓List.map_cons,↓List.map_nil,Aaz]));exact ⟨_,_,sbQ_of (by assumption),rfl,rfl⟩)
theorem D2z (bs:List Int) (n:Nat) (hn:bs.length=n) (hb:n ≤ 1099511627776 ∧ ∀ x ∈ bs,0 ≤ x ∧ x ≤ 255):PCall Tryd.prog 17 [.rows false (UL bs) n] (fun r=>∃ cs es,sbQ cs es ∧ (opensA cs es).length ≤ es.length ∧ r=.agg [.rows true (IL cs) cs.length,.rows true (EL false es) es.length]):=by
  refine (BCall.plain (drawOOB_ok bs n hn hb)).mono ?_
  rintro r ⟨r0,H',⟨cs,es,h,rfl,rfl⟩,rfl⟩
  refine ⟨cs,es,h,Khz cs es,?_⟩
  simp [AV.ren,nthH,Kez,A6z]


set_option maxHeartbeats 32000000 in
theorem lOOf_ok (bs:List Int) (hn:bs.length ≤ 9223372036854775807) (hb:∀ x ∈ bs,0 ≤ x ∧ x ≤ 255):PCall Tryd.prog 5 [.rows false (UL bs) bs.length] (fun r=>r=.bool true):=by
  refine A7z l5_eq rfl ?_
  by_cases h:bs.length ≤ 1048576
  · have q:bs.length ≤ 1099511627776 ∧ ∀ x ∈ bs,0 ≤ x ∧ x ≤ 255:=⟨by omega,hb⟩
    (repeat' (first
 | (first|refine Apz ?_|refine Aiz ?_)
 | ((first|refine Aqz ?_|refine A5z (mid:=l5r10a) (post:=l5r10b) [112,1000000007,2000000112] Axz (by decide) ?_|refine Ahz ?_|refine Ajz ?_|refine Akz ?_);simp (disch:=omega) only [push_cast,seval,l5r0,l5r1,l5r2,l5r3,l5r4,l5r5,l5r6,l5r7,l5r8,l5r9,l5r10a,l5r10b,l5r10,l5r11,l5r12,l5r13,l5r14,l5r15,l5r16,Aaz,bne_self_eq_false])
 | ((first|refine Acz ?_ ?_|refine Agz ?_ ?_|refine Afz ?_ ?_)<;>intro h<;>(try simp only [h])<;>(try simp only [bitvec_to_nat] at h)<;>(try simp only [h])<;>(first|(exfalso;omega)|(exfalso;simp_all;done)|(simp (disch:=omega) only [push_cast,seval,Aaz,bne_self_eq_false])|skip))
 | ((first|((with_reducible refine Arz (f:=17) true ?_);simp (disch:=omega) only [push_cast,seval,Aaz,bne_self_eq_false];(refine Adz (Aez (D2z _ _ ?_ ?_)) ?_;(iterate 2 (exact sd));rintro _ _ ⟨⟨cs,es,⟨hs1,hs2,hs3,hs4,hs5⟩,hol,rfl⟩,rfl⟩))|((with_reducible refine Amz (f:=17) true ?_);simp (disch:=omega) only [push_cast,seval,Aaz,bne_self_eq_false];(refine Abz (Aez (D2z _ _ ?_ ?_)) ⟨_,_,rfl,rfl⟩ ?_;(iterate 2 (exact sd));rintro _ _ ⟨⟨cs,es,⟨hs1,hs2,hs3,hs4,hs5⟩,hol,rfl⟩,rfl⟩))|((with_reducible refine Arz (f:=19) false ?_);simp (disch:=omega) only [push_cast,seval,Aaz,bne_self_eq_false];(refine Gjz (Jpz _ _ _ _ _ ?_ ?_ ?_) (by (simp (disch:=omega) only [push_cast,seval,Aaz,bne_self_eq_false]);done) ?_;(iterate 3 (exact sd))))|((with_reducible refine Arz (f:=20) false ?_);simp (disch:=omega) only [push_cast,seval,Aaz,bne_self_eq_false];(refine Gjz (iRz_ok _ _ _ _ _ ?_ ?_ ?_) (by (simp (disch:=omega) only [push_cast,seval,Aaz,bne_self_eq_false]);done) ?_;(iterate 3 (exact sd)))))<;>(try simp (disch:=omega) only [push_cast,seval,Aaz,bne_self_eq_false]))
 | ((first|refine Arz false ?_|refine Amz false ?_);simp (disch:=omega) only [push_cast,seval,Aaz,bne_self_eq_false])
 | ((first|((first|refine Adz (Euz _ _ _ _ ?_ ?_ ?_) ?_|refine Abz (Euz _ _ _ _ ?_ ?_ ?_) ⟨_,_,rfl,rfl⟩ ?_);(iterate 3 (exact sd));rintro _ _ ⟨rfl,rfl⟩)|((first|refine Adz (B5z _ _ _ _ ?_ ?_ ?_) ?_|refine Abz (B5z _ _ _ _ ?_ ?_ ?_) ⟨_,_,rfl,rfl⟩ ?_);(iterate 3 (exact sd));rintro _ _ ⟨rfl,rfl⟩)|((first|refine Adz (Aez (Cvz _ _ _ _ ?_ ?_ ?_)) ?_|refine Abz (Aez (Cvz _ _ _ _ ?_ ?_ ?_)) ⟨_,_,rfl,rfl⟩ ?_);(iterate 3 (exact sd));rintro _ _ ⟨rfl,rfl⟩)|((first|refine Adz (Aez (Bvz _ _ _ _ ?_ ?_ ?_)) ?_|refine Abz (Aez (Bvz _ _ _ _ ?_ ?_ ?_)) ⟨_,_,rfl,rfl⟩ ?_);(iterate 3 (exact sd));rintro _ _ ⟨rfl,rfl⟩)|((first|refine Adz (Aez (Gaz _ _ ?_ ?_)) ?_|refine Abz (Aez (Gaz _ _ ?_ ?_)) ⟨_,_,rfl,rfl⟩ ?_);(iterate 2 (exact sd));rintro _ _ ⟨rfl,rfl⟩)|((first|refine Adz (Aez (Etz _ _ _ _ _ ?_ ?_ ?_)) ?_|refine Abz (Aez (Etz _ _ _ _ _ ?_ ?_ ?_)) ⟨_,_,rfl,rfl⟩ ?_);(iterate 3 (exact sd));rintro _ _ ⟨rfl,rfl⟩)|((first|refine Adz (Aez (Gcz _ _ _ _ _ ?_ ?_ ?_)) ?_|refine Abz (Aez (Gcz _ _ _ _ _ ?_ ?_ ?_)) ⟨_,_,rfl,rfl⟩ ?_);(iterate 3 (exact sd));rintro _ _ ⟨rfl,rfl⟩))<;>(try simp (disch:=omega) only [push_cast,seval,Aaz,bne_self_eq_false]))))
    · (refine Anz ⟨.inr rfl,_,rfl,?_⟩;try simp (disch:=omega) only [push_cast,seval,h])
      all_goals (try simp [h])
    · have hOe:opensA cs es=opensT es es.length:=by unfold opensA;rw [if_pos h]
      generalize hO:opensA cs es=O at *
      have hOn:O.length ≤ es.length:=hol
      refine Elz (fun s:Bool × List Ex × Nat=>mkS [(3,.ref 48 2 0),(4,.own 272 O.length 1),(5,.ref 80 2 0),(6,.int .i64 ((s.2.2:Int) - 1))] [(48,[.rows true (IL cs) cs.length,.rows true (EL false es) es.length]),(80,[.rows true (IL cs) cs.length,.rows true (EL s.1 s.2.1) s.2.1.length]),(272,IL O)]) (fun s=>s.2.2 ≤ O.length ∧ vB cs s.2.1=true ∧ s.2.1.length=es.length ∧ opensT s.2.1 s.2.1.length=O.take s.2.2) (fun s=>s.2.2) (false,es,O.length) ⟨Nat.le_refl _,h,rfl,by rw [← hOe,List.take_length]⟩ ?_ ?_
      · refine SubW.of ?_
        (refine Sub.of_lists ?_ ?_ ?_ ?_ ?_<;>simp [Vw.mkS,Vw.lk,Vw.hk,AV.inn,innL,Awz,Atz,Ayz,-List.map_set,-List.getD_eq_getElem?_getD,Aaz])
      · rintro ⟨c,es',i⟩ ⟨hi,hv,hl,ho⟩
        simp only at hi hv hl ho ⊢
        have q2:cs.length ≤ 1048576 ∧ es'.length ≤ 1048576 ∧ exB 1048576 es':=by
          have hz:=I5z hv
          exact ⟨by omega,by omega,fun e he=>by have:=hz.2.2 e he;omega⟩
        cases i with
        | zero =>
          have ho2:(opensA cs es').length=0:=by unfold opensA;rw [if_pos hv,ho];simp
          have q3:cs.length ≤ 1099511627776 ∧ es'.length ≤ 1099511627776 ∧ exB 1099511627776 es':=vB_x hv
          have hg:rzG cs es' 5=true:=by
            unfold rzG
            rw [hv,ho]
            simp
          (repeat' (first
 | (first|refine Apz ?_|refine Aiz ?_)
 | ((first|refine Aqz ?_|refine A5z (mid:=l5r10a) (post:=l5r10b) [112,1000000007,2000000112] Axz (by decide) ?_|refine Ahz ?_|refine Ajz ?_|refine Akz ?_);simp (disch:=omega) only [push_cast,seval,l5r0,l5r1,l5r2,l5r3,l5r4,l5r5,l5r6,l5r7,l5r8,l5r9,l5r10a,l5r10b,l5r10,l5r11,l5r12,l5r13,l5r14,l5r15,l5r16,Aaz,hg,Bjz,ho2,A4z])
 | ((first|refine Acz ?_ ?_|refine Agz ?_ ?_|refine Afz ?_ ?_)<;>intro h<;>(try simp only [h])<;>(try simp only [bitvec_to_nat] at h)<;>(try simp only [h])<;>(first|(exfalso;omega)|(exfalso;simp_all;done)|(simp (disch:=omega) only [push_cast,seval,Aaz,hg,Bjz,ho2,A4z])|skip))
 | ((first|((with_reducible refine Arz (f:=17) true ?_);simp (disch:=omega) only [push_cast,seval,Aaz,hg,Bjz,ho2,A4z];(refine Adz (Aez (D2z _ _ ?_ ?_)) ?_;(iterate 2 (exact sd));rintro _ _ ⟨⟨cs,es,⟨hs1,hs2,hs3,hs4,hs5⟩,hol,rfl⟩,rfl⟩))|((with_reducible refine Amz (f:=17) true ?_);simp (disch:=omega) only [push_cast,seval,Aaz,hg,Bjz,ho2,A4z];(refine Abz (Aez (D2z _ _ ?_ ?_)) ⟨_,_,rfl,rfl⟩ ?_;(iterate 2 (exact sd));rintro _ _ ⟨⟨cs,es,⟨hs1,hs2,hs3,hs4,hs5⟩,hol,rfl⟩,rfl⟩))|((with_reducible refine Arz (f:=19) false ?_);simp (disch:=omega) only [push_cast,seval,Aaz,hg,Bjz,ho2,A4z];(refine Gjz (Jpz _ _ _ _ _ ?_ ?_ ?_) (by (simp (disch:=omega) only [push_cast,seval,Aaz,hg,Bjz,ho2,A4z]);done) ?_;(iterate 3 (exact sd))))|((with_reducible refine Arz (f:=20) false ?_);simp (disch:=omega) only [push_cast,seval,Aaz,hg,Bjz,ho2,A4z];(refine Gjz (iRz_ok _ _ _ _ _ ?_ ?_ ?_) (by (simp (disch:=omega) only [push_cast,seval,Aaz,hg,Bjz,ho2,A4z]);done) ?_;(iterate 3 (exact sd)))))<;>(try simp (disch:=omega) only [push_cast,seval,Aaz,hg,Bjz,ho2,A4z]))
 | ((first|refine Arz false ?_|refine Amz false ?_);simp (disch:=omega) only [push_cast,seval,Aaz,hg,Bjz,ho2,A4z])
 | ((first | ((first | refine Adz (Euz _ _ _ _ ?_ ?_ ?_) ?_ | refine Abz (Euz _ _ _ _ ?_ ?_ ?_) ⟨_,_,rfl,rfl⟩ ?_); (iterate 3 (exact sd)); rintro _ _ ⟨rfl,rfl⟩) | ((first | refine Adz (B5z _ _ _ _ ?_ ?_ ?_) ?_ | refine Abz (B5z _ _ _ _ ?_ ?_ ?_) ⟨_,_,rfl,rfl⟩ ?_); (iterate 3 (exact sd)); rintro _ _ ⟨rfl,rfl⟩) | ((first | refine Adz (Aez (Cvz _ _ _ _ ?_ ?_ ?_)) ?_ | refine Abz (Aez (Cvz _ _ _ _ ?_ ?_ ?_)) ⟨_,_,rfl,rfl⟩ ?_); (iterate 3 (exact sd)); rintro _ _ ⟨rfl,rfl⟩) | ((first | refine Adz (Aez (Bvz _ _ _ _ ?_ ?_ ?_)) ?_ | refine Abz (Aez (Bvz _ _ _ _ ?_ ?_ ?_)) ⟨_,_,rfl,rfl⟩ ?_); (iterate 3 (exact sd)); rintro _ _ ⟨rfl,rfl⟩) | ((first | refine Adz (Aez (Gaz _ _ ?_ ?_)) ?_ | refine Abz (Aez (Gaz _ _ ?_ ?_)) ⟨_,_,rfl,rfl⟩ ?_); (iterate 2 (exact sd)); rintro _ _ ⟨rfl,rfl⟩) | ((first | refine Adz (Aez (Etz _ _ _ _ _ ?_ ?_ ?_)) ?_ | refine Abz (Aez (Etz _ _ _ _ _ ?_ ?_ ?_)) ⟨_,_,rfl,rfl⟩ ?_); (iterate 3 (exact sd)); rintro _ _ ⟨rfl,rfl⟩) | ((first | refine Adz (Aez (Gcz _ _ _ _ _ ?_ ?_ ?_)) ?_ | refine Abz (Aez (Gcz _ _ _ _ _ ?_ ?_ ?_)) ⟨_,_,rfl,rfl⟩ ?_); (iterate 3 (exact sd)); rintro _ _ ⟨rfl,rfl⟩)) <;> (try simp (disch := omega) only [push_cast,seval,Aaz,hg,Bjz,ho2,A4z]))))
          all_goals ((refine Anz ⟨.inr rfl,_,rfl,?_⟩;try simp (disch:=omega) only [push_cast,seval]))
          all_goals (try rfl)
        | succ k =>
          have hk:k < O.length:=hi
          have hx:O.take (k + 1)=O.take k ++ [O.getD k 0]:=by
            rw [List.take_succ_eq_append_getElem hk,List.getD_eq_getElem?_getD,List.getElem?_eq_getElem hk,Option.getD_some]
          rw [hx] at ho
          obtain ⟨hg,hrest⟩:=rel_last hv ho
          have hc:((k:Nat):Int) + 1 - 1=k:=by omega
          (repeat' (first
 | (first|refine Apz ?_|refine Aiz ?_)
 | ((first|refine Aqz ?_|refine A5z (mid:=l5r10a) (post:=l5r10b) [112,1000000007,2000000112] Axz (by decide) ?_|refine Ahz ?_|refine Ajz ?_|refine Akz ?_);simp (disch:=omega) only [push_cast,seval,l5r0,l5r1,l5r2,l5r3,l5r4,l5r5,l5r6,l5r7,l5r8,l5r9,l5r10a,l5r10b,l5r10,l5r11,l5r12,l5r13,l5r14,l5r15,l5r16,Aaz,hg,Bjz,A4z,hc,Int.toNat_natCast])
 | ((first|refine Acz ?_ ?_|refine Agz ?_ ?_|refine Afz ?_ ?_)<;>intro h<;>(try simp only [h])<;>(try simp only [bitvec_to_nat] at h)<;>(try simp only [h])<;>(first|(exfalso;omega)|(exfalso;simp_all;done)|(simp (disch:=omega) only [push_cast,seval,Aaz,hg,Bjz,A4z,hc,Int.toNat_natCast])|skip))
 | ((first|((with_reducible refine Arz (f:=17) true ?_);simp (disch:=omega) only [push_cast,seval,Aaz,hg,Bjz,A4z,hc,Int.toNat_natCast];(refine Adz (Aez (D2z _ _ ?_ ?_)) ?_;(iterate 2 (exact sd));rintro _ _ ⟨⟨cs,es,⟨hs1,hs2,hs3,hs4,hs5⟩,hol,rfl⟩,rfl⟩))|((with_reducible refine Amz (f:=17) true ?_);simp (disch:=omega) only [push_cast,seval,Aaz,hg,Bjz,A4z,hc,Int.toNat_natCast];(refine Abz (Aez (D2z _ _ ?_ ?_)) ⟨_,_,rfl,rfl⟩ ?_;(iterate 2 (exact sd));rintro _ _ ⟨⟨cs,es,⟨hs1,hs2,hs3,hs4,hs5⟩,hol,rfl⟩,rfl⟩))|((with_reducible refine Arz (f:=19) false ?_);simp (disch:=omega) only [push_cast,seval,Aaz,hg,Bjz,A4z,hc,Int.toNat_natCast];(refine Gjz (Jpz _ _ _ _ _ ?_ ?_ ?_) (by (simp (disch:=omega) only [push_cast,seval,Aaz,hg,Bjz,A4z,hc,Int.toNat_natCast]);done) ?_;(iterate 3 (exact sd))))|((with_reducible refine Arz (f:=20) false ?_);simp (disch:=omega) only [push_cast,seval,Aaz,hg,Bjz,A4z,hc,Int.toNat_natCast];(refine Gjz (iRz_ok _ _ _ _ _ ?_ ?_ ?_) (by (simp (disch:=omega) only [push_cast,seval,Aaz,hg,Bjz,A4z,hc,Int.toNat_natCast]);done) ?_;(iterate 3 (exact sd)))))<;>(try simp (disch:=omega) only [push_cast,seval,Aaz,hg,Bjz,A4z,hc,Int.toNat_natCast]))
 | ((first|refine Arz false ?_|refine Amz false ?_);simp (disch:=omega) only [push_cast,seval,Aaz,hg,Bjz,A4z,hc,Int.toNat_natCast])
 | ((first | ((first | refine Adz (Euz _ _ _ _ ?_ ?_ ?_) ?_ | refine Abz (Euz _ _ _ _ ?_ ?_ ?_) ⟨_,_,rfl,rfl⟩ ?_); (iterate 3 (exact sd)); rintro _ _ ⟨rfl,rfl⟩) | ((first | refine Adz (B5z _ _ _ _ ?_ ?_ ?_) ?_ | refine Abz (B5z _ _ _ _ ?_ ?_ ?_) ⟨_,_,rfl,rfl⟩ ?_); (iterate 3 (exact sd)); rintro _ _ ⟨rfl,rfl⟩) | ((first | refine Adz (Aez (Cvz _ _ _ _ ?_ ?_ ?_)) ?_ | refine Abz (Aez (Cvz _ _ _ _ ?_ ?_ ?_)) ⟨_,_,rfl,rfl⟩ ?_); (iterate 3 (exact sd)); rintro _ _ ⟨rfl,rfl⟩) | ((first | refine Adz (Aez (Bvz _ _ _ _ ?_ ?_ ?_)) ?_ | refine Abz (Aez (Bvz _ _ _ _ ?_ ?_ ?_)) ⟨_,_,rfl,rfl⟩ ?_); (iterate 3 (exact sd)); rintro _ _ ⟨rfl,rfl⟩) | ((first | refine Adz (Aez (Gaz _ _ ?_ ?_)) ?_ | refine Abz (Aez (Gaz _ _ ?_ ?_)) ⟨_,_,rfl,rfl⟩ ?_); (iterate 2 (exact sd)); rintro _ _ ⟨rfl,rfl⟩) | ((first | refine Adz (Aez (Etz _ _ _ _ _ ?_ ?_ ?_)) ?_ | refine Abz (Aez (Etz _ _ _ _ _ ?_ ?_ ?_)) ⟨_,_,rfl,rfl⟩ ?_); (iterate 3 (exact sd)); rintro _ _ ⟨rfl,rfl⟩) | ((first | refine Adz (Aez (Gcz _ _ _ _ _ ?_ ?_ ?_)) ?_ | refine Abz (Aez (Gcz _ _ _ _ _ ?_ ?_ ?_)) ⟨_,_,rfl,rfl⟩ ?_); (iterate 3 (exact sd)); rintro _ _ ⟨rfl,rfl⟩)) <;> (try simp (disch := omega) only [push_cast,seval,Aaz,hg,Bjz,A4z,hc,Int.toNat_natCast]))))
          refine ⟨(true,relE es' (O.getD k 0).toNat,k),⟨by show k ≤ _;omega,vB_relG hg,by show (relE es' _).length=_;rw [A4z];exact hl,hrest⟩,Nat.lt_succ_self k,SubW.of ?_⟩
          (refine Sub.of_lists ?_ ?_ ?_ ?_ ?_<;>simp [Vw.mkS,Vw.lk,Vw.hk,AV.inn,innL,Awz,Atz,Ayz,-List.map_set,-List.getD_eq_getElem?_getD,Aaz,A4z,hc,Int.toNat_natCast])
  · (repeat' (first
 | (first|refine Apz ?_|refine Aiz ?_)
 | ((first|refine Aqz ?_|refine A5z (mid:=l5r10a) (post:=l5r10b) [112,1000000007,2000000112] Axz (by decide) ?_|refine Ahz ?_|refine Ajz ?_|refine Akz ?_);simp (disch:=omega) only [push_cast,seval,l5r0,l5r1,l5r2,l5r3,l5r4,l5r5,l5r6,l5r7,l5r8,l5r9,l5r10a,l5r10b,l5r10,l5r11,l5r12,l5r13,l5r14,l5r15,l5r16,Aaz])
 | ((first|refine Acz ?_ ?_|refine Agz ?_ ?_|refine Afz ?_ ?_)<;>intro h<;>(try simp only [h])<;>(try simp only [bitvec_to_nat] at h)<;>(try simp only [h])<;>(first|(exfalso;omega)|(exfalso;simp_all;done)|(simp (disch:=omega) only [push_cast,seval,Aaz])|skip))
 | ((first|((with_reducible refine Arz (f:=17) true ?_);simp (disch:=omega) only [push_cast,seval,Aaz];(refine Adz (Aez (D2z _ _ ?_ ?_)) ?_;(iterate 2 (exact sd));rintro _ _ ⟨⟨cs,es,⟨hs1,hs2,hs3,hs4,hs5⟩,hol,rfl⟩,rfl⟩))|((with_reducible refine Amz (f:=17) true ?_);simp (disch:=omega) only [push_cast,seval,Aaz];(refine Abz (Aez (D2z _ _ ?_ ?_)) ⟨_,_,rfl,rfl⟩ ?_;(iterate 2 (exact sd));rintro _ _ ⟨⟨cs,es,⟨hs1,hs2,hs3,hs4,hs5⟩,hol,rfl⟩,rfl⟩))|((with_reducible refine Arz (f:=19) false ?_);simp (disch:=omega) only [push_cast,seval,Aaz];(refine Gjz (Jpz _ _ _ _ _ ?_ ?_ ?_) (by (simp (disch:=omega) only [push_cast,seval,Aaz]);done) ?_;(iterate 3 (exact sd))))|((with_reducible refine Arz (f:=20) false ?_);simp (disch:=omega) only [push_cast,seval,Aaz];(refine Gjz (iRz_ok _ _ _ _ _ ?_ ?_ ?_) (by (simp (disch:=omega) only [push_cast,seval,Aaz]);done) ?_;(iterate 3 (exact sd)))))<;>(try simp (disch:=omega) only [push_cast,seval,Aaz]))
 | ((first|refine Arz false ?_|refine Amz false ?_);simp (disch:=omega) only [push_cast,seval,Aaz])
 | ((first|((first|refine Adz (Euz _ _ _ _ ?_ ?_ ?_) ?_|refine Abz (Euz _ _ _ _ ?_ ?_ ?_) ⟨_,_,rfl,rfl⟩ ?_);(iterate 3 (exact sd));rintro _ _ ⟨rfl,rfl⟩)|((first|refine Adz (B5z _ _ _ _ ?_ ?_ ?_) ?_|refine Abz (B5z _ _ _ _ ?_ ?_ ?_) ⟨_,_,rfl,rfl⟩ ?_);(iterate 3 (exact sd));rintro _ _ ⟨rfl,rfl⟩)|((first|refine Adz (Aez (Cvz _ _ _ _ ?_ ?_ ?_)) ?_|refine Abz (Aez (Cvz _ _ _ _ ?_ ?_ ?_)) ⟨_,_,rfl,rfl⟩ ?_);(iterate 3 (exact sd));rintro _ _ ⟨rfl,rfl⟩)|((first|refine Adz (Aez (Bvz _ _ _ _ ?_ ?_ ?_)) ?_|refine Abz (Aez (Bvz _ _ _ _ ?_ ?_ ?_)) ⟨_,_,rfl,rfl⟩ ?_);(iterate 3 (exact sd));rintro _ _ ⟨rfl,rfl⟩)|((first|refine Adz (Aez (Gaz _ _ ?_ ?_)) ?_|refine Abz (Aez (Gaz _ _ ?_ ?_)) ⟨_,_,rfl,rfl⟩ ?_);(iterate 2 (exact sd));rintro _ _ ⟨rfl,rfl⟩)|((first|refine Adz (Aez (Etz _ _ _ _ _ ?_ ?_ ?_)) ?_|refine Abz (Aez (Etz _ _ _ _ _ ?_ ?_ ?_)) ⟨_,_,rfl,rfl⟩ ?_);(iterate 3 (exact sd));rintro _ _ ⟨rfl,rfl⟩)|((first|refine Adz (Aez (Gcz _ _ _ _ _ ?_ ?_ ?_)) ?_|refine Abz (Aez (Gcz _ _ _ _ _ ?_ ?_ ?_)) ⟨_,_,rfl,rfl⟩ ?_);(iterate 3 (exact sd));rintro _ _ ⟨rfl,rfl⟩))<;>(try simp (disch:=omega) only [push_cast,seval,Aaz]))
 | (refine Anz ⟨.inr rfl,_,rfl,?_⟩;(try simp (disch:=omega) only [push_cast,seval,Aaz]))))

end Go.Proofs.YtkpcjppnjmhanaaDoor
namespace Go.Proofs.YtkpcjppnjmhanaaDoor
open VwM Vw Go
variable [SentA]

abbrev rbQ (cs:List Int) (es:List Ex) (s:Int):Prop:=((ifB (rzG cs es s) (zz cs s.toNat)).length ≤ 1099511627776 ∧ (ifB (rzG cs es s) es).length ≤ 1099511627776 ∧ exB 1099511627776 (ifB (rzG cs es s) es)) ∧ (opensA cs es).length ≤ es.length ∧ -1000 ≤ s ∧ s ≤ 1000
end Go.Proofs.YtkpcjppnjmhanaaDoor
