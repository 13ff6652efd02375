/- Texts of this verifier. -/
import Derived.Test.YtkpcjppnjmhanaaGreatDoorCB9
import Derived.Test.YtkpcjppnjmhanaaGreatDoorCM1
import Derived.Test.YtkpcjppnjmhanaaGreatDoorCW3
set_option maxHeartbeats 4000000
set_option linter.unusedSimpArgs false
set_option linter.unusedSectionVars false
set_option linter.unusedVariables false
set_option maxRecDepth 4000
namespace Go.Proofs.YtkpcjppnjmhanaaGreatDoor
open VwM Vw Go
variable [SentA]

abbrev ldQ (cs:List Int) (es:List Ex) (id:Int):Prop:=(-1000 ≤ id ∧ id ≤ 1000) ∧ (opensA cs es).length ≤ es.length ∧ (loadA cs es id).length ≤ 60
theorem opens_op {cs:List Int} {es:List Ex} {id:Int} (hv:vB cs es=true) (h:id ∈ opensA cs es):opA es id=true:=by
  unfold opensA at h
  rw [if_pos hv] at h
  have hr:=Ehz h
  obtain ⟨q,rfl⟩:∃ q:Nat,id=q:=⟨id.toNat,by omega⟩
  obtain ⟨e,he,ho⟩:=Gaz h
  unfold opA
  simp only [Int.toNat_natCast,he,ho,Bool.and_true,Bool.and_eq_true,decide_eq_true_eq]
  omega
theorem opA_of {es:List Ex} {q:Nat} {p b:Int} {x y:List Int} (h:q < es.length) (he:es[q]?=some (p,(b,x,y),true)):opA es q=true ∧ vwA es q=(b,x,y):=by
  constructor
  · unfold opA
    simp only [Int.toNat_natCast,he,Bool.and_true,Bool.and_eq_true,decide_eq_true_eq]
    omega
  · simp [vwA,List.getD,he]
theorem loadA_at {cs:List Int} {es:List Ex} {q:Nat} {p b:Int} {x y:List Int} (hv:vB cs es=true) (h:q < es.length) (he:es[q]?=some (p,(b,x,y),true)):loadA cs es q=takesL cs (offs b x y):=by
  obtain ⟨h1,h2⟩:=opA_of h he
  unfold loadA
  rw [hv,h1,h2];rfl


theorem drawLEB_ok (bs:List Int) (n:Nat) (hn:bs.length=n) (hb:n ≤ 1099511627776 ∧ ∀ x ∈ bs,0 ≤ x ∧ x ≤ 255):BCall Tryz.prog 17 [.rows false (UL bs) n] [] (fun r H'=>∃ cs es id,sbQ cs es ∧ (-1000 ≤ id ∧ id ≤ 1000) ∧ r=.tup [.agg [.own 0 cs.length 1,.own 1 es.length 5],.int .i64 id] ∧ H'=[IL cs,EL false es]):=by
  subst hn
  refine Auz (pins:=[]) (pin:=0) l17_eq rfl rfl rfl ?_
  (repeat' (first
 | (first|refine Ahz ?_|refine Abz ?_)
 | ((first|refine Aiz ?_);simp (disch:=omega) only [push_cast,seval,l17r0,l17r1,Aaz])
 | ((first|((with_reducible refine Alz (f:=41) true ?_);simp (disch:=omega) only [push_cast,seval,Aaz];(refine Akz (newReader_ok _ _ ?_ ?_) ?_;(iterate 2 (exact sd));rintro _ _ ⟨bs0,hbs0,rfl,rfl⟩))|((with_reducible refine A6z (f:=40) [80] true ?_);simp (disch:=omega) only [push_cast,seval,Aaz];(refine Haz (id:=80) (idOf_ok _ _ ?_ ?_) (by (simp (disch:=omega) only [push_cast,seval,Aaz])<;>rfl) ?_;(iterate 2 (exact sd));rintro _ _ ⟨csG,esG,idG,pG,hsG,hiG,hpG,rfl,rfl⟩)))<;>(try simp (disch:=omega) only [push_cast,seval,Aaz]))))
  all_goals ((refine Aez ⟨.inr rfl,[96,97],[],_,by decide,rfl,?_⟩;(try simp (disch:=omega) only [push_cast,seval,↓Adz,↓Acz,↓List.map_cons,↓List.map_nil,Aaz])))
  all_goals exact ⟨csG,esG,idG,sbQ_of hsG,hiG,rfl,rfl⟩
theorem drawLE_ok (bs:List Int) (n:Nat) (hn:bs.length=n) (hb:n ≤ 1099511627776 ∧ ∀ x ∈ bs,0 ≤ x ∧ x ≤ 255):PCall Tryz.prog 17 [.rows false (UL bs) n] (fun r=>∃ cs es id,sbQ cs es ∧ ldQ cs es id ∧ r=.tup [.agg [.rows true (IL cs) cs.length,.rows true (EL false es) es.length],.int .i64 id]):=by
  refine (BCall.plain (drawLEB_ok bs n hn hb)).mono ?_
  rintro r ⟨r0,H',⟨cs,es,id,h,hs,rfl,rfl⟩,rfl⟩
  refine ⟨cs,es,id,h,⟨hs,I5z cs es,loadA_len cs es id⟩,?_⟩
  simp [AV.ren,nthH,I2z,Axz]


theorem iLEP_ok (cs:List Int) (es:List Ex) (m n:Nat) (id:Int) (hm:cs.length=m) (hn:es.length=n) (hb:m ≤ 1099511627776 ∧ n ≤ 1099511627776 ∧ exB 1099511627776 es) :
    PCall Tryz.prog 16 [.agg [.rows false (IL cs) m,.rows false (EL false es) n],.int .i64 id] (fun r=>r=.rows true (IL (loadA cs es id)) (loadA cs es id).length):=by
  refine (BCall.plain (iLE_ok cs es m n id hm hn hb)).mono ?_
  rintro r ⟨r0,H',⟨rfl,rfl⟩,rfl⟩
  simp [AV.ren,nthH,List.map_map,Function.comp_def]


theorem sLEP_ok (cs:List Int) (es:List Ex) (m n:Nat) (id:Int) (hm:cs.length=m) (hn:es.length=n) (hb:m ≤ 1099511627776 ∧ n ≤ 1099511627776 ∧ exB 1099511627776 es) :
    PCall Tryz.prog 18 [.agg [.rows false (IL cs) m,.rows false (EL false es) n],.int .i64 id] (fun r=>r=.rows true (IL (loadA cs es id)) (loadA cs es id).length):=by
  refine (BCall.plain (sLE_ok cs es m n id hm hn hb)).mono ?_
  rintro r ⟨r0,H',⟨rfl,rfl⟩,rfl⟩
  simp [AV.ren,nthH,List.map_map,Function.comp_def]


theorem Jcz (mem:List Int) (b:Int) (sh st:List Int) (q n m:Nat) (hq:mem.length=q) (hn:sh.length=n) (hm:st.length=m) (hb:seeB mem b sh st=true ∧ q ≤ 1099511627776 ∧ n ≤ 1099511627776 ∧ m ≤ 1099511627776):PCall Tryz.prog 20 [.rows false (IL mem) q,.agg [.int .i64 b,.rows false (IL sh) n,.rows false (IL st) m]] (fun r=>r=.rows true (IL (takesL mem (offs b sh st))) (takesL mem (offs b sh st)).length):=by
  refine (BCall.plain (iLoadX_ok mem b sh st q n m hq hn hm hb)).mono ?_
  rintro r ⟨r0,H',⟨rfl,rfl⟩,rfl⟩
  simp [AV.ren,nthH,List.map_map,Function.comp_def]


set_option maxHeartbeats 32000000 in
theorem lLEf_ok (bs:List Int) (hn:bs.length ≤ 9223372036854775807) (hb:∀ x ∈ bs,0 ≤ x ∧ x ≤ 255):PCall Tryz.prog 4 [.rows false (UL bs) bs.length] (fun r=>r=.bool true):=by
  refine Avz l4_eq rfl ?_
  by_cases h:bs.length ≤ 1048576
  · have q:bs.length ≤ 1099511627776 ∧ ∀ x ∈ bs,0 ≤ x ∧ x ≤ 255:=⟨by omega,hb⟩
    (repeat' (first
 | (first|refine Ahz ?_|refine Abz ?_)
 | ((first|refine Aiz ?_|refine Awz (mid:=l4r7a) (post:=l4r7b) Bgz (by decide) ?_|refine Afz ?_|refine Aoz ?_);simp (disch:=omega) only [push_cast,seval,l4r0,l4r1,l4r2,l4r3,l4r4,l4r5,l4r6,l4r7a,l4r7b,l4r7,Aaz,bne_self_eq_false,decide_true])
 | ((first|refine Amz (fun h=>?_) (fun h=>?_)|refine Bbz (fun h=>?_) (fun h=>?_))<;>(try simp only [h])<;>(try simp only [bitvec_to_nat] at h)<;>(try simp only [h])<;>(first|(exfalso;omega)|(exfalso;simp_all;done)|(simp (disch:=omega) only [push_cast,seval,Aaz,bne_self_eq_false,decide_true])|skip))
 | ((first|((with_reducible refine Alz (f:=17) true ?_);simp (disch:=omega) only [push_cast,seval,Aaz,bne_self_eq_false,decide_true];(refine Akz (Ajz (drawLE_ok _ _ ?_ ?_)) ?_;(iterate 2 (exact sd));rintro _ _ ⟨⟨cs,es,id,⟨hs1,hs2,hs3,hs4,hs5⟩,⟨hk1,hol,hq1⟩,rfl⟩,rfl⟩)))<;>(try simp (disch:=omega) only [push_cast,seval,Aaz,bne_self_eq_false,decide_true]))
 | ((first|refine Alz false ?_);simp (disch:=omega) only [push_cast,seval,Aaz,bne_self_eq_false,decide_true])
 | ((first|((first|refine Akz (Ajz (iLEP_ok _ _ _ _ _ ?_ ?_ ?_)) ?_|refine Agz (Ajz (iLEP_ok _ _ _ _ _ ?_ ?_ ?_)) ⟨_,_,rfl,rfl⟩ ?_);(iterate 3 (exact sd));rintro _ _ ⟨rfl,rfl⟩)|((first|refine Akz (Ajz (sLEP_ok _ _ _ _ _ ?_ ?_ ?_)) ?_|refine Agz (Ajz (sLEP_ok _ _ _ _ _ ?_ ?_ ?_)) ⟨_,_,rfl,rfl⟩ ?_);(iterate 3 (exact sd));rintro _ _ ⟨rfl,rfl⟩)|((first|refine Akz (Ajz (Dfz _ _ _ _ ?_ ?_ ?_)) ?_|refine Agz (Ajz (Dfz _ _ _ _ ?_ ?_ ?_)) ⟨_,_,rfl,rfl⟩ ?_);(iterate 3 (exact sd));rintro _ _ ⟨rfl,rfl⟩)|((first|refine Akz (Ajz (Czz _ _ _ _ ?_ ?_ ?_)) ?_|refine Agz (Ajz (Czz _ _ _ _ ?_ ?_ ?_)) ⟨_,_,rfl,rfl⟩ ?_);(iterate 3 (exact sd));rintro _ _ ⟨rfl,rfl⟩)|((first|refine Akz (Ajz (iOpenP_ok _ _ _ _ ?_ ?_ ?_)) ?_|refine Agz (Ajz (iOpenP_ok _ _ _ _ ?_ ?_ ?_)) ⟨_,_,rfl,rfl⟩ ?_);(iterate 3 (exact sd));rintro _ _ ⟨rfl,rfl⟩)|((first|refine Akz (Ajz (isInL_ok _ _ _ ?_ ?_)) ?_|refine Agz (Ajz (isInL_ok _ _ _ ?_ ?_)) ⟨_,_,rfl,rfl⟩ ?_);(iterate 2 (exact sd));rintro _ _ ⟨rfl,rfl⟩))<;>(try simp (disch:=omega) only [push_cast,seval,Aaz,bne_self_eq_false,decide_true]))))
    · (refine Aez ⟨.inr rfl,_,rfl,?_⟩;try simp (disch:=omega) only [push_cast,seval])
      all_goals (try simp)
    · have hv:vB cs es=true:=by assumption
      have hop:=opens_op hv (by assumption)
      obtain ⟨q,p,b,xx,y,rfl,hq,he,hvw⟩:=D9z hop
      have hel:=Axz false es
      have hil:q * 5 + 5 ≤ es.length * 5:=by omega
      have h3:=Hkz he
      have hl1:=loadA_at hv hq he
      have hsee:=Fyz hv he
      have hxy:=D5z hs1.2.2 he
      have q9:seeB cs b xx y=true ∧ cs.length ≤ 1099511627776 ∧ xx.length ≤ 1099511627776 ∧ y.length ≤ 1099511627776:=⟨hsee,hs1.1,hxy⟩
      have htl:=takesL_length cs (offs b xx y)
      have ha:=(see_prX hsee).1
      have hd:decide (loadA cs es (q:Int)=takesL cs (offs b xx y))=true:=decide_eq_true hl1
      have q5:(loadA cs es (q:Int)).length ≤ 1099511627776 ∧ (takesL cs (offs b xx y)).length ≤ 1099511627776:=by omega
      generalize hT:takesL cs (offs b xx y)=T at *
      generalize hLo:loadA cs es (q:Int)=L at *
      simp (disch:=omega) only [push_cast,seval,Aaz,hel,hil,h3,hd,hT,Int.toNat_natCast]
      (repeat' (first
 | (first|refine Ahz ?_|refine Abz ?_)
 | ((first|refine Alz false ?_|refine Azz false ?_);simp (disch:=omega) only [push_cast,seval,Aaz,hel,hil,h3,hd,hT])
 | ((first|((first|refine Akz (Ajz (Dfz _ _ _ _ ?_ ?_ ?_)) ?_|refine Agz (Ajz (Dfz _ _ _ _ ?_ ?_ ?_)) ⟨_,_,rfl,rfl⟩ ?_);(iterate 3 (exact sd));rintro _ _ ⟨rfl,rfl⟩)|((first|refine Akz (Ajz (Jcz _ _ _ _ _ _ _ ?_ ?_ ?_ ?_)) ?_|refine Agz (Ajz (Jcz _ _ _ _ _ _ _ ?_ ?_ ?_ ?_)) ⟨_,_,rfl,rfl⟩ ?_);(iterate 4 (exact sd));rintro _ _ ⟨rfl,rfl⟩))<;>(try simp (disch:=omega) only [push_cast,seval,Aaz,hel,hil,h3,hd,hT]))))
      all_goals (first|((refine Aez ⟨.inr rfl,_,rfl,?_⟩;try simp (disch:=omega) only [push_cast,seval]))|skip)
      all_goals (try rfl)
    all_goals ((refine Aez ⟨.inr rfl,_,rfl,?_⟩;try simp (disch:=omega) only [push_cast,seval]))
    all_goals (try simp)
  · (repeat' (first
 | (first|refine Ahz ?_|refine Abz ?_)
 | ((first|refine Aiz ?_|refine Afz ?_);simp (disch:=omega) only [push_cast,seval,l4r0,l4r1,l4r2,l4r3,l4r4,l4r5,l4r6,l4r7a,l4r7b,l4r7,Aaz])
 | ((first|refine Amz (fun h=>?_) (fun h=>?_))<;>(try simp only [h])<;>(try simp only [bitvec_to_nat] at h)<;>(try simp only [h])<;>(first|(exfalso;omega)|(exfalso;simp_all;done)|(simp (disch:=omega) only [push_cast,seval,Aaz])|skip))
 | (refine Aez ⟨.inr rfl,_,rfl,?_⟩;(try simp (disch:=omega) only [push_cast,seval,Aaz]))))

end Go.Proofs.YtkpcjppnjmhanaaGreatDoor
namespace Go.Proofs.YtkpcjppnjmhanaaGreatDoor
open VwM Vw Go
variable [SentA]

end Go.Proofs.YtkpcjppnjmhanaaGreatDoor
namespace Go.Proofs.YtkpcjppnjmhanaaGreatDoor
open VwM Vw Go
variable [SentA]

end Go.Proofs.YtkpcjppnjmhanaaGreatDoor
namespace Go.Proofs.YtkpcjppnjmhanaaGreatDoor
open VwM Vw Go
variable [SentA]

end Go.Proofs.YtkpcjppnjmhanaaGreatDoor
namespace Go.Proofs.YtkpcjppnjmhanaaGreatDoor
open VwM Vw Go
variable [SentA]

end Go.Proofs.YtkpcjppnjmhanaaGreatDoor
