/- Texts of this verifier. -/
import Derived.Test.YtkpcjppnjmhanaaGreatDoorCB5
import Derived.Test.YtkpcjppnjmhanaaGreatDoorCM1
import Derived.Test.YtkpcjppnjmhanaaGreatDoorCW3
set_option maxHeartbeats 4000000
set_option linter.unusedSimpArgs false
set_option linter.unusedSectionVars false
set_option linter.unusedVariables false
set_option maxRecDepth 4000
namespace Go.Proofs.YtkpcjppnjmhanaaGreatDoor
open VwM Vw Go
variable [SentA]





set_option maxHeartbeats 8000000 in
theorem E1z (cs:List Int) (es:List Ex) (m n:Nat) (hm:cs.length=m) (hn:es.length=n) (hb:m ≤ 1099511627776 ∧ n ≤ 1099511627776 ∧ exB 1099511627776 es) :
    BCall Tryz.prog 160 [.agg [.rows false (IL cs) m,.rows false (EL false es) n]] [] (OI (opensA cs es)):=by
  subst hm hn
  have hb0:=hb
  obtain ⟨hb1,hb2,hb3⟩:=hb
  have hel:=Ayz false es
  refine Awz (pins:=[]) (pin:=0) l160_eq rfl rfl rfl ?_
  unfold opensA
  cases hv:vB cs es with
  | false =>
    (repeat' (first
 | (first|refine Ahz ?_|refine Abz ?_)
 | ((first|refine Aiz ?_|refine Adz ?_);simp (disch:=omega) only [push_cast,seval,l160r0,l160r1,l160r2,l160r3,l160r4,l160r5,l160r6,l160r7,l160r8,l160r9,hv,hel,Aaz])
 | ((first|refine Alz false ?_);simp (disch:=omega) only [push_cast,seval,hv,hel,Aaz])
 | ((first|((first|refine Akz (Ajz (A0z _ _ _ _ ?_ ?_ ?_)) ?_|refine Afz (Ajz (A0z _ _ _ _ ?_ ?_ ?_)) ⟨_,_,rfl,rfl⟩ ?_);(iterate 3 (exact sd));rintro _ _ ⟨rfl,rfl⟩))<;>(try simp (disch:=omega) only [push_cast,seval,hv,hel,Aaz]))
 | (refine Aez ⟨.inr rfl,[16000],[(16000,1)],_,by decide,rfl,?_⟩;(try simp (disch:=omega) only [push_cast,seval,↓Agz,↓Acz,↓List.map_cons,↓List.map_nil,hv,hel,Aaz]))))
    all_goals simp [OI]
  | true =>
    obtain ⟨v1,v2,v3⟩:=vB_8 hv
    (repeat' (first
 | (first|refine Ahz ?_|refine Abz ?_)
 | ((first|refine Aiz ?_|refine Adz ?_|refine Aoz ?_);simp (disch:=omega) only [push_cast,seval,l160r0,l160r1,l160r2,l160r3,l160r4,l160r5,l160r6,l160r7,l160r8,l160r9,hv,hel,Aaz])
 | ((first|refine Alz false ?_);simp (disch:=omega) only [push_cast,seval,hv,hel,Aaz])
 | ((first|((first|refine Akz (Ajz (A0z _ _ _ _ ?_ ?_ ?_)) ?_|refine Afz (Ajz (A0z _ _ _ _ ?_ ?_ ?_)) ⟨_,_,rfl,rfl⟩ ?_);(iterate 3 (exact sd));rintro _ _ ⟨rfl,rfl⟩))<;>(try simp (disch:=omega) only [push_cast,seval,hv,hel,Aaz]))
 | (refine Aez ⟨.inr rfl,[128],[],_,by decide,rfl,?_⟩;(try simp (disch:=omega) only [push_cast,seval,↓Agz,↓Acz,↓List.map_cons,↓List.map_nil,hv,hel,Aaz]))))
    refine Bez (fun i:Nat=>mkS [(1,.ref 16 2 0),(3,.own 128 (opensT es i).length 1),(4,.int .i64 i)] [(16,[.rows false (IL cs) cs.length,.rows false (EL false es) es.length]),(128,IL (opensT es i))]) (fun i=>i ≤ es.length) (fun i=>es.length - i) 0 (Nat.zero_le _) ?_ ?_
    · have e0:opensT es 0=[]:=rfl
      (refine Sub.of_lists ?_ ?_ ?_ ?_ ?_<;>simp [Vw.mkS,Vw.lk,Vw.hk,AV.inn,innL,Apz,Anz,Arz,-List.map_set,-List.getD_eq_getElem?_getD,Aaz,e0])
    · intro i hi
      by_cases hlt:i < es.length
      · obtain ⟨p,b,x,y,o,he⟩:=Clz hlt
        have hd:=B5z false es i he
        simp only at hd
        have hd4:((EL false es).drop (i * 5 + 4)).take 1=[.bool o]:=by have:=congrArg (fun l=>(l.drop 4).take 1) hd;simpa [List.drop_take,List.take_take] using this
        have hil:i * 5 + 5 ≤ es.length * 5:=by omega
        have hkl:=D0z es i
        cases o with
        | false =>
          have e1:=Cgz he (by simp)
          (repeat' (first
 | (first|refine Ahz ?_|refine Abz ?_)
 | ((first|refine Aiz ?_|refine Adz ?_|refine Aoz ?_);simp (disch:=omega) only [push_cast,seval,l160r0,l160r1,l160r2,l160r3,l160r4,l160r5,l160r6,l160r7,l160r8,l160r9,hd4,hel,hil,Aaz])
 | ((first|refine Amz (fun h=>?_) (fun h=>?_))<;>(try simp only [h])<;>(try simp only [bitvec_to_nat] at h)<;>(try simp only [h])<;>(first|(exfalso;omega)|(exfalso;simp_all;done)|(simp (disch:=omega) only [push_cast,seval,hd4,hel,hil,Aaz])|skip))
 | (refine Aez ⟨.inr rfl,[128],[],_,by decide,rfl,?_⟩; (try simp (disch := omega) only [push_cast,seval,↓Agz,↓Acz,↓List.map_cons,↓List.map_nil,hd4,hel,hil,Aaz]))))
          all_goals (refine ⟨i + 1,by omega,by omega,?_⟩;(refine Sub.of_lists ?_ ?_ ?_ ?_ ?_<;>simp [Vw.mkS,Vw.lk,Vw.hk,AV.inn,innL,Apz,Anz,Arz,-List.map_set,-List.getD_eq_getElem?_getD,Aaz,e1]))
        | true =>
          have e1:=Cez he rfl
          (repeat' (first
 | (first|refine Ahz ?_|refine Abz ?_)
 | ((first|refine Aiz ?_|refine Adz ?_|refine Aoz ?_);simp (disch:=omega) only [push_cast,seval,l160r0,l160r1,l160r2,l160r3,l160r4,l160r5,l160r6,l160r7,l160r8,l160r9,hd4,hel,hil,hkl,Aaz])
 | ((first|refine Amz (fun h=>?_) (fun h=>?_))<;>(try simp only [h])<;>(try simp only [bitvec_to_nat] at h)<;>(try simp only [h])<;>(first|(exfalso;omega)|(exfalso;simp_all;done)|(simp (disch:=omega) only [push_cast,seval,hd4,hel,hil,hkl,Aaz])|skip))
 | (refine Aez ⟨.inr rfl,[128],[],_,by decide,rfl,?_⟩; (try simp (disch := omega) only [push_cast,seval,↓Agz,↓Acz,↓List.map_cons,↓List.map_nil,hd4,hel,hil,hkl,Aaz]))))
          all_goals (refine ⟨i + 1,by omega,by omega,?_⟩;(refine Sub.of_lists ?_ ?_ ?_ ?_ ?_<;>simp [Vw.mkS,Vw.lk,Vw.hk,AV.inn,innL,Apz,Anz,Arz,-List.map_set,-List.getD_eq_getElem?_getD,Aaz,e1,List.length_append]))
      · have e:i=es.length:=by omega
        subst e
        (repeat' (first
 | (first|refine Ahz ?_|refine Abz ?_)
 | ((first|refine Aiz ?_|refine Adz ?_|refine A1z ?_);simp (disch:=omega) only [push_cast,seval,l160r0,l160r1,l160r2,l160r3,l160r4,l160r5,l160r6,l160r7,l160r8,l160r9,hel,Aaz])
 | ((first|refine Amz (fun h=>?_) (fun h=>?_))<;>(try simp only [h])<;>(try simp only [bitvec_to_nat] at h)<;>(try simp only [h])<;>(first|(exfalso;omega)|(exfalso;simp_all;done)|(simp (disch:=omega) only [push_cast,seval,hel,Aaz])|skip))
 | (refine Aez ⟨.inr rfl,[128],[],_,by decide,rfl,?_⟩;(try simp (disch:=omega) only [push_cast,seval,↓Agz,↓Acz,↓List.map_cons,↓List.map_nil,hel,Aaz]))))
        all_goals simp [OI]


set_option maxHeartbeats 8000000 in
theorem iOpen_ok (cs:List Int) (es:List Ex) (m n:Nat) (hm:cs.length=m) (hn:es.length=n) (hb:m ≤ 1099511627776 ∧ n ≤ 1099511627776 ∧ exB 1099511627776 es) :
    BCall Tryz.prog 14 [.agg [.rows false (IL cs) m,.rows false (EL false es) n]] [] (OI (opensA cs es)):=by
  subst hm hn
  have hb0:=hb
  obtain ⟨hb1,hb2,hb3⟩:=hb
  have hel:=Ayz false es
  refine Awz (pins:=[]) (pin:=0) l14_eq rfl rfl rfl ?_
  unfold opensA
  cases hv:vB cs es with
  | false =>
    (repeat' (first
 | (first|refine Ahz ?_|refine Abz ?_)
 | ((first|refine Aiz ?_|refine Adz ?_);simp (disch:=omega) only [push_cast,seval,l14r0,l14r1,l14r2,l14r3,l14r4,l14r5,l14r6,l14r7,l14r8,l14r9,l14r10,hv,hel,Aaz])
 | ((first|refine Alz false ?_);simp (disch:=omega) only [push_cast,seval,hv,hel,Aaz])
 | ((first|((first|refine Akz (Ajz (Drz _ _ _ _ ?_ ?_ ?_)) ?_|refine Afz (Ajz (Drz _ _ _ _ ?_ ?_ ?_)) ⟨_,_,rfl,rfl⟩ ?_);(iterate 3 (exact sd));rintro _ _ ⟨rfl,rfl⟩))<;>(try simp (disch:=omega) only [push_cast,seval,hv,hel,Aaz]))
 | (refine Aez ⟨.inr rfl,[16000],[(16000,1)],_,by decide,rfl,?_⟩;(try simp (disch:=omega) only [push_cast,seval,↓Agz,↓Acz,↓List.map_cons,↓List.map_nil,hv,hel,Aaz]))))
    all_goals simp [OI]
  | true =>
    obtain ⟨v1,v2,v3⟩:=vB_8 hv
    (repeat' (first
 | (first|refine Ahz ?_|refine Abz ?_)
 | ((first|refine Aiz ?_|refine Adz ?_|refine Aoz ?_);simp (disch:=omega) only [push_cast,seval,l14r0,l14r1,l14r2,l14r3,l14r4,l14r5,l14r6,l14r7,l14r8,l14r9,l14r10,hv,hel,Aaz])
 | ((first|refine Alz false ?_);simp (disch:=omega) only [push_cast,seval,hv,hel,Aaz])
 | ((first|((first|refine Akz (Ajz (Drz _ _ _ _ ?_ ?_ ?_)) ?_|refine Afz (Ajz (Drz _ _ _ _ ?_ ?_ ?_)) ⟨_,_,rfl,rfl⟩ ?_);(iterate 3 (exact sd));rintro _ _ ⟨rfl,rfl⟩))<;>(try simp (disch:=omega) only [push_cast,seval,hv,hel,Aaz]))
 | (refine Aez ⟨.inr rfl,[16000],[(16000,1)],_,by decide,rfl,?_⟩;(try simp (disch:=omega) only [push_cast,seval,↓Agz,↓Acz,↓List.map_cons,↓List.map_nil,hv,hel,Aaz]))))
    refine C6z (fun i:Nat=>mkS [(3,.own 16000 (opensT es i).length 1),(10,.rows false (EL false es) es.length),(11,.int .i64 es.length),(12,.int .i64 i)] [(16000,IL (opensT es i))]) (fun i=>i ≤ es.length) (fun i=>es.length - i) 0 (Nat.zero_le _) ?_ ?_
    · refine SubW.adopt [3] 16000 1 (by simp [Vw.hk]) (SubW.of ?_)
      simp only [adL,List.map_cons,List.map_nil,adA,List.contains_cons,List.contains_nil]
      have e0:opensT es 0=[]:=rfl
      (refine Sub.of_lists ?_ ?_ ?_ ?_ ?_<;>simp [Vw.mkS,Vw.lk,Vw.hk,AV.inn,innL,Apz,Anz,Arz,-List.map_set,-List.getD_eq_getElem?_getD,Aaz,e0])
    · intro i hi
      by_cases hlt:i < es.length
      · obtain ⟨p,b,x,y,o,he⟩:=Clz hlt
        have hd:=B5z false es i he
        simp only at hd
        have hil:i * 5 + 5 ≤ es.length * 5:=by omega
        have hkl:=D0z es i
        cases o with
        | false =>
          have e1:=Cgz he (by simp)
          (repeat' (first
 | (first|refine Ahz ?_|refine Abz ?_)
 | ((first|refine Aiz ?_|refine Adz ?_|refine Aoz ?_);simp (disch:=omega) only [push_cast,seval,l14r0,l14r1,l14r2,l14r3,l14r4,l14r5,l14r6,l14r7,l14r8,l14r9,l14r10,hd,hel,hil,Aaz])
 | ((first|refine Amz (fun h=>?_) (fun h=>?_))<;>(try simp only [h])<;>(try simp only [bitvec_to_nat] at h)<;>(try simp only [h])<;>(first|(exfalso;omega)|(exfalso;simp_all;done)|(simp (disch:=omega) only [push_cast,seval,hd,hel,hil,Aaz])|skip))
 | (refine Aez ⟨.inr rfl,[16000],[],_,by decide,rfl,?_⟩; (try simp (disch := omega) only [push_cast,seval,↓Agz,↓Acz,↓List.map_cons,↓List.map_nil,hd,hel,hil,Aaz]))))
          all_goals (refine ⟨i + 1,by omega,by omega,SubW.of ?_⟩;(refine Sub.of_lists ?_ ?_ ?_ ?_ ?_<;>simp [Vw.mkS,Vw.lk,Vw.hk,AV.inn,innL,Apz,Anz,Arz,-List.map_set,-List.getD_eq_getElem?_getD,Aaz,e1]))
        | true =>
          have e1:=Cez he rfl
          (repeat' (first
 | (first|refine Ahz ?_|refine Abz ?_)
 | ((first|refine Aiz ?_|refine Adz ?_|refine Aoz ?_);simp (disch:=omega) only [push_cast,seval,l14r0,l14r1,l14r2,l14r3,l14r4,l14r5,l14r6,l14r7,l14r8,l14r9,l14r10,hd,hel,hil,hkl,Aaz])
 | ((first|refine Amz (fun h=>?_) (fun h=>?_))<;>(try simp only [h])<;>(try simp only [bitvec_to_nat] at h)<;>(try simp only [h])<;>(first|(exfalso;omega)|(exfalso;simp_all;done)|(simp (disch:=omega) only [push_cast,seval,hd,hel,hil,hkl,Aaz])|skip))
 | (refine Aez ⟨.inr rfl,[16000],[],_,by decide,rfl,?_⟩; (try simp (disch := omega) only [push_cast,seval,↓Agz,↓Acz,↓List.map_cons,↓List.map_nil,hd,hel,hil,hkl,Aaz]))))
          all_goals (refine ⟨i + 1,by omega,by omega,SubW.of ?_⟩;(refine Sub.of_lists ?_ ?_ ?_ ?_ ?_<;>simp [Vw.mkS,Vw.lk,Vw.hk,AV.inn,innL,Apz,Anz,Arz,-List.map_set,-List.getD_eq_getElem?_getD,Aaz,e1,List.length_append]))
      · have e:i=es.length:=by omega
        subst e
        (repeat' (first
 | (first|refine Ahz ?_|refine Abz ?_)
 | ((first|refine Aiz ?_|refine Adz ?_|refine A1z ?_);simp (disch:=omega) only [push_cast,seval,l14r0,l14r1,l14r2,l14r3,l14r4,l14r5,l14r6,l14r7,l14r8,l14r9,l14r10,hel,Aaz])
 | ((first|refine Amz (fun h=>?_) (fun h=>?_))<;>(try simp only [h])<;>(try simp only [bitvec_to_nat] at h)<;>(try simp only [h])<;>(first|(exfalso;omega)|(exfalso;simp_all;done)|(simp (disch:=omega) only [push_cast,seval,hel,Aaz])|skip))
 | (refine Aez ⟨.inr rfl,[16000],[],_,by decide,rfl,?_⟩;(try simp (disch:=omega) only [push_cast,seval,↓Agz,↓Acz,↓List.map_cons,↓List.map_nil,hel,Aaz]))))
        all_goals simp [OI]

end Go.Proofs.YtkpcjppnjmhanaaGreatDoor
namespace Go.Proofs.YtkpcjppnjmhanaaGreatDoor
open VwM Vw Go
variable [SentA]

end Go.Proofs.YtkpcjppnjmhanaaGreatDoor
namespace Go.Proofs.YtkpcjppnjmhanaaGreatDoor
open VwM Vw Go
variable [SentA]

def opA (es:List Ex) (id:Int):Bool:=(decide (0 ≤ id) && decide (id ≤ (es.length:Int) - 1)) && (match es[id.toNat]? with|some e=>e.2.2|none=>false)
def vwA (es:List Ex) (id:Int):Vw3:=(es.getD id.toNat (0,(0,[],[]),false)).2.1
theorem Fnz {es:List Ex} {id:Int} (h:opA es id=true):∃ (q:Nat) (p b:Int) (x y:List Int),id=q ∧ q < es.length ∧ es[q]?=some (p,(b,x,y),true) ∧ vwA es id=(b,x,y):=by
  unfold opA at h
  simp only [Bool.and_eq_true,decide_eq_true_eq] at h
  obtain ⟨⟨h1,h2⟩,h3⟩:=h
  obtain ⟨q,rfl⟩:∃ q:Nat,id=q:=⟨id.toNat,by omega⟩
  obtain ⟨p,b,x,y,o,he⟩:=Clz (es:=es) (i:=q) (by omega)
  simp only [Int.toNat_natCast,he] at h3
  subst h3
  exact ⟨q,p,b,x,y,rfl,by omega,he,by simp [vwA,List.getD,he]⟩
theorem vB_see {cs:List Int} {es:List Ex} {q:Nat} {p b:Int} {x y:List Int} (h:vB cs es=true) (he:es[q]?=some (p,(b,x,y),true)):seeB cs b x y=true:=by
  unfold vB at h
  simp only [Bool.and_eq_true,decide_eq_true_eq] at h
  obtain ⟨⟨h1,h2⟩,h3⟩:=h
  have hi:q < es.length:=(List.getElem?_eq_some_iff.1 he).1
  have:=(Czz (f:=sxV cs.length es)).1 h3 q _ hi he
  unfold sxV exV at this
  simp only [Bool.and_eq_true,Bool.not_true,Bool.false_or] at this
  unfold seeB
  simp only [Bool.and_eq_true]
  exact ⟨⟨h1,this.1.1.2⟩,this.1.2⟩
theorem see_prX {mem:List Int} {b:Int} {sh st:List Int} (h:seeB mem b sh st=true):(offs b sh st).length ≤ 60 ∧ mem.length ≤ 60:=by
  obtain ⟨_,_,_,f4,f5,f6⟩:=Dyz h
  have:=Boz b sh st
  omega
set_option maxHeartbeats 8000000 in
theorem Bqz (cs:List Int) (es:List Ex) (m n:Nat) (id:Int) (hm:cs.length=m) (hn:es.length=n) (hb:m ≤ 1099511627776 ∧ n ≤ 1099511627776) :
    PCall Tryz.prog 48 [.agg [.rows false (IL cs) m,.rows false (EL false es) n],.int .i64 id] (fun r=>r=.bool (opA es id)):=by
  subst hm hn
  obtain ⟨hb1,hb2⟩:=hb
  have hel:=Ayz false es
  refine Avz l48_eq rfl ?_
  unfold opA
  by_cases hr:0 ≤ id ∧ id ≤ (es.length:Int) - 1
  · have hrd:(decide (0 ≤ id) && decide (id ≤ (es.length:Int) - 1))=true:=by rw [Bool.and_eq_true,decide_eq_true_eq,decide_eq_true_eq];exact hr
    rw [hrd]
    obtain ⟨q,rfl⟩:∃ q:Nat,id=q:=⟨id.toNat,by omega⟩
    obtain ⟨p,b,x,y,o,he⟩:=Clz (es:=es) (i:=q) (by omega)
    have hd:=B5z false es q he
    simp only at hd
    have hil:q * 5 + 5 ≤ es.length * 5:=by omega
    have h4:((EL false es).drop (q * 5 + 4)).take 1=[.bool o]:=by
      have:=congrArg (fun l=>(l.drop 4).take 1) hd
      simpa [List.drop_take,List.drop_drop,List.take_take] using this
    simp only [Int.toNat_natCast,he]
    (repeat' (first
 | (first|refine Ahz ?_|refine Abz ?_)
 | ((first|refine Aiz ?_);simp (disch:=omega) only [push_cast,seval,l48r0,l48r1,h4,hel,hil,hrd,Aaz])
 | ((first|refine Alz false ?_);simp (disch:=omega) only [push_cast,seval,h4,hel,hil,hrd,Aaz])
 | ((first|((first|refine Akz (Ajz (Asz _ _ _)) ?_|refine Afz (Ajz (Asz _ _ _)) ⟨_,_,rfl,rfl⟩ ?_);rintro _ _ ⟨rfl,rfl⟩))<;>(try simp (disch:=omega) only [push_cast,seval,h4,hel,hil,hrd,Aaz]))
 | (refine Aez ⟨.inr rfl,_,rfl,?_⟩;(try simp (disch:=omega) only [push_cast,seval,h4,hel,hil,hrd,Aaz]))))
    all_goals (try simp)
  · have hrd:(decide (0 ≤ id) && decide (id ≤ (es.length:Int) - 1))=false:=by rw [Bool.eq_false_iff];intro h;simp at h;omega
    rw [hrd]
    (repeat' (first
 | (first|refine Ahz ?_|refine Abz ?_)
 | ((first|refine Aiz ?_);simp (disch:=omega) only [push_cast,seval,l48r0,l48r1,hel,hrd,Aaz])
 | ((first|refine Alz false ?_);simp (disch:=omega) only [push_cast,seval,hel,hrd,Aaz])
 | ((first|((first|refine Akz (Ajz (Asz _ _ _)) ?_|refine Afz (Ajz (Asz _ _ _)) ⟨_,_,rfl,rfl⟩ ?_);rintro _ _ ⟨rfl,rfl⟩))<;>(try simp (disch:=omega) only [push_cast,seval,hel,hrd,Aaz]))
 | (refine Aez ⟨.inr rfl,_,rfl,?_⟩;(try simp (disch:=omega) only [push_cast,seval,hel,hrd,Aaz]))))
    all_goals (try simp)


set_option maxHeartbeats 8000000 in
theorem Hdz (cs:List Int) (es:List Ex) (m n:Nat) (id:Int) (hm:cs.length=m) (hn:es.length=n) (hb:m ≤ 1099511627776 ∧ n ≤ 1099511627776 ∧ exB 1099511627776 es) :
    PCall Tryz.prog 42 [.agg [.rows false (IL cs) m,.rows false (EL false es) n],.int .i64 id] (fun r=>r=.bool (vB cs es && opA es id)):=by
  subst hm hn
  have hb0:=hb
  obtain ⟨hb1,hb2,hb3⟩:=hb
  have hel:=Ayz false es
  refine Avz l42_eq rfl ?_
  cases hv:vB cs es with
  | false =>
    (repeat' (first
 | (first|refine Ahz ?_|refine Abz ?_)
 | ((first|refine Aiz ?_);simp (disch:=omega) only [push_cast,seval,l42r0,l42r1,hv,hel,Aaz])
 | ((first|refine Alz false ?_);simp (disch:=omega) only [push_cast,seval,hv,hel,Aaz])
 | ((first|((first|refine Akz (Ajz (Drz _ _ _ _ ?_ ?_ ?_)) ?_|refine Afz (Ajz (Drz _ _ _ _ ?_ ?_ ?_)) ⟨_,_,rfl,rfl⟩ ?_);(iterate 3 (exact sd));rintro _ _ ⟨rfl,rfl⟩))<;>(try simp (disch:=omega) only [push_cast,seval,hv,hel,Aaz]))
 | (refine Aez ⟨.inr rfl,_,rfl,?_⟩;(try simp (disch:=omega) only [push_cast,seval,hv,hel,Aaz]))))
    all_goals (try simp)
  | true =>
    unfold opA
    by_cases hr:0 ≤ id ∧ id ≤ (es.length:Int) - 1
    · have hrd:(decide (0 ≤ id) && decide (id ≤ (es.length:Int) - 1))=true:=by rw [Bool.and_eq_true,decide_eq_true_eq,decide_eq_true_eq];exact hr
      rw [hrd]
      obtain ⟨q,rfl⟩:∃ q:Nat,id=q:=⟨id.toNat,by omega⟩
      obtain ⟨p,b,x,y,o,he⟩:=Clz (es:=es) (i:=q) (by omega)
      have hd:=B5z false es q he
      simp only at hd
      have hil:q * 5 + 5 ≤ es.length * 5:=by omega
      have h4:((EL false es).drop (q * 5 + 4)).take 1=[.bool o]:=by
        have:=congrArg (fun l=>(l.drop 4).take 1) hd
        simpa [List.drop_take,List.drop_drop,List.take_take] using this
      simp only [Int.toNat_natCast,he]
      (repeat' (first
 | (first|refine Ahz ?_|refine Abz ?_)
 | ((first|refine Aiz ?_);simp (disch:=omega) only [push_cast,seval,l42r0,l42r1,hv,h4,hel,hil,hrd,Aaz])
 | ((first|refine Alz false ?_);simp (disch:=omega) only [push_cast,seval,hv,h4,hel,hil,hrd,Aaz])
 | ((first|((first|refine Akz (Ajz (Drz _ _ _ _ ?_ ?_ ?_)) ?_|refine Afz (Ajz (Drz _ _ _ _ ?_ ?_ ?_)) ⟨_,_,rfl,rfl⟩ ?_);(iterate 3 (exact sd));rintro _ _ ⟨rfl,rfl⟩)|((first|refine Akz (Ajz (B7z _ _)) ?_|refine Afz (Ajz (B7z _ _)) ⟨_,_,rfl,rfl⟩ ?_);rintro _ _ ⟨rfl,rfl⟩))<;>(try simp (disch:=omega) only [push_cast,seval,hv,h4,hel,hil,hrd,Aaz]))
 | (refine Aez ⟨.inr rfl,_,rfl,?_⟩;(try simp (disch:=omega) only [push_cast,seval,hv,h4,hel,hil,hrd,Aaz]))))
      all_goals (try simp)
    · have hrd:(decide (0 ≤ id) && decide (id ≤ (es.length:Int) - 1))=false:=by rw [Bool.eq_false_iff];intro h;simp at h;omega
      rw [hrd]
      (repeat' (first
 | (first|refine Ahz ?_|refine Abz ?_)
 | ((first|refine Aiz ?_);simp (disch:=omega) only [push_cast,seval,l42r0,l42r1,hv,hel,hrd,Aaz])
 | ((first|refine Alz false ?_);simp (disch:=omega) only [push_cast,seval,hv,hel,hrd,Aaz])
 | ((first|((first|refine Akz (Ajz (Drz _ _ _ _ ?_ ?_ ?_)) ?_|refine Afz (Ajz (Drz _ _ _ _ ?_ ?_ ?_)) ⟨_,_,rfl,rfl⟩ ?_);(iterate 3 (exact sd));rintro _ _ ⟨rfl,rfl⟩)|((first|refine Akz (Ajz (B7z _ _)) ?_|refine Afz (Ajz (B7z _ _)) ⟨_,_,rfl,rfl⟩ ?_);rintro _ _ ⟨rfl,rfl⟩))<;>(try simp (disch:=omega) only [push_cast,seval,hv,hel,hrd,Aaz]))
 | (refine Aez ⟨.inr rfl,_,rfl,?_⟩;(try simp (disch:=omega) only [push_cast,seval,hv,hel,hrd,Aaz]))))
      all_goals (try simp)


end Go.Proofs.YtkpcjppnjmhanaaGreatDoor
namespace Go.Proofs.YtkpcjppnjmhanaaGreatDoor
open VwM Vw Go
variable [SentA]



theorem vclone_ok (b:Int) (sh st:List Int) (n m:Nat) (hn:sh.length=n) (hm:st.length=m) (hb:n ≤ 1099511627776 ∧ m ≤ 1099511627776):BCall Tryz.prog 85 [.agg [.int .i64 b,.rows false (IL sh) n,.rows false (IL st) m]] [] (OV b sh st):=by
  subst hn hm
  obtain ⟨hb1,hb2⟩:=hb
  refine Awz (pins:=[]) (pin:=0) l85_eq rfl rfl rfl ?_
  (repeat' (first
 | (first|refine Ahz ?_|refine Abz ?_)
 | ((first|refine Aiz ?_|refine Axz (mid:=l85r1a) (post:=l85r1b) Bgz (by decide) ?_);simp (disch:=omega) only [push_cast,seval,l85r0,l85r1a,l85r1b,l85r1])
 | ((first|refine Azz false ?_);simp (disch:=omega) only [push_cast,seval])
 | ((first|((first|refine Akz (Hqz _ _ ?_ ?_) ?_|refine Afz (Hqz _ _ ?_ ?_) ⟨_,_,rfl,rfl⟩ ?_);(iterate 2 (exact sd));rintro _ _ ⟨rfl,rfl⟩))<;>(try simp (disch:=omega) only [push_cast,seval]))
 | (refine Aez ⟨.inr rfl,[112,160],[],_,by decide,rfl,?_⟩;(try simp (disch:=omega) only [push_cast,seval,↓Agz,↓Acz,↓List.map_cons,↓List.map_nil]))))
  all_goals simp [OV]


set_option maxHeartbeats 16000000 in
theorem bclone_ok (cs:List Int) (es:List Ex) (m n:Nat) (hm:cs.length=m) (hn:es.length=n) (hb:m ≤ 1048576 ∧ n ≤ 1048576 ∧ exB 1048576 es):BCall Tryz.prog 46 [.agg [.rows false (IL cs) m,.rows false (EL false es) n]] [] (fun r H'=>r=.agg [.own 0 m 1,.own 1 n 5] ∧ H'=IL cs :: (esF es).cellsG (· + 2) :: (esF es).conts):=by
  subst hm hn
  obtain ⟨hb1,hb2,hb3⟩:=hb
  refine Awz (pins:=[]) (pin:=0) l46_eq rfl rfl rfl ?_
  have hel:=Ayz false es
  (repeat' (first
 | (first|refine Ahz ?_|refine Abz ?_)
 | ((first|refine Aiz ?_);simp (disch:=omega) only [push_cast,seval,l46r0,l46r1,l46r2,l46r3,l46r4,l46r5a,l46r5b,l46r5,l46r6,l46r7,Aaz,hel])
 | ((first|refine Alz false ?_);simp (disch:=omega) only [push_cast,seval,Aaz,hel])
 | ((first|((first|refine Akz (Hqz _ _ ?_ ?_) ?_|refine Afz (Hqz _ _ ?_ ?_) ⟨_,_,rfl,rfl⟩ ?_);(iterate 2 (exact sd));rintro _ _ ⟨rfl,rfl⟩))<;>(try simp (disch:=omega) only [push_cast,seval,Aaz,hel]))))
  refine C6z (fun i:Nat=>mkS [(2,.ref 32 2 0),(3,.ref 48 2 0),(11,.rows false (EL false es) es.length),(12,.int .i64 es.length),(13,.int .i64 i)] ([(32,[.val (.slice none 0 0),.val (.slice none 0 0)]),(48,[.own 128 cs.length 1,.own 448 i 5]),(128,IL cs),(448,cellN 7 es i)] ++ famR 7 (exR es) (i * 2))) (fun i=>i ≤ es.length) (fun i=>es.length - i) 0 (Nat.zero_le _) ?_ ?_
  · refine SubW.adoptH [48] 448 5 (by simp [Vw.hk]) (SubW.of ?_)
    have e0:cellN 7 es 0=[]:=rfl
    have e1:famR 7 (exR es) (0 * 2)=[]:=rfl
    rw [e0,e1]
    simp only [adHL,List.map_cons,List.map_nil,adA,List.contains_cons,List.contains_nil]
    (refine Sub.of_lists ?_ ?_ ?_ ?_ ?_<;>simp [Vw.mkS,Vw.lk,Vw.hk,AV.inn,innL,Apz,Anz,Arz,-List.map_set,-List.getD_eq_getElem?_getD,Aaz])
  · intro i hi
    by_cases hlt:i < es.length
    · obtain ⟨p,b,x,y,o,he⟩:=Clz hlt
      have hbb:=Ecz hb3 he
      have hd:=B5z false es i he
      simp only at hd
      have hil:i * 5 + 5 ≤ es.length * 5:=by omega
      have hcl:=cellN_length 7 es i
      obtain ⟨h0,h1,h2,hr0,hr1⟩:=ex_at he
      (repeat' (first
 | (first|refine Ahz ?_|refine Abz ?_)
 | ((first|refine Aiz ?_|refine Axz (mid:=l46r5a) (post:=l46r5b) Bgz (by decide) ?_|refine Adz ?_|refine Aoz ?_);simp (disch:=omega) only [push_cast,seval,l46r0,l46r1,l46r2,l46r3,l46r4,l46r5a,l46r5b,l46r5,l46r6,l46r7,hd,hel,hil,hcl,Aaz,zcX])
 | ((first|refine Amz (fun h=>?_) (fun h=>?_))<;>(try simp only [h])<;>(try simp only [bitvec_to_nat] at h)<;>(try simp only [h])<;>(first|(exfalso;omega)|(exfalso;simp_all;done)|(simp (disch:=omega) only [push_cast,seval,hd,hel,hil,hcl,Aaz,zcX])|skip))
 | ((first|refine Azz false ?_);simp (disch:=omega) only [push_cast,seval,hd,hel,hil,hcl,Aaz,zcX])
 | ((first|((first|refine Akz (vclone_ok _ _ _ _ _ ?_ ?_ ?_) ?_|refine Afz (vclone_ok _ _ _ _ _ ?_ ?_ ?_) ⟨_,_,rfl,rfl⟩ ?_);(iterate 3 (exact sd));rintro _ _ ⟨rfl,rfl⟩))<;>(try simp (disch:=omega) only [push_cast,seval,hd,hel,hil,hcl,Aaz,zcX]))))
      refine ⟨i + 1,by omega,by omega,?_⟩
      rw [show (i + 1) * 2=i * 2 + 2 by omega]
      refine SubW.fam2L (a:=368) (b:=369) (d:=7) (i:=i * 2) (rows:=exR es) (L:=[(32,[.val (.slice none 0 0),.val (.slice none 0 0)]),(48,[.own 128 cs.length 1,.own 448 (i + 1) 5]),(128,IL cs),(448,cellN 7 es (i + 1))]) ?_ ?_ ⟨by omega,by omega,by omega⟩ ?_ ?_ ?_ ?_ ?_
      · rw [hr0];rfl
      · rw [hr1];rfl
      · intro j hj
        simp only [hk,Auz _ _ 448 (by omega),Auz _ _ 368 (by omega),Auz _ _ 369 (by omega),Auz _ _ 432 (by omega),Auz _ _ 80 (by omega),Auz _ _ 32 (by omega),Auz _ _ 48 (by omega),Auz _ _ 128 (by omega),if_false]
        exact G3z _ _ _ _ hj
      · intro q hq
        simp only [List.mem_cons,List.not_mem_nil,or_false] at hq
        rcases hq with rfl|rfl|rfl|rfl
        · exact ⟨⟨by simp,by simp,by simp⟩,rfl⟩
        · refine ⟨⟨by simp,by simp,by simp⟩,?_⟩
          show some [AV.own (swp 369 (fim 7 (i * 2 + 1)) (swp 368 (fim 7 (i * 2)) 128)) cs.length 1,AV.own (swp 369 (fim 7 (i * 2 + 1)) (swp 368 (fim 7 (i * 2)) 448)) (i + 1) 5]=_
          rw [Ejz 368 7 _ 128 (by omega) (by omega),Ejz 368 7 _ 448 (by omega) (by omega),Ejz 369 7 _ 128 (by omega) (by omega),Ejz 369 7 _ 448 (by omega) (by omega)]
        · refine ⟨⟨by simp,by simp,by simp⟩,?_⟩
          show some (swL _ _ (swL _ _ (IL cs)))=_
          rw [Elz,Elz]
        · refine ⟨⟨by simp,by simp,by simp⟩,?_⟩
          exact congrArg some (cellN_succ (by omega) (by omega) (by omega) he)
      · simp [lk,AV.sw,G6z,Ejz]
      · simp [AV.inn,Aaz,hk]
      · intro q hq
        simp only [List.mem_cons,List.not_mem_nil,or_false] at hq
        rcases hq with rfl|rfl|rfl|rfl
        · rfl
        · simp [innL,AV.inn,hk]
        · exact Ebz _ _
        · exact cellN_inn fun j hj=>by
            show (hk ((32,_) :: (48,_) :: (128,_) :: (448,_) :: famR 7 (exR es) (i * 2 + 2)) (fim 7 j)).isSome=true
            simp only [hk,Auz _ _ 448 (by omega),Auz _ _ 32 (by omega),Auz _ _ 48 (by omega),Auz _ _ 128 (by omega),if_false]
            rw [G3z _ _ _ _ (by omega)];rfl
    · have e:i=es.length:=by omega
      subst e
      (repeat' (first
 | (first|refine Ahz ?_|refine Abz ?_)
 | ((first|refine Aiz ?_|refine Adz ?_|refine A1z ?_);simp (disch:=omega) only [push_cast,seval,l46r0,l46r1,l46r2,l46r3,l46r4,l46r5a,l46r5b,l46r5,l46r6,l46r7,Aaz])
 | ((first|refine Amz (fun h=>?_) (fun h=>?_))<;>(try simp only [h])<;>(try simp only [bitvec_to_nat] at h)<;>(try simp only [h])<;>(first|(exfalso;omega)|(exfalso;simp_all;done)|(simp (disch:=omega) only [push_cast,seval,Aaz])|skip))))
      refine Aez ⟨.inr rfl,ret_famB (id0:=128) (id1:=448) (d:=7) (F:=esF es) (cs:=cs) rfl rfl rfl ?_ (by omega)⟩
      intro j hj
      simp only [hk,Auz _ _ 448 (by omega),Auz _ _ 32 (by omega),Auz _ _ 48 (by omega),Auz _ _ 128 (by omega),if_false]
      exact G3z _ _ _ _ hj


set_option maxHeartbeats 16000000 in
theorem Flz (cs:List Int) (es:List Ex) (m n:Nat) (hm:cs.length=m) (hn:es.length=n) (hb:m ≤ 1099511627776 ∧ n ≤ 1099511627776 ∧ exB 1099511627776 es):BCall Tryz.prog 50 [.agg [.rows false (IL cs) m,.rows false (EL false es) n]] [] (fun r H'=>r=.agg [.own 0 m 1,.own 1 n 5] ∧ H'=[IL cs,EL true es]):=by
  subst hm hn
  obtain ⟨hb1,hb2,hb3⟩:=hb
  refine Awz (pins:=[]) (pin:=0) l50_eq rfl rfl rfl ?_
  have hel:=Ayz false es
  (repeat' (first
 | (first|refine Ahz ?_|refine Abz ?_)
 | ((first|refine Aiz ?_);simp (disch:=omega) only [push_cast,seval,l50r0,l50r1,l50r2,l50r3,l50r4,l50r5,l50r6,l50r7,l50r8,Aaz,hel])
 | ((first|refine Alz false ?_);simp (disch:=omega) only [push_cast,seval,Aaz,hel])
 | ((first|((first|refine Akz (Ccz _ _ ?_ ?_) ?_|refine Afz (Ccz _ _ ?_ ?_) ⟨_,_,rfl,rfl⟩ ?_);(iterate 2 (exact sd));rintro _ _ ⟨rfl,rfl⟩))<;>(try simp (disch:=omega) only [push_cast,seval,Aaz,hel]))))
  refine C6z (fun i:Nat=>mkS [(1,.ref 16 2 0),(2,.ref 32 2 0),(3,.ref 48 2 0),(4,.int .i64 i)] [(16,[.rows false (IL cs) cs.length,.rows false (EL false es) es.length]),(32,[.rows true [] 0,.rows true [] 0]),(48,[.own 128 cs.length 1,.own 480 i 5]),(128,IL cs),(480,EL true (es.take i))]) (fun i=>i ≤ es.length) (fun i=>es.length - i) 0 (Nat.zero_le _) ?_ ?_
  · refine SubW.adoptH [48] 480 5 (by simp [Vw.hk]) ?_
    have e0:EL true (es.take 0)=[]:=rfl
    rw [e0]
    simp only [adHL,List.map_cons,List.map_nil,adA,List.contains_cons,List.contains_nil]
    refine SubW.freeze [] (fun _ h=>by cases h) (SubW.of ?_)
    simp (disch:=omega) only [push_cast,seval,frzA,frzH,rhoF,List.contains_cons,List.contains_nil,Bool.or_false,Bool.false_eq_true,List.map_append,List.map_cons,List.map_nil,List.length_map]
    (refine Sub.of_lists ?_ ?_ ?_ ?_ ?_<;>simp [Vw.mkS,Vw.lk,Vw.hk,AV.inn,innL,Apz,Anz,Arz,-List.map_set,-List.getD_eq_getElem?_getD,Aaz])
  · intro i hi
    by_cases hlt:i < es.length
    · obtain ⟨p,b,x,y,o,he⟩:=Clz hlt
      have hbb:=Ecz hb3 he
      have hd:=B5z false es i he
      simp only at hd
      have hil:i * 5 + 5 ≤ es.length * 5:=by omega
      have htl:(EL true (es.take i)).length=i * 5:=by rw [Ayz,List.length_take];omega
      have hsu:=EL_take true he
      simp only at hsu
      (repeat' (first
 | (first|refine Ahz ?_|refine Abz ?_)
 | ((first|refine Aiz ?_|refine Adz ?_|refine Aoz ?_);simp (disch:=omega) only [push_cast,seval,l50r0,l50r1,l50r2,l50r3,l50r4,l50r5,l50r6,l50r7,l50r8,hd,hel,hil,htl,Aaz,zcX])
 | ((first|refine Amz (fun h=>?_) (fun h=>?_))<;>(try simp only [h])<;>(try simp only [bitvec_to_nat] at h)<;>(try simp only [h])<;>(first|(exfalso;omega)|(exfalso;simp_all;done)|(simp (disch:=omega) only [push_cast,seval,hd,hel,hil,htl,Aaz,zcX])|skip))
 | ((first|refine Alz false ?_);simp (disch:=omega) only [push_cast,seval,hd,hel,hil,htl,Aaz,zcX])
 | ((first|((first|refine Akz (A9z _ _ _ _ _ ?_ ?_ ?_) ?_|refine Afz (A9z _ _ _ _ _ ?_ ?_ ?_) ⟨_,_,rfl,rfl⟩ ?_);(iterate 3 (exact sd));rintro _ _ ⟨rfl,rfl⟩))<;>(try simp (disch:=omega) only [push_cast,seval,hd,hel,hil,htl,Aaz,zcX]))))
      refine ⟨i + 1,by omega,by omega,?_⟩
      refine SubW.trans (s1:=mkS [(1,.ref 16 2 0),(2,.ref 32 2 0),(3,.ref 48 2 0),(4,.int .i64 ((i:Int) + 1))] [(16,[.rows false (IL cs) cs.length,.rows false (EL false es) es.length]),(32,[.rows true [] 0,.rows true [] 0]),(48,[.own 128 cs.length 1,.own 480 (i + 1) 5]),(128,IL cs),(480,EL true (es.take i) ++ [.int .i64 p,.int .i64 b,.own 384 x.length 1,.own 385 y.length 1,.bool o]),(384,IL x),(385,IL y)]) (SubW.of (by (refine Sub.of_lists ?_ ?_ ?_ ?_ ?_<;>simp [Vw.mkS,Vw.lk,Vw.hk,AV.inn,innL,Apz,Anz,Arz,-List.map_set,-List.getD_eq_getElem?_getD,Aaz]))) ?_
      refine SubW.freeze [384,385] (by decide) (SubW.of ?_)
      simp (disch:=omega) only [push_cast,seval,frzA,frzH,rhoF,List.contains_cons,List.contains_nil,Bool.or_false,Bool.false_eq_true,List.map_append,List.map_cons,List.map_nil,List.length_map]
      (refine Sub.of_lists ?_ ?_ ?_ ?_ ?_<;>simp [Vw.mkS,Vw.lk,Vw.hk,AV.inn,innL,Apz,Anz,Arz,-List.map_set,-List.getD_eq_getElem?_getD,Aaz,hsu])
    · have e:i=es.length:=by omega
      subst e
      (repeat' (first
 | (first|refine Ahz ?_|refine Abz ?_)
 | ((first|refine Aiz ?_|refine Adz ?_|refine A1z ?_);simp (disch:=omega) only [push_cast,seval,l50r0,l50r1,l50r2,l50r3,l50r4,l50r5,l50r6,l50r7,l50r8,Aaz,List.take_length])
 | ((first|refine Amz (fun h=>?_) (fun h=>?_))<;>(try simp only [h])<;>(try simp only [bitvec_to_nat] at h)<;>(try simp only [h])<;>(first|(exfalso;omega)|(exfalso;simp_all;done)|(simp (disch:=omega) only [push_cast,seval,Aaz,List.take_length])|skip))
 | (refine Aez ⟨.inr rfl,[128,480],[],_,by decide,rfl,?_⟩;(try simp (disch:=omega) only [push_cast,seval,↓Agz,↓Acz,↓List.map_cons,↓List.map_nil,Aaz,List.take_length]))))
      all_goals skip

end Go.Proofs.YtkpcjppnjmhanaaGreatDoor
namespace Go.Proofs.YtkpcjppnjmhanaaGreatDoor
open VwM Vw Go
variable [SentA]

abbrev OBs (ok:Bool) (cs:List Int) (es:List Ex):AV → List (List AV) → Prop:=fun r H'=>r=.tup [.agg [.own 0 cs.length 1,.own 1 es.length 5],.bool ok] ∧ H'=[IL cs,EL true es]
abbrev OBf (ok:Bool) (cs:List Int) (es:List Ex):AV → List (List AV) → Prop:=fun r H'=>r=.tup [.agg [.own 0 cs.length 1,.own 1 es.length 5],.bool ok] ∧ H'=IL cs :: (esF es).cellsG (· + 2) :: (esF es).conts
theorem mkE_nil:(esF ([]:List Ex)).cellsG (· + 2)=[] ∧ (esF ([]:List Ex)).conts=[]:=⟨rfl,rfl⟩
/-- What comes of it if 'g' holds. -/
def ifB {α:Type} (g:Bool) (l:List α):List α:=if g=true then l else []
theorem Cnz {α:Type} (l:List α):ifB true l=l:=rfl
theorem A5z {α:Type} (l:List α):ifB false l=[]:=rfl
def relG (cs:List Int) (es:List Ex) (id:Int):Bool:=(vB cs es && opA es id) && decide ((kidsT es id es.length).length=0)


set_option maxHeartbeats 8000000 in
theorem sRel_ok (cs:List Int) (es:List Ex) (m n:Nat) (id:Int) (hm:cs.length=m) (hn:es.length=n) (hb:m ≤ 1099511627776 ∧ n ≤ 1099511627776 ∧ exB 1099511627776 es) :
    BCall Tryz.prog 11 [.agg [.rows false (IL cs) m,.rows false (EL false es) n],.int .i64 id] [] (OBs (relG cs es id) (ifB (relG cs es id) cs) (ifB (relG cs es id) (relE es id.toNat))):=by
  subst hm hn
  have hb0:=hb
  obtain ⟨hb1,hb2,hb3⟩:=hb
  have hel:=Ayz false es
  have helt:=Ayz true es
  refine Awz (pins:=[]) (pin:=0) l11_eq rfl rfl rfl ?_
  unfold relG
  cases hv:vB cs es with
  | false =>
    simp only [Bool.false_and,A5z]
    (repeat' (first
 | (first|refine Ahz ?_|refine Abz ?_)
 | ((first|refine Aiz ?_|refine Adz ?_);simp (disch:=omega) only [push_cast,seval,l11r0,l11r1,l11r2,l11r3,l11r4,l11r5,hv,hel,Aaz])
 | ((first|refine Alz false ?_);simp (disch:=omega) only [push_cast,seval,hv,hel,Aaz])
 | ((first|((first|refine Akz (Ajz (A0z _ _ _ _ ?_ ?_ ?_)) ?_|refine Afz (Ajz (A0z _ _ _ _ ?_ ?_ ?_)) ⟨_,_,rfl,rfl⟩ ?_);(iterate 3 (exact sd));rintro _ _ ⟨rfl,rfl⟩))<;>(try simp (disch:=omega) only [push_cast,seval,hv,hel,Aaz]))
 | (refine Aez ⟨.inr rfl,[16000,16001],[(16000,1),(16001,5)],_,by decide,rfl,?_⟩;(try simp (disch:=omega) only [push_cast,seval,↓Agz,↓Acz,↓List.map_cons,↓List.map_nil,hv,hel,Aaz]))))
    all_goals simp [OBs,EL]
  | true =>
    obtain ⟨v1,v2,v3⟩:=vB_8 hv
    cases hr:opA es id with
    | false =>
      simp only [Bool.true_and,Bool.false_and,A5z]
      (repeat' (first
 | (first|refine Ahz ?_|refine Abz ?_)
 | ((first|refine Aiz ?_|refine Adz ?_);simp (disch:=omega) only [push_cast,seval,l11r0,l11r1,l11r2,l11r3,l11r4,l11r5,hv,hr,hel,Aaz])
 | ((first|refine Alz false ?_);simp (disch:=omega) only [push_cast,seval,hv,hr,hel,Aaz])
 | ((first|((first|refine Akz (Ajz (A0z _ _ _ _ ?_ ?_ ?_)) ?_|refine Afz (Ajz (A0z _ _ _ _ ?_ ?_ ?_)) ⟨_,_,rfl,rfl⟩ ?_);(iterate 3 (exact sd));rintro _ _ ⟨rfl,rfl⟩)|((first|refine Akz (Ajz (Bqz _ _ _ _ _ ?_ ?_ ?_)) ?_|refine Afz (Ajz (Bqz _ _ _ _ _ ?_ ?_ ?_)) ⟨_,_,rfl,rfl⟩ ?_);(iterate 3 (exact sd));rintro _ _ ⟨rfl,rfl⟩))<;>(try simp (disch:=omega) only [push_cast,seval,hv,hr,hel,Aaz]))
 | (refine Aez ⟨.inr rfl,[16000,16001],[(16000,1),(16001,5)],_,by decide,rfl,?_⟩;(try simp (disch:=omega) only [push_cast,seval,↓Agz,↓Acz,↓List.map_cons,↓List.map_nil,hv,hr,hel,Aaz]))))
      all_goals simp [OBs,EL]
    | true =>
      obtain ⟨q,p,b,x,y,rfl,hq,he,hvw⟩:=Fnz hr
      have hrel:=EL_rel (b:=true) he
      have hrl:=Dcz es q
      have hil:q * 5 + 5 ≤ es.length * 5:=by omega
      simp only [Bool.true_and,Int.toNat_natCast]
      generalize hK:kidsT es (q:Int) es.length=K at *
      by_cases hk0:K.length=0
      · have hkd:decide (K.length=0)=true:=decide_eq_true hk0
        rw [hkd,Cnz,Cnz]
        (repeat' (first
 | (first|refine Ahz ?_|refine Abz ?_)
 | ((first|refine Aiz ?_|refine Adz ?_|refine Aoz ?_);simp (disch:=omega) only [push_cast,seval,l11r0,l11r1,l11r2,l11r3,l11r4,l11r5,hv,hr,hK,hk0,hil,hel,helt,hrel,Aaz])
 | ((first|refine Alz false ?_);simp (disch:=omega) only [push_cast,seval,hv,hr,hK,hk0,hil,hel,helt,hrel,Aaz])
 | ((first|((first|refine Akz (Ajz (A0z _ _ _ _ ?_ ?_ ?_)) ?_|refine Afz (Ajz (A0z _ _ _ _ ?_ ?_ ?_)) ⟨_,_,rfl,rfl⟩ ?_);(iterate 3 (exact sd));rintro _ _ ⟨rfl,rfl⟩)|((first|refine Akz (Ajz (Bqz _ _ _ _ _ ?_ ?_ ?_)) ?_|refine Afz (Ajz (Bqz _ _ _ _ _ ?_ ?_ ?_)) ⟨_,_,rfl,rfl⟩ ?_);(iterate 3 (exact sd));rintro _ _ ⟨rfl,rfl⟩)|((first|refine Akz (Hkz _ _ _ _ _ ?_ ?_ ?_) ?_|refine Afz (Hkz _ _ _ _ _ ?_ ?_ ?_) ⟨_,_,rfl,rfl⟩ ?_);(iterate 3 (exact sd));rintro _ _ ⟨rfl,rfl⟩)|((first|refine Akz (Flz _ _ _ _ ?_ ?_ ?_) ?_|refine Afz (Flz _ _ _ _ ?_ ?_ ?_) ⟨_,_,rfl,rfl⟩ ?_);(iterate 3 (exact sd));rintro _ _ ⟨rfl,rfl⟩))<;>(try simp (disch:=omega) only [push_cast,seval,hv,hr,hK,hk0,hil,hel,helt,hrel,Aaz]))
 | (refine Aez ⟨.inr rfl,[400,401],[],_,by decide,rfl,?_⟩;(try simp (disch:=omega) only [push_cast,seval,↓Agz,↓Acz,↓List.map_cons,↓List.map_nil,hv,hr,hK,hk0,hil,hel,helt,hrel,Aaz]))))
        all_goals simp [OBs,hrl]
      · have hkd:decide (K.length=0)=false:=decide_eq_false hk0
        rw [hkd,A5z,A5z]
        (repeat' (first
 | (first|refine Ahz ?_|refine Abz ?_)
 | ((first|refine Aiz ?_|refine Adz ?_);simp (disch:=omega) only [push_cast,seval,l11r0,l11r1,l11r2,l11r3,l11r4,l11r5,hv,hr,hK,hk0,hil,hel,Aaz])
 | ((first|refine Amz (fun h=>?_) (fun h=>?_))<;>(try simp only [h])<;>(try simp only [bitvec_to_nat] at h)<;>(try simp only [h])<;>(first|(exfalso;omega)|(exfalso;simp_all;done)|(simp (disch:=omega) only [push_cast,seval,hv,hr,hK,hk0,hil,hel,Aaz])|skip))
 | ((first|refine Alz false ?_);simp (disch:=omega) only [push_cast,seval,hv,hr,hK,hk0,hil,hel,Aaz])
 | ((first|((first|refine Akz (Ajz (A0z _ _ _ _ ?_ ?_ ?_)) ?_|refine Afz (Ajz (A0z _ _ _ _ ?_ ?_ ?_)) ⟨_,_,rfl,rfl⟩ ?_);(iterate 3 (exact sd));rintro _ _ ⟨rfl,rfl⟩)|((first|refine Akz (Ajz (Bqz _ _ _ _ _ ?_ ?_ ?_)) ?_|refine Afz (Ajz (Bqz _ _ _ _ _ ?_ ?_ ?_)) ⟨_,_,rfl,rfl⟩ ?_);(iterate 3 (exact sd));rintro _ _ ⟨rfl,rfl⟩)|((first|refine Akz (Hkz _ _ _ _ _ ?_ ?_ ?_) ?_|refine Afz (Hkz _ _ _ _ _ ?_ ?_ ?_) ⟨_,_,rfl,rfl⟩ ?_);(iterate 3 (exact sd));rintro _ _ ⟨rfl,rfl⟩))<;>(try simp (disch:=omega) only [push_cast,seval,hv,hr,hK,hk0,hil,hel,Aaz]))
 | (refine Aez ⟨.inr rfl,[16000,16001],[(16000,1),(16001,5)],_,by decide,rfl,?_⟩;(try simp (disch:=omega) only [push_cast,seval,↓Agz,↓Acz,↓List.map_cons,↓List.map_nil,hv,hr,hK,hk0,hil,hel,Aaz]))))
        all_goals simp [OBs,EL]




set_option maxHeartbeats 8000000 in
theorem iRel_ok (cs:List Int) (es:List Ex) (m n:Nat) (id:Int) (hm:cs.length=m) (hn:es.length=n) (hb:m ≤ 1048576 ∧ n ≤ 1048576 ∧ exB 1048576 es) :
    BCall Tryz.prog 10 [.agg [.rows false (IL cs) m,.rows false (EL false es) n],.int .i64 id] [] (OBf (relG cs es id) (ifB (relG cs es id) cs) (ifB (relG cs es id) (relE es id.toNat))):=by
  subst hm hn
  have hb0:=hb
  obtain ⟨hb1,hb2,hb3⟩:=hb
  have hq8:cs.length ≤ 1099511627776 ∧ es.length ≤ 1099511627776 ∧ exB 1099511627776 es:=⟨by omega,by omega,fun e he=>by have:=hb3 e he;omega⟩
  have hel:=Ayz false es
  refine Awz (pins:=[]) (pin:=0) l10_eq rfl rfl rfl ?_
  unfold relG
  cases hc:(vB cs es && opA es id) with
  | false =>
    simp only [Bool.false_and,A5z]
    (repeat' (first
 | (first|refine Ahz ?_|refine Abz ?_)
 | ((first|refine Aiz ?_|refine Axz (mid:=l10r1a) (post:=l10r1b) Bgz (by decide) ?_|refine Adz ?_);simp (disch:=omega) only [push_cast,seval,l10r0,l10r1a,l10r1b,l10r1,l10r2,l10r3,l10r4,l10r5,hc,hel,Aaz])
 | ((first|refine Azz false ?_);simp (disch:=omega) only [push_cast,seval,hc,hel,Aaz])
 | ((first|((first|refine Akz (Ajz (Hdz _ _ _ _ _ ?_ ?_ ?_)) ?_|refine Afz (Ajz (Hdz _ _ _ _ _ ?_ ?_ ?_)) ⟨_,_,rfl,rfl⟩ ?_);(iterate 3 (exact sd));rintro _ _ ⟨rfl,rfl⟩))<;>(try simp (disch:=omega) only [push_cast,seval,hc,hel,Aaz]))
 | (refine Aez ⟨.inr rfl,[16000,16001],[(16000,1),(16001,5)],_,by decide,rfl,?_⟩;(try simp (disch:=omega) only [push_cast,seval,↓Agz,↓Acz,↓List.map_cons,↓List.map_nil,hc,hel,Aaz]))))
    all_goals simp [OBf,mkE_nil]
  | true =>
    have hc2:=hc
    rw [Bool.and_eq_true] at hc2
    obtain ⟨hv,hr⟩:=hc2
    obtain ⟨v1,v2,v3⟩:=vB_8 hv
    obtain ⟨q,p,b,x,y,rfl,hq,he,hvw⟩:=Fnz hr
    have hrl:=Dcz es q
    have hil:q * 5 + 5 ≤ es.length * 5:=by omega
    have hrF:=relE_F he
    simp only [Bool.true_and,Int.toNat_natCast]
    have hid:-1 ≤ (q:Int) ∧ (q:Int) < es.length:=by omega
    have hkl:=D2z es (q:Int) es.length
    generalize hK:kidsT es (q:Int) es.length=K at *
    by_cases hk0:K.length=0
    · have hkd:decide (K.length=0)=true:=decide_eq_true hk0
      rw [hkd,Cnz,Cnz]
      have hset:((esF es).cellsG (fim 21)).set (q * 5 + 4) (.bool false)=(esF (relE es q)).cellsG (fim 21):=by rw [hrF];exact eF_set4 ..
      (repeat' (first
 | (first|refine Ahz ?_|refine Abz ?_)
 | ((first|refine Aiz ?_|refine Axz (mid:=l10r1a) (post:=l10r1b) Bgz (by decide) ?_|refine Adz ?_|refine Aoz ?_);simp (disch:=omega) only [push_cast,seval,l10r0,l10r1a,l10r1b,l10r1,l10r2,l10r3,l10r4,l10r5,hc,hK,hk0,hil,hel,hset,Aaz,Coz,Bzz,Nat.lt_irrefl,decide_false])
 | ((first|((with_reducible refine Alz (f:=46) false ?_);simp (disch:=omega) only [push_cast,seval,hc,hK,hk0,hil,hel,hset,Aaz,Coz,Bzz,Nat.lt_irrefl,decide_false];(refine callFNB (bclone_ok _ _ _ _ ?_ ?_ ?_) (by (simp (disch:=omega) only [push_cast,seval,hc,hK,hk0,hil,hel,hset,Aaz,Coz,Bzz,Nat.lt_irrefl,decide_false]);done) ?_;(iterate 3 (exact sd)))))<;>(try simp (disch:=omega) only [push_cast,seval,hc,hK,hk0,hil,hel,hset,Aaz,Coz,Bzz,Nat.lt_irrefl,decide_false]))
 | ((first|refine Alz false ?_|refine Azz false ?_);simp (disch:=omega) only [push_cast,seval,hc,hK,hk0,hil,hel,hset,Aaz,Coz,Bzz,Nat.lt_irrefl,decide_false])
 | ((first|((first|refine Akz (Ajz (Hdz _ _ _ _ _ ?_ ?_ ?_)) ?_|refine Afz (Ajz (Hdz _ _ _ _ _ ?_ ?_ ?_)) ⟨_,_,rfl,rfl⟩ ?_);(iterate 3 (exact sd));rintro _ _ ⟨rfl,rfl⟩)|((first|refine Akz (Ajz (Dlz _ _ _ _ _ ?_ ?_ ?_ ?_ ?_)) ?_|refine Afz (Ajz (Dlz _ _ _ _ _ ?_ ?_ ?_ ?_ ?_)) ⟨_,_,rfl,rfl⟩ ?_);(iterate 5 (exact sd));rintro _ _ ⟨rfl,rfl⟩)|((first|refine Akz (Ajz (Ewz _ _ ?_ ?_)) ?_|refine Afz (Ajz (Ewz _ _ ?_ ?_)) ⟨_,_,rfl,rfl⟩ ?_);(iterate 2 (exact sd));rintro _ _ ⟨rfl,rfl⟩)|((first|refine Akz (Ajz (C4z _)) ?_|refine Afz (Ajz (C4z _)) ⟨_,_,rfl,rfl⟩ ?_);rintro _ _ ⟨rfl,rfl⟩))<;>(try simp (disch:=omega) only [push_cast,seval,hc,hK,hk0,hil,hel,hset,Aaz,Coz,Bzz,Nat.lt_irrefl,decide_false]))))
      refine Aez ⟨.inr rfl,?_⟩
      have hRw:(esF (relE es q)).rows=exR es:=by rw [hrF];rfl
      have hRR:(esF (relE es q)).R=es.length * 2:=by rw [hrF];rfl
      simp only [OBf,hrl]
      refine ret_famW (id0:=336) (id1:=337) (d:=21) (F:=esF (relE es q)) (cs:=cs) (bufT cs.length es.length true) rfl rfl (fun _ _ _ _ e0 e1=>ren_bufT e0 e1) ?_ rfl ?_ (by omega)
      · simp only [hk,if_false];rfl
      · intro j hj
        rw [hRR] at hj
        rw [hRw]
        simp only [hk,Auz _ _ 64 (by omega),Auz _ _ 96 (by omega),Auz _ _ 336 (by omega),Auz _ _ 337 (by omega),if_false]
        exact Dmz 21 (esF es) _ j hj
    · have hkd:decide (K.length=0)=false:=decide_eq_false hk0
      have hk1:0 < K.length:=by omega
      rw [hkd,A5z,A5z]
      (repeat' (first
 | (first|refine Ahz ?_|refine Abz ?_)
 | ((first|refine Aiz ?_|refine Axz (mid:=l10r1a) (post:=l10r1b) Bgz (by decide) ?_|refine Adz ?_);simp (disch:=omega) only [push_cast,seval,l10r0,l10r1a,l10r1b,l10r1,l10r2,l10r3,l10r4,l10r5,hc,hK,hk1,hil,hel,Aaz,Coz,Bzz,decide_true])
 | ((first|refine Alz false ?_|refine Azz false ?_);simp (disch:=omega) only [push_cast,seval,hc,hK,hk1,hil,hel,Aaz,Coz,Bzz,decide_true])
 | ((first|((first|refine Akz (Ajz (Hdz _ _ _ _ _ ?_ ?_ ?_)) ?_|refine Afz (Ajz (Hdz _ _ _ _ _ ?_ ?_ ?_)) ⟨_,_,rfl,rfl⟩ ?_);(iterate 3 (exact sd));rintro _ _ ⟨rfl,rfl⟩)|((first|refine Akz (Ajz (Dlz _ _ _ _ _ ?_ ?_ ?_ ?_ ?_)) ?_|refine Afz (Ajz (Dlz _ _ _ _ _ ?_ ?_ ?_ ?_ ?_)) ⟨_,_,rfl,rfl⟩ ?_);(iterate 5 (exact sd));rintro _ _ ⟨rfl,rfl⟩)|((first|refine Akz (Ajz (Ewz _ _ ?_ ?_)) ?_|refine Afz (Ajz (Ewz _ _ ?_ ?_)) ⟨_,_,rfl,rfl⟩ ?_);(iterate 2 (exact sd));rintro _ _ ⟨rfl,rfl⟩)|((first|refine Akz (Ajz (C4z _)) ?_|refine Afz (Ajz (C4z _)) ⟨_,_,rfl,rfl⟩ ?_);rintro _ _ ⟨rfl,rfl⟩))<;>(try simp (disch:=omega) only [push_cast,seval,hc,hK,hk1,hil,hel,Aaz,Coz,Bzz,decide_true]))
 | (refine Aez ⟨.inr rfl,[16000,16001],[(16000,1),(16001,5)],_,by decide,rfl,?_⟩;(try simp (disch:=omega) only [push_cast,seval,↓Agz,↓Acz,↓List.map_cons,↓List.map_nil,hc,hK,hk1,hil,hel,Aaz,Coz,Bzz,decide_true]))))
      all_goals simp [OBf,mkE_nil]

end Go.Proofs.YtkpcjppnjmhanaaGreatDoor
namespace Go.Proofs.YtkpcjppnjmhanaaGreatDoor
open VwM Vw Go
variable [SentA]

end Go.Proofs.YtkpcjppnjmhanaaGreatDoor
namespace Go.Proofs.YtkpcjppnjmhanaaGreatDoor
open VwM Vw Go
variable [SentA]



set_option maxHeartbeats 8000000 in
theorem J4z (cs:List Int) (es:List Ex) (m n:Nat) (p b:Int) (x y:List Int) (k l:Nat) (hm:cs.length=m) (hn:es.length=n) (hk:x.length=k) (hl:y.length=l) (hb:(k ≤ 1099511627776 ∧ l ≤ 1099511627776) ∧ m ≤ 1099511627776 ∧ n ≤ 1000 ∧ exB 1099511627776 es) :
    BCall Tryz.prog 74 [.agg [.rows false (IL cs) m,.rows false (EL false es) n],.int .i64 p,.agg [.int .i64 b,.rows false (IL x) k,.rows false (IL y) l]] [] (fun r H'=>r=.agg [.own 0 m 1,.own 1 (n + 1) 5] ∧ H'=[IL cs,EL true (es ++ [(p,(b,x,y),true)])]):=by
  subst hm hn hk hl
  obtain ⟨⟨hbx,hby⟩,hb1,hb2,hb3⟩:=hb
  have hq:cs.length ≤ 1099511627776 ∧ es.length ≤ 1099511627776 ∧ exB 1099511627776 es:=⟨hb1,by omega,hb3⟩
  have hel:=Ayz true es
  have ha:=Gtz true es [(p,(b,x,y),true)]
  simp only [EL] at ha
  refine Awz (pins:=[]) (pin:=0) l74_eq rfl rfl rfl ?_
  (repeat' (first
 | (first|refine Ahz ?_|refine Abz ?_)
 | ((first|refine Aiz ?_|refine Axz (mid:=l74r2a) (post:=l74r2b) Bgz (by decide) ?_);simp (disch:=omega) only [push_cast,seval,l74r0,l74r1,l74r2a,l74r2b,l74r2,l74r3,hel,ha,Aaz,zcX,List.map_append,List.length_map])
 | ((first|refine Alz false ?_|refine Azz false ?_);simp (disch:=omega) only [push_cast,seval,hel,ha,Aaz,zcX,List.map_append,List.length_map])
 | ((first|((first|refine Akz (Flz _ _ _ _ ?_ ?_ ?_) ?_|refine Afz (Flz _ _ _ _ ?_ ?_ ?_) ⟨_,_,rfl,rfl⟩ ?_);(iterate 3 (exact sd));rintro _ _ ⟨rfl,rfl⟩)|((first|refine Akz (A9z _ _ _ _ _ ?_ ?_ ?_) ?_|refine Afz (A9z _ _ _ _ _ ?_ ?_ ?_) ⟨_,_,rfl,rfl⟩ ?_);(iterate 3 (exact sd));rintro _ _ ⟨rfl,rfl⟩))<;>(try simp (disch:=omega) only [push_cast,seval,hel,ha,Aaz,zcX,List.map_append,List.length_map]))
 | (refine Aez ⟨.inr rfl,[144,145],[],_,by decide,rfl,?_⟩;(try simp (disch:=omega) only [push_cast,seval,↓Agz,↓Acz,↓List.map_cons,↓List.map_nil,hel,ha,Aaz,zcX,List.map_append,List.length_map]))))
  all_goals (try exact ⟨rfl,rfl⟩)
  all_goals (try rfl)

end Go.Proofs.YtkpcjppnjmhanaaGreatDoor
namespace Go.Proofs.YtkpcjppnjmhanaaGreatDoor
open VwM Vw Go
variable [SentA]

def evG (cs:List Int) (es:List Ex) (b:Int) (x y:List Int):Bool:=(vB cs es && fitB b x y cs.length) && !decide (es.length=8)


set_option maxHeartbeats 8000000 in
theorem sEV_ok (cs:List Int) (es:List Ex) (m n:Nat) (b:Int) (x y:List Int) (k l:Nat) (hm:cs.length=m) (hn:es.length=n) (hk:x.length=k) (hl:y.length=l) (hb:(k ≤ 1099511627776 ∧ l ≤ 1099511627776) ∧ m ≤ 1099511627776 ∧ n ≤ 1099511627776 ∧ exB 1099511627776 es) :
    BCall Tryz.prog 34 [.agg [.rows false (IL cs) m,.rows false (EL false es) n],.agg [.int .i64 b,.rows false (IL x) k,.rows false (IL y) l]] [] (OBs (evG cs es b x y) (ifB (evG cs es b x y) cs) (ifB (evG cs es b x y) (es ++ [(-1,(b,x,y),true)]))):=by
  subst hm hn hk hl
  obtain ⟨⟨hbx,hby⟩,hb1,hb2,hb3⟩:=hb
  have hb0:cs.length ≤ 1099511627776 ∧ es.length ≤ 1099511627776 ∧ exB 1099511627776 es:=⟨hb1,hb2,hb3⟩
  have hel:=Ayz false es
  refine Awz (pins:=[]) (pin:=0) l34_eq rfl rfl rfl ?_
  unfold evG
  cases hv:vB cs es with
  | false =>
    simp only [Bool.false_and,A5z]
    (repeat' (first
 | (first|refine Ahz ?_|refine Abz ?_)
 | ((first|refine Aiz ?_|refine Adz ?_);simp (disch:=omega) only [push_cast,seval,l34r0,l34r1,l34r2,l34r3,hv,hel,Aaz])
 | ((first|refine Alz false ?_);simp (disch:=omega) only [push_cast,seval,hv,hel,Aaz])
 | ((first|((first|refine Akz (Ajz (A0z _ _ _ _ ?_ ?_ ?_)) ?_|refine Afz (Ajz (A0z _ _ _ _ ?_ ?_ ?_)) ⟨_,_,rfl,rfl⟩ ?_);(iterate 3 (exact sd));rintro _ _ ⟨rfl,rfl⟩))<;>(try simp (disch:=omega) only [push_cast,seval,hv,hel,Aaz]))
 | (refine Aez ⟨.inr rfl,[16000,16001],[(16000,1),(16001,5)],_,by decide,rfl,?_⟩;(try simp (disch:=omega) only [push_cast,seval,↓Agz,↓Acz,↓List.map_cons,↓List.map_nil,hv,hel,Aaz]))))
    all_goals simp [OBs,EL]
  | true =>
    obtain ⟨v1,v2,v3⟩:=vB_8 hv
    cases hvv:vV b x y with
    | false =>
      have hf:fitB b x y cs.length=false:=by unfold fitB;rw [hvv];rfl
      simp only [hf,Bool.and_false,Bool.false_and,A5z]
      (repeat' (first
 | (first|refine Ahz ?_|refine Abz ?_)
 | ((first|refine Aiz ?_|refine Adz ?_);simp (disch:=omega) only [push_cast,seval,l34r0,l34r1,l34r2,l34r3,hv,hvv,hel,Aaz])
 | ((first|refine Alz false ?_);simp (disch:=omega) only [push_cast,seval,hv,hvv,hel,Aaz])
 | ((first|((first|refine Akz (Ajz (A0z _ _ _ _ ?_ ?_ ?_)) ?_|refine Afz (Ajz (A0z _ _ _ _ ?_ ?_ ?_)) ⟨_,_,rfl,rfl⟩ ?_);(iterate 3 (exact sd));rintro _ _ ⟨rfl,rfl⟩)|((first|refine Akz (Ajz (Aqz _ _ _ _ _ ?_ ?_ ?_)) ?_|refine Afz (Ajz (Aqz _ _ _ _ _ ?_ ?_ ?_)) ⟨_,_,rfl,rfl⟩ ?_);(iterate 3 (exact sd));rintro _ _ ⟨rfl,rfl⟩))<;>(try simp (disch:=omega) only [push_cast,seval,hv,hvv,hel,Aaz]))
 | (refine Aez ⟨.inr rfl,[16000,16001],[(16000,1),(16001,5)],_,by decide,rfl,?_⟩;(try simp (disch:=omega) only [push_cast,seval,↓Agz,↓Acz,↓List.map_cons,↓List.map_nil,hv,hvv,hel,Aaz]))))
      all_goals simp [OBs,EL]
    | true =>
      have hok:=(Dgz hvv).1
      have hf:fitB b x y cs.length=allI (offs b x y) 0 ((cs.length:Int) - 1):=by
        unfold fitB
        rw [hvv]
        have:(decide ((0:Int) ≤ cs.length) && decide ((cs.length:Int) ≤ 60))=true:=by rw [Bool.and_eq_true,decide_eq_true_eq,decide_eq_true_eq];omega
        rw [this];rfl
      rw [hf]
      cases ha:allI (offs b x y) 0 ((cs.length:Int) - 1) with
 | false =>
        simp only [Bool.and_false,Bool.false_and,A5z]
        (repeat' (first
 | (first|refine Ahz ?_|refine Abz ?_)
 | ((first|refine Aiz ?_|refine Adz ?_);simp (disch:=omega) only [push_cast,seval,l34r0,l34r1,l34r2,l34r3,hv,hvv,ha,hel,Aaz])
 | ((first|refine Alz false ?_);simp (disch:=omega) only [push_cast,seval,hv,hvv,ha,hel,Aaz])
 | ((first|((first|refine Akz (Ajz (A0z _ _ _ _ ?_ ?_ ?_)) ?_|refine Afz (Ajz (A0z _ _ _ _ ?_ ?_ ?_)) ⟨_,_,rfl,rfl⟩ ?_);(iterate 3 (exact sd));rintro _ _ ⟨rfl,rfl⟩)|((first|refine Akz (Ajz (Aqz _ _ _ _ _ ?_ ?_ ?_)) ?_|refine Afz (Ajz (Aqz _ _ _ _ _ ?_ ?_ ?_)) ⟨_,_,rfl,rfl⟩ ?_);(iterate 3 (exact sd));rintro _ _ ⟨rfl,rfl⟩)|((first|refine Akz (Ajz (B6z _ _ _ _ _ _ ?_ ?_ ?_)) ?_|refine Afz (Ajz (B6z _ _ _ _ _ _ ?_ ?_ ?_)) ⟨_,_,rfl,rfl⟩ ?_);(iterate 3 (exact sd));rintro _ _ ⟨rfl,rfl⟩))<;>(try simp (disch:=omega) only [push_cast,seval,hv,hvv,ha,hel,Aaz]))
 | (refine Aez ⟨.inr rfl,[16000,16001],[(16000,1),(16001,5)],_,by decide,rfl,?_⟩;(try simp (disch:=omega) only [push_cast,seval,↓Agz,↓Acz,↓List.map_cons,↓List.map_nil,hv,hvv,ha,hel,Aaz]))))
        all_goals simp [OBs,EL]
 | true =>
        by_cases h8:es.length=8
        · have hd:(!decide (es.length=8))=false:=by simp [h8]
          have h8i:(es.length:Int)=8:=by omega
          simp only [hd,Bool.and_false,A5z]
          (repeat' (first
 | (first|refine Ahz ?_|refine Abz ?_)
 | ((first|refine Aiz ?_|refine Adz ?_);simp (disch:=omega) only [push_cast,seval,l34r0,l34r1,l34r2,l34r3,hv,hvv,ha,h8i,hel,Aaz])
 | ((first|refine Alz false ?_);simp (disch:=omega) only [push_cast,seval,hv,hvv,ha,h8i,hel,Aaz])
 | ((first|((first|refine Akz (Ajz (A0z _ _ _ _ ?_ ?_ ?_)) ?_|refine Afz (Ajz (A0z _ _ _ _ ?_ ?_ ?_)) ⟨_,_,rfl,rfl⟩ ?_);(iterate 3 (exact sd));rintro _ _ ⟨rfl,rfl⟩)|((first|refine Akz (Ajz (Aqz _ _ _ _ _ ?_ ?_ ?_)) ?_|refine Afz (Ajz (Aqz _ _ _ _ _ ?_ ?_ ?_)) ⟨_,_,rfl,rfl⟩ ?_);(iterate 3 (exact sd));rintro _ _ ⟨rfl,rfl⟩)|((first|refine Akz (Ajz (B6z _ _ _ _ _ _ ?_ ?_ ?_)) ?_|refine Afz (Ajz (B6z _ _ _ _ _ _ ?_ ?_ ?_)) ⟨_,_,rfl,rfl⟩ ?_);(iterate 3 (exact sd));rintro _ _ ⟨rfl,rfl⟩))<;>(try simp (disch:=omega) only [push_cast,seval,hv,hvv,ha,h8i,hel,Aaz]))
 | (refine Aez ⟨.inr rfl,[16000,16001],[(16000,1),(16001,5)],_,by decide,rfl,?_⟩; (try simp (disch := omega) only [push_cast,seval,↓Agz,↓Acz,↓List.map_cons,↓List.map_nil,hv,hvv,ha,h8i,hel,Aaz]))))
          all_goals simp [OBs,EL]
        · have hd:(!decide (es.length=8))=true:=by simp [h8]
          have h8i:((es.length:Int)=8)=False:=eq_false (by omega)
          simp only [hd,Bool.and_true,Cnz]
          (repeat' (first
 | (first|refine Ahz ?_|refine Abz ?_)
 | ((first|refine Aiz ?_|refine Adz ?_|refine Aoz ?_);simp (disch:=omega) only [push_cast,seval,l34r0,l34r1,l34r2,l34r3,hv,hvv,ha,h8i,hel,Aaz])
 | ((first|refine Alz false ?_);simp (disch:=omega) only [push_cast,seval,hv,hvv,ha,h8i,hel,Aaz])
 | ((first|((first|refine Akz (Ajz (A0z _ _ _ _ ?_ ?_ ?_)) ?_|refine Afz (Ajz (A0z _ _ _ _ ?_ ?_ ?_)) ⟨_,_,rfl,rfl⟩ ?_);(iterate 3 (exact sd));rintro _ _ ⟨rfl,rfl⟩)|((first|refine Akz (Ajz (Aqz _ _ _ _ _ ?_ ?_ ?_)) ?_|refine Afz (Ajz (Aqz _ _ _ _ _ ?_ ?_ ?_)) ⟨_,_,rfl,rfl⟩ ?_);(iterate 3 (exact sd));rintro _ _ ⟨rfl,rfl⟩)|((first|refine Akz (Ajz (B6z _ _ _ _ _ _ ?_ ?_ ?_)) ?_|refine Afz (Ajz (B6z _ _ _ _ _ _ ?_ ?_ ?_)) ⟨_,_,rfl,rfl⟩ ?_);(iterate 3 (exact sd));rintro _ _ ⟨rfl,rfl⟩)|((first|refine Akz (J4z _ _ _ _ _ _ _ _ _ _ ?_ ?_ ?_ ?_ ?_) ?_|refine Afz (J4z _ _ _ _ _ _ _ _ _ _ ?_ ?_ ?_ ?_ ?_) ⟨_,_,rfl,rfl⟩ ?_);(iterate 5 (exact sd));rintro _ _ ⟨rfl,rfl⟩))<;>(try simp (disch:=omega) only [push_cast,seval,hv,hvv,ha,h8i,hel,Aaz]))
 | (refine Aez ⟨.inr rfl,[496,497],[],_,by decide,rfl,?_⟩; (try simp (disch := omega) only [push_cast,seval,↓Agz,↓Acz,↓List.map_cons,↓List.map_nil,hv,hvv,ha,h8i,hel,Aaz]))))
          all_goals simp [OBs]

end Go.Proofs.YtkpcjppnjmhanaaGreatDoor
