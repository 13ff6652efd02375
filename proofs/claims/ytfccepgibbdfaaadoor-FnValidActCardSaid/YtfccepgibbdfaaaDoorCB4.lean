/- Texts of this verifier. -/
import Derived.Test.YtfccepgibbdfaaaDoorCB3
import Derived.Test.YtfccepgibbdfaaaDoorCM1
import Derived.Test.YtfccepgibbdfaaaDoorCW3
set_option maxHeartbeats 4000000
set_option linter.unusedSimpArgs false
set_option linter.unusedSectionVars false
set_option linter.unusedVariables false
set_option maxRecDepth 4000
namespace Go.Proofs.YtfccepgibbdfaaaDoor
open VwM Vw Go
variable [PowA]



set_option maxHeartbeats 16000000 in
theorem Eez (cs:List Int) (es:List Ex) (m n:Nat) (hm:cs.length=m) (hn:es.length=n) (hb:m ≤ 1099511627776 ∧ n ≤ 1099511627776 ∧ exB 1099511627776 es):BCall Tryd.prog 55 [.agg [.rows false (IL cs) m,.rows false (EL false es) n]] [] (fun r H'=>r=.agg [.own 0 m 1,.own 1 n 5] ∧ H'=[IL cs,EL true es]):=by
  subst hm hn
  obtain ⟨hb1,hb2,hb3⟩:=hb
  refine Axz (pins:=[]) (pin:=0) l55_eq rfl rfl rfl ?_
  have hel:=A0z false es
  (repeat' (first
 | (first|refine Ahz ?_|refine Abz ?_)
 | ((first|refine Aiz ?_);simp (disch:=omega) only [push_cast,seval,l55r0,l55r1,l55r2,l55r3,l55r4,l55r5,l55r6,l55r7,l55r8,Aaz,hel])
 | ((first|refine Alz false ?_);simp (disch:=omega) only [push_cast,seval,Aaz,hel])
 | ((first|((first|refine Akz (B1z _ _ ?_ ?_) ?_|refine Agz (B1z _ _ ?_ ?_) ⟨_,_,rfl,rfl⟩ ?_);(iterate 2 (exact sd));rintro _ _ ⟨rfl,rfl⟩))<;>(try simp (disch:=omega) only [push_cast,seval,Aaz,hel]))))
  refine G3z (fun i:Nat=>mkS [(1,.ref 16 2 0),(2,.ref 32 2 0),(3,.ref 48 2 0),(4,.int .i64 i)] [(16,[.rows false (IL cs) cs.length,.rows false (EL false es) es.length]),(32,[.rows true [] 0,.rows true [] 0]),(48,[.own 128 cs.length 1,.own 480 i 5]),(128,IL cs),(480,EL true (es.take i))]) (fun i=>i ≤ es.length) (fun i=>es.length - i) 0 (Nat.zero_le _) ?_ ?_
  · refine SubW.adoptH [48] 480 5 (by simp [Vw.hk]) ?_
    have e0:EL true (es.take 0)=[]:=rfl
    rw [e0]
    simp only [adHL,List.map_cons,List.map_nil,adA,List.contains_cons,List.contains_nil]
    refine SubW.freeze [] (fun _ h=>by cases h) (SubW.of ?_)
    simp (disch:=omega) only [push_cast,seval,frzA,frzH,rhoF,List.contains_cons,List.contains_nil,Bool.or_false,Bool.false_eq_true,List.map_append,List.map_cons,List.map_nil,List.length_map]
    (refine Sub.of_lists ?_ ?_ ?_ ?_ ?_<;>simp [Vw.mkS,Vw.lk,Vw.hk,AV.inn,innL,Arz,Anz,Asz,-List.map_set,-List.getD_eq_getElem?_getD,Aaz])
  · intro i hi
    by_cases hlt:i < es.length
    · obtain ⟨p,b,x,y,o,he⟩:=Elz hlt
      have hbb:=Fhz hb3 he
      have hd:=Crz false es i he
      simp only at hd
      have hil:i * 5 + 5 ≤ es.length * 5:=by omega
      have htl:(EL true (es.take i)).length=i * 5:=by rw [A0z,List.length_take];omega
      have hsu:=EL_take true he
      simp only at hsu
      (repeat' (first
 | (first|refine Ahz ?_|refine Abz ?_)
 | ((first|refine Aiz ?_|refine Afz ?_|refine Aoz ?_);simp (disch:=omega) only [push_cast,seval,l55r0,l55r1,l55r2,l55r3,l55r4,l55r5,l55r6,l55r7,l55r8,hd,hel,hil,htl,Aaz,zcX])
 | ((first|refine Amz (fun h=>?_) (fun h=>?_))<;>(try simp only [h])<;>(try simp only [bitvec_to_nat] at h)<;>(try simp only [h])<;>(first|(exfalso;omega)|(exfalso;simp_all;done)|(simp (disch:=omega) only [push_cast,seval,hd,hel,hil,htl,Aaz,zcX])|skip))
 | ((first|refine Alz false ?_);simp (disch:=omega) only [push_cast,seval,hd,hel,hil,htl,Aaz,zcX])
 | ((first|((first|refine Akz (A9z _ _ _ _ _ ?_ ?_ ?_) ?_|refine Agz (A9z _ _ _ _ _ ?_ ?_ ?_) ⟨_,_,rfl,rfl⟩ ?_);(iterate 3 (exact sd));rintro _ _ ⟨rfl,rfl⟩))<;>(try simp (disch:=omega) only [push_cast,seval,hd,hel,hil,htl,Aaz,zcX]))))
      refine ⟨i + 1,by omega,by omega,?_⟩
      refine SubW.trans (s1:=mkS [(1,.ref 16 2 0),(2,.ref 32 2 0),(3,.ref 48 2 0),(4,.int .i64 ((i:Int) + 1))] [(16,[.rows false (IL cs) cs.length,.rows false (EL false es) es.length]),(32,[.rows true [] 0,.rows true [] 0]),(48,[.own 128 cs.length 1,.own 480 (i + 1) 5]),(128,IL cs),(480,EL true (es.take i) ++ [.int .i64 p,.int .i64 b,.own 384 x.length 1,.own 385 y.length 1,.bool o]),(384,IL x),(385,IL y)]) (SubW.of (by (refine Sub.of_lists ?_ ?_ ?_ ?_ ?_<;>simp [Vw.mkS,Vw.lk,Vw.hk,AV.inn,innL,Arz,Anz,Asz,-List.map_set,-List.getD_eq_getElem?_getD,Aaz]))) ?_
      refine SubW.freeze [384,385] (by decide) (SubW.of ?_)
      simp (disch:=omega) only [push_cast,seval,frzA,frzH,rhoF,List.contains_cons,List.contains_nil,Bool.or_false,Bool.false_eq_true,List.map_append,List.map_cons,List.map_nil,List.length_map]
      (refine Sub.of_lists ?_ ?_ ?_ ?_ ?_<;>simp [Vw.mkS,Vw.lk,Vw.hk,AV.inn,innL,Arz,Anz,Asz,-List.map_set,-List.getD_eq_getElem?_getD,Aaz,hsu])
    · have e:i=es.length:=by omega
      subst e
      (repeat' (first
 | (first|refine Ahz ?_|refine Abz ?_)
 | ((first|refine Aiz ?_|refine Afz ?_|refine A7z ?_);simp (disch:=omega) only [push_cast,seval,l55r0,l55r1,l55r2,l55r3,l55r4,l55r5,l55r6,l55r7,l55r8,Aaz,List.take_length])
 | ((first|refine Amz (fun h=>?_) (fun h=>?_))<;>(try simp only [h])<;>(try simp only [bitvec_to_nat] at h)<;>(try simp only [h])<;>(first|(exfalso;omega)|(exfalso;simp_all;done)|(simp (disch:=omega) only [push_cast,seval,Aaz,List.take_length])|skip))
 | (refine Adz ⟨.inr rfl,[128,480],[],_,by decide,rfl,?_⟩;(try simp (disch:=omega) only [push_cast,seval,↓Aez,↓Acz,↓List.map_cons,↓List.map_nil,Aaz,List.take_length]))))
      all_goals skip

end Go.Proofs.YtfccepgibbdfaaaDoor
namespace Go.Proofs.YtfccepgibbdfaaaDoor
open VwM Vw Go
variable [PowA]

abbrev OBs (ok:Bool) (cs:List Int) (es:List Ex):AV → List (List AV) → Prop:=fun r H'=>r=.tup [.agg [.own 0 cs.length 1,.own 1 es.length 5],.bool ok] ∧ H'=[IL cs,EL true es]
/-- What comes of it if 'g' holds. -/
def ifB {α:Type} (g:Bool) (l:List α):List α:=if g=true then l else []
theorem Dfz {α:Type} (l:List α):ifB true l=l:=rfl
theorem A8z {α:Type} (l:List α):ifB false l=[]:=rfl
def relG (cs:List Int) (es:List Ex) (id:Int):Bool:=(vB cs es && opA es id) && decide ((kidsT es id es.length).length=0)


set_option maxHeartbeats 8000000 in
theorem sRel_ok (cs:List Int) (es:List Ex) (m n:Nat) (id:Int) (hm:cs.length=m) (hn:es.length=n) (hb:m ≤ 1099511627776 ∧ n ≤ 1099511627776 ∧ exB 1099511627776 es) :
    BCall Tryd.prog 46 [.agg [.rows false (IL cs) m,.rows false (EL false es) n],.int .i64 id] [] (OBs (relG cs es id) (ifB (relG cs es id) cs) (ifB (relG cs es id) (relE es id.toNat))):=by
  subst hm hn
  have hb0:=hb
  obtain ⟨hb1,hb2,hb3⟩:=hb
  have hel:=A0z false es
  have helt:=A0z true es
  refine Axz (pins:=[]) (pin:=0) l46_eq rfl rfl rfl ?_
  unfold relG
  cases hv:vB cs es with
  | false =>
    simp only [Bool.false_and,A8z]
    (repeat' (first
 | (first|refine Ahz ?_|refine Abz ?_)
 | ((first|refine Aiz ?_|refine Afz ?_);simp (disch:=omega) only [push_cast,seval,l46r0,l46r1,l46r2,l46r3,l46r4,l46r5,hv,hel,Aaz])
 | ((first|refine Alz false ?_);simp (disch:=omega) only [push_cast,seval,hv,hel,Aaz])
 | ((first|((first|refine Akz (Ajz (Azz _ _ _ _ ?_ ?_ ?_)) ?_|refine Agz (Ajz (Azz _ _ _ _ ?_ ?_ ?_)) ⟨_,_,rfl,rfl⟩ ?_);(iterate 3 (exact sd));rintro _ _ ⟨rfl,rfl⟩))<;>(try simp (disch:=omega) only [push_cast,seval,hv,hel,Aaz]))
 | (refine Adz ⟨.inr rfl,[16000,16001],[(16000,1),(16001,5)],_,by decide,rfl,?_⟩;(try simp (disch:=omega) only [push_cast,seval,↓Aez,↓Acz,↓List.map_cons,↓List.map_nil,hv,hel,Aaz]))))
    all_goals simp [OBs,EL]
  | true =>
    obtain ⟨v1,v2,v3⟩:=vB_8 hv
    cases hr:opA es id with
    | false =>
      simp only [Bool.true_and,Bool.false_and,A8z]
      (repeat' (first
 | (first|refine Ahz ?_|refine Abz ?_)
 | ((first|refine Aiz ?_|refine Afz ?_);simp (disch:=omega) only [push_cast,seval,l46r0,l46r1,l46r2,l46r3,l46r4,l46r5,hv,hr,hel,Aaz])
 | ((first|refine Alz false ?_);simp (disch:=omega) only [push_cast,seval,hv,hr,hel,Aaz])
 | ((first|((first|refine Akz (Ajz (Azz _ _ _ _ ?_ ?_ ?_)) ?_|refine Agz (Ajz (Azz _ _ _ _ ?_ ?_ ?_)) ⟨_,_,rfl,rfl⟩ ?_);(iterate 3 (exact sd));rintro _ _ ⟨rfl,rfl⟩)|((first|refine Akz (Ajz (Blz _ _ _ _ _ ?_ ?_ ?_)) ?_|refine Agz (Ajz (Blz _ _ _ _ _ ?_ ?_ ?_)) ⟨_,_,rfl,rfl⟩ ?_);(iterate 3 (exact sd));rintro _ _ ⟨rfl,rfl⟩))<;>(try simp (disch:=omega) only [push_cast,seval,hv,hr,hel,Aaz]))
 | (refine Adz ⟨.inr rfl,[16000,16001],[(16000,1),(16001,5)],_,by decide,rfl,?_⟩;(try simp (disch:=omega) only [push_cast,seval,↓Aez,↓Acz,↓List.map_cons,↓List.map_nil,hv,hr,hel,Aaz]))))
      all_goals simp [OBs,EL]
    | true =>
      obtain ⟨q,p,b,x,y,rfl,hq,he,hvw⟩:=Foz hr
      have hrel:=EL_rel (b:=true) he
      have hrl:=relE_length es q
      have hil:q * 5 + 5 ≤ es.length * 5:=by omega
      simp only [Bool.true_and,Int.toNat_natCast]
      generalize hK:kidsT es (q:Int) es.length=K at *
      by_cases hk0:K.length=0
      · have hkd:decide (K.length=0)=true:=decide_eq_true hk0
        rw [hkd,Dfz,Dfz]
        (repeat' (first
 | (first|refine Ahz ?_|refine Abz ?_)
 | ((first|refine Aiz ?_|refine Afz ?_|refine Aoz ?_);simp (disch:=omega) only [push_cast,seval,l46r0,l46r1,l46r2,l46r3,l46r4,l46r5,hv,hr,hK,hk0,hil,hel,helt,hrel,Aaz])
 | ((first|refine Alz false ?_);simp (disch:=omega) only [push_cast,seval,hv,hr,hK,hk0,hil,hel,helt,hrel,Aaz])
 | ((first|((first|refine Akz (Ajz (Azz _ _ _ _ ?_ ?_ ?_)) ?_|refine Agz (Ajz (Azz _ _ _ _ ?_ ?_ ?_)) ⟨_,_,rfl,rfl⟩ ?_);(iterate 3 (exact sd));rintro _ _ ⟨rfl,rfl⟩)|((first|refine Akz (Ajz (Blz _ _ _ _ _ ?_ ?_ ?_)) ?_|refine Agz (Ajz (Blz _ _ _ _ _ ?_ ?_ ?_)) ⟨_,_,rfl,rfl⟩ ?_);(iterate 3 (exact sd));rintro _ _ ⟨rfl,rfl⟩)|((first|refine Akz (Fwz _ _ _ _ _ ?_ ?_ ?_) ?_|refine Agz (Fwz _ _ _ _ _ ?_ ?_ ?_) ⟨_,_,rfl,rfl⟩ ?_);(iterate 3 (exact sd));rintro _ _ ⟨rfl,rfl⟩)|((first|refine Akz (Eez _ _ _ _ ?_ ?_ ?_) ?_|refine Agz (Eez _ _ _ _ ?_ ?_ ?_) ⟨_,_,rfl,rfl⟩ ?_);(iterate 3 (exact sd));rintro _ _ ⟨rfl,rfl⟩))<;>(try simp (disch:=omega) only [push_cast,seval,hv,hr,hK,hk0,hil,hel,helt,hrel,Aaz]))
 | (refine Adz ⟨.inr rfl,[400,401],[],_,by decide,rfl,?_⟩;(try simp (disch:=omega) only [push_cast,seval,↓Aez,↓Acz,↓List.map_cons,↓List.map_nil,hv,hr,hK,hk0,hil,hel,helt,hrel,Aaz]))))
        all_goals simp [OBs,hrl]
      · have hkd:decide (K.length=0)=false:=decide_eq_false hk0
        rw [hkd,A8z,A8z]
        (repeat' (first
 | (first|refine Ahz ?_|refine Abz ?_)
 | ((first|refine Aiz ?_|refine Afz ?_);simp (disch:=omega) only [push_cast,seval,l46r0,l46r1,l46r2,l46r3,l46r4,l46r5,hv,hr,hK,hk0,hil,hel,Aaz])
 | ((first|refine Amz (fun h=>?_) (fun h=>?_))<;>(try simp only [h])<;>(try simp only [bitvec_to_nat] at h)<;>(try simp only [h])<;>(first|(exfalso;omega)|(exfalso;simp_all;done)|(simp (disch:=omega) only [push_cast,seval,hv,hr,hK,hk0,hil,hel,Aaz])|skip))
 | ((first|refine Alz false ?_);simp (disch:=omega) only [push_cast,seval,hv,hr,hK,hk0,hil,hel,Aaz])
 | ((first|((first|refine Akz (Ajz (Azz _ _ _ _ ?_ ?_ ?_)) ?_|refine Agz (Ajz (Azz _ _ _ _ ?_ ?_ ?_)) ⟨_,_,rfl,rfl⟩ ?_);(iterate 3 (exact sd));rintro _ _ ⟨rfl,rfl⟩)|((first|refine Akz (Ajz (Blz _ _ _ _ _ ?_ ?_ ?_)) ?_|refine Agz (Ajz (Blz _ _ _ _ _ ?_ ?_ ?_)) ⟨_,_,rfl,rfl⟩ ?_);(iterate 3 (exact sd));rintro _ _ ⟨rfl,rfl⟩)|((first|refine Akz (Fwz _ _ _ _ _ ?_ ?_ ?_) ?_|refine Agz (Fwz _ _ _ _ _ ?_ ?_ ?_) ⟨_,_,rfl,rfl⟩ ?_);(iterate 3 (exact sd));rintro _ _ ⟨rfl,rfl⟩))<;>(try simp (disch:=omega) only [push_cast,seval,hv,hr,hK,hk0,hil,hel,Aaz]))
 | (refine Adz ⟨.inr rfl,[16000,16001],[(16000,1),(16001,5)],_,by decide,rfl,?_⟩;(try simp (disch:=omega) only [push_cast,seval,↓Aez,↓Acz,↓List.map_cons,↓List.map_nil,hv,hr,hK,hk0,hil,hel,Aaz]))))
        all_goals simp [OBs,EL]

end Go.Proofs.YtfccepgibbdfaaaDoor
namespace Go.Proofs.YtfccepgibbdfaaaDoor
open VwM Vw Go
variable [PowA]

end Go.Proofs.YtfccepgibbdfaaaDoor
namespace Go.Proofs.YtfccepgibbdfaaaDoor
open VwM Vw Go
variable [PowA]



set_option maxHeartbeats 8000000 in
theorem Igz (cs:List Int) (es:List Ex) (m n:Nat) (p b:Int) (x y:List Int) (k l:Nat) (hm:cs.length=m) (hn:es.length=n) (hk:x.length=k) (hl:y.length=l) (hb:(k ≤ 1099511627776 ∧ l ≤ 1099511627776) ∧ m ≤ 1099511627776 ∧ n ≤ 1000 ∧ exB 1099511627776 es) :
    BCall Tryd.prog 58 [.agg [.rows false (IL cs) m,.rows false (EL false es) n],.int .i64 p,.agg [.int .i64 b,.rows false (IL x) k,.rows false (IL y) l]] [] (fun r H'=>r=.agg [.own 0 m 1,.own 1 (n + 1) 5] ∧ H'=[IL cs,EL true (es ++ [(p,(b,x,y),true)])]):=by
  subst hm hn hk hl
  obtain ⟨⟨hbx,hby⟩,hb1,hb2,hb3⟩:=hb
  have hq:cs.length ≤ 1099511627776 ∧ es.length ≤ 1099511627776 ∧ exB 1099511627776 es:=⟨hb1,by omega,hb3⟩
  have hel:=A0z true es
  have ha:=G8z true es [(p,(b,x,y),true)]
  simp only [EL] at ha
  refine Axz (pins:=[]) (pin:=0) l58_eq rfl rfl rfl ?_
  (repeat' (first
 | (first|refine Ahz ?_|refine Abz ?_)
 | ((first|refine Aiz ?_|refine Avz (mid:=l58r2a) (post:=l58r2b) Baz (by decide) ?_);simp (disch:=omega) only [push_cast,seval,l58r0,l58r1,l58r2a,l58r2b,l58r2,l58r3,hel,ha,Aaz,zcX,List.map_append,List.length_map])
 | ((first|refine Alz false ?_|refine Atz false ?_);simp (disch:=omega) only [push_cast,seval,hel,ha,Aaz,zcX,List.map_append,List.length_map])
 | ((first|((first|refine Akz (Eez _ _ _ _ ?_ ?_ ?_) ?_|refine Agz (Eez _ _ _ _ ?_ ?_ ?_) ⟨_,_,rfl,rfl⟩ ?_);(iterate 3 (exact sd));rintro _ _ ⟨rfl,rfl⟩)|((first|refine Akz (A9z _ _ _ _ _ ?_ ?_ ?_) ?_|refine Agz (A9z _ _ _ _ _ ?_ ?_ ?_) ⟨_,_,rfl,rfl⟩ ?_);(iterate 3 (exact sd));rintro _ _ ⟨rfl,rfl⟩))<;>(try simp (disch:=omega) only [push_cast,seval,hel,ha,Aaz,zcX,List.map_append,List.length_map]))
 | (refine Adz ⟨.inr rfl,[144,145],[],_,by decide,rfl,?_⟩;(try simp (disch:=omega) only [push_cast,seval,↓Aez,↓Acz,↓List.map_cons,↓List.map_nil,hel,ha,Aaz,zcX,List.map_append,List.length_map]))))
  all_goals (try exact ⟨rfl,rfl⟩)
  all_goals (try rfl)

end Go.Proofs.YtfccepgibbdfaaaDoor
namespace Go.Proofs.YtfccepgibbdfaaaDoor
open VwM Vw Go
variable [PowA]

def evG (cs:List Int) (es:List Ex) (b:Int) (x y:List Int):Bool:=(vB cs es && fitB b x y cs.length) && !decide (es.length=8)


set_option maxHeartbeats 8000000 in
theorem sEV_ok (cs:List Int) (es:List Ex) (m n:Nat) (b:Int) (x y:List Int) (k l:Nat) (hm:cs.length=m) (hn:es.length=n) (hk:x.length=k) (hl:y.length=l) (hb:(k ≤ 1099511627776 ∧ l ≤ 1099511627776) ∧ m ≤ 1099511627776 ∧ n ≤ 1099511627776 ∧ exB 1099511627776 es) :
    BCall Tryd.prog 42 [.agg [.rows false (IL cs) m,.rows false (EL false es) n],.agg [.int .i64 b,.rows false (IL x) k,.rows false (IL y) l]] [] (OBs (evG cs es b x y) (ifB (evG cs es b x y) cs) (ifB (evG cs es b x y) (es ++ [(-1,(b,x,y),true)]))):=by
  subst hm hn hk hl
  obtain ⟨⟨hbx,hby⟩,hb1,hb2,hb3⟩:=hb
  have hb0:cs.length ≤ 1099511627776 ∧ es.length ≤ 1099511627776 ∧ exB 1099511627776 es:=⟨hb1,hb2,hb3⟩
  have hel:=A0z false es
  refine Axz (pins:=[]) (pin:=0) l42_eq rfl rfl rfl ?_
  unfold evG
  cases hv:vB cs es with
  | false =>
    simp only [Bool.false_and,A8z]
    (repeat' (first
 | (first|refine Ahz ?_|refine Abz ?_)
 | ((first|refine Aiz ?_|refine Afz ?_);simp (disch:=omega) only [push_cast,seval,l42r0,l42r1,l42r2,l42r3,hv,hel,Aaz])
 | ((first|refine Alz false ?_);simp (disch:=omega) only [push_cast,seval,hv,hel,Aaz])
 | ((first|((first|refine Akz (Ajz (Azz _ _ _ _ ?_ ?_ ?_)) ?_|refine Agz (Ajz (Azz _ _ _ _ ?_ ?_ ?_)) ⟨_,_,rfl,rfl⟩ ?_);(iterate 3 (exact sd));rintro _ _ ⟨rfl,rfl⟩))<;>(try simp (disch:=omega) only [push_cast,seval,hv,hel,Aaz]))
 | (refine Adz ⟨.inr rfl,[16000,16001],[(16000,1),(16001,5)],_,by decide,rfl,?_⟩;(try simp (disch:=omega) only [push_cast,seval,↓Aez,↓Acz,↓List.map_cons,↓List.map_nil,hv,hel,Aaz]))))
    all_goals simp [OBs,EL]
  | true =>
    obtain ⟨v1,v2,v3⟩:=vB_8 hv
    cases hvv:vV b x y with
    | false =>
      have hf:fitB b x y cs.length=false:=by unfold fitB;rw [hvv];rfl
      simp only [hf,Bool.and_false,Bool.false_and,A8z]
      (repeat' (first
 | (first|refine Ahz ?_|refine Abz ?_)
 | ((first|refine Aiz ?_|refine Afz ?_);simp (disch:=omega) only [push_cast,seval,l42r0,l42r1,l42r2,l42r3,hv,hvv,hel,Aaz])
 | ((first|refine Alz false ?_);simp (disch:=omega) only [push_cast,seval,hv,hvv,hel,Aaz])
 | ((first|((first|refine Akz (Ajz (Azz _ _ _ _ ?_ ?_ ?_)) ?_|refine Agz (Ajz (Azz _ _ _ _ ?_ ?_ ?_)) ⟨_,_,rfl,rfl⟩ ?_);(iterate 3 (exact sd));rintro _ _ ⟨rfl,rfl⟩)|((first|refine Akz (Ajz (Aqz _ _ _ _ _ ?_ ?_ ?_)) ?_|refine Agz (Ajz (Aqz _ _ _ _ _ ?_ ?_ ?_)) ⟨_,_,rfl,rfl⟩ ?_);(iterate 3 (exact sd));rintro _ _ ⟨rfl,rfl⟩))<;>(try simp (disch:=omega) only [push_cast,seval,hv,hvv,hel,Aaz]))
 | (refine Adz ⟨.inr rfl,[16000,16001],[(16000,1),(16001,5)],_,by decide,rfl,?_⟩;(try simp (disch:=omega) only [push_cast,seval,↓Aez,↓Acz,↓List.map_cons,↓List.map_nil,hv,hvv,hel,Aaz]))))
      all_goals simp [OBs,EL]
    | true =>
      have hok:=(Cqz hvv).1
      have hf:fitB b x y cs.length=allI (offs b x y) 0 ((cs.length:Int) - 1):=by
        unfold fitB
        rw [hvv]
        have:(decide ((0:Int) ≤ cs.length) && decide ((cs.length:Int) ≤ 60))=true:=by rw [Bool.and_eq_true,decide_eq_true_eq,decide_eq_true_eq];omega
        rw [this];rfl
      rw [hf]
      cases ha:allI (offs b x y) 0 ((cs.length:Int) - 1) with
 | false =>
        simp only [Bool.and_false,Bool.false_and,A8z]
        (repeat' (first
 | (first|refine Ahz ?_|refine Abz ?_)
 | ((first|refine Aiz ?_|refine Afz ?_);simp (disch:=omega) only [push_cast,seval,l42r0,l42r1,l42r2,l42r3,hv,hvv,ha,hel,Aaz])
 | ((first|refine Alz false ?_);simp (disch:=omega) only [push_cast,seval,hv,hvv,ha,hel,Aaz])
 | ((first|((first|refine Akz (Ajz (Azz _ _ _ _ ?_ ?_ ?_)) ?_|refine Agz (Ajz (Azz _ _ _ _ ?_ ?_ ?_)) ⟨_,_,rfl,rfl⟩ ?_);(iterate 3 (exact sd));rintro _ _ ⟨rfl,rfl⟩)|((first|refine Akz (Ajz (Aqz _ _ _ _ _ ?_ ?_ ?_)) ?_|refine Agz (Ajz (Aqz _ _ _ _ _ ?_ ?_ ?_)) ⟨_,_,rfl,rfl⟩ ?_);(iterate 3 (exact sd));rintro _ _ ⟨rfl,rfl⟩)|((first|refine Akz (Ajz (Byz _ _ _ _ _ _ ?_ ?_ ?_)) ?_|refine Agz (Ajz (Byz _ _ _ _ _ _ ?_ ?_ ?_)) ⟨_,_,rfl,rfl⟩ ?_);(iterate 3 (exact sd));rintro _ _ ⟨rfl,rfl⟩))<;>(try simp (disch:=omega) only [push_cast,seval,hv,hvv,ha,hel,Aaz]))
 | (refine Adz ⟨.inr rfl,[16000,16001],[(16000,1),(16001,5)],_,by decide,rfl,?_⟩;(try simp (disch:=omega) only [push_cast,seval,↓Aez,↓Acz,↓List.map_cons,↓List.map_nil,hv,hvv,ha,hel,Aaz]))))
        all_goals simp [OBs,EL]
 | true =>
        by_cases h8:es.length=8
        · have hd:(!decide (es.length=8))=false:=by simp [h8]
          have h8i:(es.length:Int)=8:=by omega
          simp only [hd,Bool.and_false,A8z]
          (repeat' (first
 | (first|refine Ahz ?_|refine Abz ?_)
 | ((first|refine Aiz ?_|refine Afz ?_);simp (disch:=omega) only [push_cast,seval,l42r0,l42r1,l42r2,l42r3,hv,hvv,ha,h8i,hel,Aaz])
 | ((first|refine Alz false ?_);simp (disch:=omega) only [push_cast,seval,hv,hvv,ha,h8i,hel,Aaz])
 | ((first|((first|refine Akz (Ajz (Azz _ _ _ _ ?_ ?_ ?_)) ?_|refine Agz (Ajz (Azz _ _ _ _ ?_ ?_ ?_)) ⟨_,_,rfl,rfl⟩ ?_);(iterate 3 (exact sd));rintro _ _ ⟨rfl,rfl⟩)|((first|refine Akz (Ajz (Aqz _ _ _ _ _ ?_ ?_ ?_)) ?_|refine Agz (Ajz (Aqz _ _ _ _ _ ?_ ?_ ?_)) ⟨_,_,rfl,rfl⟩ ?_);(iterate 3 (exact sd));rintro _ _ ⟨rfl,rfl⟩)|((first|refine Akz (Ajz (Byz _ _ _ _ _ _ ?_ ?_ ?_)) ?_|refine Agz (Ajz (Byz _ _ _ _ _ _ ?_ ?_ ?_)) ⟨_,_,rfl,rfl⟩ ?_);(iterate 3 (exact sd));rintro _ _ ⟨rfl,rfl⟩))<;>(try simp (disch:=omega) only [push_cast,seval,hv,hvv,ha,h8i,hel,Aaz]))
 | (refine Adz ⟨.inr rfl,[16000,16001],[(16000,1),(16001,5)],_,by decide,rfl,?_⟩; (try simp (disch := omega) only [push_cast,seval,↓Aez,↓Acz,↓List.map_cons,↓List.map_nil,hv,hvv,ha,h8i,hel,Aaz]))))
          all_goals simp [OBs,EL]
        · have hd:(!decide (es.length=8))=true:=by simp [h8]
          have h8i:((es.length:Int)=8)=False:=eq_false (by omega)
          simp only [hd,Bool.and_true,Dfz]
          (repeat' (first
 | (first|refine Ahz ?_|refine Abz ?_)
 | ((first|refine Aiz ?_|refine Afz ?_|refine Aoz ?_);simp (disch:=omega) only [push_cast,seval,l42r0,l42r1,l42r2,l42r3,hv,hvv,ha,h8i,hel,Aaz])
 | ((first|refine Alz false ?_);simp (disch:=omega) only [push_cast,seval,hv,hvv,ha,h8i,hel,Aaz])
 | ((first|((first|refine Akz (Ajz (Azz _ _ _ _ ?_ ?_ ?_)) ?_|refine Agz (Ajz (Azz _ _ _ _ ?_ ?_ ?_)) ⟨_,_,rfl,rfl⟩ ?_);(iterate 3 (exact sd));rintro _ _ ⟨rfl,rfl⟩)|((first|refine Akz (Ajz (Aqz _ _ _ _ _ ?_ ?_ ?_)) ?_|refine Agz (Ajz (Aqz _ _ _ _ _ ?_ ?_ ?_)) ⟨_,_,rfl,rfl⟩ ?_);(iterate 3 (exact sd));rintro _ _ ⟨rfl,rfl⟩)|((first|refine Akz (Ajz (Byz _ _ _ _ _ _ ?_ ?_ ?_)) ?_|refine Agz (Ajz (Byz _ _ _ _ _ _ ?_ ?_ ?_)) ⟨_,_,rfl,rfl⟩ ?_);(iterate 3 (exact sd));rintro _ _ ⟨rfl,rfl⟩)|((first|refine Akz (Igz _ _ _ _ _ _ _ _ _ _ ?_ ?_ ?_ ?_ ?_) ?_|refine Agz (Igz _ _ _ _ _ _ _ _ _ _ ?_ ?_ ?_ ?_ ?_) ⟨_,_,rfl,rfl⟩ ?_);(iterate 5 (exact sd));rintro _ _ ⟨rfl,rfl⟩))<;>(try simp (disch:=omega) only [push_cast,seval,hv,hvv,ha,h8i,hel,Aaz]))
 | (refine Adz ⟨.inr rfl,[496,497],[],_,by decide,rfl,?_⟩; (try simp (disch := omega) only [push_cast,seval,↓Aez,↓Acz,↓List.map_cons,↓List.map_nil,hv,hvv,ha,h8i,hel,Aaz]))))
          all_goals simp [OBs]

end Go.Proofs.YtfccepgibbdfaaaDoor
namespace Go.Proofs.YtfccepgibbdfaaaDoor
open VwM Vw Go
variable [PowA]

def xfG (cs:List Int) (es:List Ex) (id v:Int):Bool:=(vB cs es && opA es id) && (decide (0 ≤ v) && decide (v ≤ 255))
def xfC (cs:List Int) (es:List Ex) (id v:Int):List Int:=filL cs (vwA es id).1 (vwA es id).2.1 (vwA es id).2.2 v
theorem Gxz (cs:List Int) (b:Int) (x y:List Int) (v:Int):(filL cs b x y v).length=cs.length:=Cnz ..


set_option maxHeartbeats 8000000 in
theorem sFE_ok (cs:List Int) (es:List Ex) (m n:Nat) (id v:Int) (hm:cs.length=m) (hn:es.length=n) (hb:m ≤ 1099511627776 ∧ n ≤ 1099511627776 ∧ exB 1099511627776 es) :
    BCall Tryd.prog 44 [.agg [.rows false (IL cs) m,.rows false (EL false es) n],.int .i64 id,.int .i64 v] [] (OBs (xfG cs es id v) (ifB (xfG cs es id v) (xfC cs es id v)) (ifB (xfG cs es id v) es)):=by
  subst hm hn
  have hb0:=hb
  obtain ⟨hb1,hb2,hb3⟩:=hb
  have hel:=A0z false es
  refine Axz (pins:=[]) (pin:=0) l44_eq rfl rfl rfl ?_
  unfold xfG
  cases hv:vB cs es with
  | false =>
    simp only [Bool.false_and,A8z]
    (repeat' (first
 | (first|refine Ahz ?_|refine Abz ?_)
 | ((first|refine Aiz ?_|refine Afz ?_);simp (disch:=omega) only [push_cast,seval,l44r0,l44r1,l44r2,l44r3,l44r4a,l44r4b,l44r4,l44r5,hv,hel,Aaz])
 | ((first|refine Alz false ?_);simp (disch:=omega) only [push_cast,seval,hv,hel,Aaz])
 | ((first|((first|refine Akz (Ajz (Azz _ _ _ _ ?_ ?_ ?_)) ?_|refine Agz (Ajz (Azz _ _ _ _ ?_ ?_ ?_)) ⟨_,_,rfl,rfl⟩ ?_);(iterate 3 (exact sd));rintro _ _ ⟨rfl,rfl⟩))<;>(try simp (disch:=omega) only [push_cast,seval,hv,hel,Aaz]))
 | (refine Adz ⟨.inr rfl,[16000,16001],[(16000,1),(16001,5)],_,by decide,rfl,?_⟩;(try simp (disch:=omega) only [push_cast,seval,↓Aez,↓Acz,↓List.map_cons,↓List.map_nil,hv,hel,Aaz]))))
    all_goals simp [OBs,EL]
  | true =>
    obtain ⟨v1,v2,v3⟩:=vB_8 hv
    cases hr:opA es id with
    | false =>
      simp only [Bool.true_and,Bool.false_and,A8z]
      (repeat' (first
 | (first|refine Ahz ?_|refine Abz ?_)
 | ((first|refine Aiz ?_|refine Afz ?_);simp (disch:=omega) only [push_cast,seval,l44r0,l44r1,l44r2,l44r3,l44r4a,l44r4b,l44r4,l44r5,hv,hr,hel,Aaz])
 | ((first|refine Alz false ?_);simp (disch:=omega) only [push_cast,seval,hv,hr,hel,Aaz])
 | ((first|((first|refine Akz (Ajz (Azz _ _ _ _ ?_ ?_ ?_)) ?_|refine Agz (Ajz (Azz _ _ _ _ ?_ ?_ ?_)) ⟨_,_,rfl,rfl⟩ ?_);(iterate 3 (exact sd));rintro _ _ ⟨rfl,rfl⟩)|((first|refine Akz (Ajz (Blz _ _ _ _ _ ?_ ?_ ?_)) ?_|refine Agz (Ajz (Blz _ _ _ _ _ ?_ ?_ ?_)) ⟨_,_,rfl,rfl⟩ ?_);(iterate 3 (exact sd));rintro _ _ ⟨rfl,rfl⟩))<;>(try simp (disch:=omega) only [push_cast,seval,hv,hr,hel,Aaz]))
 | (refine Adz ⟨.inr rfl,[16000,16001],[(16000,1),(16001,5)],_,by decide,rfl,?_⟩;(try simp (disch:=omega) only [push_cast,seval,↓Aez,↓Acz,↓List.map_cons,↓List.map_nil,hv,hr,hel,Aaz]))))
      all_goals simp [OBs,EL]
    | true =>
      simp only [Bool.true_and]
      cases hx:(decide (0 ≤ v) && decide (v ≤ 255)) with
 | false =>
        simp only [A8z]
        (repeat' (first
 | (first|refine Ahz ?_|refine Abz ?_)
 | ((first|refine Aiz ?_|refine Afz ?_);simp (disch:=omega) only [push_cast,seval,l44r0,l44r1,l44r2,l44r3,l44r4a,l44r4b,l44r4,l44r5,hv,hr,hx,hel,Aaz])
 | ((first|refine Alz false ?_);simp (disch:=omega) only [push_cast,seval,hv,hr,hx,hel,Aaz])
 | ((first|((first|refine Akz (Ajz (Azz _ _ _ _ ?_ ?_ ?_)) ?_|refine Agz (Ajz (Azz _ _ _ _ ?_ ?_ ?_)) ⟨_,_,rfl,rfl⟩ ?_);(iterate 3 (exact sd));rintro _ _ ⟨rfl,rfl⟩)|((first|refine Akz (Ajz (Blz _ _ _ _ _ ?_ ?_ ?_)) ?_|refine Agz (Ajz (Blz _ _ _ _ _ ?_ ?_ ?_)) ⟨_,_,rfl,rfl⟩ ?_);(iterate 3 (exact sd));rintro _ _ ⟨rfl,rfl⟩)|((first|refine Akz (Ajz (Apz _ _ _)) ?_|refine Agz (Ajz (Apz _ _ _)) ⟨_,_,rfl,rfl⟩ ?_);rintro _ _ ⟨rfl,rfl⟩))<;>(try simp (disch:=omega) only [push_cast,seval,hv,hr,hx,hel,Aaz]))
 | (refine Adz ⟨.inr rfl,[16000,16001],[(16000,1),(16001,5)],_,by decide,rfl,?_⟩;(try simp (disch:=omega) only [push_cast,seval,↓Aez,↓Acz,↓List.map_cons,↓List.map_nil,hv,hr,hx,hel,Aaz]))))
        all_goals simp [OBs,EL]
 | true =>
        obtain ⟨q,p,b,x,y,rfl,hq,he,hvw⟩:=Foz hr
        have hs:=vB_see hv he
        have hbb:=Fhz hb3 he
        have hd:=Crz false es q he
        simp only at hd
        have hil:q * 5 + 5 ≤ es.length * 5:=by omega
        have h3:((EL false es).drop (q * 5 + 1)).take 3=[.int .i64 b,.rows false (IL x) x.length,.rows false (IL y) y.length]:=by
          have:=congrArg (fun l=>(l.drop 1).take 3) hd
          simpa [List.drop_take,List.drop_drop,List.take_take] using this
        have hfb:filB cs b x y v=true:=by unfold filB;rw [hs,hx];rfl
        have hlen:=Gxz cs b x y v
        unfold xfC
        simp only [Dfz,hvw]
        generalize hZ:filL cs b x y v=Z at *
        (repeat' (first
 | (first|refine Ahz ?_|refine Abz ?_)
 | ((first|refine Aiz ?_|refine B7z (mid:=l44r4a) (post:=l44r4b) [128,1000000039] Baz (by decide) ?_|refine Afz ?_|refine Aoz ?_);simp (disch:=omega) only [push_cast,seval,l44r0,l44r1,l44r2,l44r3,l44r4a,l44r4b,l44r4,l44r5,hv,hr,hx,h3,hfb,hZ,hil,hel,Aaz,MVL_true])
 | ((first|refine Alz false ?_|refine Atz false ?_);simp (disch:=omega) only [push_cast,seval,hv,hr,hx,h3,hfb,hZ,hil,hel,Aaz,MVL_true])
 | ((first|((first|refine Akz (Ajz (Azz _ _ _ _ ?_ ?_ ?_)) ?_|refine Agz (Ajz (Azz _ _ _ _ ?_ ?_ ?_)) ⟨_,_,rfl,rfl⟩ ?_);(iterate 3 (exact sd));rintro _ _ ⟨rfl,rfl⟩)|((first|refine Akz (Ajz (Blz _ _ _ _ _ ?_ ?_ ?_)) ?_|refine Agz (Ajz (Blz _ _ _ _ _ ?_ ?_ ?_)) ⟨_,_,rfl,rfl⟩ ?_);(iterate 3 (exact sd));rintro _ _ ⟨rfl,rfl⟩)|((first|refine Akz (Ajz (Apz _ _ _)) ?_|refine Agz (Ajz (Apz _ _ _)) ⟨_,_,rfl,rfl⟩ ?_);rintro _ _ ⟨rfl,rfl⟩)|((first|refine Akz (Eez _ _ _ _ ?_ ?_ ?_) ?_|refine Agz (Eez _ _ _ _ ?_ ?_ ?_) ⟨_,_,rfl,rfl⟩ ?_);(iterate 3 (exact sd));rintro _ _ ⟨rfl,rfl⟩)|((first|refine Akz (sFill_ok _ _ _ _ _ _ _ _ ?_ ?_ ?_ ?_) ?_|refine Agz (sFill_ok _ _ _ _ _ _ _ _ ?_ ?_ ?_ ?_) ⟨_,_,rfl,rfl⟩ ?_);(iterate 4 (exact sd));rintro _ _ ⟨rfl,rfl⟩))<;>(try simp (disch:=omega) only [push_cast,seval,hv,hr,hx,h3,hfb,hZ,hil,hel,Aaz,MVL_true]))
 | (refine Adz ⟨.inr rfl,[576,401],[],_,by decide,rfl,?_⟩;(try simp (disch:=omega) only [push_cast,seval,↓Aez,↓Acz,↓List.map_cons,↓List.map_nil,hv,hr,hx,h3,hfb,hZ,hil,hel,Aaz,MVL_true]))))
        all_goals simp [OBs]

end Go.Proofs.YtfccepgibbdfaaaDoor
namespace Go.Proofs.YtfccepgibbdfaaaDoor
open VwM Vw Go
variable [PowA]

def xcG (cs:List Int) (es:List Ex) (t f:Int):Bool:=((vB cs es && opA es t) && opA es f) && decide ((vwA es t).2.1=(vwA es f).2.1)
def xcC (cs:List Int) (es:List Ex) (t f:Int):List Int:=putL cs (offs (vwA es t).1 (vwA es t).2.1 (vwA es t).2.2) (takesL cs (offs (vwA es f).1 (vwA es f).2.1 (vwA es f).2.2))
theorem twoB_see {mem:List Int} {b:Int} {sh st:List Int} {b':Int} {sh' st':List Int} (h:seeB mem b sh st=true) (h':seeB mem b' sh' st'=true):twoB mem b sh st b' sh' st'=decide (sh=sh'):=by
  unfold twoB;rw [h,h'];rfl
theorem I0z {es:List Ex} {q:Nat} {p b:Int} {x y:List Int} {o:Bool} (he:es[q]?=some (p,(b,x,y),o)):((EL false es).drop (q * 5 + 1)).take 3=[.int .i64 b,.rows false (IL x) x.length,.rows false (IL y) y.length]:=by
  have hd:=Crz false es q he
  simp only at hd
  have:=congrArg (fun l=>(l.drop 1).take 3) hd
  simpa [List.drop_take,List.drop_drop,List.take_take] using this


set_option maxHeartbeats 8000000 in
theorem sCE_ok (cs:List Int) (es:List Ex) (m n:Nat) (t f:Int) (hm:cs.length=m) (hn:es.length=n) (hb:m ≤ 1099511627776 ∧ n ≤ 1099511627776 ∧ exB 1099511627776 es) :
    BCall Tryd.prog 45 [.agg [.rows false (IL cs) m,.rows false (EL false es) n],.int .i64 t,.int .i64 f] [] (OBs (xcG cs es t f) (ifB (xcG cs es t f) (xcC cs es t f)) (ifB (xcG cs es t f) es)):=by
  subst hm hn
  have hb0:=hb
  obtain ⟨hb1,hb2,hb3⟩:=hb
  have hel:=A0z false es
  refine Axz (pins:=[]) (pin:=0) l45_eq rfl rfl rfl ?_
  unfold xcG
  cases hv:vB cs es with
  | false =>
    simp only [Bool.false_and,A8z]
    (repeat' (first
 | (first|refine Ahz ?_|refine Abz ?_)
 | ((first|refine Aiz ?_|refine Afz ?_);simp (disch:=omega) only [push_cast,seval,l45r0,l45r1,l45r2,l45r3a,l45r3b,l45r3,l45r4,l45r5,l45r6,l45r7,l45r8,hv,hel,Aaz])
 | ((first|refine Alz false ?_);simp (disch:=omega) only [push_cast,seval,hv,hel,Aaz])
 | ((first|((first|refine Akz (Ajz (Azz _ _ _ _ ?_ ?_ ?_)) ?_|refine Agz (Ajz (Azz _ _ _ _ ?_ ?_ ?_)) ⟨_,_,rfl,rfl⟩ ?_);(iterate 3 (exact sd));rintro _ _ ⟨rfl,rfl⟩))<;>(try simp (disch:=omega) only [push_cast,seval,hv,hel,Aaz]))
 | (refine Adz ⟨.inr rfl,[16000,16001],[(16000,1),(16001,5)],_,by decide,rfl,?_⟩;(try simp (disch:=omega) only [push_cast,seval,↓Aez,↓Acz,↓List.map_cons,↓List.map_nil,hv,hel,Aaz]))))
    all_goals simp [OBs,EL]
  | true =>
    obtain ⟨v1,v2,v3⟩:=vB_8 hv
    cases hr:opA es t with
    | false =>
      simp only [Bool.true_and,Bool.false_and,A8z]
      (repeat' (first
 | (first|refine Ahz ?_|refine Abz ?_)
 | ((first|refine Aiz ?_|refine Afz ?_);simp (disch:=omega) only [push_cast,seval,l45r0,l45r1,l45r2,l45r3a,l45r3b,l45r3,l45r4,l45r5,l45r6,l45r7,l45r8,hv,hr,hel,Aaz])
 | ((first|refine Alz false ?_);simp (disch:=omega) only [push_cast,seval,hv,hr,hel,Aaz])
 | ((first|((first|refine Akz (Ajz (Azz _ _ _ _ ?_ ?_ ?_)) ?_|refine Agz (Ajz (Azz _ _ _ _ ?_ ?_ ?_)) ⟨_,_,rfl,rfl⟩ ?_);(iterate 3 (exact sd));rintro _ _ ⟨rfl,rfl⟩)|((first|refine Akz (Ajz (Blz _ _ _ _ _ ?_ ?_ ?_)) ?_|refine Agz (Ajz (Blz _ _ _ _ _ ?_ ?_ ?_)) ⟨_,_,rfl,rfl⟩ ?_);(iterate 3 (exact sd));rintro _ _ ⟨rfl,rfl⟩))<;>(try simp (disch:=omega) only [push_cast,seval,hv,hr,hel,Aaz]))
 | (refine Adz ⟨.inr rfl,[16000,16001],[(16000,1),(16001,5)],_,by decide,rfl,?_⟩;(try simp (disch:=omega) only [push_cast,seval,↓Aez,↓Acz,↓List.map_cons,↓List.map_nil,hv,hr,hel,Aaz]))))
      all_goals simp [OBs,EL]
    | true =>
      cases hrf:opA es f with
 | false =>
        simp only [Bool.true_and,Bool.false_and,A8z]
        (repeat' (first
 | (first|refine Ahz ?_|refine Abz ?_)
 | ((first|refine Aiz ?_|refine Afz ?_);simp (disch:=omega) only [push_cast,seval,l45r0,l45r1,l45r2,l45r3a,l45r3b,l45r3,l45r4,l45r5,l45r6,l45r7,l45r8,hv,hr,hrf,hel,Aaz])
 | ((first|refine Alz false ?_);simp (disch:=omega) only [push_cast,seval,hv,hr,hrf,hel,Aaz])
 | ((first|((first|refine Akz (Ajz (Azz _ _ _ _ ?_ ?_ ?_)) ?_|refine Agz (Ajz (Azz _ _ _ _ ?_ ?_ ?_)) ⟨_,_,rfl,rfl⟩ ?_);(iterate 3 (exact sd));rintro _ _ ⟨rfl,rfl⟩)|((first|refine Akz (Ajz (Blz _ _ _ _ _ ?_ ?_ ?_)) ?_|refine Agz (Ajz (Blz _ _ _ _ _ ?_ ?_ ?_)) ⟨_,_,rfl,rfl⟩ ?_);(iterate 3 (exact sd));rintro _ _ ⟨rfl,rfl⟩))<;>(try simp (disch:=omega) only [push_cast,seval,hv,hr,hrf,hel,Aaz]))
 | (refine Adz ⟨.inr rfl,[16000,16001],[(16000,1),(16001,5)],_,by decide,rfl,?_⟩;(try simp (disch:=omega) only [push_cast,seval,↓Aez,↓Acz,↓List.map_cons,↓List.map_nil,hv,hr,hrf,hel,Aaz]))))
        all_goals simp [OBs,EL]
 | true =>
        simp only [Bool.true_and]
        obtain ⟨q,p,b,x,y,rfl,hq,he,hvw⟩:=Foz hr
        obtain ⟨q',p',b',x',y',rfl,hq',he',hvw'⟩:=Foz hrf
        have hs:=vB_see hv he
        have hs':=vB_see hv he'
        have hbb:=Fhz hb3 he
        have hbb':=Fhz hb3 he'
        have hil:q * 5 + 5 ≤ es.length * 5:=by omega
        have hil':q' * 5 + 5 ≤ es.length * 5:=by omega
        have h3:=I0z he
        have h3':=I0z he'
        have htw:=twoB_see hs hs'
        unfold xcC
        simp only [hvw,hvw']
        have hlen:(putL cs (offs b x y) (takesL cs (offs b' x' y'))).length=cs.length:=Cnz ..
        generalize hZ:putL cs (offs b x y) (takesL cs (offs b' x' y'))=Z at *
        cases hx:decide (x=x') with
        | false =>
          rw [hx] at htw
          simp only [A8z]
          (repeat' (first
 | (first|refine Ahz ?_|refine Abz ?_)
 | ((first|refine Aiz ?_|refine Avz (mid:=l45r3a) (post:=l45r3b) Baz (by decide) ?_|refine Afz ?_|refine Aoz ?_);simp (disch:=omega) only [push_cast,seval,l45r0,l45r1,l45r2,l45r3a,l45r3b,l45r3,l45r4,l45r5,l45r6,l45r7,l45r8,hv,hr,hrf,htw,h3,h3',hZ,hil,hil',hel,Aaz,MVL_false])
 | ((first|refine Alz false ?_|refine Atz false ?_);simp (disch:=omega) only [push_cast,seval,hv,hr,hrf,htw,h3,h3',hZ,hil,hil',hel,Aaz,MVL_false])
 | ((first|((first|refine Akz (Ajz (Azz _ _ _ _ ?_ ?_ ?_)) ?_|refine Agz (Ajz (Azz _ _ _ _ ?_ ?_ ?_)) ⟨_,_,rfl,rfl⟩ ?_);(iterate 3 (exact sd));rintro _ _ ⟨rfl,rfl⟩)|((first|refine Akz (Ajz (Blz _ _ _ _ _ ?_ ?_ ?_)) ?_|refine Agz (Ajz (Blz _ _ _ _ _ ?_ ?_ ?_)) ⟨_,_,rfl,rfl⟩ ?_);(iterate 3 (exact sd));rintro _ _ ⟨rfl,rfl⟩)|((first|refine Akz (Fxz _ _ _ _ _ _ _ _ _ _ _ _ ?_ ?_ ?_ ?_ ?_ ?_) ?_|refine Agz (Fxz _ _ _ _ _ _ _ _ _ _ _ _ ?_ ?_ ?_ ?_ ?_ ?_) ⟨_,_,rfl,rfl⟩ ?_);(iterate 6 (exact sd));rintro _ _ ⟨rfl,rfl⟩))<;>(try simp (disch:=omega) only [push_cast,seval,hv,hr,hrf,htw,h3,h3',hZ,hil,hil',hel,Aaz,MVL_false]))
 | (refine Adz ⟨.inr rfl,[16000,16001],[(16000,1),(16001,5)],_,by decide,rfl,?_⟩; (try simp (disch := omega) only [push_cast,seval,↓Aez,↓Acz,↓List.map_cons,↓List.map_nil,hv,hr,hrf,htw,h3,h3',hZ,hil,hil',hel,Aaz,MVL_false]))))
          all_goals simp [OBs,EL]
        | true =>
          rw [hx] at htw
          simp only [Dfz]
          (repeat' (first
 | (first|refine Ahz ?_|refine Abz ?_)
 | ((first|refine Aiz ?_|refine Avz (mid:=l45r3a) (post:=l45r3b) Baz (by decide) ?_|refine Afz ?_|refine Aoz ?_);simp (disch:=omega) only [push_cast,seval,l45r0,l45r1,l45r2,l45r3a,l45r3b,l45r3,l45r4,l45r5,l45r6,l45r7,l45r8,hv,hr,hrf,htw,h3,h3',hZ,hil,hil',hel,Aaz,MVL_true])
 | ((first|refine Alz false ?_|refine Atz false ?_);simp (disch:=omega) only [push_cast,seval,hv,hr,hrf,htw,h3,h3',hZ,hil,hil',hel,Aaz,MVL_true])
 | ((first|((first|refine Akz (Ajz (Azz _ _ _ _ ?_ ?_ ?_)) ?_|refine Agz (Ajz (Azz _ _ _ _ ?_ ?_ ?_)) ⟨_,_,rfl,rfl⟩ ?_);(iterate 3 (exact sd));rintro _ _ ⟨rfl,rfl⟩)|((first|refine Akz (Ajz (Blz _ _ _ _ _ ?_ ?_ ?_)) ?_|refine Agz (Ajz (Blz _ _ _ _ _ ?_ ?_ ?_)) ⟨_,_,rfl,rfl⟩ ?_);(iterate 3 (exact sd));rintro _ _ ⟨rfl,rfl⟩)|((first|refine Akz (Fxz _ _ _ _ _ _ _ _ _ _ _ _ ?_ ?_ ?_ ?_ ?_ ?_) ?_|refine Agz (Fxz _ _ _ _ _ _ _ _ _ _ _ _ ?_ ?_ ?_ ?_ ?_ ?_) ⟨_,_,rfl,rfl⟩ ?_);(iterate 6 (exact sd));rintro _ _ ⟨rfl,rfl⟩)|((first|refine Akz (Eez _ _ _ _ ?_ ?_ ?_) ?_|refine Agz (Eez _ _ _ _ ?_ ?_ ?_) ⟨_,_,rfl,rfl⟩ ?_);(iterate 3 (exact sd));rintro _ _ ⟨rfl,rfl⟩))<;>(try simp (disch:=omega) only [push_cast,seval,hv,hr,hrf,htw,h3,h3',hZ,hil,hil',hel,Aaz,MVL_true]))
 | (refine Adz ⟨.inr rfl,[672,785],[],_,by decide,rfl,?_⟩; (try simp (disch := omega) only [push_cast,seval,↓Aez,↓Acz,↓List.map_cons,↓List.map_nil,hv,hr,hrf,htw,h3,h3',hZ,hil,hil',hel,Aaz,MVL_true]))))
          all_goals simp [OBs]

end Go.Proofs.YtfccepgibbdfaaaDoor
namespace Go.Proofs.YtfccepgibbdfaaaDoor
open VwM Vw Go
variable [PowA]

/-- The first cells,and zeros. -/
def rz (cs:List Int) (N i:Nat):List Int:=(List.range N).map fun j=>if j < i then cs.getD j 0 else 0
def zz (cs:List Int) (N:Nat):List Int:=(List.range N).map fun j=>cs.getD j 0
theorem rz_length (cs:List Int) (N i:Nat):(rz cs N i).length=N:=by simp [rz]
theorem zz_length (cs:List Int) (N:Nat):(zz cs N).length=N:=by simp [zz]
theorem rz_zero (cs:List Int) (N:Nat):rz cs N 0=List.replicate N 0:=by
  unfold rz
  apply List.ext_getElem?
  intro j
  rw [List.getElem?_map]
  by_cases h:j < N
  · rw [List.getElem?_range h,List.getElem?_replicate];simp [h]
  · rw [List.getElem?_eq_none (by simp;omega),List.getElem?_eq_none (by simp;omega)];rfl
theorem rz_set (cs:List Int) (N i:Nat):(rz cs N i).set i (cs.getD i 0)=rz cs N (i + 1):=by
  unfold rz
  apply List.ext_getElem?
  intro j
  rw [List.getElem?_set,List.getElem?_map,List.getElem?_map]
  by_cases h:j < N
  · rw [List.getElem?_range h]
    by_cases e:i=j
    · subst e;simp [h]
    · rw [if_neg e]
      simp only [Option.map_some]
      by_cases h2:j < i
      · rw [if_pos h2,if_pos (by omega)]
      · rw [if_neg h2,if_neg (by omega)]
  · rw [List.getElem?_eq_none (by simp;omega)]
    split
    · rename_i e;simp only [List.length_map,List.length_range];rw [if_neg (by omega)];first|done|rfl
    · rfl
theorem rz_done {cs:List Int} {N i:Nat} (h:N ≤ i ∨ cs.length ≤ i):rz cs N i=zz cs N:=by
  unfold rz zz
  refine List.map_congr_left fun j hj=>?_
  have hj:=List.mem_range.1 hj
  by_cases h2:j < i
  · rw [if_pos h2]
  · rw [if_neg h2,List.getD_eq_getElem?_getD,List.getElem?_eq_none (by omega)];rfl
theorem D0z {es:List Ex}:∀ {k:Nat},opensT es k=[] ↔ ∀ i e,i < k → es[i]?=some e → ¬ e.2.2=true
  | 0=>by simp [opensT]
  | k + 1=>by
    constructor
    · intro h i e hi he
      cases hk:es[k]? with
 | none =>
        by_cases hik:i=k
        · subst hik;rw [hk] at he;cases he
        · simp only [opensT,hk] at h
          exact D0z.1 h i e (by omega) he
 | some f =>
        by_cases hf:f.2.2=true
        · rw [Hnz hk hf] at h;simp at h
        · rw [Ghz hk hf] at h
          by_cases hik:i=k
          · subst hik;rw [hk] at he;injection he with he;subst he;exact hf
          · exact D0z.1 h i e (by omega) he
    · intro h
      have ih:opensT es k=[]:=D0z.2 fun i e hi he=>h i e (by omega) he
      cases hk:es[k]? with
 | none=>simp only [opensT,hk];exact ih
 | some f=>rw [Ghz hk (h k f (by omega) hk)];exact ih
def rzG (cs:List Int) (es:List Ex) (s:Int):Bool:=(vB cs es && (decide (0 ≤ s) && decide (s ≤ 60))) && decide ((opensT es es.length).length=0)


set_option maxHeartbeats 8000000 in
theorem sRz_ok (cs:List Int) (es:List Ex) (m n:Nat) (s:Int) (hm:cs.length=m) (hn:es.length=n) (hb:m ≤ 1099511627776 ∧ n ≤ 1099511627776 ∧ exB 1099511627776 es) :
    BCall Tryd.prog 41 [.agg [.rows false (IL cs) m,.rows false (EL false es) n],.int .i64 s] [] (OBs (rzG cs es s) (ifB (rzG cs es s) (zz cs s.toNat)) (ifB (rzG cs es s) es)):=by
  subst hm hn
  have hb0:=hb
  obtain ⟨hb1,hb2,hb3⟩:=hb
  have hel:=A0z false es
  refine Axz (pins:=[]) (pin:=0) l41_eq rfl rfl rfl ?_
  unfold rzG
  cases hv:vB cs es with
  | false =>
    simp only [Bool.false_and,A8z]
    (repeat' (first
 | (first|refine Ahz ?_|refine Abz ?_)
 | ((first|refine Aiz ?_|refine Afz ?_);simp (disch:=omega) only [push_cast,seval,l41r0,l41r1,l41r2,l41r3,l41r4,l41r5,l41r6,l41r7a,l41r7b,l41r7,l41r8,l41r9,hv,hel,Aaz])
 | ((first|refine Alz false ?_);simp (disch:=omega) only [push_cast,seval,hv,hel,Aaz])
 | ((first|((first|refine Akz (Ajz (Azz _ _ _ _ ?_ ?_ ?_)) ?_|refine Agz (Ajz (Azz _ _ _ _ ?_ ?_ ?_)) ⟨_,_,rfl,rfl⟩ ?_);(iterate 3 (exact sd));rintro _ _ ⟨rfl,rfl⟩))<;>(try simp (disch:=omega) only [push_cast,seval,hv,hel,Aaz]))
 | (refine Adz ⟨.inr rfl,[16000,16001],[(16000,1),(16001,5)],_,by decide,rfl,?_⟩;(try simp (disch:=omega) only [push_cast,seval,↓Aez,↓Acz,↓List.map_cons,↓List.map_nil,hv,hel,Aaz]))))
    all_goals simp [OBs,EL]
  | true =>
    obtain ⟨v1,v2,v3⟩:=vB_8 hv
    simp only [Bool.true_and]
    cases hr:(decide (0 ≤ s) && decide (s ≤ 60)) with
    | false =>
      simp only [Bool.false_and,A8z]
      (repeat' (first
 | (first|refine Ahz ?_|refine Abz ?_)
 | ((first|refine Aiz ?_|refine Afz ?_);simp (disch:=omega) only [push_cast,seval,l41r0,l41r1,l41r2,l41r3,l41r4,l41r5,l41r6,l41r7a,l41r7b,l41r7,l41r8,l41r9,hv,hr,hel,Aaz])
 | ((first|refine Alz false ?_);simp (disch:=omega) only [push_cast,seval,hv,hr,hel,Aaz])
 | ((first|((first|refine Akz (Ajz (Azz _ _ _ _ ?_ ?_ ?_)) ?_|refine Agz (Ajz (Azz _ _ _ _ ?_ ?_ ?_)) ⟨_,_,rfl,rfl⟩ ?_);(iterate 3 (exact sd));rintro _ _ ⟨rfl,rfl⟩)|((first|refine Akz (Ajz (Apz _ _ _)) ?_|refine Agz (Ajz (Apz _ _ _)) ⟨_,_,rfl,rfl⟩ ?_);rintro _ _ ⟨rfl,rfl⟩))<;>(try simp (disch:=omega) only [push_cast,seval,hv,hr,hel,Aaz]))
 | (refine Adz ⟨.inr rfl,[16000,16001],[(16000,1),(16001,5)],_,by decide,rfl,?_⟩;(try simp (disch:=omega) only [push_cast,seval,↓Aez,↓Acz,↓List.map_cons,↓List.map_nil,hv,hr,hel,Aaz]))))
      all_goals simp [OBs,EL]
    | true =>
      simp only [Bool.true_and]
      have hr2:=hr
      rw [Bool.and_eq_true,decide_eq_true_eq,decide_eq_true_eq] at hr2
      have hop:opensA cs es=opensT es es.length:=by unfold opensA;rw [if_pos hv]
      generalize hK:opensT es es.length=K at *
      by_cases hk0:K.length=0
      · rw [decide_eq_true hk0]
        obtain ⟨N,rfl⟩:∃ N:Nat,s=N:=⟨s.toNat,by omega⟩
        simp only [Dfz,Int.toNat_natCast]
        (repeat' (first
 | (first|refine Ahz ?_|refine Abz ?_)
 | ((first|refine Aiz ?_|refine Afz ?_|refine Aoz ?_);simp (disch:=omega) only [push_cast,seval,l41r0,l41r1,l41r2,l41r3,l41r4,l41r5,l41r6,l41r7a,l41r7b,l41r7,l41r8,l41r9,hv,hr,hop,hk0,hel,Aaz])
 | ((first|refine Alz false ?_);simp (disch:=omega) only [push_cast,seval,hv,hr,hop,hk0,hel,Aaz])
 | ((first|((first|refine Akz (Ajz (Azz _ _ _ _ ?_ ?_ ?_)) ?_|refine Agz (Ajz (Azz _ _ _ _ ?_ ?_ ?_)) ⟨_,_,rfl,rfl⟩ ?_);(iterate 3 (exact sd));rintro _ _ ⟨rfl,rfl⟩)|((first|refine Akz (Ajz (Apz _ _ _)) ?_|refine Agz (Ajz (Apz _ _ _)) ⟨_,_,rfl,rfl⟩ ?_);rintro _ _ ⟨rfl,rfl⟩)|((first|refine Akz (Ctz _ _ _ _ ?_ ?_ ?_) ?_|refine Agz (Ctz _ _ _ _ ?_ ?_ ?_) ⟨_,_,rfl,rfl⟩ ?_);(iterate 3 (exact sd));rintro _ _ ⟨rfl,rfl⟩)|((first|refine Akz (Eez _ _ _ _ ?_ ?_ ?_) ?_|refine Agz (Eez _ _ _ _ ?_ ?_ ?_) ⟨_,_,rfl,rfl⟩ ?_);(iterate 3 (exact sd));rintro _ _ ⟨rfl,rfl⟩))<;>(try simp (disch:=omega) only [push_cast,seval,hv,hr,hop,hk0,hel,Aaz]))))
        refine G3z (fun i:Nat=>mkS [(1,.int .i64 N),(2,.ref 32 2 0),(4,.ref 64 2 0),(6,.ref 96 2 0),(7,.int .i64 i)] [(32,[.rows false (IL cs) cs.length,.rows false (EL false es) es.length]),(64,[.val (.slice none 0 0),.val (.slice none 0 0)]),(96,[.own 416 N 1,.own 385 es.length 5]),(385,EL true es),(416,IL (rz cs N i))]) (fun i=>i ≤ N ∧ i ≤ cs.length) (fun i=>N - i) 0 ⟨Nat.zero_le _,Nat.zero_le _⟩ ?_ ?_
        · refine SubW.of ?_
          rw [rz_zero]
          (refine Sub.of_lists ?_ ?_ ?_ ?_ ?_<;>simp [Vw.mkS,Vw.lk,Vw.hk,AV.inn,innL,Arz,Anz,Asz,-List.map_set,-List.getD_eq_getElem?_getD,Aaz])
        · rintro i ⟨hi,hi2⟩
          have hrl:=rz_length cs N i
          by_cases hlt:i < N ∧ i < cs.length
          · have hrs:=rz_set cs N i
            have hrs2:(IL (rz cs N i)).set i (.int .i64 (cs.getD i 0))=IL (rz cs N (i + 1)):=by rw [← hrs];unfold IL;rw [List.map_set]
            obtain ⟨l1,l2⟩:=hlt
            (repeat' (first
 | (first|refine Ahz ?_|refine Abz ?_)
 | ((first|refine Aiz ?_|refine Avz (mid:=l41r7a) (post:=l41r7b) Baz (by decide) ?_|refine Afz ?_|refine Aoz ?_);simp (disch:=omega) only [push_cast,seval,l41r0,l41r1,l41r2,l41r3,l41r4,l41r5,l41r6,l41r7a,l41r7b,l41r7,l41r8,l41r9,hel,hrl,hrs2,Aaz])
 | ((first | refine Amz (fun h => ?_) (fun h => ?_) | refine Bpz (fun h => ?_) (fun h => ?_)) <;> (try simp only [h]) <;> (try simp only [bitvec_to_nat] at h) <;> (try simp only [h]) <;> (first | (exfalso; omega) | (focus (exfalso; simp_all; done)) | (simp (disch := omega) only [push_cast,seval,hel,hrl,hrs2,Aaz]) | skip))))
            refine ⟨i + 1,⟨by omega,by omega⟩,by omega,SubW.of ?_⟩
            (refine Sub.of_lists ?_ ?_ ?_ ?_ ?_<;>simp [Vw.mkS,Vw.lk,Vw.hk,AV.inn,innL,Arz,Anz,Asz,-List.map_set,-List.getD_eq_getElem?_getD,Aaz])
          · have hd:rz cs N i=zz cs N:=rz_done (by omega)
            (repeat' (first
 | (first|refine Ahz ?_|refine Abz ?_)
 | ((first|refine Aiz ?_|refine Afz ?_|refine A7z ?_);simp (disch:=omega) only [push_cast,seval,l41r0,l41r1,l41r2,l41r3,l41r4,l41r5,l41r6,l41r7a,l41r7b,l41r7,l41r8,l41r9,hel,hd,Aaz])
 | ((first|refine Amz (fun h=>?_) (fun h=>?_)|refine Bpz (fun h=>?_) (fun h=>?_))<;>(try simp only [h])<;>(try simp only [bitvec_to_nat] at h)<;>(try simp only [h])<;>(first|(exfalso;omega)|(exfalso;simp_all;done)|(simp (disch:=omega) only [push_cast,seval,hel,hd,Aaz])|skip))
 | (refine Adz ⟨.inr rfl,[416,385],[],_,by decide,rfl,?_⟩; (try simp (disch := omega) only [push_cast,seval,↓Aez,↓Acz,↓List.map_cons,↓List.map_nil,hel,hd,Aaz]))))
            all_goals simp [OBs,zz_length]
      · rw [decide_eq_false hk0]
        simp only [A8z]
        (repeat' (first
 | (first|refine Ahz ?_|refine Abz ?_)
 | ((first|refine Aiz ?_|refine Afz ?_);simp (disch:=omega) only [push_cast,seval,l41r0,l41r1,l41r2,l41r3,l41r4,l41r5,l41r6,l41r7a,l41r7b,l41r7,l41r8,l41r9,hv,hr,hop,hk0,hel,Aaz])
 | ((first|refine Amz (fun h=>?_) (fun h=>?_))<;>(try simp only [h])<;>(try simp only [bitvec_to_nat] at h)<;>(try simp only [h])<;>(first|(exfalso;omega)|(exfalso;simp_all;done)|(simp (disch:=omega) only [push_cast,seval,hv,hr,hop,hk0,hel,Aaz])|skip))
 | ((first|refine Alz false ?_);simp (disch:=omega) only [push_cast,seval,hv,hr,hop,hk0,hel,Aaz])
 | ((first|((first|refine Akz (Ajz (Azz _ _ _ _ ?_ ?_ ?_)) ?_|refine Agz (Ajz (Azz _ _ _ _ ?_ ?_ ?_)) ⟨_,_,rfl,rfl⟩ ?_);(iterate 3 (exact sd));rintro _ _ ⟨rfl,rfl⟩)|((first|refine Akz (Ajz (Apz _ _ _)) ?_|refine Agz (Ajz (Apz _ _ _)) ⟨_,_,rfl,rfl⟩ ?_);rintro _ _ ⟨rfl,rfl⟩)|((first|refine Akz (Ctz _ _ _ _ ?_ ?_ ?_) ?_|refine Agz (Ctz _ _ _ _ ?_ ?_ ?_) ⟨_,_,rfl,rfl⟩ ?_);(iterate 3 (exact sd));rintro _ _ ⟨rfl,rfl⟩))<;>(try simp (disch:=omega) only [push_cast,seval,hv,hr,hop,hk0,hel,Aaz]))
 | (refine Adz ⟨.inr rfl,[16000,16001],[(16000,1),(16001,5)],_,by decide,rfl,?_⟩;(try simp (disch:=omega) only [push_cast,seval,↓Aez,↓Acz,↓List.map_cons,↓List.map_nil,hv,hr,hop,hk0,hel,Aaz]))))
        all_goals simp [OBs,EL]

end Go.Proofs.YtfccepgibbdfaaaDoor
namespace Go.Proofs.YtfccepgibbdfaaaDoor
open VwM Vw Go
variable [PowA]

end Go.Proofs.YtfccepgibbdfaaaDoor
