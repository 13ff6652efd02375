/- Texts of this verifier. -/
import Derived.Test.YtkpcjppnjmhanaaGreatDoorCB6
import Derived.Test.YtkpcjppnjmhanaaGreatDoorCM1
import Derived.Test.YtkpcjppnjmhanaaGreatDoorCW3
set_option maxHeartbeats 4000000
set_option linter.unusedSimpArgs false
set_option linter.unusedSectionVars false
set_option linter.unusedVariables false
set_option maxRecDepth 4000
namespace Go.Proofs.YtkpcjppnjmhanaaGreatDoor
open VwM Vw Go
variable [SentA]

def opA (es:List Ex) (id:Int):Bool:=(decide (0 ≤ id) && decide (id ≤ (es.length:Int) - 1)) && (match es[id.toNat]? with|some e=>e.2.2|none=>false)
def vwA (es:List Ex) (id:Int):Vw3:=(es.getD id.toNat (0,(0,[],[]),false)).2.1
def loadA (cs:List Int) (es:List Ex) (id:Int):List Int:=if (vB cs es && opA es id)=true then takesL cs (offs (vwA es id).1 (vwA es id).2.1 (vwA es id).2.2) else []
theorem D9z {es:List Ex} {id:Int} (h:opA es id=true):∃ (q:Nat) (p b:Int) (x y:List Int),id=q ∧ q < es.length ∧ es[q]?=some (p,(b,x,y),true) ∧ vwA es id=(b,x,y):=by
  unfold opA at h
  simp only [Bool.and_eq_true,decide_eq_true_eq] at h
  obtain ⟨⟨h1,h2⟩,h3⟩:=h
  obtain ⟨q,rfl⟩:∃ q:Nat,id=q:=⟨id.toNat,by omega⟩
  obtain ⟨p,b,x,y,o,he⟩:=Cyz (es:=es) (i:=q) (by omega)
  simp only [Int.toNat_natCast,he] at h3
  subst h3
  exact ⟨q,p,b,x,y,rfl,by omega,he,by simp [vwA,List.getD,he]⟩
theorem Fyz {cs:List Int} {es:List Ex} {q:Nat} {p b:Int} {x y:List Int} (h:vB cs es=true) (he:es[q]?=some (p,(b,x,y),true)):seeB cs b x y=true:=by
  unfold vB at h
  simp only [Bool.and_eq_true,decide_eq_true_eq] at h
  obtain ⟨⟨h1,h2⟩,h3⟩:=h
  have hi:q < es.length:=(List.getElem?_eq_some_iff.1 he).1
  have:=(Cuz (f:=sxV cs.length es)).1 h3 q _ hi he
  unfold sxV exV at this
  simp only [Bool.and_eq_true,Bool.not_true,Bool.false_or] at this
  unfold seeB
  simp only [Bool.and_eq_true]
  exact ⟨⟨h1,this.1.1.2⟩,this.1.2⟩
theorem see_prX {mem:List Int} {b:Int} {sh st:List Int} (h:seeB mem b sh st=true):(offs b sh st).length ≤ 60 ∧ mem.length ≤ 60:=by
  obtain ⟨_,_,_,f4,f5,f6⟩:=C4z h
  have:=Boz b sh st
  omega
theorem loadA_len (cs:List Int) (es:List Ex) (id:Int):(loadA cs es id).length ≤ 60:=by
  unfold loadA
  split
  · rename_i h
    rw [Bool.and_eq_true] at h
    obtain ⟨q,p,b,x,y,_,_,he,hv⟩:=D9z h.2
    rw [hv,takesL_length]
    exact (see_prX (Fyz h.1 he)).1
  · exact Nat.zero_le _


set_option maxHeartbeats 8000000 in
theorem Blz (cs:List Int) (es:List Ex) (m n:Nat) (id:Int) (hm:cs.length=m) (hn:es.length=n) (hb:m ≤ 1099511627776 ∧ n ≤ 1099511627776) :
    PCall Tryz.prog 48 [.agg [.rows false (IL cs) m,.rows false (EL false es) n],.int .i64 id] (fun r=>r=.bool (opA es id)):=by
  subst hm hn
  obtain ⟨hb1,hb2⟩:=hb
  have hel:=Axz false es
  refine Avz l48_eq rfl ?_
  unfold opA
  by_cases hr:0 ≤ id ∧ id ≤ (es.length:Int) - 1
  · have hrd:(decide (0 ≤ id) && decide (id ≤ (es.length:Int) - 1))=true:=by rw [Bool.and_eq_true,decide_eq_true_eq,decide_eq_true_eq];exact hr
    rw [hrd]
    obtain ⟨q,rfl⟩:∃ q:Nat,id=q:=⟨id.toNat,by omega⟩
    obtain ⟨p,b,x,y,o,he⟩:=Cyz (es:=es) (i:=q) (by omega)
    have hd:=B3z false es q he
    simp only at hd
    have hil:q * 5 + 5 ≤ es.length * 5:=by omega
    have h4:((EL false es).drop (q * 5 + 4)).take 1=[.bool o]:=by
      have:=congrArg (fun l=>(l.drop 4).take 1) hd
      simpa [List.drop_take,List.drop_drop,List.take_take] using this
    simp only [Int.toNat_natCast,he]
    (repeat' (first
 | (first|refine Ahz ?_|refine Abz ?_)
 | ((first|refine Aiz ?_);simp (disch:=omega) only [push_cast,seval,l48r0,l48r1,h4,hel,hil,hrd,Aaz])
 | ((first|refine Alz false ?_);simp (disch:=omega) only [push_cast,seval,h4,hel,hil,hrd,Aaz])
 | ((first|((first|refine Akz (Ajz (Asz _ _ _)) ?_|refine Agz (Ajz (Asz _ _ _)) ⟨_,_,rfl,rfl⟩ ?_);rintro _ _ ⟨rfl,rfl⟩))<;>(try simp (disch:=omega) only [push_cast,seval,h4,hel,hil,hrd,Aaz]))
 | (refine Aez ⟨.inr rfl,_,rfl,?_⟩;(try simp (disch:=omega) only [push_cast,seval,h4,hel,hil,hrd,Aaz]))))
    all_goals (try simp)
  · have hrd:(decide (0 ≤ id) && decide (id ≤ (es.length:Int) - 1))=false:=by rw [Bool.eq_false_iff];intro h;simp at h;omega
    rw [hrd]
    (repeat' (first
 | (first|refine Ahz ?_|refine Abz ?_)
 | ((first|refine Aiz ?_);simp (disch:=omega) only [push_cast,seval,l48r0,l48r1,hel,hrd,Aaz])
 | ((first|refine Alz false ?_);simp (disch:=omega) only [push_cast,seval,hel,hrd,Aaz])
 | ((first|((first|refine Akz (Ajz (Asz _ _ _)) ?_|refine Agz (Ajz (Asz _ _ _)) ⟨_,_,rfl,rfl⟩ ?_);rintro _ _ ⟨rfl,rfl⟩))<;>(try simp (disch:=omega) only [push_cast,seval,hel,hrd,Aaz]))
 | (refine Aez ⟨.inr rfl,_,rfl,?_⟩;(try simp (disch:=omega) only [push_cast,seval,hel,hrd,Aaz]))))
    all_goals (try simp)


set_option maxHeartbeats 8000000 in
theorem ihO_ok (cs:List Int) (es:List Ex) (m n:Nat) (id:Int) (hm:cs.length=m) (hn:es.length=n) (hb:m ≤ 1099511627776 ∧ n ≤ 1099511627776 ∧ exB 1099511627776 es) :
    PCall Tryz.prog 42 [.agg [.rows false (IL cs) m,.rows false (EL false es) n],.int .i64 id] (fun r=>r=.bool (vB cs es && opA es id)):=by
  subst hm hn
  have hb0:=hb
  obtain ⟨hb1,hb2,hb3⟩:=hb
  have hel:=Axz false es
  refine Avz l42_eq rfl ?_
  cases hv:vB cs es with
  | false =>
    (repeat' (first
 | (first|refine Ahz ?_|refine Abz ?_)
 | ((first|refine Aiz ?_);simp (disch:=omega) only [push_cast,seval,l42r0,l42r1,hv,hel,Aaz])
 | ((first|refine Alz false ?_);simp (disch:=omega) only [push_cast,seval,hv,hel,Aaz])
 | ((first|((first|refine Akz (Ajz (Czz _ _ _ _ ?_ ?_ ?_)) ?_|refine Agz (Ajz (Czz _ _ _ _ ?_ ?_ ?_)) ⟨_,_,rfl,rfl⟩ ?_);(iterate 3 (exact sd));rintro _ _ ⟨rfl,rfl⟩))<;>(try simp (disch:=omega) only [push_cast,seval,hv,hel,Aaz]))
 | (refine Aez ⟨.inr rfl,_,rfl,?_⟩;(try simp (disch:=omega) only [push_cast,seval,hv,hel,Aaz]))))
    all_goals (try simp)
  | true =>
    unfold opA
    by_cases hr:0 ≤ id ∧ id ≤ (es.length:Int) - 1
    · have hrd:(decide (0 ≤ id) && decide (id ≤ (es.length:Int) - 1))=true:=by rw [Bool.and_eq_true,decide_eq_true_eq,decide_eq_true_eq];exact hr
      rw [hrd]
      obtain ⟨q,rfl⟩:∃ q:Nat,id=q:=⟨id.toNat,by omega⟩
      obtain ⟨p,b,x,y,o,he⟩:=Cyz (es:=es) (i:=q) (by omega)
      have hd:=B3z false es q he
      simp only at hd
      have hil:q * 5 + 5 ≤ es.length * 5:=by omega
      have h4:((EL false es).drop (q * 5 + 4)).take 1=[.bool o]:=by
        have:=congrArg (fun l=>(l.drop 4).take 1) hd
        simpa [List.drop_take,List.drop_drop,List.take_take] using this
      simp only [Int.toNat_natCast,he]
      (repeat' (first
 | (first|refine Ahz ?_|refine Abz ?_)
 | ((first|refine Aiz ?_);simp (disch:=omega) only [push_cast,seval,l42r0,l42r1,hv,h4,hel,hil,hrd,Aaz])
 | ((first|refine Alz false ?_);simp (disch:=omega) only [push_cast,seval,hv,h4,hel,hil,hrd,Aaz])
 | ((first|((first|refine Akz (Ajz (Czz _ _ _ _ ?_ ?_ ?_)) ?_|refine Agz (Ajz (Czz _ _ _ _ ?_ ?_ ?_)) ⟨_,_,rfl,rfl⟩ ?_);(iterate 3 (exact sd));rintro _ _ ⟨rfl,rfl⟩)|((first|refine Akz (Ajz (B6z _ _)) ?_|refine Agz (Ajz (B6z _ _)) ⟨_,_,rfl,rfl⟩ ?_);rintro _ _ ⟨rfl,rfl⟩))<;>(try simp (disch:=omega) only [push_cast,seval,hv,h4,hel,hil,hrd,Aaz]))
 | (refine Aez ⟨.inr rfl,_,rfl,?_⟩;(try simp (disch:=omega) only [push_cast,seval,hv,h4,hel,hil,hrd,Aaz]))))
      all_goals (try simp)
    · have hrd:(decide (0 ≤ id) && decide (id ≤ (es.length:Int) - 1))=false:=by rw [Bool.eq_false_iff];intro h;simp at h;omega
      rw [hrd]
      (repeat' (first
 | (first|refine Ahz ?_|refine Abz ?_)
 | ((first|refine Aiz ?_);simp (disch:=omega) only [push_cast,seval,l42r0,l42r1,hv,hel,hrd,Aaz])
 | ((first|refine Alz false ?_);simp (disch:=omega) only [push_cast,seval,hv,hel,hrd,Aaz])
 | ((first|((first|refine Akz (Ajz (Czz _ _ _ _ ?_ ?_ ?_)) ?_|refine Agz (Ajz (Czz _ _ _ _ ?_ ?_ ?_)) ⟨_,_,rfl,rfl⟩ ?_);(iterate 3 (exact sd));rintro _ _ ⟨rfl,rfl⟩)|((first|refine Akz (Ajz (B6z _ _)) ?_|refine Agz (Ajz (B6z _ _)) ⟨_,_,rfl,rfl⟩ ?_);rintro _ _ ⟨rfl,rfl⟩))<;>(try simp (disch:=omega) only [push_cast,seval,hv,hel,hrd,Aaz]))
 | (refine Aez ⟨.inr rfl,_,rfl,?_⟩;(try simp (disch:=omega) only [push_cast,seval,hv,hel,hrd,Aaz]))))
      all_goals (try simp)


theorem iLoadX_ok (mem:List Int) (b:Int) (sh st:List Int) (q n m:Nat) (hq:mem.length=q) (hn:sh.length=n) (hm:st.length=m) (hb:seeB mem b sh st=true ∧ q ≤ 1099511627776 ∧ n ≤ 1099511627776 ∧ m ≤ 1099511627776):BCall Tryz.prog 20 [.rows false (IL mem) q,.agg [.int .i64 b,.rows false (IL sh) n,.rows false (IL st) m]] [] (OI (takesL mem (offs b sh st))):=by
  subst hq hn hm
  obtain ⟨h1,hb⟩:=hb
  refine Auz (pins:=[]) (pin:=0) l20_eq rfl rfl rfl ?_
  (repeat' (first
 | (first|refine Ahz ?_|refine Abz ?_)
 | ((first|refine Aiz ?_|refine Afz ?_|refine Aoz ?_);simp (disch:=omega) only [push_cast,seval,l20r0,l20r1,l20r2,l20r3,h1])
 | ((first|refine Alz false ?_);simp (disch:=omega) only [push_cast,seval,h1])
 | ((first|((first|refine Akz (Ajz (E6z _ _ _ _ _ _ _ ?_ ?_ ?_ ?_)) ?_|refine Agz (Ajz (E6z _ _ _ _ _ _ _ ?_ ?_ ?_ ?_)) ⟨_,_,rfl,rfl⟩ ?_);(iterate 4 (exact sd));rintro _ _ ⟨rfl,rfl⟩)|((first|refine Akz (Gdz _ _ _ _ _ _ _ ?_ ?_ ?_ ?_) ?_|refine Agz (Gdz _ _ _ _ _ _ _ ?_ ?_ ?_ ?_) ⟨_,_,rfl,rfl⟩ ?_);(iterate 4 (exact sd));rintro _ _ ⟨rfl,rfl⟩))<;>(try simp (disch:=omega) only [push_cast,seval,h1]))
 | (refine Aez ⟨.inr rfl,[112],[],_,by decide,rfl,?_⟩;(try simp (disch:=omega) only [push_cast,seval,↓Adz,↓Acz,↓List.map_cons,↓List.map_nil,h1]);(first|done|(show AV.own _ _ _=_ ∧ _)))
 | (refine Aez ⟨.inr rfl,[176],[],_,by decide,rfl,?_⟩;(try simp (disch:=omega) only [push_cast,seval,↓Adz,↓Acz,↓List.map_cons,↓List.map_nil,h1]);(first|done|(show AV.own _ _ _=_ ∧ _)))))
  all_goals simp [OI]


set_option maxHeartbeats 8000000 in
theorem sLE_ok (cs:List Int) (es:List Ex) (m n:Nat) (id:Int) (hm:cs.length=m) (hn:es.length=n) (hb:m ≤ 1099511627776 ∧ n ≤ 1099511627776 ∧ exB 1099511627776 es) :
    BCall Tryz.prog 18 [.agg [.rows false (IL cs) m,.rows false (EL false es) n],.int .i64 id] [] (OI (loadA cs es id)):=by
  subst hm hn
  have hb0:=hb
  obtain ⟨hb1,hb2,hb3⟩:=hb
  have hel:=Axz false es
  refine Auz (pins:=[]) (pin:=0) l18_eq rfl rfl rfl ?_
  unfold loadA
  cases hv:vB cs es with
  | false =>
    (repeat' (first
 | (first|refine Ahz ?_|refine Abz ?_)
 | ((first|refine Aiz ?_|refine Afz ?_);simp (disch:=omega) only [push_cast,seval,l18r0,l18r1,l18r2,l18r3a,l18r3b,l18r3,hv,hel,Aaz])
 | ((first|refine Alz false ?_);simp (disch:=omega) only [push_cast,seval,hv,hel,Aaz])
 | ((first|((first|refine Akz (Ajz (Ayz _ _ _ _ ?_ ?_ ?_)) ?_|refine Agz (Ajz (Ayz _ _ _ _ ?_ ?_ ?_)) ⟨_,_,rfl,rfl⟩ ?_);(iterate 3 (exact sd));rintro _ _ ⟨rfl,rfl⟩))<;>(try simp (disch:=omega) only [push_cast,seval,hv,hel,Aaz]))
 | (refine Aez ⟨.inr rfl,[16000],[(16000,1)],_,by decide,rfl,?_⟩;(try simp (disch:=omega) only [push_cast,seval,↓Adz,↓Acz,↓List.map_cons,↓List.map_nil,hv,hel,Aaz]))))
    all_goals simp [OI]
  | true =>
    cases hr:opA es id with
    | false =>
      (repeat' (first
 | (first|refine Ahz ?_|refine Abz ?_)
 | ((first|refine Aiz ?_|refine Afz ?_);simp (disch:=omega) only [push_cast,seval,l18r0,l18r1,l18r2,l18r3a,l18r3b,l18r3,hv,hr,hel,Aaz])
 | ((first|refine Alz false ?_);simp (disch:=omega) only [push_cast,seval,hv,hr,hel,Aaz])
 | ((first|((first|refine Akz (Ajz (Ayz _ _ _ _ ?_ ?_ ?_)) ?_|refine Agz (Ajz (Ayz _ _ _ _ ?_ ?_ ?_)) ⟨_,_,rfl,rfl⟩ ?_);(iterate 3 (exact sd));rintro _ _ ⟨rfl,rfl⟩)|((first|refine Akz (Ajz (Blz _ _ _ _ _ ?_ ?_ ?_)) ?_|refine Agz (Ajz (Blz _ _ _ _ _ ?_ ?_ ?_)) ⟨_,_,rfl,rfl⟩ ?_);(iterate 3 (exact sd));rintro _ _ ⟨rfl,rfl⟩))<;>(try simp (disch:=omega) only [push_cast,seval,hv,hr,hel,Aaz]))
 | (refine Aez ⟨.inr rfl,[16000],[(16000,1)],_,by decide,rfl,?_⟩;(try simp (disch:=omega) only [push_cast,seval,↓Adz,↓Acz,↓List.map_cons,↓List.map_nil,hv,hr,hel,Aaz]))))
      all_goals simp [OI]
    | true =>
      obtain ⟨q,p,b,x,y,rfl,hq,he,hvw⟩:=D9z hr
      have hs:=Fyz hv he
      rw [hvw]
      have hd:=B3z false es q he
      simp only at hd
      have hil:q * 5 + 5 ≤ es.length * 5:=by omega
      have h3:((EL false es).drop (q * 5 + 1)).take 3=[.int .i64 b,.rows false (IL x) x.length,.rows false (IL y) y.length]:=by
        have:=congrArg (fun l=>(l.drop 1).take 3) hd
        simpa [List.drop_take,List.drop_drop,List.take_take] using this
      (repeat' (first
 | (first|refine Ahz ?_|refine Abz ?_)
 | ((first|refine Aiz ?_|refine Awz (mid:=l18r3a) (post:=l18r3b) Bgz (by decide) ?_|refine Afz ?_|refine Aoz ?_);simp (disch:=omega) only [push_cast,seval,l18r0,l18r1,l18r2,l18r3a,l18r3b,l18r3,hv,hr,h3,hil,hel,Aaz])
 | ((first|refine Alz false ?_);simp (disch:=omega) only [push_cast,seval,hv,hr,h3,hil,hel,Aaz])
 | ((first|((first|refine Akz (Ajz (Ayz _ _ _ _ ?_ ?_ ?_)) ?_|refine Agz (Ajz (Ayz _ _ _ _ ?_ ?_ ?_)) ⟨_,_,rfl,rfl⟩ ?_);(iterate 3 (exact sd));rintro _ _ ⟨rfl,rfl⟩)|((first|refine Akz (Ajz (Blz _ _ _ _ _ ?_ ?_ ?_)) ?_|refine Agz (Ajz (Blz _ _ _ _ _ ?_ ?_ ?_)) ⟨_,_,rfl,rfl⟩ ?_);(iterate 3 (exact sd));rintro _ _ ⟨rfl,rfl⟩)|((first|refine Akz (Esz _ _ _ _ _ _ _ ?_ ?_ ?_ ?_) ?_|refine Agz (Esz _ _ _ _ _ _ _ ?_ ?_ ?_ ?_) ⟨_,_,rfl,rfl⟩ ?_);(iterate 4 (exact sd));rintro _ _ ⟨rfl,rfl⟩))<;>(try simp (disch:=omega) only [push_cast,seval,hv,hr,h3,hil,hel,Aaz]))
 | (refine Aez ⟨.inr rfl,[96],[],_,by decide,rfl,?_⟩;(try simp (disch:=omega) only [push_cast,seval,↓Adz,↓Acz,↓List.map_cons,↓List.map_nil,hv,hr,h3,hil,hel,Aaz]);(first|done|(show AV.own _ _ _=_ ∧ _)))
 | (refine Aez ⟨.inr rfl,[176],[],_,by decide,rfl,?_⟩;(try simp (disch:=omega) only [push_cast,seval,↓Adz,↓Acz,↓List.map_cons,↓List.map_nil,hv,hr,h3,hil,hel,Aaz]);(first|done|(show AV.own _ _ _=_ ∧ _)))
 | (refine Aez ⟨.inr rfl,[352],[],_,by decide,rfl,?_⟩;(try simp (disch:=omega) only [push_cast,seval,↓Adz,↓Acz,↓List.map_cons,↓List.map_nil,hv,hr,h3,hil,hel,Aaz]);(first|done|(show AV.own _ _ _=_ ∧ _)))))
      all_goals simp [OI]


set_option maxHeartbeats 8000000 in
theorem iLE_ok (cs:List Int) (es:List Ex) (m n:Nat) (id:Int) (hm:cs.length=m) (hn:es.length=n) (hb:m ≤ 1099511627776 ∧ n ≤ 1099511627776 ∧ exB 1099511627776 es) :
    BCall Tryz.prog 16 [.agg [.rows false (IL cs) m,.rows false (EL false es) n],.int .i64 id] [] (OI (loadA cs es id)):=by
  subst hm hn
  have hb0:=hb
  obtain ⟨hb1,hb2,hb3⟩:=hb
  have hel:=Axz false es
  refine Auz (pins:=[]) (pin:=0) l16_eq rfl rfl rfl ?_
  unfold loadA
  cases hc:(vB cs es && opA es id) with
  | false =>
    (repeat' (first
 | (first|refine Ahz ?_|refine Abz ?_)
 | ((first|refine Aiz ?_|refine Afz ?_);simp (disch:=omega) only [push_cast,seval,l16r0,l16r1,l16r2,l16r3a,l16r3b,l16r3,hc,hel,Aaz])
 | ((first|refine Alz false ?_);simp (disch:=omega) only [push_cast,seval,hc,hel,Aaz])
 | ((first|((first|refine Akz (Ajz (ihO_ok _ _ _ _ _ ?_ ?_ ?_)) ?_|refine Agz (Ajz (ihO_ok _ _ _ _ _ ?_ ?_ ?_)) ⟨_,_,rfl,rfl⟩ ?_);(iterate 3 (exact sd));rintro _ _ ⟨rfl,rfl⟩))<;>(try simp (disch:=omega) only [push_cast,seval,hc,hel,Aaz]))
 | (refine Aez ⟨.inr rfl,[16000],[(16000,1)],_,by decide,rfl,?_⟩;(try simp (disch:=omega) only [push_cast,seval,↓Adz,↓Acz,↓List.map_cons,↓List.map_nil,hc,hel,Aaz]))))
    all_goals simp [OI]
  | true =>
    have hc2:=hc
    rw [Bool.and_eq_true] at hc2
    obtain ⟨hv,hr⟩:=hc2
    obtain ⟨q,p,b,x,y,rfl,hq,he,hvw⟩:=D9z hr
    have hs:=Fyz hv he
    have hbb:=D5z hb3 he
    have q9:seeB cs b x y=true ∧ cs.length ≤ 1099511627776 ∧ x.length ≤ 1099511627776 ∧ y.length ≤ 1099511627776:=⟨hs,hb1,hbb⟩
    rw [hvw]
    have hd:=B3z false es q he
    simp only at hd
    have hil:q * 5 + 5 ≤ es.length * 5:=by omega
    have h3:((EL false es).drop (q * 5 + 1)).take 3=[.int .i64 b,.rows false (IL x) x.length,.rows false (IL y) y.length]:=by
      have:=congrArg (fun l=>(l.drop 1).take 3) hd
      simpa [List.drop_take,List.drop_drop,List.take_take] using this
    (repeat' (first
 | (first|refine Ahz ?_|refine Abz ?_)
 | ((first|refine Aiz ?_|refine Awz (mid:=l16r3a) (post:=l16r3b) Bgz (by decide) ?_|refine Afz ?_|refine Aoz ?_);simp (disch:=omega) only [push_cast,seval,l16r0,l16r1,l16r2,l16r3a,l16r3b,l16r3,hc,h3,hil,hel,Aaz])
 | ((first|refine Alz false ?_);simp (disch:=omega) only [push_cast,seval,hc,h3,hil,hel,Aaz])
 | ((first|((first|refine Akz (Ajz (ihO_ok _ _ _ _ _ ?_ ?_ ?_)) ?_|refine Agz (Ajz (ihO_ok _ _ _ _ _ ?_ ?_ ?_)) ⟨_,_,rfl,rfl⟩ ?_);(iterate 3 (exact sd));rintro _ _ ⟨rfl,rfl⟩)|((first|refine Akz (iLoad_ok _ _ _ _ _ _ _ ?_ ?_ ?_ ?_) ?_|refine Agz (iLoad_ok _ _ _ _ _ _ _ ?_ ?_ ?_ ?_) ⟨_,_,rfl,rfl⟩ ?_);(iterate 4 (exact sd));rintro _ _ ⟨rfl,rfl⟩))<;>(try simp (disch:=omega) only [push_cast,seval,hc,h3,hil,hel,Aaz]))
 | (refine Aez ⟨.inr rfl,[112],[],_,by decide,rfl,?_⟩;(try simp (disch:=omega) only [push_cast,seval,↓Adz,↓Acz,↓List.map_cons,↓List.map_nil,hc,h3,hil,hel,Aaz]);(first|done|(show AV.own _ _ _=_ ∧ _)))
 | (refine Aez ⟨.inr rfl,[272],[],_,by decide,rfl,?_⟩;(try simp (disch:=omega) only [push_cast,seval,↓Adz,↓Acz,↓List.map_cons,↓List.map_nil,hc,h3,hil,hel,Aaz]);(first|done|(show AV.own _ _ _=_ ∧ _)))))
    all_goals simp [OI,MVL,hs]

end Go.Proofs.YtkpcjppnjmhanaaGreatDoor
namespace Go.Proofs.YtkpcjppnjmhanaaGreatDoor
open VwM Vw Go
variable [SentA]



set_option maxHeartbeats 16000000 in
theorem Ffz (cs:List Int) (es:List Ex) (m n:Nat) (hm:cs.length=m) (hn:es.length=n) (hb:m ≤ 1099511627776 ∧ n ≤ 1099511627776 ∧ exB 1099511627776 es):BCall Tryz.prog 50 [.agg [.rows false (IL cs) m,.rows false (EL false es) n]] [] (fun r H'=>r=.agg [.own 0 m 1,.own 1 n 5] ∧ H'=[IL cs,EL true es]):=by
  subst hm hn
  obtain ⟨hb1,hb2,hb3⟩:=hb
  refine Auz (pins:=[]) (pin:=0) l50_eq rfl rfl rfl ?_
  have hel:=Axz false es
  (repeat' (first
 | (first|refine Ahz ?_|refine Abz ?_)
 | ((first|refine Aiz ?_);simp (disch:=omega) only [push_cast,seval,l50r0,l50r1,l50r2,l50r3,l50r4,l50r5,l50r6,l50r7,l50r8,Aaz,hel])
 | ((first|refine Alz false ?_);simp (disch:=omega) only [push_cast,seval,Aaz,hel])
 | ((first|((first|refine Akz (Cbz _ _ ?_ ?_) ?_|refine Agz (Cbz _ _ ?_ ?_) ⟨_,_,rfl,rfl⟩ ?_);(iterate 2 (exact sd));rintro _ _ ⟨rfl,rfl⟩))<;>(try simp (disch:=omega) only [push_cast,seval,Aaz,hel]))))
  refine Dwz (fun i:Nat=>mkS [(1,.ref 16 2 0),(2,.ref 32 2 0),(3,.ref 48 2 0),(4,.int .i64 i)] [(16,[.rows false (IL cs) cs.length,.rows false (EL false es) es.length]),(32,[.rows true [] 0,.rows true [] 0]),(48,[.own 128 cs.length 1,.own 480 i 5]),(128,IL cs),(480,EL true (es.take i))]) (fun i=>i ≤ es.length) (fun i=>es.length - i) 0 (Nat.zero_le _) ?_ ?_
  · refine SubW.adoptH [48] 480 5 (by simp [Vw.hk]) ?_
    have e0:EL true (es.take 0)=[]:=rfl
    rw [e0]
    simp only [adHL,List.map_cons,List.map_nil,adA,List.contains_cons,List.contains_nil]
    refine SubW.freeze [] (fun _ h=>by cases h) (SubW.of ?_)
    simp (disch:=omega) only [push_cast,seval,frzA,frzH,rhoF,List.contains_cons,List.contains_nil,Bool.or_false,Bool.false_eq_true,List.map_append,List.map_cons,List.map_nil,List.length_map]
    (refine Sub.of_lists ?_ ?_ ?_ ?_ ?_<;>simp [Vw.mkS,Vw.lk,Vw.hk,AV.inn,innL,Apz,Anz,Aqz,-List.map_set,-List.getD_eq_getElem?_getD,Aaz])
  · intro i hi
    by_cases hlt:i < es.length
    · obtain ⟨p,b,x,y,o,he⟩:=Cyz hlt
      have hbb:=D5z hb3 he
      have hd:=B3z false es i he
      simp only at hd
      have hil:i * 5 + 5 ≤ es.length * 5:=by omega
      have htl:(EL true (es.take i)).length=i * 5:=by rw [Axz,List.length_take];omega
      have hsu:=EL_take true he
      simp only at hsu
      (repeat' (first
 | (first|refine Ahz ?_|refine Abz ?_)
 | ((first|refine Aiz ?_|refine Afz ?_|refine Aoz ?_);simp (disch:=omega) only [push_cast,seval,l50r0,l50r1,l50r2,l50r3,l50r4,l50r5,l50r6,l50r7,l50r8,hd,hel,hil,htl,Aaz,zcX])
 | ((first|refine Amz (fun h=>?_) (fun h=>?_))<;>(try simp only [h])<;>(try simp only [bitvec_to_nat] at h)<;>(try simp only [h])<;>(first|(exfalso;omega)|(exfalso;simp_all;done)|(simp (disch:=omega) only [push_cast,seval,hd,hel,hil,htl,Aaz,zcX])|skip))
 | ((first|refine Alz false ?_);simp (disch:=omega) only [push_cast,seval,hd,hel,hil,htl,Aaz,zcX])
 | ((first|((first|refine Akz (Baz _ _ _ _ _ ?_ ?_ ?_) ?_|refine Agz (Baz _ _ _ _ _ ?_ ?_ ?_) ⟨_,_,rfl,rfl⟩ ?_);(iterate 3 (exact sd));rintro _ _ ⟨rfl,rfl⟩))<;>(try simp (disch:=omega) only [push_cast,seval,hd,hel,hil,htl,Aaz,zcX]))))
      refine ⟨i + 1,by omega,by omega,?_⟩
      refine SubW.trans (s1:=mkS [(1,.ref 16 2 0),(2,.ref 32 2 0),(3,.ref 48 2 0),(4,.int .i64 ((i:Int) + 1))] [(16,[.rows false (IL cs) cs.length,.rows false (EL false es) es.length]),(32,[.rows true [] 0,.rows true [] 0]),(48,[.own 128 cs.length 1,.own 480 (i + 1) 5]),(128,IL cs),(480,EL true (es.take i) ++ [.int .i64 p,.int .i64 b,.own 384 x.length 1,.own 385 y.length 1,.bool o]),(384,IL x),(385,IL y)]) (SubW.of (by (refine Sub.of_lists ?_ ?_ ?_ ?_ ?_<;>simp [Vw.mkS,Vw.lk,Vw.hk,AV.inn,innL,Apz,Anz,Aqz,-List.map_set,-List.getD_eq_getElem?_getD,Aaz]))) ?_
      refine SubW.freeze [384,385] (by decide) (SubW.of ?_)
      simp (disch:=omega) only [push_cast,seval,frzA,frzH,rhoF,List.contains_cons,List.contains_nil,Bool.or_false,Bool.false_eq_true,List.map_append,List.map_cons,List.map_nil,List.length_map]
      (refine Sub.of_lists ?_ ?_ ?_ ?_ ?_<;>simp [Vw.mkS,Vw.lk,Vw.hk,AV.inn,innL,Apz,Anz,Aqz,-List.map_set,-List.getD_eq_getElem?_getD,Aaz,hsu])
    · have e:i=es.length:=by omega
      subst e
      (repeat' (first
 | (first|refine Ahz ?_|refine Abz ?_)
 | ((first|refine Aiz ?_|refine Afz ?_|refine A0z ?_);simp (disch:=omega) only [push_cast,seval,l50r0,l50r1,l50r2,l50r3,l50r4,l50r5,l50r6,l50r7,l50r8,Aaz,List.take_length])
 | ((first|refine Amz (fun h=>?_) (fun h=>?_))<;>(try simp only [h])<;>(try simp only [bitvec_to_nat] at h)<;>(try simp only [h])<;>(first|(exfalso;omega)|(exfalso;simp_all;done)|(simp (disch:=omega) only [push_cast,seval,Aaz,List.take_length])|skip))
 | (refine Aez ⟨.inr rfl,[128,480],[],_,by decide,rfl,?_⟩;(try simp (disch:=omega) only [push_cast,seval,↓Adz,↓Acz,↓List.map_cons,↓List.map_nil,Aaz,List.take_length]))))
      all_goals skip

end Go.Proofs.YtkpcjppnjmhanaaGreatDoor
namespace Go.Proofs.YtkpcjppnjmhanaaGreatDoor
open VwM Vw Go
variable [SentA]

abbrev OBs (ok:Bool) (cs:List Int) (es:List Ex):AV → List (List AV) → Prop:=fun r H'=>r=.tup [.agg [.own 0 cs.length 1,.own 1 es.length 5],.bool ok] ∧ H'=[IL cs,EL true es]
/-- What comes of it if 'g' holds. -/
def ifB {α:Type} (g:Bool) (l:List α):List α:=if g=true then l else []
theorem D2z {α:Type} (l:List α):ifB true l=l:=rfl
theorem A9z {α:Type} (l:List α):ifB false l=[]:=rfl
def relG (cs:List Int) (es:List Ex) (id:Int):Bool:=(vB cs es && opA es id) && decide ((kidsT es id es.length).length=0)


set_option maxHeartbeats 8000000 in
theorem sRel_ok (cs:List Int) (es:List Ex) (m n:Nat) (id:Int) (hm:cs.length=m) (hn:es.length=n) (hb:m ≤ 1099511627776 ∧ n ≤ 1099511627776 ∧ exB 1099511627776 es) :
    BCall Tryz.prog 11 [.agg [.rows false (IL cs) m,.rows false (EL false es) n],.int .i64 id] [] (OBs (relG cs es id) (ifB (relG cs es id) cs) (ifB (relG cs es id) (relE es id.toNat))):=by
  subst hm hn
  have hb0:=hb
  obtain ⟨hb1,hb2,hb3⟩:=hb
  have hel:=Axz false es
  have helt:=Axz true es
  refine Auz (pins:=[]) (pin:=0) l11_eq rfl rfl rfl ?_
  unfold relG
  cases hv:vB cs es with
  | false =>
    simp only [Bool.false_and,A9z]
    (repeat' (first
 | (first|refine Ahz ?_|refine Abz ?_)
 | ((first|refine Aiz ?_|refine Afz ?_);simp (disch:=omega) only [push_cast,seval,l11r0,l11r1,l11r2,l11r3,l11r4,l11r5,hv,hel,Aaz])
 | ((first|refine Alz false ?_);simp (disch:=omega) only [push_cast,seval,hv,hel,Aaz])
 | ((first|((first|refine Akz (Ajz (Ayz _ _ _ _ ?_ ?_ ?_)) ?_|refine Agz (Ajz (Ayz _ _ _ _ ?_ ?_ ?_)) ⟨_,_,rfl,rfl⟩ ?_);(iterate 3 (exact sd));rintro _ _ ⟨rfl,rfl⟩))<;>(try simp (disch:=omega) only [push_cast,seval,hv,hel,Aaz]))
 | (refine Aez ⟨.inr rfl,[16000,16001],[(16000,1),(16001,5)],_,by decide,rfl,?_⟩;(try simp (disch:=omega) only [push_cast,seval,↓Adz,↓Acz,↓List.map_cons,↓List.map_nil,hv,hel,Aaz]))))
    all_goals simp [OBs,EL]
  | true =>
    obtain ⟨v1,v2,v3⟩:=vB_8 hv
    cases hr:opA es id with
    | false =>
      simp only [Bool.true_and,Bool.false_and,A9z]
      (repeat' (first
 | (first|refine Ahz ?_|refine Abz ?_)
 | ((first|refine Aiz ?_|refine Afz ?_);simp (disch:=omega) only [push_cast,seval,l11r0,l11r1,l11r2,l11r3,l11r4,l11r5,hv,hr,hel,Aaz])
 | ((first|refine Alz false ?_);simp (disch:=omega) only [push_cast,seval,hv,hr,hel,Aaz])
 | ((first|((first|refine Akz (Ajz (Ayz _ _ _ _ ?_ ?_ ?_)) ?_|refine Agz (Ajz (Ayz _ _ _ _ ?_ ?_ ?_)) ⟨_,_,rfl,rfl⟩ ?_);(iterate 3 (exact sd));rintro _ _ ⟨rfl,rfl⟩)|((first|refine Akz (Ajz (Blz _ _ _ _ _ ?_ ?_ ?_)) ?_|refine Agz (Ajz (Blz _ _ _ _ _ ?_ ?_ ?_)) ⟨_,_,rfl,rfl⟩ ?_);(iterate 3 (exact sd));rintro _ _ ⟨rfl,rfl⟩))<;>(try simp (disch:=omega) only [push_cast,seval,hv,hr,hel,Aaz]))
 | (refine Aez ⟨.inr rfl,[16000,16001],[(16000,1),(16001,5)],_,by decide,rfl,?_⟩;(try simp (disch:=omega) only [push_cast,seval,↓Adz,↓Acz,↓List.map_cons,↓List.map_nil,hv,hr,hel,Aaz]))))
      all_goals simp [OBs,EL]
    | true =>
      obtain ⟨q,p,b,x,y,rfl,hq,he,hvw⟩:=D9z hr
      have hrel:=EL_rel (b:=true) he
      have hrl:=relE_length es q
      have hil:q * 5 + 5 ≤ es.length * 5:=by omega
      simp only [Bool.true_and,Int.toNat_natCast]
      generalize hK:kidsT es (q:Int) es.length=K at *
      by_cases hk0:K.length=0
      · have hkd:decide (K.length=0)=true:=decide_eq_true hk0
        rw [hkd,D2z,D2z]
        (repeat' (first
 | (first|refine Ahz ?_|refine Abz ?_)
 | ((first|refine Aiz ?_|refine Afz ?_|refine Aoz ?_);simp (disch:=omega) only [push_cast,seval,l11r0,l11r1,l11r2,l11r3,l11r4,l11r5,hv,hr,hK,hk0,hil,hel,helt,hrel,Aaz])
 | ((first|refine Alz false ?_);simp (disch:=omega) only [push_cast,seval,hv,hr,hK,hk0,hil,hel,helt,hrel,Aaz])
 | ((first|((first|refine Akz (Ajz (Ayz _ _ _ _ ?_ ?_ ?_)) ?_|refine Agz (Ajz (Ayz _ _ _ _ ?_ ?_ ?_)) ⟨_,_,rfl,rfl⟩ ?_);(iterate 3 (exact sd));rintro _ _ ⟨rfl,rfl⟩)|((first|refine Akz (Ajz (Blz _ _ _ _ _ ?_ ?_ ?_)) ?_|refine Agz (Ajz (Blz _ _ _ _ _ ?_ ?_ ?_)) ⟨_,_,rfl,rfl⟩ ?_);(iterate 3 (exact sd));rintro _ _ ⟨rfl,rfl⟩)|((first|refine Akz (Hdz _ _ _ _ _ ?_ ?_ ?_) ?_|refine Agz (Hdz _ _ _ _ _ ?_ ?_ ?_) ⟨_,_,rfl,rfl⟩ ?_);(iterate 3 (exact sd));rintro _ _ ⟨rfl,rfl⟩)|((first|refine Akz (Ffz _ _ _ _ ?_ ?_ ?_) ?_|refine Agz (Ffz _ _ _ _ ?_ ?_ ?_) ⟨_,_,rfl,rfl⟩ ?_);(iterate 3 (exact sd));rintro _ _ ⟨rfl,rfl⟩))<;>(try simp (disch:=omega) only [push_cast,seval,hv,hr,hK,hk0,hil,hel,helt,hrel,Aaz]))
 | (refine Aez ⟨.inr rfl,[400,401],[],_,by decide,rfl,?_⟩;(try simp (disch:=omega) only [push_cast,seval,↓Adz,↓Acz,↓List.map_cons,↓List.map_nil,hv,hr,hK,hk0,hil,hel,helt,hrel,Aaz]))))
        all_goals simp [OBs,hrl]
      · have hkd:decide (K.length=0)=false:=decide_eq_false hk0
        rw [hkd,A9z,A9z]
        (repeat' (first
 | (first|refine Ahz ?_|refine Abz ?_)
 | ((first|refine Aiz ?_|refine Afz ?_);simp (disch:=omega) only [push_cast,seval,l11r0,l11r1,l11r2,l11r3,l11r4,l11r5,hv,hr,hK,hk0,hil,hel,Aaz])
 | ((first|refine Amz (fun h=>?_) (fun h=>?_))<;>(try simp only [h])<;>(try simp only [bitvec_to_nat] at h)<;>(try simp only [h])<;>(first|(exfalso;omega)|(exfalso;simp_all;done)|(simp (disch:=omega) only [push_cast,seval,hv,hr,hK,hk0,hil,hel,Aaz])|skip))
 | ((first|refine Alz false ?_);simp (disch:=omega) only [push_cast,seval,hv,hr,hK,hk0,hil,hel,Aaz])
 | ((first|((first|refine Akz (Ajz (Ayz _ _ _ _ ?_ ?_ ?_)) ?_|refine Agz (Ajz (Ayz _ _ _ _ ?_ ?_ ?_)) ⟨_,_,rfl,rfl⟩ ?_);(iterate 3 (exact sd));rintro _ _ ⟨rfl,rfl⟩)|((first|refine Akz (Ajz (Blz _ _ _ _ _ ?_ ?_ ?_)) ?_|refine Agz (Ajz (Blz _ _ _ _ _ ?_ ?_ ?_)) ⟨_,_,rfl,rfl⟩ ?_);(iterate 3 (exact sd));rintro _ _ ⟨rfl,rfl⟩)|((first|refine Akz (Hdz _ _ _ _ _ ?_ ?_ ?_) ?_|refine Agz (Hdz _ _ _ _ _ ?_ ?_ ?_) ⟨_,_,rfl,rfl⟩ ?_);(iterate 3 (exact sd));rintro _ _ ⟨rfl,rfl⟩))<;>(try simp (disch:=omega) only [push_cast,seval,hv,hr,hK,hk0,hil,hel,Aaz]))
 | (refine Aez ⟨.inr rfl,[16000,16001],[(16000,1),(16001,5)],_,by decide,rfl,?_⟩;(try simp (disch:=omega) only [push_cast,seval,↓Adz,↓Acz,↓List.map_cons,↓List.map_nil,hv,hr,hK,hk0,hil,hel,Aaz]))))
        all_goals simp [OBs,EL]



end Go.Proofs.YtkpcjppnjmhanaaGreatDoor
namespace Go.Proofs.YtkpcjppnjmhanaaGreatDoor
open VwM Vw Go
variable [SentA]

end Go.Proofs.YtkpcjppnjmhanaaGreatDoor
namespace Go.Proofs.YtkpcjppnjmhanaaGreatDoor
open VwM Vw Go
variable [SentA]



set_option maxHeartbeats 8000000 in
theorem J0z (cs:List Int) (es:List Ex) (m n:Nat) (p b:Int) (x y:List Int) (k l:Nat) (hm:cs.length=m) (hn:es.length=n) (hk:x.length=k) (hl:y.length=l) (hb:(k ≤ 1099511627776 ∧ l ≤ 1099511627776) ∧ m ≤ 1099511627776 ∧ n ≤ 1000 ∧ exB 1099511627776 es) :
    BCall Tryz.prog 74 [.agg [.rows false (IL cs) m,.rows false (EL false es) n],.int .i64 p,.agg [.int .i64 b,.rows false (IL x) k,.rows false (IL y) l]] [] (fun r H'=>r=.agg [.own 0 m 1,.own 1 (n + 1) 5] ∧ H'=[IL cs,EL true (es ++ [(p,(b,x,y),true)])]):=by
  subst hm hn hk hl
  obtain ⟨⟨hbx,hby⟩,hb1,hb2,hb3⟩:=hb
  have hq:cs.length ≤ 1099511627776 ∧ es.length ≤ 1099511627776 ∧ exB 1099511627776 es:=⟨hb1,by omega,hb3⟩
  have hel:=Axz true es
  have ha:=Goz true es [(p,(b,x,y),true)]
  simp only [EL] at ha
  refine Auz (pins:=[]) (pin:=0) l74_eq rfl rfl rfl ?_
  (repeat' (first
 | (first|refine Ahz ?_|refine Abz ?_)
 | ((first|refine Aiz ?_|refine Awz (mid:=l74r2a) (post:=l74r2b) Bgz (by decide) ?_);simp (disch:=omega) only [push_cast,seval,l74r0,l74r1,l74r2a,l74r2b,l74r2,l74r3,hel,ha,Aaz,zcX,List.map_append,List.length_map])
 | ((first|refine Alz false ?_|refine Azz false ?_);simp (disch:=omega) only [push_cast,seval,hel,ha,Aaz,zcX,List.map_append,List.length_map])
 | ((first|((first|refine Akz (Ffz _ _ _ _ ?_ ?_ ?_) ?_|refine Agz (Ffz _ _ _ _ ?_ ?_ ?_) ⟨_,_,rfl,rfl⟩ ?_);(iterate 3 (exact sd));rintro _ _ ⟨rfl,rfl⟩)|((first|refine Akz (Baz _ _ _ _ _ ?_ ?_ ?_) ?_|refine Agz (Baz _ _ _ _ _ ?_ ?_ ?_) ⟨_,_,rfl,rfl⟩ ?_);(iterate 3 (exact sd));rintro _ _ ⟨rfl,rfl⟩))<;>(try simp (disch:=omega) only [push_cast,seval,hel,ha,Aaz,zcX,List.map_append,List.length_map]))
 | (refine Aez ⟨.inr rfl,[144,145],[],_,by decide,rfl,?_⟩;(try simp (disch:=omega) only [push_cast,seval,↓Adz,↓Acz,↓List.map_cons,↓List.map_nil,hel,ha,Aaz,zcX,List.map_append,List.length_map]))))
  all_goals (try exact ⟨rfl,rfl⟩)
  all_goals (try rfl)

end Go.Proofs.YtkpcjppnjmhanaaGreatDoor
namespace Go.Proofs.YtkpcjppnjmhanaaGreatDoor
open VwM Vw Go
variable [SentA]

def evG (cs:List Int) (es:List Ex) (b:Int) (x y:List Int):Bool:=(vB cs es && fitB b x y cs.length) && !decide (es.length=8)


set_option maxHeartbeats 8000000 in
theorem sEV_ok (cs:List Int) (es:List Ex) (m n:Nat) (b:Int) (x y:List Int) (k l:Nat) (hm:cs.length=m) (hn:es.length=n) (hk:x.length=k) (hl:y.length=l) (hb:(k ≤ 1099511627776 ∧ l ≤ 1099511627776) ∧ m ≤ 1099511627776 ∧ n ≤ 1099511627776 ∧ exB 1099511627776 es) :
    BCall Tryz.prog 34 [.agg [.rows false (IL cs) m,.rows false (EL false es) n],.agg [.int .i64 b,.rows false (IL x) k,.rows false (IL y) l]] [] (OBs (evG cs es b x y) (ifB (evG cs es b x y) cs) (ifB (evG cs es b x y) (es ++ [(-1,(b,x,y),true)]))):=by
  subst hm hn hk hl
  obtain ⟨⟨hbx,hby⟩,hb1,hb2,hb3⟩:=hb
  have hb0:cs.length ≤ 1099511627776 ∧ es.length ≤ 1099511627776 ∧ exB 1099511627776 es:=⟨hb1,hb2,hb3⟩
  have hel:=Axz false es
  refine Auz (pins:=[]) (pin:=0) l34_eq rfl rfl rfl ?_
  unfold evG
  cases hv:vB cs es with
  | false =>
    simp only [Bool.false_and,A9z]
    (repeat' (first
 | (first|refine Ahz ?_|refine Abz ?_)
 | ((first|refine Aiz ?_|refine Afz ?_);simp (disch:=omega) only [push_cast,seval,l34r0,l34r1,l34r2,l34r3,hv,hel,Aaz])
 | ((first|refine Alz false ?_);simp (disch:=omega) only [push_cast,seval,hv,hel,Aaz])
 | ((first|((first|refine Akz (Ajz (Ayz _ _ _ _ ?_ ?_ ?_)) ?_|refine Agz (Ajz (Ayz _ _ _ _ ?_ ?_ ?_)) ⟨_,_,rfl,rfl⟩ ?_);(iterate 3 (exact sd));rintro _ _ ⟨rfl,rfl⟩))<;>(try simp (disch:=omega) only [push_cast,seval,hv,hel,Aaz]))
 | (refine Aez ⟨.inr rfl,[16000,16001],[(16000,1),(16001,5)],_,by decide,rfl,?_⟩;(try simp (disch:=omega) only [push_cast,seval,↓Adz,↓Acz,↓List.map_cons,↓List.map_nil,hv,hel,Aaz]))))
    all_goals simp [OBs,EL]
  | true =>
    obtain ⟨v1,v2,v3⟩:=vB_8 hv
    cases hvv:vV b x y with
    | false =>
      have hf:fitB b x y cs.length=false:=by unfold fitB;rw [hvv];rfl
      simp only [hf,Bool.and_false,Bool.false_and,A9z]
      (repeat' (first
 | (first|refine Ahz ?_|refine Abz ?_)
 | ((first|refine Aiz ?_|refine Afz ?_);simp (disch:=omega) only [push_cast,seval,l34r0,l34r1,l34r2,l34r3,hv,hvv,hel,Aaz])
 | ((first|refine Alz false ?_);simp (disch:=omega) only [push_cast,seval,hv,hvv,hel,Aaz])
 | ((first|((first|refine Akz (Ajz (Ayz _ _ _ _ ?_ ?_ ?_)) ?_|refine Agz (Ajz (Ayz _ _ _ _ ?_ ?_ ?_)) ⟨_,_,rfl,rfl⟩ ?_);(iterate 3 (exact sd));rintro _ _ ⟨rfl,rfl⟩)|((first|refine Akz (Ajz (Arz _ _ _ _ _ ?_ ?_ ?_)) ?_|refine Agz (Ajz (Arz _ _ _ _ _ ?_ ?_ ?_)) ⟨_,_,rfl,rfl⟩ ?_);(iterate 3 (exact sd));rintro _ _ ⟨rfl,rfl⟩))<;>(try simp (disch:=omega) only [push_cast,seval,hv,hvv,hel,Aaz]))
 | (refine Aez ⟨.inr rfl,[16000,16001],[(16000,1),(16001,5)],_,by decide,rfl,?_⟩;(try simp (disch:=omega) only [push_cast,seval,↓Adz,↓Acz,↓List.map_cons,↓List.map_nil,hv,hvv,hel,Aaz]))))
      all_goals simp [OBs,EL]
    | true =>
      have hok:=(Daz hvv).1
      have hf:fitB b x y cs.length=allI (offs b x y) 0 ((cs.length:Int) - 1):=by
        unfold fitB
        rw [hvv]
        have:(decide ((0:Int) ≤ cs.length) && decide ((cs.length:Int) ≤ 60))=true:=by rw [Bool.and_eq_true,decide_eq_true_eq,decide_eq_true_eq];omega
        rw [this];rfl
      rw [hf]
      cases ha:allI (offs b x y) 0 ((cs.length:Int) - 1) with
 | false =>
        simp only [Bool.and_false,Bool.false_and,A9z]
        (repeat' (first
 | (first|refine Ahz ?_|refine Abz ?_)
 | ((first|refine Aiz ?_|refine Afz ?_);simp (disch:=omega) only [push_cast,seval,l34r0,l34r1,l34r2,l34r3,hv,hvv,ha,hel,Aaz])
 | ((first|refine Alz false ?_);simp (disch:=omega) only [push_cast,seval,hv,hvv,ha,hel,Aaz])
 | ((first|((first|refine Akz (Ajz (Ayz _ _ _ _ ?_ ?_ ?_)) ?_|refine Agz (Ajz (Ayz _ _ _ _ ?_ ?_ ?_)) ⟨_,_,rfl,rfl⟩ ?_);(iterate 3 (exact sd));rintro _ _ ⟨rfl,rfl⟩)|((first|refine Akz (Ajz (Arz _ _ _ _ _ ?_ ?_ ?_)) ?_|refine Agz (Ajz (Arz _ _ _ _ _ ?_ ?_ ?_)) ⟨_,_,rfl,rfl⟩ ?_);(iterate 3 (exact sd));rintro _ _ ⟨rfl,rfl⟩)|((first|refine Akz (Ajz (B4z _ _ _ _ _ _ ?_ ?_ ?_)) ?_|refine Agz (Ajz (B4z _ _ _ _ _ _ ?_ ?_ ?_)) ⟨_,_,rfl,rfl⟩ ?_);(iterate 3 (exact sd));rintro _ _ ⟨rfl,rfl⟩))<;>(try simp (disch:=omega) only [push_cast,seval,hv,hvv,ha,hel,Aaz]))
 | (refine Aez ⟨.inr rfl,[16000,16001],[(16000,1),(16001,5)],_,by decide,rfl,?_⟩;(try simp (disch:=omega) only [push_cast,seval,↓Adz,↓Acz,↓List.map_cons,↓List.map_nil,hv,hvv,ha,hel,Aaz]))))
        all_goals simp [OBs,EL]
 | true =>
        by_cases h8:es.length=8
        · have hd:(!decide (es.length=8))=false:=by simp [h8]
          have h8i:(es.length:Int)=8:=by omega
          simp only [hd,Bool.and_false,A9z]
          (repeat' (first
 | (first|refine Ahz ?_|refine Abz ?_)
 | ((first|refine Aiz ?_|refine Afz ?_);simp (disch:=omega) only [push_cast,seval,l34r0,l34r1,l34r2,l34r3,hv,hvv,ha,h8i,hel,Aaz])
 | ((first|refine Alz false ?_);simp (disch:=omega) only [push_cast,seval,hv,hvv,ha,h8i,hel,Aaz])
 | ((first|((first|refine Akz (Ajz (Ayz _ _ _ _ ?_ ?_ ?_)) ?_|refine Agz (Ajz (Ayz _ _ _ _ ?_ ?_ ?_)) ⟨_,_,rfl,rfl⟩ ?_);(iterate 3 (exact sd));rintro _ _ ⟨rfl,rfl⟩)|((first|refine Akz (Ajz (Arz _ _ _ _ _ ?_ ?_ ?_)) ?_|refine Agz (Ajz (Arz _ _ _ _ _ ?_ ?_ ?_)) ⟨_,_,rfl,rfl⟩ ?_);(iterate 3 (exact sd));rintro _ _ ⟨rfl,rfl⟩)|((first|refine Akz (Ajz (B4z _ _ _ _ _ _ ?_ ?_ ?_)) ?_|refine Agz (Ajz (B4z _ _ _ _ _ _ ?_ ?_ ?_)) ⟨_,_,rfl,rfl⟩ ?_);(iterate 3 (exact sd));rintro _ _ ⟨rfl,rfl⟩))<;>(try simp (disch:=omega) only [push_cast,seval,hv,hvv,ha,h8i,hel,Aaz]))
 | (refine Aez ⟨.inr rfl,[16000,16001],[(16000,1),(16001,5)],_,by decide,rfl,?_⟩; (try simp (disch := omega) only [push_cast,seval,↓Adz,↓Acz,↓List.map_cons,↓List.map_nil,hv,hvv,ha,h8i,hel,Aaz]))))
          all_goals simp [OBs,EL]
        · have hd:(!decide (es.length=8))=true:=by simp [h8]
          have h8i:((es.length:Int)=8)=False:=eq_false (by omega)
          simp only [hd,Bool.and_true,D2z]
          (repeat' (first
 | (first|refine Ahz ?_|refine Abz ?_)
 | ((first|refine Aiz ?_|refine Afz ?_|refine Aoz ?_);simp (disch:=omega) only [push_cast,seval,l34r0,l34r1,l34r2,l34r3,hv,hvv,ha,h8i,hel,Aaz])
 | ((first|refine Alz false ?_);simp (disch:=omega) only [push_cast,seval,hv,hvv,ha,h8i,hel,Aaz])
 | ((first|((first|refine Akz (Ajz (Ayz _ _ _ _ ?_ ?_ ?_)) ?_|refine Agz (Ajz (Ayz _ _ _ _ ?_ ?_ ?_)) ⟨_,_,rfl,rfl⟩ ?_);(iterate 3 (exact sd));rintro _ _ ⟨rfl,rfl⟩)|((first|refine Akz (Ajz (Arz _ _ _ _ _ ?_ ?_ ?_)) ?_|refine Agz (Ajz (Arz _ _ _ _ _ ?_ ?_ ?_)) ⟨_,_,rfl,rfl⟩ ?_);(iterate 3 (exact sd));rintro _ _ ⟨rfl,rfl⟩)|((first|refine Akz (Ajz (B4z _ _ _ _ _ _ ?_ ?_ ?_)) ?_|refine Agz (Ajz (B4z _ _ _ _ _ _ ?_ ?_ ?_)) ⟨_,_,rfl,rfl⟩ ?_);(iterate 3 (exact sd));rintro _ _ ⟨rfl,rfl⟩)|((first|refine Akz (J0z _ _ _ _ _ _ _ _ _ _ ?_ ?_ ?_ ?_ ?_) ?_|refine Agz (J0z _ _ _ _ _ _ _ _ _ _ ?_ ?_ ?_ ?_ ?_) ⟨_,_,rfl,rfl⟩ ?_);(iterate 5 (exact sd));rintro _ _ ⟨rfl,rfl⟩))<;>(try simp (disch:=omega) only [push_cast,seval,hv,hvv,ha,h8i,hel,Aaz]))
 | (refine Aez ⟨.inr rfl,[496,497],[],_,by decide,rfl,?_⟩; (try simp (disch := omega) only [push_cast,seval,↓Adz,↓Acz,↓List.map_cons,↓List.map_nil,hv,hvv,ha,h8i,hel,Aaz]))))
          all_goals simp [OBs]

end Go.Proofs.YtkpcjppnjmhanaaGreatDoor
namespace Go.Proofs.YtkpcjppnjmhanaaGreatDoor
open VwM Vw Go
variable [SentA]

def xfG (cs:List Int) (es:List Ex) (id v:Int):Bool:=(vB cs es && opA es id) && (decide (0 ≤ v) && decide (v ≤ 255))
def xfC (cs:List Int) (es:List Ex) (id v:Int):List Int:=filL cs (vwA es id).1 (vwA es id).2.1 (vwA es id).2.2 v
theorem Igz (cs:List Int) (b:Int) (x y:List Int) (v:Int):(filL cs b x y v).length=cs.length:=C6z ..


set_option maxHeartbeats 8000000 in
theorem sFE_ok (cs:List Int) (es:List Ex) (m n:Nat) (id v:Int) (hm:cs.length=m) (hn:es.length=n) (hb:m ≤ 1099511627776 ∧ n ≤ 1099511627776 ∧ exB 1099511627776 es) :
    BCall Tryz.prog 23 [.agg [.rows false (IL cs) m,.rows false (EL false es) n],.int .i64 id,.int .i64 v] [] (OBs (xfG cs es id v) (ifB (xfG cs es id v) (xfC cs es id v)) (ifB (xfG cs es id v) es)):=by
  subst hm hn
  have hb0:=hb
  obtain ⟨hb1,hb2,hb3⟩:=hb
  have hel:=Axz false es
  refine Auz (pins:=[]) (pin:=0) l23_eq rfl rfl rfl ?_
  unfold xfG
  cases hv:vB cs es with
  | false =>
    simp only [Bool.false_and,A9z]
    (repeat' (first
 | (first|refine Ahz ?_|refine Abz ?_)
 | ((first|refine Aiz ?_|refine Afz ?_);simp (disch:=omega) only [push_cast,seval,l23r0,l23r1,l23r2,l23r3,l23r4a,l23r4b,l23r4,l23r5,hv,hel,Aaz])
 | ((first|refine Alz false ?_);simp (disch:=omega) only [push_cast,seval,hv,hel,Aaz])
 | ((first|((first|refine Akz (Ajz (Ayz _ _ _ _ ?_ ?_ ?_)) ?_|refine Agz (Ajz (Ayz _ _ _ _ ?_ ?_ ?_)) ⟨_,_,rfl,rfl⟩ ?_);(iterate 3 (exact sd));rintro _ _ ⟨rfl,rfl⟩))<;>(try simp (disch:=omega) only [push_cast,seval,hv,hel,Aaz]))
 | (refine Aez ⟨.inr rfl,[16000,16001],[(16000,1),(16001,5)],_,by decide,rfl,?_⟩;(try simp (disch:=omega) only [push_cast,seval,↓Adz,↓Acz,↓List.map_cons,↓List.map_nil,hv,hel,Aaz]))))
    all_goals simp [OBs,EL]
  | true =>
    obtain ⟨v1,v2,v3⟩:=vB_8 hv
    cases hr:opA es id with
    | false =>
      simp only [Bool.true_and,Bool.false_and,A9z]
      (repeat' (first
 | (first|refine Ahz ?_|refine Abz ?_)
 | ((first|refine Aiz ?_|refine Afz ?_);simp (disch:=omega) only [push_cast,seval,l23r0,l23r1,l23r2,l23r3,l23r4a,l23r4b,l23r4,l23r5,hv,hr,hel,Aaz])
 | ((first|refine Alz false ?_);simp (disch:=omega) only [push_cast,seval,hv,hr,hel,Aaz])
 | ((first|((first|refine Akz (Ajz (Ayz _ _ _ _ ?_ ?_ ?_)) ?_|refine Agz (Ajz (Ayz _ _ _ _ ?_ ?_ ?_)) ⟨_,_,rfl,rfl⟩ ?_);(iterate 3 (exact sd));rintro _ _ ⟨rfl,rfl⟩)|((first|refine Akz (Ajz (Blz _ _ _ _ _ ?_ ?_ ?_)) ?_|refine Agz (Ajz (Blz _ _ _ _ _ ?_ ?_ ?_)) ⟨_,_,rfl,rfl⟩ ?_);(iterate 3 (exact sd));rintro _ _ ⟨rfl,rfl⟩))<;>(try simp (disch:=omega) only [push_cast,seval,hv,hr,hel,Aaz]))
 | (refine Aez ⟨.inr rfl,[16000,16001],[(16000,1),(16001,5)],_,by decide,rfl,?_⟩;(try simp (disch:=omega) only [push_cast,seval,↓Adz,↓Acz,↓List.map_cons,↓List.map_nil,hv,hr,hel,Aaz]))))
      all_goals simp [OBs,EL]
    | true =>
      simp only [Bool.true_and]
      cases hx:(decide (0 ≤ v) && decide (v ≤ 255)) with
 | false =>
        simp only [A9z]
        (repeat' (first
 | (first|refine Ahz ?_|refine Abz ?_)
 | ((first|refine Aiz ?_|refine Afz ?_);simp (disch:=omega) only [push_cast,seval,l23r0,l23r1,l23r2,l23r3,l23r4a,l23r4b,l23r4,l23r5,hv,hr,hx,hel,Aaz])
 | ((first|refine Alz false ?_);simp (disch:=omega) only [push_cast,seval,hv,hr,hx,hel,Aaz])
 | ((first|((first|refine Akz (Ajz (Ayz _ _ _ _ ?_ ?_ ?_)) ?_|refine Agz (Ajz (Ayz _ _ _ _ ?_ ?_ ?_)) ⟨_,_,rfl,rfl⟩ ?_);(iterate 3 (exact sd));rintro _ _ ⟨rfl,rfl⟩)|((first|refine Akz (Ajz (Blz _ _ _ _ _ ?_ ?_ ?_)) ?_|refine Agz (Ajz (Blz _ _ _ _ _ ?_ ?_ ?_)) ⟨_,_,rfl,rfl⟩ ?_);(iterate 3 (exact sd));rintro _ _ ⟨rfl,rfl⟩)|((first|refine Akz (Ajz (Asz _ _ _)) ?_|refine Agz (Ajz (Asz _ _ _)) ⟨_,_,rfl,rfl⟩ ?_);rintro _ _ ⟨rfl,rfl⟩))<;>(try simp (disch:=omega) only [push_cast,seval,hv,hr,hx,hel,Aaz]))
 | (refine Aez ⟨.inr rfl,[16000,16001],[(16000,1),(16001,5)],_,by decide,rfl,?_⟩;(try simp (disch:=omega) only [push_cast,seval,↓Adz,↓Acz,↓List.map_cons,↓List.map_nil,hv,hr,hx,hel,Aaz]))))
        all_goals simp [OBs,EL]
 | true =>
        obtain ⟨q,p,b,x,y,rfl,hq,he,hvw⟩:=D9z hr
        have hs:=Fyz hv he
        have hbb:=D5z hb3 he
        have hd:=B3z false es q he
        simp only at hd
        have hil:q * 5 + 5 ≤ es.length * 5:=by omega
        have h3:((EL false es).drop (q * 5 + 1)).take 3=[.int .i64 b,.rows false (IL x) x.length,.rows false (IL y) y.length]:=by
          have:=congrArg (fun l=>(l.drop 1).take 3) hd
          simpa [List.drop_take,List.drop_drop,List.take_take] using this
        have hfb:filB cs b x y v=true:=by unfold filB;rw [hs,hx];rfl
        have hlen:=Igz cs b x y v
        unfold xfC
        simp only [D2z,hvw]
        generalize hZ:filL cs b x y v=Z at *
        (repeat' (first
 | (first|refine Ahz ?_|refine Abz ?_)
 | ((first|refine Aiz ?_|refine B5z (mid:=l23r4a) (post:=l23r4b) [128,1000000039] Bgz (by decide) ?_|refine Afz ?_|refine Aoz ?_);simp (disch:=omega) only [push_cast,seval,l23r0,l23r1,l23r2,l23r3,l23r4a,l23r4b,l23r4,l23r5,hv,hr,hx,h3,hfb,hZ,hil,hel,Aaz,MVL_true])
 | ((first|refine Alz false ?_|refine Azz false ?_);simp (disch:=omega) only [push_cast,seval,hv,hr,hx,h3,hfb,hZ,hil,hel,Aaz,MVL_true])
 | ((first|((first|refine Akz (Ajz (Ayz _ _ _ _ ?_ ?_ ?_)) ?_|refine Agz (Ajz (Ayz _ _ _ _ ?_ ?_ ?_)) ⟨_,_,rfl,rfl⟩ ?_);(iterate 3 (exact sd));rintro _ _ ⟨rfl,rfl⟩)|((first|refine Akz (Ajz (Blz _ _ _ _ _ ?_ ?_ ?_)) ?_|refine Agz (Ajz (Blz _ _ _ _ _ ?_ ?_ ?_)) ⟨_,_,rfl,rfl⟩ ?_);(iterate 3 (exact sd));rintro _ _ ⟨rfl,rfl⟩)|((first|refine Akz (Ajz (Asz _ _ _)) ?_|refine Agz (Ajz (Asz _ _ _)) ⟨_,_,rfl,rfl⟩ ?_);rintro _ _ ⟨rfl,rfl⟩)|((first|refine Akz (Ffz _ _ _ _ ?_ ?_ ?_) ?_|refine Agz (Ffz _ _ _ _ ?_ ?_ ?_) ⟨_,_,rfl,rfl⟩ ?_);(iterate 3 (exact sd));rintro _ _ ⟨rfl,rfl⟩)|((first|refine Akz (sFill_ok _ _ _ _ _ _ _ _ ?_ ?_ ?_ ?_) ?_|refine Agz (sFill_ok _ _ _ _ _ _ _ _ ?_ ?_ ?_ ?_) ⟨_,_,rfl,rfl⟩ ?_);(iterate 4 (exact sd));rintro _ _ ⟨rfl,rfl⟩))<;>(try simp (disch:=omega) only [push_cast,seval,hv,hr,hx,h3,hfb,hZ,hil,hel,Aaz,MVL_true]))
 | (refine Aez ⟨.inr rfl,[576,401],[],_,by decide,rfl,?_⟩;(try simp (disch:=omega) only [push_cast,seval,↓Adz,↓Acz,↓List.map_cons,↓List.map_nil,hv,hr,hx,h3,hfb,hZ,hil,hel,Aaz,MVL_true]))))
        all_goals simp [OBs]

end Go.Proofs.YtkpcjppnjmhanaaGreatDoor
namespace Go.Proofs.YtkpcjppnjmhanaaGreatDoor
open VwM Vw Go
variable [SentA]

def xcG (cs:List Int) (es:List Ex) (t f:Int):Bool:=((vB cs es && opA es t) && opA es f) && decide ((vwA es t).2.1=(vwA es f).2.1)
def xcC (cs:List Int) (es:List Ex) (t f:Int):List Int:=putL cs (offs (vwA es t).1 (vwA es t).2.1 (vwA es t).2.2) (takesL cs (offs (vwA es f).1 (vwA es f).2.1 (vwA es f).2.2))
theorem twoB_see {mem:List Int} {b:Int} {sh st:List Int} {b':Int} {sh' st':List Int} (h:seeB mem b sh st=true) (h':seeB mem b' sh' st'=true):twoB mem b sh st b' sh' st'=decide (sh=sh'):=by
  unfold twoB;rw [h,h'];rfl
theorem Hkz {es:List Ex} {q:Nat} {p b:Int} {x y:List Int} {o:Bool} (he:es[q]?=some (p,(b,x,y),o)):((EL false es).drop (q * 5 + 1)).take 3=[.int .i64 b,.rows false (IL x) x.length,.rows false (IL y) y.length]:=by
  have hd:=B3z false es q he
  simp only at hd
  have:=congrArg (fun l=>(l.drop 1).take 3) hd
  simpa [List.drop_take,List.drop_drop,List.take_take] using this


set_option maxHeartbeats 8000000 in
theorem sCE_ok (cs:List Int) (es:List Ex) (m n:Nat) (t f:Int) (hm:cs.length=m) (hn:es.length=n) (hb:m ≤ 1099511627776 ∧ n ≤ 1099511627776 ∧ exB 1099511627776 es) :
    BCall Tryz.prog 28 [.agg [.rows false (IL cs) m,.rows false (EL false es) n],.int .i64 t,.int .i64 f] [] (OBs (xcG cs es t f) (ifB (xcG cs es t f) (xcC cs es t f)) (ifB (xcG cs es t f) es)):=by
  subst hm hn
  have hb0:=hb
  obtain ⟨hb1,hb2,hb3⟩:=hb
  have hel:=Axz false es
  refine Auz (pins:=[]) (pin:=0) l28_eq rfl rfl rfl ?_
  unfold xcG
  cases hv:vB cs es with
  | false =>
    simp only [Bool.false_and,A9z]
    (repeat' (first
 | (first|refine Ahz ?_|refine Abz ?_)
 | ((first|refine Aiz ?_|refine Afz ?_);simp (disch:=omega) only [push_cast,seval,l28r0,l28r1,l28r2,l28r3a,l28r3b,l28r3,l28r4,l28r5,l28r6,l28r7,l28r8,hv,hel,Aaz])
 | ((first|refine Alz false ?_);simp (disch:=omega) only [push_cast,seval,hv,hel,Aaz])
 | ((first|((first|refine Akz (Ajz (Ayz _ _ _ _ ?_ ?_ ?_)) ?_|refine Agz (Ajz (Ayz _ _ _ _ ?_ ?_ ?_)) ⟨_,_,rfl,rfl⟩ ?_);(iterate 3 (exact sd));rintro _ _ ⟨rfl,rfl⟩))<;>(try simp (disch:=omega) only [push_cast,seval,hv,hel,Aaz]))
 | (refine Aez ⟨.inr rfl,[16000,16001],[(16000,1),(16001,5)],_,by decide,rfl,?_⟩;(try simp (disch:=omega) only [push_cast,seval,↓Adz,↓Acz,↓List.map_cons,↓List.map_nil,hv,hel,Aaz]))))
    all_goals simp [OBs,EL]
  | true =>
    obtain ⟨v1,v2,v3⟩:=vB_8 hv
    cases hr:opA es t with
    | false =>
      simp only [Bool.true_and,Bool.false_and,A9z]
      (repeat' (first
 | (first|refine Ahz ?_|refine Abz ?_)
 | ((first|refine Aiz ?_|refine Afz ?_);simp (disch:=omega) only [push_cast,seval,l28r0,l28r1,l28r2,l28r3a,l28r3b,l28r3,l28r4,l28r5,l28r6,l28r7,l28r8,hv,hr,hel,Aaz])
 | ((first|refine Alz false ?_);simp (disch:=omega) only [push_cast,seval,hv,hr,hel,Aaz])
 | ((first|((first|refine Akz (Ajz (Ayz _ _ _ _ ?_ ?_ ?_)) ?_|refine Agz (Ajz (Ayz _ _ _ _ ?_ ?_ ?_)) ⟨_,_,rfl,rfl⟩ ?_);(iterate 3 (exact sd));rintro _ _ ⟨rfl,rfl⟩)|((first|refine Akz (Ajz (Blz _ _ _ _ _ ?_ ?_ ?_)) ?_|refine Agz (Ajz (Blz _ _ _ _ _ ?_ ?_ ?_)) ⟨_,_,rfl,rfl⟩ ?_);(iterate 3 (exact sd));rintro _ _ ⟨rfl,rfl⟩))<;>(try simp (disch:=omega) only [push_cast,seval,hv,hr,hel,Aaz]))
 | (refine Aez ⟨.inr rfl,[16000,16001],[(16000,1),(16001,5)],_,by decide,rfl,?_⟩;(try simp (disch:=omega) only [push_cast,seval,↓Adz,↓Acz,↓List.map_cons,↓List.map_nil,hv,hr,hel,Aaz]))))
      all_goals simp [OBs,EL]
    | true =>
      cases hrf:opA es f with
 | false =>
        simp only [Bool.true_and,Bool.false_and,A9z]
        (repeat' (first
 | (first|refine Ahz ?_|refine Abz ?_)
 | ((first|refine Aiz ?_|refine Afz ?_);simp (disch:=omega) only [push_cast,seval,l28r0,l28r1,l28r2,l28r3a,l28r3b,l28r3,l28r4,l28r5,l28r6,l28r7,l28r8,hv,hr,hrf,hel,Aaz])
 | ((first|refine Alz false ?_);simp (disch:=omega) only [push_cast,seval,hv,hr,hrf,hel,Aaz])
 | ((first|((first|refine Akz (Ajz (Ayz _ _ _ _ ?_ ?_ ?_)) ?_|refine Agz (Ajz (Ayz _ _ _ _ ?_ ?_ ?_)) ⟨_,_,rfl,rfl⟩ ?_);(iterate 3 (exact sd));rintro _ _ ⟨rfl,rfl⟩)|((first|refine Akz (Ajz (Blz _ _ _ _ _ ?_ ?_ ?_)) ?_|refine Agz (Ajz (Blz _ _ _ _ _ ?_ ?_ ?_)) ⟨_,_,rfl,rfl⟩ ?_);(iterate 3 (exact sd));rintro _ _ ⟨rfl,rfl⟩))<;>(try simp (disch:=omega) only [push_cast,seval,hv,hr,hrf,hel,Aaz]))
 | (refine Aez ⟨.inr rfl,[16000,16001],[(16000,1),(16001,5)],_,by decide,rfl,?_⟩;(try simp (disch:=omega) only [push_cast,seval,↓Adz,↓Acz,↓List.map_cons,↓List.map_nil,hv,hr,hrf,hel,Aaz]))))
        all_goals simp [OBs,EL]
 | true =>
        simp only [Bool.true_and]
        obtain ⟨q,p,b,x,y,rfl,hq,he,hvw⟩:=D9z hr
        obtain ⟨q',p',b',x',y',rfl,hq',he',hvw'⟩:=D9z hrf
        have hs:=Fyz hv he
        have hs':=Fyz hv he'
        have hbb:=D5z hb3 he
        have hbb':=D5z hb3 he'
        have hil:q * 5 + 5 ≤ es.length * 5:=by omega
        have hil':q' * 5 + 5 ≤ es.length * 5:=by omega
        have h3:=Hkz he
        have h3':=Hkz he'
        have htw:=twoB_see hs hs'
        unfold xcC
        simp only [hvw,hvw']
        have hlen:(putL cs (offs b x y) (takesL cs (offs b' x' y'))).length=cs.length:=C6z ..
        generalize hZ:putL cs (offs b x y) (takesL cs (offs b' x' y'))=Z at *
        cases hx:decide (x=x') with
        | false =>
          rw [hx] at htw
          simp only [A9z]
          (repeat' (first
 | (first|refine Ahz ?_|refine Abz ?_)
 | ((first|refine Aiz ?_|refine Awz (mid:=l28r3a) (post:=l28r3b) Bgz (by decide) ?_|refine Afz ?_|refine Aoz ?_);simp (disch:=omega) only [push_cast,seval,l28r0,l28r1,l28r2,l28r3a,l28r3b,l28r3,l28r4,l28r5,l28r6,l28r7,l28r8,hv,hr,hrf,htw,h3,h3',hZ,hil,hil',hel,Aaz,MVL_false])
 | ((first|refine Alz false ?_|refine Azz false ?_);simp (disch:=omega) only [push_cast,seval,hv,hr,hrf,htw,h3,h3',hZ,hil,hil',hel,Aaz,MVL_false])
 | ((first|((first|refine Akz (Ajz (Ayz _ _ _ _ ?_ ?_ ?_)) ?_|refine Agz (Ajz (Ayz _ _ _ _ ?_ ?_ ?_)) ⟨_,_,rfl,rfl⟩ ?_);(iterate 3 (exact sd));rintro _ _ ⟨rfl,rfl⟩)|((first|refine Akz (Ajz (Blz _ _ _ _ _ ?_ ?_ ?_)) ?_|refine Agz (Ajz (Blz _ _ _ _ _ ?_ ?_ ?_)) ⟨_,_,rfl,rfl⟩ ?_);(iterate 3 (exact sd));rintro _ _ ⟨rfl,rfl⟩)|((first|refine Akz (Hez _ _ _ _ _ _ _ _ _ _ _ _ ?_ ?_ ?_ ?_ ?_ ?_) ?_|refine Agz (Hez _ _ _ _ _ _ _ _ _ _ _ _ ?_ ?_ ?_ ?_ ?_ ?_) ⟨_,_,rfl,rfl⟩ ?_);(iterate 6 (exact sd));rintro _ _ ⟨rfl,rfl⟩))<;>(try simp (disch:=omega) only [push_cast,seval,hv,hr,hrf,htw,h3,h3',hZ,hil,hil',hel,Aaz,MVL_false]))
 | (refine Aez ⟨.inr rfl,[16000,16001],[(16000,1),(16001,5)],_,by decide,rfl,?_⟩; (try simp (disch := omega) only [push_cast,seval,↓Adz,↓Acz,↓List.map_cons,↓List.map_nil,hv,hr,hrf,htw,h3,h3',hZ,hil,hil',hel,Aaz,MVL_false]))))
          all_goals simp [OBs,EL]
        | true =>
          rw [hx] at htw
          simp only [D2z]
          (repeat' (first
 | (first|refine Ahz ?_|refine Abz ?_)
 | ((first|refine Aiz ?_|refine Awz (mid:=l28r3a) (post:=l28r3b) Bgz (by decide) ?_|refine Afz ?_|refine Aoz ?_);simp (disch:=omega) only [push_cast,seval,l28r0,l28r1,l28r2,l28r3a,l28r3b,l28r3,l28r4,l28r5,l28r6,l28r7,l28r8,hv,hr,hrf,htw,h3,h3',hZ,hil,hil',hel,Aaz,MVL_true])
 | ((first|refine Alz false ?_|refine Azz false ?_);simp (disch:=omega) only [push_cast,seval,hv,hr,hrf,htw,h3,h3',hZ,hil,hil',hel,Aaz,MVL_true])
 | ((first|((first|refine Akz (Ajz (Ayz _ _ _ _ ?_ ?_ ?_)) ?_|refine Agz (Ajz (Ayz _ _ _ _ ?_ ?_ ?_)) ⟨_,_,rfl,rfl⟩ ?_);(iterate 3 (exact sd));rintro _ _ ⟨rfl,rfl⟩)|((first|refine Akz (Ajz (Blz _ _ _ _ _ ?_ ?_ ?_)) ?_|refine Agz (Ajz (Blz _ _ _ _ _ ?_ ?_ ?_)) ⟨_,_,rfl,rfl⟩ ?_);(iterate 3 (exact sd));rintro _ _ ⟨rfl,rfl⟩)|((first|refine Akz (Hez _ _ _ _ _ _ _ _ _ _ _ _ ?_ ?_ ?_ ?_ ?_ ?_) ?_|refine Agz (Hez _ _ _ _ _ _ _ _ _ _ _ _ ?_ ?_ ?_ ?_ ?_ ?_) ⟨_,_,rfl,rfl⟩ ?_);(iterate 6 (exact sd));rintro _ _ ⟨rfl,rfl⟩)|((first|refine Akz (Ffz _ _ _ _ ?_ ?_ ?_) ?_|refine Agz (Ffz _ _ _ _ ?_ ?_ ?_) ⟨_,_,rfl,rfl⟩ ?_);(iterate 3 (exact sd));rintro _ _ ⟨rfl,rfl⟩))<;>(try simp (disch:=omega) only [push_cast,seval,hv,hr,hrf,htw,h3,h3',hZ,hil,hil',hel,Aaz,MVL_true]))
 | (refine Aez ⟨.inr rfl,[672,785],[],_,by decide,rfl,?_⟩; (try simp (disch := omega) only [push_cast,seval,↓Adz,↓Acz,↓List.map_cons,↓List.map_nil,hv,hr,hrf,htw,h3,h3',hZ,hil,hil',hel,Aaz,MVL_true]))))
          all_goals simp [OBs]

end Go.Proofs.YtkpcjppnjmhanaaGreatDoor
