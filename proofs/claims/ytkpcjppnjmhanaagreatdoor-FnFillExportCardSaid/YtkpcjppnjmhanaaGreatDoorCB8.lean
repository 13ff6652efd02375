/- Texts of this verifier. -/
import Derived.Test.YtkpcjppnjmhanaaGreatDoorCB7
import Derived.Test.YtkpcjppnjmhanaaGreatDoorCM1
import Derived.Test.YtkpcjppnjmhanaaGreatDoorCW3
set_option maxHeartbeats 4000000
set_option linter.unusedSimpArgs false
set_option linter.unusedSectionVars false
set_option linter.unusedVariables false
set_option maxRecDepth 4000
namespace Go.Proofs.YtkpcjppnjmhanaaGreatDoor
open VwM Vw Go
variable [SentA]

def opA (es:List Ex) (id:Int):Bool:=(decide (0 ≤ id) && decide (id ≤ (es.length:Int) - 1)) && (match es[id.toNat]? with|some e=>e.2.2|none=>false)
def vwA (es:List Ex) (id:Int):Vw3:=(es.getD id.toNat (0,(0,[],[]),false)).2.1
def loadA (cs:List Int) (es:List Ex) (id:Int):List Int:=if (vB cs es && opA es id)=true then takesL cs (offs (vwA es id).1 (vwA es id).2.1 (vwA es id).2.2) else []
theorem E6z {es:List Ex} {id:Int} (h:opA es id=true):∃ (q:Nat) (p b:Int) (x y:List Int),id=q ∧ q < es.length ∧ es[q]?=some (p,(b,x,y),true) ∧ vwA es id=(b,x,y):=by
  unfold opA at h
  simp only [Bool.and_eq_true,decide_eq_true_eq] at h
  obtain ⟨⟨h1,h2⟩,h3⟩:=h
  obtain ⟨q,rfl⟩:∃ q:Nat,id=q:=⟨id.toNat,by omega⟩
  obtain ⟨p,b,x,y,o,he⟩:=Cyz (es:=es) (i:=q) (by omega)
  simp only [Int.toNat_natCast,he] at h3
  subst h3
  exact ⟨q,p,b,x,y,rfl,by omega,he,by simp [vwA,List.getD,he]⟩
theorem Gcz {cs:List Int} {es:List Ex} {q:Nat} {p b:Int} {x y:List Int} (h:vB cs es=true) (he:es[q]?=some (p,(b,x,y),true)):seeB cs b x y=true:=by
  unfold vB at h
  simp only [Bool.and_eq_true,decide_eq_true_eq] at h
  obtain ⟨⟨h1,h2⟩,h3⟩:=h
  have hi:q < es.length:=(List.getElem?_eq_some_iff.1 he).1
  have:=(Dgz (f:=sxV cs.length es)).1 h3 q _ hi he
  unfold sxV exV at this
  simp only [Bool.and_eq_true,Bool.not_true,Bool.false_or] at this
  unfold seeB
  simp only [Bool.and_eq_true]
  exact ⟨⟨h1,this.1.1.2⟩,this.1.2⟩
theorem see_prX {mem:List Int} {b:Int} {sh st:List Int} (h:seeB mem b sh st=true):(offs b sh st).length ≤ 60 ∧ mem.length ≤ 60:=by
  obtain ⟨_,_,_,f4,f5,f6⟩:=Cnz h
  have:=A8z b sh st
  omega
set_option maxHeartbeats 8000000 in
theorem Buz (cs:List Int) (es:List Ex) (m n:Nat) (id:Int) (hm:cs.length=m) (hn:es.length=n) (hb:m ≤ 1099511627776 ∧ n ≤ 1099511627776) :
    PCall Tryz.prog 48 [.agg [.rows false (IL cs) m,.rows false (EL false es) n],.int .i64 id] (fun r=>r=.bool (opA es id)):=by
  subst hm hn
  obtain ⟨hb1,hb2⟩:=hb
  have hel:=Azz false es
  refine Axz l48_eq rfl ?_
  unfold opA
  by_cases hr:0 ≤ id ∧ id ≤ (es.length:Int) - 1
  · have hrd:(decide (0 ≤ id) && decide (id ≤ (es.length:Int) - 1))=true:=by rw [Bool.and_eq_true,decide_eq_true_eq,decide_eq_true_eq];exact hr
    rw [hrd]
    obtain ⟨q,rfl⟩:∃ q:Nat,id=q:=⟨id.toNat,by omega⟩
    obtain ⟨p,b,x,y,o,he⟩:=Cyz (es:=es) (i:=q) (by omega)
    have hd:=Bvz false es q he
    simp only at hd
    have hil:q * 5 + 5 ≤ es.length * 5:=by omega
    have h4:((EL false es).drop (q * 5 + 4)).take 1=[.bool o]:=by
      have:=congrArg (fun l=>(l.drop 4).take 1) hd
      simpa [List.drop_take,List.drop_drop,List.take_take] using this
    simp only [Int.toNat_natCast,he]
    (repeat' (first
 | (first|refine Agz ?_|refine Abz ?_)
 | ((first|refine Ahz ?_);simp (disch:=omega) only [push_cast,seval,l48r0,l48r1,h4,hel,hil,hrd,Aaz])
 | ((first|refine Alz false ?_);simp (disch:=omega) only [push_cast,seval,h4,hel,hil,hrd,Aaz])
 | ((first|((first|refine Akz (Ajz (Atz _ _ _)) ?_|refine Aiz (Ajz (Atz _ _ _)) ⟨_,_,rfl,rfl⟩ ?_);rintro _ _ ⟨rfl,rfl⟩))<;>(try simp (disch:=omega) only [push_cast,seval,h4,hel,hil,hrd,Aaz]))
 | (refine Afz ⟨.inr rfl,_,rfl,?_⟩;(try simp (disch:=omega) only [push_cast,seval,h4,hel,hil,hrd,Aaz]))))
    all_goals (try simp)
  · have hrd:(decide (0 ≤ id) && decide (id ≤ (es.length:Int) - 1))=false:=by rw [Bool.eq_false_iff];intro h;simp at h;omega
    rw [hrd]
    (repeat' (first
 | (first|refine Agz ?_|refine Abz ?_)
 | ((first|refine Ahz ?_);simp (disch:=omega) only [push_cast,seval,l48r0,l48r1,hel,hrd,Aaz])
 | ((first|refine Alz false ?_);simp (disch:=omega) only [push_cast,seval,hel,hrd,Aaz])
 | ((first|((first|refine Akz (Ajz (Atz _ _ _)) ?_|refine Aiz (Ajz (Atz _ _ _)) ⟨_,_,rfl,rfl⟩ ?_);rintro _ _ ⟨rfl,rfl⟩))<;>(try simp (disch:=omega) only [push_cast,seval,hel,hrd,Aaz]))
 | (refine Afz ⟨.inr rfl,_,rfl,?_⟩;(try simp (disch:=omega) only [push_cast,seval,hel,hrd,Aaz]))))
    all_goals (try simp)


set_option maxHeartbeats 8000000 in
theorem Giz (cs:List Int) (es:List Ex) (m n:Nat) (id:Int) (hm:cs.length=m) (hn:es.length=n) (hb:m ≤ 1099511627776 ∧ n ≤ 1099511627776 ∧ exB 1099511627776 es) :
    PCall Tryz.prog 42 [.agg [.rows false (IL cs) m,.rows false (EL false es) n],.int .i64 id] (fun r=>r=.bool (vB cs es && opA es id)):=by
  subst hm hn
  have hb0:=hb
  obtain ⟨hb1,hb2,hb3⟩:=hb
  have hel:=Azz false es
  refine Axz l42_eq rfl ?_
  cases hv:vB cs es with
  | false =>
    (repeat' (first
 | (first|refine Agz ?_|refine Abz ?_)
 | ((first|refine Ahz ?_);simp (disch:=omega) only [push_cast,seval,l42r0,l42r1,hv,hel,Aaz])
 | ((first|refine Alz false ?_);simp (disch:=omega) only [push_cast,seval,hv,hel,Aaz])
 | ((first|((first|refine Akz (Ajz (Dnz _ _ _ _ ?_ ?_ ?_)) ?_|refine Aiz (Ajz (Dnz _ _ _ _ ?_ ?_ ?_)) ⟨_,_,rfl,rfl⟩ ?_);(iterate 3 (exact sd));rintro _ _ ⟨rfl,rfl⟩))<;>(try simp (disch:=omega) only [push_cast,seval,hv,hel,Aaz]))
 | (refine Afz ⟨.inr rfl,_,rfl,?_⟩;(try simp (disch:=omega) only [push_cast,seval,hv,hel,Aaz]))))
    all_goals (try simp)
  | true =>
    unfold opA
    by_cases hr:0 ≤ id ∧ id ≤ (es.length:Int) - 1
    · have hrd:(decide (0 ≤ id) && decide (id ≤ (es.length:Int) - 1))=true:=by rw [Bool.and_eq_true,decide_eq_true_eq,decide_eq_true_eq];exact hr
      rw [hrd]
      obtain ⟨q,rfl⟩:∃ q:Nat,id=q:=⟨id.toNat,by omega⟩
      obtain ⟨p,b,x,y,o,he⟩:=Cyz (es:=es) (i:=q) (by omega)
      have hd:=Bvz false es q he
      simp only at hd
      have hil:q * 5 + 5 ≤ es.length * 5:=by omega
      have h4:((EL false es).drop (q * 5 + 4)).take 1=[.bool o]:=by
        have:=congrArg (fun l=>(l.drop 4).take 1) hd
        simpa [List.drop_take,List.drop_drop,List.take_take] using this
      simp only [Int.toNat_natCast,he]
      (repeat' (first
 | (first|refine Agz ?_|refine Abz ?_)
 | ((first|refine Ahz ?_);simp (disch:=omega) only [push_cast,seval,l42r0,l42r1,hv,h4,hel,hil,hrd,Aaz])
 | ((first|refine Alz false ?_);simp (disch:=omega) only [push_cast,seval,hv,h4,hel,hil,hrd,Aaz])
 | ((first|((first|refine Akz (Ajz (Dnz _ _ _ _ ?_ ?_ ?_)) ?_|refine Aiz (Ajz (Dnz _ _ _ _ ?_ ?_ ?_)) ⟨_,_,rfl,rfl⟩ ?_);(iterate 3 (exact sd));rintro _ _ ⟨rfl,rfl⟩)|((first|refine Akz (Ajz (Ccz _ _)) ?_|refine Aiz (Ajz (Ccz _ _)) ⟨_,_,rfl,rfl⟩ ?_);rintro _ _ ⟨rfl,rfl⟩))<;>(try simp (disch:=omega) only [push_cast,seval,hv,h4,hel,hil,hrd,Aaz]))
 | (refine Afz ⟨.inr rfl,_,rfl,?_⟩;(try simp (disch:=omega) only [push_cast,seval,hv,h4,hel,hil,hrd,Aaz]))))
      all_goals (try simp)
    · have hrd:(decide (0 ≤ id) && decide (id ≤ (es.length:Int) - 1))=false:=by rw [Bool.eq_false_iff];intro h;simp at h;omega
      rw [hrd]
      (repeat' (first
 | (first|refine Agz ?_|refine Abz ?_)
 | ((first|refine Ahz ?_);simp (disch:=omega) only [push_cast,seval,l42r0,l42r1,hv,hel,hrd,Aaz])
 | ((first|refine Alz false ?_);simp (disch:=omega) only [push_cast,seval,hv,hel,hrd,Aaz])
 | ((first|((first|refine Akz (Ajz (Dnz _ _ _ _ ?_ ?_ ?_)) ?_|refine Aiz (Ajz (Dnz _ _ _ _ ?_ ?_ ?_)) ⟨_,_,rfl,rfl⟩ ?_);(iterate 3 (exact sd));rintro _ _ ⟨rfl,rfl⟩)|((first|refine Akz (Ajz (Ccz _ _)) ?_|refine Aiz (Ajz (Ccz _ _)) ⟨_,_,rfl,rfl⟩ ?_);rintro _ _ ⟨rfl,rfl⟩))<;>(try simp (disch:=omega) only [push_cast,seval,hv,hel,hrd,Aaz]))
 | (refine Afz ⟨.inr rfl,_,rfl,?_⟩;(try simp (disch:=omega) only [push_cast,seval,hv,hel,hrd,Aaz]))))
      all_goals (try simp)


set_option maxHeartbeats 8000000 in
theorem iLE_ok (cs:List Int) (es:List Ex) (m n:Nat) (id:Int) (hm:cs.length=m) (hn:es.length=n) (hb:m ≤ 1099511627776 ∧ n ≤ 1099511627776 ∧ exB 1099511627776 es) :
    BCall Tryz.prog 16 [.agg [.rows false (IL cs) m,.rows false (EL false es) n],.int .i64 id] [] (OI (loadA cs es id)):=by
  subst hm hn
  have hb0:=hb
  obtain ⟨hb1,hb2,hb3⟩:=hb
  have hel:=Azz false es
  refine Auz (pins:=[]) (pin:=0) l16_eq rfl rfl rfl ?_
  unfold loadA
  cases hc:(vB cs es && opA es id) with
  | false =>
    (repeat' (first
 | (first|refine Agz ?_|refine Abz ?_)
 | ((first|refine Ahz ?_|refine Aez ?_);simp (disch:=omega) only [push_cast,seval,l16r0,l16r1,l16r2,l16r3a,l16r3b,l16r3,hc,hel,Aaz])
 | ((first|refine Alz false ?_);simp (disch:=omega) only [push_cast,seval,hc,hel,Aaz])
 | ((first|((first|refine Akz (Ajz (Giz _ _ _ _ _ ?_ ?_ ?_)) ?_|refine Aiz (Ajz (Giz _ _ _ _ _ ?_ ?_ ?_)) ⟨_,_,rfl,rfl⟩ ?_);(iterate 3 (exact sd));rintro _ _ ⟨rfl,rfl⟩))<;>(try simp (disch:=omega) only [push_cast,seval,hc,hel,Aaz]))
 | (refine Afz ⟨.inr rfl,[16000],[(16000,1)],_,by decide,rfl,?_⟩;(try simp (disch:=omega) only [push_cast,seval,↓Adz,↓Acz,↓List.map_cons,↓List.map_nil,hc,hel,Aaz]))))
    all_goals simp [OI]
  | true =>
    have hc2:=hc
    rw [Bool.and_eq_true] at hc2
    obtain ⟨hv,hr⟩:=hc2
    obtain ⟨q,p,b,x,y,rfl,hq,he,hvw⟩:=E6z hr
    have hs:=Gcz hv he
    have hbb:=Czz hb3 he
    have q9:seeB cs b x y=true ∧ cs.length ≤ 1099511627776 ∧ x.length ≤ 1099511627776 ∧ y.length ≤ 1099511627776:=⟨hs,hb1,hbb⟩
    rw [hvw]
    have hd:=Bvz false es q he
    simp only at hd
    have hil:q * 5 + 5 ≤ es.length * 5:=by omega
    have h3:((EL false es).drop (q * 5 + 1)).take 3=[.int .i64 b,.rows false (IL x) x.length,.rows false (IL y) y.length]:=by
      have:=congrArg (fun l=>(l.drop 1).take 3) hd
      simpa [List.drop_take,List.drop_drop,List.take_take] using this
    (repeat' (first
 | (first|refine Agz ?_|refine Abz ?_)
 | ((first|refine Ahz ?_|refine Awz (mid:=l16r3a) (post:=l16r3b) mixed (by decide) ?_|refine Aez ?_|refine Aoz ?_);simp (disch:=omega) only [push_cast,seval,l16r0,l16r1,l16r2,l16r3a,l16r3b,l16r3,hc,h3,hil,hel,Aaz])
 | ((first|refine Alz false ?_);simp (disch:=omega) only [push_cast,seval,hc,h3,hil,hel,Aaz])
 | ((first|((first|refine Akz (Ajz (Giz _ _ _ _ _ ?_ ?_ ?_)) ?_|refine Aiz (Ajz (Giz _ _ _ _ _ ?_ ?_ ?_)) ⟨_,_,rfl,rfl⟩ ?_);(iterate 3 (exact sd));rintro _ _ ⟨rfl,rfl⟩)|((first|refine Akz (iLoad_ok _ _ _ _ _ _ _ ?_ ?_ ?_ ?_) ?_|refine Aiz (iLoad_ok _ _ _ _ _ _ _ ?_ ?_ ?_ ?_) ⟨_,_,rfl,rfl⟩ ?_);(iterate 4 (exact sd));rintro _ _ ⟨rfl,rfl⟩))<;>(try simp (disch:=omega) only [push_cast,seval,hc,h3,hil,hel,Aaz]))
 | (refine Afz ⟨.inr rfl,[112],[],_,by decide,rfl,?_⟩;(try simp (disch:=omega) only [push_cast,seval,↓Adz,↓Acz,↓List.map_cons,↓List.map_nil,hc,h3,hil,hel,Aaz]);(first|done|(show AV.own _ _ _=_ ∧ _)))
 | (refine Afz ⟨.inr rfl,[272],[],_,by decide,rfl,?_⟩;(try simp (disch:=omega) only [push_cast,seval,↓Adz,↓Acz,↓List.map_cons,↓List.map_nil,hc,h3,hil,hel,Aaz]);(first|done|(show AV.own _ _ _=_ ∧ _)))))
    all_goals simp [OI,MVL,hs]

end Go.Proofs.YtkpcjppnjmhanaaGreatDoor
namespace Go.Proofs.YtkpcjppnjmhanaaGreatDoor
open VwM Vw Go
variable [SentA]



theorem vclone_ok (b:Int) (sh st:List Int) (n m:Nat) (hn:sh.length=n) (hm:st.length=m) (hb:n ≤ 1099511627776 ∧ m ≤ 1099511627776):BCall Tryz.prog 85 [.agg [.int .i64 b,.rows false (IL sh) n,.rows false (IL st) m]] [] (OV b sh st):=by
  subst hn hm
  obtain ⟨hb1,hb2⟩:=hb
  refine Auz (pins:=[]) (pin:=0) l85_eq rfl rfl rfl ?_
  (repeat' (first
 | (first|refine Agz ?_|refine Abz ?_)
 | ((first|refine Ahz ?_|refine Awz (mid:=l85r1a) (post:=l85r1b) mixed (by decide) ?_);simp (disch:=omega) only [push_cast,seval,l85r0,l85r1a,l85r1b,l85r1])
 | ((first|refine A2z false ?_);simp (disch:=omega) only [push_cast,seval])
 | ((first|((first|refine Akz (F7z _ _ ?_ ?_) ?_|refine Aiz (F7z _ _ ?_ ?_) ⟨_,_,rfl,rfl⟩ ?_);(iterate 2 (exact sd));rintro _ _ ⟨rfl,rfl⟩))<;>(try simp (disch:=omega) only [push_cast,seval]))
 | (refine Afz ⟨.inr rfl,[112,160],[],_,by decide,rfl,?_⟩;(try simp (disch:=omega) only [push_cast,seval,↓Adz,↓Acz,↓List.map_cons,↓List.map_nil]))))
  all_goals simp [OV]


set_option maxHeartbeats 16000000 in
theorem bclone_ok (cs:List Int) (es:List Ex) (m n:Nat) (hm:cs.length=m) (hn:es.length=n) (hb:m ≤ 1048576 ∧ n ≤ 1048576 ∧ exB 1048576 es):BCall Tryz.prog 46 [.agg [.rows false (IL cs) m,.rows false (EL false es) n]] [] (fun r H'=>r=.agg [.own 0 m 1,.own 1 n 5] ∧ H'=IL cs :: (esF es).cellsG (· + 2) :: (esF es).conts):=by
  subst hm hn
  obtain ⟨hb1,hb2,hb3⟩:=hb
  refine Auz (pins:=[]) (pin:=0) l46_eq rfl rfl rfl ?_
  have hel:=Azz false es
  (repeat' (first
 | (first|refine Agz ?_|refine Abz ?_)
 | ((first|refine Ahz ?_);simp (disch:=omega) only [push_cast,seval,l46r0,l46r1,l46r2,l46r3,l46r4,l46r5a,l46r5b,l46r5,l46r6,l46r7,Aaz,hel])
 | ((first|refine Alz false ?_);simp (disch:=omega) only [push_cast,seval,Aaz,hel])
 | ((first|((first|refine Akz (F7z _ _ ?_ ?_) ?_|refine Aiz (F7z _ _ ?_ ?_) ⟨_,_,rfl,rfl⟩ ?_);(iterate 2 (exact sd));rintro _ _ ⟨rfl,rfl⟩))<;>(try simp (disch:=omega) only [push_cast,seval,Aaz,hel]))))
  refine Ckz (fun i:Nat=>mkS [(2,.ref 32 2 0),(3,.ref 48 2 0),(11,.rows false (EL false es) es.length),(12,.int .i64 es.length),(13,.int .i64 i)] ([(32,[.val (.slice none 0 0),.val (.slice none 0 0)]),(48,[.own 128 cs.length 1,.own 448 i 5]),(128,IL cs),(448,cellN 7 es i)] ++ famR 7 (exR es) (i * 2))) (fun i=>i ≤ es.length) (fun i=>es.length - i) 0 (Nat.zero_le _) ?_ ?_
  · refine SubW.adoptH [48] 448 5 (by simp [Vw.hk]) (SubW.of ?_)
    have e0:cellN 7 es 0=[]:=rfl
    have e1:famR 7 (exR es) (0 * 2)=[]:=rfl
    rw [e0,e1]
    simp only [adHL,List.map_cons,List.map_nil,adA,List.contains_cons,List.contains_nil]
    (refine Sub.of_lists ?_ ?_ ?_ ?_ ?_<;>simp [Vw.mkS,Vw.lk,Vw.hk,AV.inn,innL,Apz,Anz,Aqz,-List.map_set,-List.getD_eq_getElem?_getD,Aaz])
  · intro i hi
    by_cases hlt:i < es.length
    · obtain ⟨p,b,x,y,o,he⟩:=Cyz hlt
      have hbb:=Czz hb3 he
      have hd:=Bvz false es i he
      simp only at hd
      have hil:i * 5 + 5 ≤ es.length * 5:=by omega
      have hcl:=cellN_length 7 es i
      obtain ⟨h0,h1,h2,hr0,hr1⟩:=ex_at he
      (repeat' (first
 | (first|refine Agz ?_|refine Abz ?_)
 | ((first|refine Ahz ?_|refine Awz (mid:=l46r5a) (post:=l46r5b) mixed (by decide) ?_|refine Aez ?_|refine Aoz ?_);simp (disch:=omega) only [push_cast,seval,l46r0,l46r1,l46r2,l46r3,l46r4,l46r5a,l46r5b,l46r5,l46r6,l46r7,hd,hel,hil,hcl,Aaz,zcX])
 | ((first|refine Amz (fun h=>?_) (fun h=>?_))<;>(try simp only [h])<;>(try simp only [bitvec_to_nat] at h)<;>(try simp only [h])<;>(first|(exfalso;omega)|(exfalso;simp_all;done)|(simp (disch:=omega) only [push_cast,seval,hd,hel,hil,hcl,Aaz,zcX])|skip))
 | ((first|refine A2z false ?_);simp (disch:=omega) only [push_cast,seval,hd,hel,hil,hcl,Aaz,zcX])
 | ((first|((first|refine Akz (vclone_ok _ _ _ _ _ ?_ ?_ ?_) ?_|refine Aiz (vclone_ok _ _ _ _ _ ?_ ?_ ?_) ⟨_,_,rfl,rfl⟩ ?_);(iterate 3 (exact sd));rintro _ _ ⟨rfl,rfl⟩))<;>(try simp (disch:=omega) only [push_cast,seval,hd,hel,hil,hcl,Aaz,zcX]))))
      refine ⟨i + 1,by omega,by omega,?_⟩
      rw [show (i + 1) * 2=i * 2 + 2 by omega]
      refine SubW.fam2L (a:=368) (b:=369) (d:=7) (i:=i * 2) (rows:=exR es) (L:=[(32,[.val (.slice none 0 0),.val (.slice none 0 0)]),(48,[.own 128 cs.length 1,.own 448 (i + 1) 5]),(128,IL cs),(448,cellN 7 es (i + 1))]) ?_ ?_ ⟨by omega,by omega,by omega⟩ ?_ ?_ ?_ ?_ ?_
      · rw [hr0];rfl
      · rw [hr1];rfl
      · intro j hj
        simp only [hk,Ayz _ _ 448 (by omega),Ayz _ _ 368 (by omega),Ayz _ _ 369 (by omega),Ayz _ _ 432 (by omega),Ayz _ _ 80 (by omega),Ayz _ _ 32 (by omega),Ayz _ _ 48 (by omega),Ayz _ _ 128 (by omega),if_false]
        exact H1z _ _ _ _ hj
      · intro q hq
        simp only [List.mem_cons,List.not_mem_nil,or_false] at hq
        rcases hq with rfl|rfl|rfl|rfl
        · exact ⟨⟨by simp,by simp,by simp⟩,rfl⟩
        · refine ⟨⟨by simp,by simp,by simp⟩,?_⟩
          show some [AV.own (swp 369 (fim 7 (i * 2 + 1)) (swp 368 (fim 7 (i * 2)) 128)) cs.length 1,AV.own (swp 369 (fim 7 (i * 2 + 1)) (swp 368 (fim 7 (i * 2)) 448)) (i + 1) 5]=_
          rw [Fbz 368 7 _ 128 (by omega) (by omega),Fbz 368 7 _ 448 (by omega) (by omega),Fbz 369 7 _ 128 (by omega) (by omega),Fbz 369 7 _ 448 (by omega) (by omega)]
        · refine ⟨⟨by simp,by simp,by simp⟩,?_⟩
          show some (swL _ _ (swL _ _ (IL cs)))=_
          rw [Fdz,Fdz]
        · refine ⟨⟨by simp,by simp,by simp⟩,?_⟩
          exact congrArg some (cellN_succ (by omega) (by omega) (by omega) he)
      · simp [lk,AV.sw,H5z,Fbz]
      · simp [AV.inn,Aaz,hk]
      · intro q hq
        simp only [List.mem_cons,List.not_mem_nil,or_false] at hq
        rcases hq with rfl|rfl|rfl|rfl
        · rfl
        · simp [innL,AV.inn,hk]
        · exact Dxz _ _
        · exact cellN_inn fun j hj=>by
            show (hk ((32,_) :: (48,_) :: (128,_) :: (448,_) :: famR 7 (exR es) (i * 2 + 2)) (fim 7 j)).isSome=true
            simp only [hk,Ayz _ _ 448 (by omega),Ayz _ _ 32 (by omega),Ayz _ _ 48 (by omega),Ayz _ _ 128 (by omega),if_false]
            rw [H1z _ _ _ _ (by omega)];rfl
    · have e:i=es.length:=by omega
      subst e
      (repeat' (first
 | (first|refine Agz ?_|refine Abz ?_)
 | ((first|refine Ahz ?_|refine Aez ?_|refine A1z ?_);simp (disch:=omega) only [push_cast,seval,l46r0,l46r1,l46r2,l46r3,l46r4,l46r5a,l46r5b,l46r5,l46r6,l46r7,Aaz])
 | ((first|refine Amz (fun h=>?_) (fun h=>?_))<;>(try simp only [h])<;>(try simp only [bitvec_to_nat] at h)<;>(try simp only [h])<;>(first|(exfalso;omega)|(exfalso;simp_all;done)|(simp (disch:=omega) only [push_cast,seval,Aaz])|skip))))
      refine Afz ⟨.inr rfl,ret_famB (id0:=128) (id1:=448) (d:=7) (F:=esF es) (cs:=cs) rfl rfl rfl ?_ (by omega)⟩
      intro j hj
      simp only [hk,Ayz _ _ 448 (by omega),Ayz _ _ 32 (by omega),Ayz _ _ 48 (by omega),Ayz _ _ 128 (by omega),if_false]
      exact H1z _ _ _ _ hj


set_option maxHeartbeats 16000000 in
theorem Gfz (cs:List Int) (es:List Ex) (m n:Nat) (hm:cs.length=m) (hn:es.length=n) (hb:m ≤ 1099511627776 ∧ n ≤ 1099511627776 ∧ exB 1099511627776 es):BCall Tryz.prog 50 [.agg [.rows false (IL cs) m,.rows false (EL false es) n]] [] (fun r H'=>r=.agg [.own 0 m 1,.own 1 n 5] ∧ H'=[IL cs,EL true es]):=by
  subst hm hn
  obtain ⟨hb1,hb2,hb3⟩:=hb
  refine Auz (pins:=[]) (pin:=0) l50_eq rfl rfl rfl ?_
  have hel:=Azz false es
  (repeat' (first
 | (first|refine Agz ?_|refine Abz ?_)
 | ((first|refine Ahz ?_);simp (disch:=omega) only [push_cast,seval,l50r0,l50r1,l50r2,l50r3,l50r4,l50r5,l50r6,l50r7,l50r8,Aaz,hel])
 | ((first|refine Alz false ?_);simp (disch:=omega) only [push_cast,seval,Aaz,hel])
 | ((first|((first|refine Akz (Cjz _ _ ?_ ?_) ?_|refine Aiz (Cjz _ _ ?_ ?_) ⟨_,_,rfl,rfl⟩ ?_);(iterate 2 (exact sd));rintro _ _ ⟨rfl,rfl⟩))<;>(try simp (disch:=omega) only [push_cast,seval,Aaz,hel]))))
  refine Ckz (fun i:Nat=>mkS [(1,.ref 16 2 0),(2,.ref 32 2 0),(3,.ref 48 2 0),(4,.int .i64 i)] [(16,[.rows false (IL cs) cs.length,.rows false (EL false es) es.length]),(32,[.rows true [] 0,.rows true [] 0]),(48,[.own 128 cs.length 1,.own 480 i 5]),(128,IL cs),(480,EL true (es.take i))]) (fun i=>i ≤ es.length) (fun i=>es.length - i) 0 (Nat.zero_le _) ?_ ?_
  · refine SubW.adoptH [48] 480 5 (by simp [Vw.hk]) ?_
    have e0:EL true (es.take 0)=[]:=rfl
    rw [e0]
    simp only [adHL,List.map_cons,List.map_nil,adA,List.contains_cons,List.contains_nil]
    refine SubW.freeze [] (fun _ h=>by cases h) (SubW.of ?_)
    simp (disch:=omega) only [push_cast,seval,frzA,frzH,rhoF,List.contains_cons,List.contains_nil,Bool.or_false,Bool.false_eq_true,List.map_append,List.map_cons,List.map_nil,List.length_map]
    (refine Sub.of_lists ?_ ?_ ?_ ?_ ?_<;>simp [Vw.mkS,Vw.lk,Vw.hk,AV.inn,innL,Apz,Anz,Aqz,-List.map_set,-List.getD_eq_getElem?_getD,Aaz])
  · intro i hi
    by_cases hlt:i < es.length
    · obtain ⟨p,b,x,y,o,he⟩:=Cyz hlt
      have hbb:=Czz hb3 he
      have hd:=Bvz false es i he
      simp only at hd
      have hil:i * 5 + 5 ≤ es.length * 5:=by omega
      have htl:(EL true (es.take i)).length=i * 5:=by rw [Azz,List.length_take];omega
      have hsu:=EL_take true he
      simp only at hsu
      (repeat' (first
 | (first|refine Agz ?_|refine Abz ?_)
 | ((first|refine Ahz ?_|refine Aez ?_|refine Aoz ?_);simp (disch:=omega) only [push_cast,seval,l50r0,l50r1,l50r2,l50r3,l50r4,l50r5,l50r6,l50r7,l50r8,hd,hel,hil,htl,Aaz,zcX])
 | ((first|refine Amz (fun h=>?_) (fun h=>?_))<;>(try simp only [h])<;>(try simp only [bitvec_to_nat] at h)<;>(try simp only [h])<;>(first|(exfalso;omega)|(exfalso;simp_all;done)|(simp (disch:=omega) only [push_cast,seval,hd,hel,hil,htl,Aaz,zcX])|skip))
 | ((first|refine Alz false ?_);simp (disch:=omega) only [push_cast,seval,hd,hel,hil,htl,Aaz,zcX])
 | ((first|((first|refine Akz (Bcz _ _ _ _ _ ?_ ?_ ?_) ?_|refine Aiz (Bcz _ _ _ _ _ ?_ ?_ ?_) ⟨_,_,rfl,rfl⟩ ?_);(iterate 3 (exact sd));rintro _ _ ⟨rfl,rfl⟩))<;>(try simp (disch:=omega) only [push_cast,seval,hd,hel,hil,htl,Aaz,zcX]))))
      refine ⟨i + 1,by omega,by omega,?_⟩
      refine SubW.trans (s1:=mkS [(1,.ref 16 2 0),(2,.ref 32 2 0),(3,.ref 48 2 0),(4,.int .i64 ((i:Int) + 1))] [(16,[.rows false (IL cs) cs.length,.rows false (EL false es) es.length]),(32,[.rows true [] 0,.rows true [] 0]),(48,[.own 128 cs.length 1,.own 480 (i + 1) 5]),(128,IL cs),(480,EL true (es.take i) ++ [.int .i64 p,.int .i64 b,.own 384 x.length 1,.own 385 y.length 1,.bool o]),(384,IL x),(385,IL y)]) (SubW.of (by (refine Sub.of_lists ?_ ?_ ?_ ?_ ?_<;>simp [Vw.mkS,Vw.lk,Vw.hk,AV.inn,innL,Apz,Anz,Aqz,-List.map_set,-List.getD_eq_getElem?_getD,Aaz]))) ?_
      refine SubW.freeze [384,385] (by decide) (SubW.of ?_)
      simp (disch:=omega) only [push_cast,seval,frzA,frzH,rhoF,List.contains_cons,List.contains_nil,Bool.or_false,Bool.false_eq_true,List.map_append,List.map_cons,List.map_nil,List.length_map]
      (refine Sub.of_lists ?_ ?_ ?_ ?_ ?_<;>simp [Vw.mkS,Vw.lk,Vw.hk,AV.inn,innL,Apz,Anz,Aqz,-List.map_set,-List.getD_eq_getElem?_getD,Aaz,hsu])
    · have e:i=es.length:=by omega
      subst e
      (repeat' (first
 | (first|refine Agz ?_|refine Abz ?_)
 | ((first|refine Ahz ?_|refine Aez ?_|refine A1z ?_);simp (disch:=omega) only [push_cast,seval,l50r0,l50r1,l50r2,l50r3,l50r4,l50r5,l50r6,l50r7,l50r8,Aaz,List.take_length])
 | ((first|refine Amz (fun h=>?_) (fun h=>?_))<;>(try simp only [h])<;>(try simp only [bitvec_to_nat] at h)<;>(try simp only [h])<;>(first|(exfalso;omega)|(exfalso;simp_all;done)|(simp (disch:=omega) only [push_cast,seval,Aaz,List.take_length])|skip))
 | (refine Afz ⟨.inr rfl,[128,480],[],_,by decide,rfl,?_⟩;(try simp (disch:=omega) only [push_cast,seval,↓Adz,↓Acz,↓List.map_cons,↓List.map_nil,Aaz,List.take_length]))))
      all_goals skip

end Go.Proofs.YtkpcjppnjmhanaaGreatDoor
namespace Go.Proofs.YtkpcjppnjmhanaaGreatDoor
open VwM Vw Go
variable [SentA]

abbrev OBs (ok:Bool) (cs:List Int) (es:List Ex):AV → List (List AV) → Prop:=fun r H'=>r=.tup [.agg [.own 0 cs.length 1,.own 1 es.length 5],.bool ok] ∧ H'=[IL cs,EL true es]
abbrev OBf (ok:Bool) (cs:List Int) (es:List Ex):AV → List (List AV) → Prop:=fun r H'=>r=.tup [.agg [.own 0 cs.length 1,.own 1 es.length 5],.bool ok] ∧ H'=IL cs :: (esF es).cellsG (· + 2) :: (esF es).conts
theorem mkE_nil:(esF ([]:List Ex)).cellsG (· + 2)=[] ∧ (esF ([]:List Ex)).conts=[]:=⟨rfl,rfl⟩
/-- What comes of it if 'g' holds. -/
def ifB {α:Type} (g:Bool) (l:List α):List α:=if g=true then l else []
theorem Dcz {α:Type} (l:List α):ifB true l=l:=rfl
theorem Bbz {α:Type} (l:List α):ifB false l=[]:=rfl
def relG (cs:List Int) (es:List Ex) (id:Int):Bool:=(vB cs es && opA es id) && decide ((kidsT es id es.length).length=0)


set_option maxHeartbeats 8000000 in
theorem sRel_ok (cs:List Int) (es:List Ex) (m n:Nat) (id:Int) (hm:cs.length=m) (hn:es.length=n) (hb:m ≤ 1099511627776 ∧ n ≤ 1099511627776 ∧ exB 1099511627776 es) :
    BCall Tryz.prog 11 [.agg [.rows false (IL cs) m,.rows false (EL false es) n],.int .i64 id] [] (OBs (relG cs es id) (ifB (relG cs es id) cs) (ifB (relG cs es id) (relE es id.toNat))):=by
  subst hm hn
  have hb0:=hb
  obtain ⟨hb1,hb2,hb3⟩:=hb
  have hel:=Azz false es
  have helt:=Azz true es
  refine Auz (pins:=[]) (pin:=0) l11_eq rfl rfl rfl ?_
  unfold relG
  cases hv:vB cs es with
  | false =>
    simp only [Bool.false_and,Bbz]
    (repeat' (first
 | (first|refine Agz ?_|refine Abz ?_)
 | ((first|refine Ahz ?_|refine Aez ?_);simp (disch:=omega) only [push_cast,seval,l11r0,l11r1,l11r2,l11r3,l11r4,l11r5,hv,hel,Aaz])
 | ((first|refine Alz false ?_);simp (disch:=omega) only [push_cast,seval,hv,hel,Aaz])
 | ((first|((first|refine Akz (Ajz (A5z _ _ _ _ ?_ ?_ ?_)) ?_|refine Aiz (Ajz (A5z _ _ _ _ ?_ ?_ ?_)) ⟨_,_,rfl,rfl⟩ ?_);(iterate 3 (exact sd));rintro _ _ ⟨rfl,rfl⟩))<;>(try simp (disch:=omega) only [push_cast,seval,hv,hel,Aaz]))
 | (refine Afz ⟨.inr rfl,[16000,16001],[(16000,1),(16001,5)],_,by decide,rfl,?_⟩;(try simp (disch:=omega) only [push_cast,seval,↓Adz,↓Acz,↓List.map_cons,↓List.map_nil,hv,hel,Aaz]))))
    all_goals simp [OBs,EL]
  | true =>
    obtain ⟨v1,v2,v3⟩:=vB_8 hv
    cases hr:opA es id with
    | false =>
      simp only [Bool.true_and,Bool.false_and,Bbz]
      (repeat' (first
 | (first|refine Agz ?_|refine Abz ?_)
 | ((first|refine Ahz ?_|refine Aez ?_);simp (disch:=omega) only [push_cast,seval,l11r0,l11r1,l11r2,l11r3,l11r4,l11r5,hv,hr,hel,Aaz])
 | ((first|refine Alz false ?_);simp (disch:=omega) only [push_cast,seval,hv,hr,hel,Aaz])
 | ((first|((first|refine Akz (Ajz (A5z _ _ _ _ ?_ ?_ ?_)) ?_|refine Aiz (Ajz (A5z _ _ _ _ ?_ ?_ ?_)) ⟨_,_,rfl,rfl⟩ ?_);(iterate 3 (exact sd));rintro _ _ ⟨rfl,rfl⟩)|((first|refine Akz (Ajz (Buz _ _ _ _ _ ?_ ?_ ?_)) ?_|refine Aiz (Ajz (Buz _ _ _ _ _ ?_ ?_ ?_)) ⟨_,_,rfl,rfl⟩ ?_);(iterate 3 (exact sd));rintro _ _ ⟨rfl,rfl⟩))<;>(try simp (disch:=omega) only [push_cast,seval,hv,hr,hel,Aaz]))
 | (refine Afz ⟨.inr rfl,[16000,16001],[(16000,1),(16001,5)],_,by decide,rfl,?_⟩;(try simp (disch:=omega) only [push_cast,seval,↓Adz,↓Acz,↓List.map_cons,↓List.map_nil,hv,hr,hel,Aaz]))))
      all_goals simp [OBs,EL]
    | true =>
      obtain ⟨q,p,b,x,y,rfl,hq,he,hvw⟩:=E6z hr
      have hrel:=EL_rel (b:=true) he
      have hrl:=relE_length es q
      have hil:q * 5 + 5 ≤ es.length * 5:=by omega
      simp only [Bool.true_and,Int.toNat_natCast]
      generalize hK:kidsT es (q:Int) es.length=K at *
      by_cases hk0:K.length=0
      · have hkd:decide (K.length=0)=true:=decide_eq_true hk0
        rw [hkd,Dcz,Dcz]
        (repeat' (first
 | (first|refine Agz ?_|refine Abz ?_)
 | ((first|refine Ahz ?_|refine Aez ?_|refine Aoz ?_);simp (disch:=omega) only [push_cast,seval,l11r0,l11r1,l11r2,l11r3,l11r4,l11r5,hv,hr,hK,hk0,hil,hel,helt,hrel,Aaz])
 | ((first|refine Alz false ?_);simp (disch:=omega) only [push_cast,seval,hv,hr,hK,hk0,hil,hel,helt,hrel,Aaz])
 | ((first|((first|refine Akz (Ajz (A5z _ _ _ _ ?_ ?_ ?_)) ?_|refine Aiz (Ajz (A5z _ _ _ _ ?_ ?_ ?_)) ⟨_,_,rfl,rfl⟩ ?_);(iterate 3 (exact sd));rintro _ _ ⟨rfl,rfl⟩)|((first|refine Akz (Ajz (Buz _ _ _ _ _ ?_ ?_ ?_)) ?_|refine Aiz (Ajz (Buz _ _ _ _ _ ?_ ?_ ?_)) ⟨_,_,rfl,rfl⟩ ?_);(iterate 3 (exact sd));rintro _ _ ⟨rfl,rfl⟩)|((first|refine Akz (Imz _ _ _ _ _ ?_ ?_ ?_) ?_|refine Aiz (Imz _ _ _ _ _ ?_ ?_ ?_) ⟨_,_,rfl,rfl⟩ ?_);(iterate 3 (exact sd));rintro _ _ ⟨rfl,rfl⟩)|((first|refine Akz (Gfz _ _ _ _ ?_ ?_ ?_) ?_|refine Aiz (Gfz _ _ _ _ ?_ ?_ ?_) ⟨_,_,rfl,rfl⟩ ?_);(iterate 3 (exact sd));rintro _ _ ⟨rfl,rfl⟩))<;>(try simp (disch:=omega) only [push_cast,seval,hv,hr,hK,hk0,hil,hel,helt,hrel,Aaz]))
 | (refine Afz ⟨.inr rfl,[400,401],[],_,by decide,rfl,?_⟩;(try simp (disch:=omega) only [push_cast,seval,↓Adz,↓Acz,↓List.map_cons,↓List.map_nil,hv,hr,hK,hk0,hil,hel,helt,hrel,Aaz]))))
        all_goals simp [OBs,hrl]
      · have hkd:decide (K.length=0)=false:=decide_eq_false hk0
        rw [hkd,Bbz,Bbz]
        (repeat' (first
 | (first|refine Agz ?_|refine Abz ?_)
 | ((first|refine Ahz ?_|refine Aez ?_);simp (disch:=omega) only [push_cast,seval,l11r0,l11r1,l11r2,l11r3,l11r4,l11r5,hv,hr,hK,hk0,hil,hel,Aaz])
 | ((first|refine Amz (fun h=>?_) (fun h=>?_))<;>(try simp only [h])<;>(try simp only [bitvec_to_nat] at h)<;>(try simp only [h])<;>(first|(exfalso;omega)|(exfalso;simp_all;done)|(simp (disch:=omega) only [push_cast,seval,hv,hr,hK,hk0,hil,hel,Aaz])|skip))
 | ((first|refine Alz false ?_);simp (disch:=omega) only [push_cast,seval,hv,hr,hK,hk0,hil,hel,Aaz])
 | ((first|((first|refine Akz (Ajz (A5z _ _ _ _ ?_ ?_ ?_)) ?_|refine Aiz (Ajz (A5z _ _ _ _ ?_ ?_ ?_)) ⟨_,_,rfl,rfl⟩ ?_);(iterate 3 (exact sd));rintro _ _ ⟨rfl,rfl⟩)|((first|refine Akz (Ajz (Buz _ _ _ _ _ ?_ ?_ ?_)) ?_|refine Aiz (Ajz (Buz _ _ _ _ _ ?_ ?_ ?_)) ⟨_,_,rfl,rfl⟩ ?_);(iterate 3 (exact sd));rintro _ _ ⟨rfl,rfl⟩)|((first|refine Akz (Imz _ _ _ _ _ ?_ ?_ ?_) ?_|refine Aiz (Imz _ _ _ _ _ ?_ ?_ ?_) ⟨_,_,rfl,rfl⟩ ?_);(iterate 3 (exact sd));rintro _ _ ⟨rfl,rfl⟩))<;>(try simp (disch:=omega) only [push_cast,seval,hv,hr,hK,hk0,hil,hel,Aaz]))
 | (refine Afz ⟨.inr rfl,[16000,16001],[(16000,1),(16001,5)],_,by decide,rfl,?_⟩;(try simp (disch:=omega) only [push_cast,seval,↓Adz,↓Acz,↓List.map_cons,↓List.map_nil,hv,hr,hK,hk0,hil,hel,Aaz]))))
        all_goals simp [OBs,EL]



end Go.Proofs.YtkpcjppnjmhanaaGreatDoor
namespace Go.Proofs.YtkpcjppnjmhanaaGreatDoor
open VwM Vw Go
variable [SentA]

end Go.Proofs.YtkpcjppnjmhanaaGreatDoor
namespace Go.Proofs.YtkpcjppnjmhanaaGreatDoor
open VwM Vw Go
variable [SentA]



set_option maxHeartbeats 8000000 in
theorem Ljz (cs:List Int) (es:List Ex) (m n:Nat) (p b:Int) (x y:List Int) (k l:Nat) (hm:cs.length=m) (hn:es.length=n) (hk:x.length=k) (hl:y.length=l) (hb:(k ≤ 1099511627776 ∧ l ≤ 1099511627776) ∧ m ≤ 1099511627776 ∧ n ≤ 1000 ∧ exB 1099511627776 es) :
    BCall Tryz.prog 74 [.agg [.rows false (IL cs) m,.rows false (EL false es) n],.int .i64 p,.agg [.int .i64 b,.rows false (IL x) k,.rows false (IL y) l]] [] (fun r H'=>r=.agg [.own 0 m 1,.own 1 (n + 1) 5] ∧ H'=[IL cs,EL true (es ++ [(p,(b,x,y),true)])]):=by
  subst hm hn hk hl
  obtain ⟨⟨hbx,hby⟩,hb1,hb2,hb3⟩:=hb
  have hq:cs.length ≤ 1099511627776 ∧ es.length ≤ 1099511627776 ∧ exB 1099511627776 es:=⟨hb1,by omega,hb3⟩
  have hel:=Azz true es
  have ha:=Hoz true es [(p,(b,x,y),true)]
  simp only [EL] at ha
  refine Auz (pins:=[]) (pin:=0) l74_eq rfl rfl rfl ?_
  (repeat' (first
 | (first|refine Agz ?_|refine Abz ?_)
 | ((first|refine Ahz ?_|refine Awz (mid:=l74r2a) (post:=l74r2b) mixed (by decide) ?_);simp (disch:=omega) only [push_cast,seval,l74r0,l74r1,l74r2a,l74r2b,l74r2,l74r3,hel,ha,Aaz,zcX,List.map_append,List.length_map])
 | ((first|refine Alz false ?_|refine A2z false ?_);simp (disch:=omega) only [push_cast,seval,hel,ha,Aaz,zcX,List.map_append,List.length_map])
 | ((first|((first|refine Akz (Gfz _ _ _ _ ?_ ?_ ?_) ?_|refine Aiz (Gfz _ _ _ _ ?_ ?_ ?_) ⟨_,_,rfl,rfl⟩ ?_);(iterate 3 (exact sd));rintro _ _ ⟨rfl,rfl⟩)|((first|refine Akz (Bcz _ _ _ _ _ ?_ ?_ ?_) ?_|refine Aiz (Bcz _ _ _ _ _ ?_ ?_ ?_) ⟨_,_,rfl,rfl⟩ ?_);(iterate 3 (exact sd));rintro _ _ ⟨rfl,rfl⟩))<;>(try simp (disch:=omega) only [push_cast,seval,hel,ha,Aaz,zcX,List.map_append,List.length_map]))
 | (refine Afz ⟨.inr rfl,[144,145],[],_,by decide,rfl,?_⟩;(try simp (disch:=omega) only [push_cast,seval,↓Adz,↓Acz,↓List.map_cons,↓List.map_nil,hel,ha,Aaz,zcX,List.map_append,List.length_map]))))
  all_goals (try exact ⟨rfl,rfl⟩)
  all_goals (try rfl)


set_option maxHeartbeats 8000000 in
theorem iWith_ok (cs:List Int) (es:List Ex) (xs:List Int) (m n k:Nat) (hm:cs.length=m) (hn:es.length=n) (hk:xs.length=k) (hb:m ≤ 1048576 ∧ n ≤ 1048576 ∧ exB 1048576 es) :
    BCall Tryz.prog 58 [.agg [.rows false (IL cs) m,.rows false (EL false es) n],.own 0 k 1,.bool true] [IL xs] (fun r H'=>r=.tup [.agg [.own 0 k 1,.own 1 n 5],.bool true] ∧ H'=IL xs :: (esF es).cellsG (· + 2) :: (esF es).conts):=by
  subst hm hn hk
  obtain ⟨hb1,hb2,hb3⟩:=hb
  have hel:=Azz false es
  refine Auz (pins:=[0]) (pin:=1) l58_eq rfl rfl rfl ?_
  (repeat' (first
 | (first|refine Agz ?_|refine Abz ?_)
 | ((first|refine Ahz ?_|refine Aez ?_|refine Aoz ?_);simp (disch:=omega) only [push_cast,seval,l58r0,l58r1,l58r2,l58r3,l58r4,l58r5,hel,Aaz])
 | ((first|((with_reducible refine Alz (f:=46) false ?_);simp (disch:=omega) only [push_cast,seval,hel,Aaz];(refine callFNB (bclone_ok _ _ _ _ ?_ ?_ ?_) (by (simp (disch:=omega) only [push_cast,seval,hel,Aaz]);done) ?_;(iterate 3 (exact sd)))))<;>(try simp (disch:=omega) only [push_cast,seval,hel,Aaz]))))
  refine Afz ⟨.inr rfl,ret_famP (id1:=209) (d:=13) (F:=esF es) (cs:=xs) (bufT xs.length es.length true) rfl rfl (fun _ _ _ _ e0 e1=>ren_bufT e0 e1) ?_ rfl ?_ (by omega)⟩
  · simp only [hk,if_false]
    rw [Dyz _ _ _ 0 (by omega)]
    rfl
  · intro j hj
    simp only [hk,Ayz _ _ 96 (by omega),Ayz _ _ 128 (by omega),Ayz _ _ 208 (by omega),Ayz _ _ 209 (by omega),if_false]
    exact Djz 13 (esF es) _ j hj

end Go.Proofs.YtkpcjppnjmhanaaGreatDoor
namespace Go.Proofs.YtkpcjppnjmhanaaGreatDoor
open VwM Vw Go
variable [SentA]

def evG (cs:List Int) (es:List Ex) (b:Int) (x y:List Int):Bool:=(vB cs es && fitB b x y cs.length) && !decide (es.length=8)


set_option maxHeartbeats 8000000 in
theorem sEV_ok (cs:List Int) (es:List Ex) (m n:Nat) (b:Int) (x y:List Int) (k l:Nat) (hm:cs.length=m) (hn:es.length=n) (hk:x.length=k) (hl:y.length=l) (hb:(k ≤ 1099511627776 ∧ l ≤ 1099511627776) ∧ m ≤ 1099511627776 ∧ n ≤ 1099511627776 ∧ exB 1099511627776 es) :
    BCall Tryz.prog 34 [.agg [.rows false (IL cs) m,.rows false (EL false es) n],.agg [.int .i64 b,.rows false (IL x) k,.rows false (IL y) l]] [] (OBs (evG cs es b x y) (ifB (evG cs es b x y) cs) (ifB (evG cs es b x y) (es ++ [(-1,(b,x,y),true)]))):=by
  subst hm hn hk hl
  obtain ⟨⟨hbx,hby⟩,hb1,hb2,hb3⟩:=hb
  have hb0:cs.length ≤ 1099511627776 ∧ es.length ≤ 1099511627776 ∧ exB 1099511627776 es:=⟨hb1,hb2,hb3⟩
  have hel:=Azz false es
  refine Auz (pins:=[]) (pin:=0) l34_eq rfl rfl rfl ?_
  unfold evG
  cases hv:vB cs es with
  | false =>
    simp only [Bool.false_and,Bbz]
    (repeat' (first
 | (first|refine Agz ?_|refine Abz ?_)
 | ((first|refine Ahz ?_|refine Aez ?_);simp (disch:=omega) only [push_cast,seval,l34r0,l34r1,l34r2,l34r3,hv,hel,Aaz])
 | ((first|refine Alz false ?_);simp (disch:=omega) only [push_cast,seval,hv,hel,Aaz])
 | ((first|((first|refine Akz (Ajz (A5z _ _ _ _ ?_ ?_ ?_)) ?_|refine Aiz (Ajz (A5z _ _ _ _ ?_ ?_ ?_)) ⟨_,_,rfl,rfl⟩ ?_);(iterate 3 (exact sd));rintro _ _ ⟨rfl,rfl⟩))<;>(try simp (disch:=omega) only [push_cast,seval,hv,hel,Aaz]))
 | (refine Afz ⟨.inr rfl,[16000,16001],[(16000,1),(16001,5)],_,by decide,rfl,?_⟩;(try simp (disch:=omega) only [push_cast,seval,↓Adz,↓Acz,↓List.map_cons,↓List.map_nil,hv,hel,Aaz]))))
    all_goals simp [OBs,EL]
  | true =>
    obtain ⟨v1,v2,v3⟩:=vB_8 hv
    cases hvv:vV b x y with
    | false =>
      have hf:fitB b x y cs.length=false:=by unfold fitB;rw [hvv];rfl
      simp only [hf,Bool.and_false,Bool.false_and,Bbz]
      (repeat' (first
 | (first|refine Agz ?_|refine Abz ?_)
 | ((first|refine Ahz ?_|refine Aez ?_);simp (disch:=omega) only [push_cast,seval,l34r0,l34r1,l34r2,l34r3,hv,hvv,hel,Aaz])
 | ((first|refine Alz false ?_);simp (disch:=omega) only [push_cast,seval,hv,hvv,hel,Aaz])
 | ((first|((first|refine Akz (Ajz (A5z _ _ _ _ ?_ ?_ ?_)) ?_|refine Aiz (Ajz (A5z _ _ _ _ ?_ ?_ ?_)) ⟨_,_,rfl,rfl⟩ ?_);(iterate 3 (exact sd));rintro _ _ ⟨rfl,rfl⟩)|((first|refine Akz (Ajz (Arz _ _ _ _ _ ?_ ?_ ?_)) ?_|refine Aiz (Ajz (Arz _ _ _ _ _ ?_ ?_ ?_)) ⟨_,_,rfl,rfl⟩ ?_);(iterate 3 (exact sd));rintro _ _ ⟨rfl,rfl⟩))<;>(try simp (disch:=omega) only [push_cast,seval,hv,hvv,hel,Aaz]))
 | (refine Afz ⟨.inr rfl,[16000,16001],[(16000,1),(16001,5)],_,by decide,rfl,?_⟩;(try simp (disch:=omega) only [push_cast,seval,↓Adz,↓Acz,↓List.map_cons,↓List.map_nil,hv,hvv,hel,Aaz]))))
      all_goals simp [OBs,EL]
    | true =>
      have hok:=(Coz hvv).1
      have hf:fitB b x y cs.length=allI (offs b x y) 0 ((cs.length:Int) - 1):=by
        unfold fitB
        rw [hvv]
        have:(decide ((0:Int) ≤ cs.length) && decide ((cs.length:Int) ≤ 60))=true:=by rw [Bool.and_eq_true,decide_eq_true_eq,decide_eq_true_eq];omega
        rw [this];rfl
      rw [hf]
      cases ha:allI (offs b x y) 0 ((cs.length:Int) - 1) with
 | false =>
        simp only [Bool.and_false,Bool.false_and,Bbz]
        (repeat' (first
 | (first|refine Agz ?_|refine Abz ?_)
 | ((first|refine Ahz ?_|refine Aez ?_);simp (disch:=omega) only [push_cast,seval,l34r0,l34r1,l34r2,l34r3,hv,hvv,ha,hel,Aaz])
 | ((first|refine Alz false ?_);simp (disch:=omega) only [push_cast,seval,hv,hvv,ha,hel,Aaz])
 | ((first|((first|refine Akz (Ajz (A5z _ _ _ _ ?_ ?_ ?_)) ?_|refine Aiz (Ajz (A5z _ _ _ _ ?_ ?_ ?_)) ⟨_,_,rfl,rfl⟩ ?_);(iterate 3 (exact sd));rintro _ _ ⟨rfl,rfl⟩)|((first|refine Akz (Ajz (Arz _ _ _ _ _ ?_ ?_ ?_)) ?_|refine Aiz (Ajz (Arz _ _ _ _ _ ?_ ?_ ?_)) ⟨_,_,rfl,rfl⟩ ?_);(iterate 3 (exact sd));rintro _ _ ⟨rfl,rfl⟩)|((first|refine Akz (Ajz (Cbz _ _ _ _ _ _ ?_ ?_ ?_)) ?_|refine Aiz (Ajz (Cbz _ _ _ _ _ _ ?_ ?_ ?_)) ⟨_,_,rfl,rfl⟩ ?_);(iterate 3 (exact sd));rintro _ _ ⟨rfl,rfl⟩))<;>(try simp (disch:=omega) only [push_cast,seval,hv,hvv,ha,hel,Aaz]))
 | (refine Afz ⟨.inr rfl,[16000,16001],[(16000,1),(16001,5)],_,by decide,rfl,?_⟩;(try simp (disch:=omega) only [push_cast,seval,↓Adz,↓Acz,↓List.map_cons,↓List.map_nil,hv,hvv,ha,hel,Aaz]))))
        all_goals simp [OBs,EL]
 | true =>
        by_cases h8:es.length=8
        · have hd:(!decide (es.length=8))=false:=by simp [h8]
          have h8i:(es.length:Int)=8:=by omega
          simp only [hd,Bool.and_false,Bbz]
          (repeat' (first
 | (first|refine Agz ?_|refine Abz ?_)
 | ((first|refine Ahz ?_|refine Aez ?_);simp (disch:=omega) only [push_cast,seval,l34r0,l34r1,l34r2,l34r3,hv,hvv,ha,h8i,hel,Aaz])
 | ((first|refine Alz false ?_);simp (disch:=omega) only [push_cast,seval,hv,hvv,ha,h8i,hel,Aaz])
 | ((first|((first|refine Akz (Ajz (A5z _ _ _ _ ?_ ?_ ?_)) ?_|refine Aiz (Ajz (A5z _ _ _ _ ?_ ?_ ?_)) ⟨_,_,rfl,rfl⟩ ?_);(iterate 3 (exact sd));rintro _ _ ⟨rfl,rfl⟩)|((first|refine Akz (Ajz (Arz _ _ _ _ _ ?_ ?_ ?_)) ?_|refine Aiz (Ajz (Arz _ _ _ _ _ ?_ ?_ ?_)) ⟨_,_,rfl,rfl⟩ ?_);(iterate 3 (exact sd));rintro _ _ ⟨rfl,rfl⟩)|((first|refine Akz (Ajz (Cbz _ _ _ _ _ _ ?_ ?_ ?_)) ?_|refine Aiz (Ajz (Cbz _ _ _ _ _ _ ?_ ?_ ?_)) ⟨_,_,rfl,rfl⟩ ?_);(iterate 3 (exact sd));rintro _ _ ⟨rfl,rfl⟩))<;>(try simp (disch:=omega) only [push_cast,seval,hv,hvv,ha,h8i,hel,Aaz]))
 | (refine Afz ⟨.inr rfl,[16000,16001],[(16000,1),(16001,5)],_,by decide,rfl,?_⟩; (try simp (disch := omega) only [push_cast,seval,↓Adz,↓Acz,↓List.map_cons,↓List.map_nil,hv,hvv,ha,h8i,hel,Aaz]))))
          all_goals simp [OBs,EL]
        · have hd:(!decide (es.length=8))=true:=by simp [h8]
          have h8i:((es.length:Int)=8)=False:=eq_false (by omega)
          simp only [hd,Bool.and_true,Dcz]
          (repeat' (first
 | (first|refine Agz ?_|refine Abz ?_)
 | ((first|refine Ahz ?_|refine Aez ?_|refine Aoz ?_);simp (disch:=omega) only [push_cast,seval,l34r0,l34r1,l34r2,l34r3,hv,hvv,ha,h8i,hel,Aaz])
 | ((first|refine Alz false ?_);simp (disch:=omega) only [push_cast,seval,hv,hvv,ha,h8i,hel,Aaz])
 | ((first|((first|refine Akz (Ajz (A5z _ _ _ _ ?_ ?_ ?_)) ?_|refine Aiz (Ajz (A5z _ _ _ _ ?_ ?_ ?_)) ⟨_,_,rfl,rfl⟩ ?_);(iterate 3 (exact sd));rintro _ _ ⟨rfl,rfl⟩)|((first|refine Akz (Ajz (Arz _ _ _ _ _ ?_ ?_ ?_)) ?_|refine Aiz (Ajz (Arz _ _ _ _ _ ?_ ?_ ?_)) ⟨_,_,rfl,rfl⟩ ?_);(iterate 3 (exact sd));rintro _ _ ⟨rfl,rfl⟩)|((first|refine Akz (Ajz (Cbz _ _ _ _ _ _ ?_ ?_ ?_)) ?_|refine Aiz (Ajz (Cbz _ _ _ _ _ _ ?_ ?_ ?_)) ⟨_,_,rfl,rfl⟩ ?_);(iterate 3 (exact sd));rintro _ _ ⟨rfl,rfl⟩)|((first|refine Akz (Ljz _ _ _ _ _ _ _ _ _ _ ?_ ?_ ?_ ?_ ?_) ?_|refine Aiz (Ljz _ _ _ _ _ _ _ _ _ _ ?_ ?_ ?_ ?_ ?_) ⟨_,_,rfl,rfl⟩ ?_);(iterate 5 (exact sd));rintro _ _ ⟨rfl,rfl⟩))<;>(try simp (disch:=omega) only [push_cast,seval,hv,hvv,ha,h8i,hel,Aaz]))
 | (refine Afz ⟨.inr rfl,[496,497],[],_,by decide,rfl,?_⟩; (try simp (disch := omega) only [push_cast,seval,↓Adz,↓Acz,↓List.map_cons,↓List.map_nil,hv,hvv,ha,h8i,hel,Aaz]))))
          all_goals simp [OBs]

end Go.Proofs.YtkpcjppnjmhanaaGreatDoor
