/- Texts of this verifier. -/
import Derived.Test.YtfccepgibbdfaaaGreatDoorCB7
import Derived.Test.YtfccepgibbdfaaaGreatDoorCM1
import Derived.Test.YtfccepgibbdfaaaGreatDoorCW3
set_option maxHeartbeats 4000000
set_option linter.unusedSimpArgs false
set_option linter.unusedSectionVars false
set_option linter.unusedVariables false
set_option maxRecDepth 4000
namespace Go.Proofs.YtfccepgibbdfaaaGreatDoor
open VwM Vw Go
variable [SentA]
variable [PowA]

def opA (es:List Ex)(id:Int):Bool:=(decide (0≤id)&&decide (id≤(es.length:Int)-1))&&(match es[id.toNat]? with|some e=>e.2.2|none=>false)
def vwA (es:List Ex)(id:Int):Vw3:=(es.getD id.toNat (0,(0,[],[]),false)).2.1
def loadA (cs:List Int)(es:List Ex)(id:Int):List Int:=if (vB cs es&&opA es id)=true then takesL cs (offs (vwA es id).1 (vwA es id).2.1 (vwA es id).2.2) else []
theorem Dbz {es:List Ex}{id:Int}(h:opA es id=true):∃ (q:Nat) (p b:Int) (x y:List Int),id=q∧q<es.length∧es[q]?=some (p,(b,x,y),true)∧vwA es id=(b,x,y):=by
 unfold opA at h
 simp only [Bool.and_eq_true,decide_eq_true_eq] at h
 obtain ⟨⟨h1,h2⟩,h3⟩:=h
 obtain ⟨q,rfl⟩:∃ q:Nat,id=q:=⟨id.toNat,by omega⟩
 obtain ⟨p,b,x,y,o,he⟩:=Djz (es:=es) (i:=q) (by omega)
 simp only [Int.toNat_natCast,he] at h3
 subst h3
 exact ⟨q,p,b,x,y,rfl,by omega,he,by simp [vwA,List.getD,he]⟩
theorem D1z {cs:List Int}{es:List Ex}{q:Nat}{p b:Int}{x y:List Int}(h:vB cs es=true)(he:es[q]?=some (p,(b,x,y),true)):seeB cs b x y=true:=by
 unfold vB at h
 simp only [Bool.and_eq_true,decide_eq_true_eq] at h
 obtain ⟨⟨h1,h2⟩,h3⟩:=h
 have hi:q<es.length:=(List.getElem?_eq_some_iff.1 he).1
 have:=(Dfz (f:=sxV cs.length es)).1 h3 q _ hi he
 unfold sxV exV at this
 simp only [Bool.and_eq_true,Bool.not_true,Bool.false_or] at this
 unfold seeB
 simp only [Bool.and_eq_true]
 exact ⟨⟨h1,this.1.1.2⟩,this.1.2⟩
theorem see_prX {mem:List Int}{b:Int}{sh st:List Int}(h:seeB mem b sh st=true):(offs b sh st).length≤60∧mem.length≤60:=by
 obtain ⟨_,_,_,f4,f5,f6⟩:=Cpz h
 have:=Bdz b sh st
 omega
theorem loadA_len (cs:List Int)(es:List Ex)(id:Int):(loadA cs es id).length≤60:=by
 unfold loadA
 split
 ·rename_i h
  rw [Bool.and_eq_true] at h
  obtain ⟨q,p,b,x,y,_,_,he,hv⟩:=Dbz h.2
  rw [hv,takesL_length]
  exact (see_prX (D1z h.1 he)).1
 ·exact Nat.zero_le _


set_option maxHeartbeats 8000000 in
theorem Cyz (cs:List Int)(es:List Ex)(m n:Nat)(id:Int)(hm:cs.length=m)(hn:es.length=n)(hb:m≤1099511627776∧n≤1099511627776) :
  PCall Tryz.prog 100 [.agg [.rows false (IL cs) m,.rows false (EL false es) n],.int .i64 id] (fun r=>r=.bool (opA es id)):=by
 subst hm hn
 obtain ⟨hb1,hb2⟩:=hb
 have hel:=Auz false es
 refine Atz l100_eq rfl ?_
 unfold opA
 by_cases hr:0≤id∧id≤(es.length:Int)-1
 ·have hrd:(decide (0≤id)&&decide (id≤(es.length:Int)-1))=true:=by rw [Bool.and_eq_true,decide_eq_true_eq,decide_eq_true_eq];exact hr
  rw [hrd]
  obtain ⟨q,rfl⟩:∃ q:Nat,id=q:=⟨id.toNat,by omega⟩
  obtain ⟨p,b,x,y,o,he⟩:=Djz (es:=es) (i:=q) (by omega)
  have hd:=Btz false es q he
  simp only at hd
  have hil:q*5+5≤es.length*5:=by omega
  have h4:((EL false es).drop (q*5+4)).take 1=[.bool o]:=by
   have:=congrArg (fun l=>(l.drop 4).take 1) hd
   simpa [List.drop_take,List.drop_drop,List.take_take] using this
  simp only [Int.toNat_natCast,he]
  (repeat' ((first
 | (first|refine Afz ?_|refine Abz ?_)
 | (first|refine Agz ?_)
 | (first|refine Ajz false ?_)
 | (first|(refine Aiz (Akz (A1z _ _ _)) ?_;rintro _ _ ⟨rfl,rfl⟩))
 | (refine Adz ⟨.inr rfl,_,rfl,?_⟩))<;>(try simp (disch:=omega) only [push_cast,seval,h4,hel,hil,hrd,Aaz])))
  all_goals (try simp)
 ·have hrd:(decide (0≤id)&&decide (id≤(es.length:Int)-1))=false:=by rw [Bool.eq_false_iff];intro h;simp at h;omega
  rw [hrd]
  (repeat' ((first
 | (first|refine Afz ?_|refine Abz ?_)
 | (first|refine Agz ?_)
 | (first|refine Ajz false ?_)
 | (first|(refine Aiz (Akz (A1z _ _ _)) ?_;rintro _ _ ⟨rfl,rfl⟩))
 | (refine Adz ⟨.inr rfl,_,rfl,?_⟩))<;>(try simp (disch:=omega) only [push_cast,seval,hel,hrd,Aaz])))
  all_goals (try simp)


set_option maxHeartbeats 8000000 in
theorem Crz (cs:List Int)(es:List Ex)(m n:Nat)(id:Int)(hm:cs.length=m)(hn:es.length=n)(hb:m≤1099511627776∧n≤1099511627776∧exB 1099511627776 es) :
  PCall Tryz.prog 73 [.agg [.rows false (IL cs) m,.rows false (EL false es) n],.int .i64 id] (fun r=>r=.bool (vB cs es&&opA es id)):=by
 subst hm hn
 have hb0:=hb
 obtain ⟨hb1,hb2,hb3⟩:=hb
 have hel:=Auz false es
 refine Atz l73_eq rfl ?_
 cases hv:vB cs es with
 | false =>
  (repeat' ((first
 | (first|refine Afz ?_|refine Abz ?_)
 | (first|refine Agz ?_)
 | (first|refine Ajz false ?_)
 | (first|(refine Aiz (Akz (Buz _ _ _ _ ?_ ?_ ?_)) ?_;(iterate 3 (exact sd));rintro _ _ ⟨rfl,rfl⟩))
 | (refine Adz ⟨.inr rfl,_,rfl,?_⟩))<;>(try simp (disch:=omega) only [push_cast,seval,hv,hel,Aaz])))
  all_goals (try simp)
 | true =>
  unfold opA
  by_cases hr:0≤id∧id≤(es.length:Int)-1
  ·have hrd:(decide (0≤id)&&decide (id≤(es.length:Int)-1))=true:=by rw [Bool.and_eq_true,decide_eq_true_eq,decide_eq_true_eq];exact hr
   rw [hrd]
   obtain ⟨q,rfl⟩:∃ q:Nat,id=q:=⟨id.toNat,by omega⟩
   obtain ⟨p,b,x,y,o,he⟩:=Djz (es:=es) (i:=q) (by omega)
   have hd:=Btz false es q he
   simp only at hd
   have hil:q*5+5≤es.length*5:=by omega
   have h4:((EL false es).drop (q*5+4)).take 1=[.bool o]:=by
    have:=congrArg (fun l=>(l.drop 4).take 1) hd
    simpa [List.drop_take,List.drop_drop,List.take_take] using this
   simp only [Int.toNat_natCast,he]
   (repeat' ((first
 | (first|refine Afz ?_|refine Abz ?_)
 | (first|refine Agz ?_)
 | (first|refine Ajz false ?_)
 | (first|(refine Aiz (Akz (Buz _ _ _ _ ?_ ?_ ?_)) ?_;(iterate 3 (exact sd));rintro _ _ ⟨rfl,rfl⟩)|(refine Aiz (Akz (Dwz _ _)) ?_;rintro _ _ ⟨rfl,rfl⟩))
 | (refine Adz ⟨.inr rfl,_,rfl,?_⟩))<;>(try simp (disch:=omega) only [push_cast,seval,hv,h4,hel,hil,hrd,Aaz])))
   all_goals (try simp)
  ·have hrd:(decide (0≤id)&&decide (id≤(es.length:Int)-1))=false:=by rw [Bool.eq_false_iff];intro h;simp at h;omega
   rw [hrd]
   (repeat' ((first
 | (first|refine Afz ?_|refine Abz ?_)
 | (first|refine Agz ?_)
 | (first|refine Ajz false ?_)
 | (first|(refine Aiz (Akz (Buz _ _ _ _ ?_ ?_ ?_)) ?_;(iterate 3 (exact sd));rintro _ _ ⟨rfl,rfl⟩)|(refine Aiz (Akz (Dwz _ _)) ?_;rintro _ _ ⟨rfl,rfl⟩))
 | (refine Adz ⟨.inr rfl,_,rfl,?_⟩))<;>(try simp (disch:=omega) only [push_cast,seval,hv,hel,hrd,Aaz])))
   all_goals (try simp)


set_option maxHeartbeats 8000000 in
theorem iLE_ok (cs:List Int)(es:List Ex)(m n:Nat)(id:Int)(hm:cs.length=m)(hn:es.length=n)(hb:m≤1099511627776∧n≤1099511627776∧exB 1099511627776 es) :
  BCall Tryz.prog 77 [.agg [.rows false (IL cs) m,.rows false (EL false es) n],.int .i64 id] [] (OI (loadA cs es id)):=by
 subst hm hn
 have hb0:=hb
 obtain ⟨hb1,hb2,hb3⟩:=hb
 have hel:=Auz false es
 refine Avz (pins:=[]) (pin:=0) l77_eq rfl rfl rfl ?_
 unfold loadA
 cases hc:(vB cs es&&opA es id) with
 | false =>
  (repeat' ((first
 | (first|refine Afz ?_|refine Abz ?_)
 | (first|refine Agz ?_|refine Acz ?_)
 | (first|refine Ajz false ?_)
 | (first|(refine Aiz (Akz (Crz _ _ _ _ _ ?_ ?_ ?_)) ?_;(iterate 3 (exact sd));rintro _ _ ⟨rfl,rfl⟩))
 | (refine Adz ⟨.inr rfl,[16000],[(16000,1)],_,by decide,rfl,?_⟩;(try simp (disch:=omega) only [push_cast,seval,↓Ahz,↓Aez,↓List.map_cons,↓List.map_nil,hc,hel,Aaz])))<;>(try simp (disch:=omega) only [push_cast,seval,hc,hel,Aaz])))
  all_goals simp [OI]
 | true =>
  have hc2:=hc
  rw [Bool.and_eq_true] at hc2
  obtain ⟨hv,hr⟩:=hc2
  obtain ⟨q,p,b,x,y,rfl,hq,he,hvw⟩:=Dbz hr
  have hs:=D1z hv he
  have hbb:=Cgz hb3 he
  have q9:seeB cs b x y=true∧cs.length≤1099511627776∧x.length≤1099511627776∧y.length≤1099511627776:=⟨hs,hb1,hbb⟩
  rw [hvw]
  have hd:=Btz false es q he
  simp only at hd
  have hil:q*5+5≤es.length*5:=by omega
  have h3:((EL false es).drop (q*5+1)).take 3=[.int .i64 b,.rows false (IL x) x.length,.rows false (IL y) y.length]:=by
   have:=congrArg (fun l=>(l.drop 1).take 3) hd
   simpa [List.drop_take,List.drop_drop,List.take_take] using this
  (repeat' ((first
 | (first|refine Afz ?_|refine Abz ?_)
 | (first|refine Agz ?_|refine Arz (mid:=l77r3a) (post:=l77r3b) mixed (by decide) ?_|refine Acz ?_|refine Amz ?_)
 | (first|refine Ajz false ?_)
 | (first|(refine Aiz (Akz (Crz _ _ _ _ _ ?_ ?_ ?_)) ?_;(iterate 3 (exact sd));rintro _ _ ⟨rfl,rfl⟩)|(refine Aiz (iLoad_ok _ _ _ _ _ _ _ ?_ ?_ ?_ ?_) ?_;(iterate 4 (exact sd));rintro _ _ ⟨rfl,rfl⟩))
 | (refine Adz ⟨.inr rfl,[112],[],_,by decide,rfl,?_⟩;(try simp (disch:=omega) only [push_cast,seval,↓Ahz,↓Aez,↓List.map_cons,↓List.map_nil,hc,h3,hil,hel,Aaz]);(first|done|(show AV.own _ _ _=_∧_)))
 | (refine Adz ⟨.inr rfl,[272],[],_,by decide,rfl,?_⟩;(try simp (disch:=omega) only [push_cast,seval,↓Ahz,↓Aez,↓List.map_cons,↓List.map_nil,hc,h3,hil,hel,Aaz]);(first|done|(show AV.own _ _ _=_∧_))))<;>(try simp (disch:=omega) only [push_cast,seval,hc,h3,hil,hel,Aaz])))
  all_goals simp [OI,MVL,hs]

end Go.Proofs.YtfccepgibbdfaaaGreatDoor
namespace Go.Proofs.YtfccepgibbdfaaaGreatDoor
open VwM Vw Go
variable [SentA]
variable [PowA]



theorem vclone_ok (b:Int)(sh st:List Int)(n m:Nat)(hn:sh.length=n)(hm:st.length=m)(hb:n≤1099511627776∧m≤1099511627776):BCall Tryz.prog 75 [.agg [.int .i64 b,.rows false (IL sh) n,.rows false (IL st) m]] [] (OV b sh st):=by
 subst hn hm
 obtain ⟨hb1,hb2⟩:=hb
 refine Avz (pins:=[]) (pin:=0) l75_eq rfl rfl rfl ?_
 (repeat' ((first
 | (first|refine Afz ?_|refine Abz ?_)
 | (first|refine Agz ?_|refine Arz (mid:=l75r1a) (post:=l75r1b) mixed (by decide) ?_)
 | (first|refine Aqz false ?_)
 | (first|(refine Aoz (Jez _ _ ?_ ?_) ⟨_,_,rfl,rfl⟩ ?_;(iterate 2 (exact sd));rintro _ _ ⟨rfl,rfl⟩))
 | (refine Adz ⟨.inr rfl,[112,160],[],_,by decide,rfl,?_⟩;(try simp (disch:=omega) only [push_cast,seval,↓Ahz,↓Aez,↓List.map_cons,↓List.map_nil])))<;>(try simp (disch:=omega) only [push_cast,seval])))
 all_goals simp [OV]


set_option maxHeartbeats 16000000 in
theorem H7z (cs:List Int)(es:List Ex)(m n:Nat)(hm:cs.length=m)(hn:es.length=n)(hb:m≤1048576∧n≤1048576∧exB 1048576 es):BCall Tryz.prog 32 [.agg [.rows false (IL cs) m,.rows false (EL false es) n]] [] (fun r H'=>r=.agg [.own 0 m 1,.own 1 n 5]∧H'=IL cs::(esF es).cellsG (· + 2)::(esF es).conts):=by
 subst hm hn
 obtain ⟨hb1,hb2,hb3⟩:=hb
 refine Avz (pins:=[]) (pin:=0) l32_eq rfl rfl rfl ?_
 have hel:=Auz false es
 (repeat' ((first
 | (first|refine Afz ?_|refine Abz ?_)
 | (first|refine Agz ?_)
 | (first|refine Ajz false ?_)
 | (first|(refine Aiz (Jez _ _ ?_ ?_) ?_;(iterate 2 (exact sd));rintro _ _ ⟨rfl,rfl⟩)))<;>(try simp (disch:=omega) only [push_cast,seval,Aaz,hel])))
 refine Duz (fun i:Nat=>mkS [(2,.ref 32 2 0),(3,.ref 48 2 0),(11,.rows false (EL false es) es.length),(12,.int .i64 es.length),(13,.int .i64 i)] ([(32,[.val (.slice none 0 0),.val (.slice none 0 0)]),(48,[.own 128 cs.length 1,.own 448 i 5]),(128,IL cs),(448,cellN 7 es i)]++famR 7 (exR es) (i*2))) (fun i=>i≤es.length) (fun i=>es.length-i) 0 (Nat.zero_le _) ?_ ?_
 ·refine SubW.adoptH [48] 448 5 (by simp [Vw.hk]) (SubW.of ?_)
  have e0:cellN 7 es 0=[]:=rfl
  have e1:famR 7 (exR es) (0*2)=[]:=rfl
  rw [e0,e1]
  simp only [adHL,List.map_cons,List.map_nil,adA,List.contains_cons,List.contains_nil]
  (refine Sub.of_lists ?_ ?_ ?_ ?_ ?_<;>simp [Vw.mkS,Vw.lk,Vw.hk,AV.inn,innL,Apz,Anz,Asz,-List.map_set,-List.getD_eq_getElem?_getD,Aaz])
 ·intro i hi
  by_cases hlt:i<es.length
  ·obtain ⟨p,b,x,y,o,he⟩:=Djz hlt
   have hbb:=Cgz hb3 he
   have hd:=Btz false es i he
   simp only at hd
   have hil:i*5+5≤es.length*5:=by omega
   have hcl:=cellN_length 7 es i
   obtain ⟨h0,h1,h2,hr0,hr1⟩:=ex_at he
   (repeat' ((first
 | (first|refine Afz ?_|refine Abz ?_)
 | (first|refine Agz ?_|refine Arz (mid:=l32r5a) (post:=l32r5b) mixed (by decide) ?_|refine Acz ?_|refine Amz ?_)
 | ((first|refine Alz (fun h=>?_) (fun h=>?_))<;>(try simp only [h])<;>(try simp only [bitvec_to_nat] at h)<;>(try simp only [h])<;>(first|(exfalso;omega)|(exfalso;simp_all;done)|skip))
 | (first|refine Aqz false ?_)
 | (first|(refine Aoz (vclone_ok _ _ _ _ _ ?_ ?_ ?_) ⟨_,_,rfl,rfl⟩ ?_;(iterate 3 (exact sd));rintro _ _ ⟨rfl,rfl⟩)))<;>(try simp (disch:=omega) only [push_cast,seval,hd,hel,hil,hcl,Aaz,zcX])))
   refine ⟨i+1,by omega,by omega,?_⟩
   rw [show (i+1)*2=i*2+2 by omega]
   refine SubW.fam2L (a:=368) (b:=369) (d:=7) (i:=i*2) (rows:=exR es) (L:=[(32,[.val (.slice none 0 0),.val (.slice none 0 0)]),(48,[.own 128 cs.length 1,.own 448 (i+1) 5]),(128,IL cs),(448,cellN 7 es (i+1))]) ?_ ?_ ⟨by omega,by omega,by omega⟩ ?_ ?_ ?_ ?_ ?_
   ·rw [hr0];rfl
   ·rw [hr1];rfl
   ·intro j hj
    simp only [hk,Awz _ _ 448 (by omega),Awz _ _ 368 (by omega),Awz _ _ 369 (by omega),Awz _ _ 432 (by omega),Awz _ _ 80 (by omega),Awz _ _ 32 (by omega),Awz _ _ 48 (by omega),Awz _ _ 128 (by omega),if_false]
    exact Ikz _ _ _ _ hj
   ·intro q hq
    simp only [List.mem_cons,List.not_mem_nil,or_false] at hq
    rcases hq with rfl|rfl|rfl|rfl
    ·exact ⟨⟨by simp,by simp,by simp⟩,rfl⟩
    ·refine ⟨⟨by simp,by simp,by simp⟩,?_⟩
     show some [AV.own (swp 369 (fim 7 (i*2+1)) (swp 368 (fim 7 (i*2)) 128)) cs.length 1,AV.own (swp 369 (fim 7 (i*2+1)) (swp 368 (fim 7 (i*2)) 448)) (i+1) 5]=_
     rw [Fwz 368 7 _ 128 (by omega) (by omega),Fwz 368 7 _ 448 (by omega) (by omega),Fwz 369 7 _ 128 (by omega) (by omega),Fwz 369 7 _ 448 (by omega) (by omega)]
    ·refine ⟨⟨by simp,by simp,by simp⟩,?_⟩
     show some (swL _ _ (swL _ _ (IL cs)))=_
     rw [Fyz,Fyz]
    ·refine ⟨⟨by simp,by simp,by simp⟩,?_⟩
     exact congrArg some (cellN_succ (by omega) (by omega) (by omega) he)
   ·simp [lk,AV.sw,Ipz,Fwz]
   ·simp [AV.inn,Aaz,hk]
   ·intro q hq
    simp only [List.mem_cons,List.not_mem_nil,or_false] at hq
    rcases hq with rfl|rfl|rfl|rfl
    ·rfl
    ·simp [innL,AV.inn,hk]
    ·exact Fhz _ _
    ·exact cellN_inn fun j hj=>by
      show (hk ((32,_)::(48,_)::(128,_)::(448,_)::famR 7 (exR es) (i*2+2)) (fim 7 j)).isSome=true
      simp only [hk,Awz _ _ 448 (by omega),Awz _ _ 32 (by omega),Awz _ _ 48 (by omega),Awz _ _ 128 (by omega),if_false]
      rw [Ikz _ _ _ _ (by omega)];rfl
  ·have e:i=es.length:=by omega
   subst e
   (repeat' (first
 | (first|refine Afz ?_|refine Abz ?_)
 | ((first|refine Agz ?_|refine Acz ?_|refine Azz ?_);simp (disch:=omega) only [push_cast,seval,Aaz])
 | ((first|refine Alz (fun h=>?_) (fun h=>?_))<;>(try simp only [h])<;>(try simp only [bitvec_to_nat] at h)<;>(try simp only [h])<;>(first|(exfalso;omega)|(exfalso;simp_all;done)|(simp (disch:=omega) only [push_cast,seval,Aaz])|skip))))
   refine Adz ⟨.inr rfl,ret_famB (id0:=128) (id1:=448) (d:=7) (F:=esF es) (cs:=cs) rfl rfl rfl ?_ (by omega)⟩
   intro j hj
   simp only [hk,Awz _ _ 448 (by omega),Awz _ _ 32 (by omega),Awz _ _ 48 (by omega),Awz _ _ 128 (by omega),if_false]
   exact Ikz _ _ _ _ hj


set_option maxHeartbeats 16000000 in
theorem Hpz (cs:List Int)(es:List Ex)(m n:Nat)(hm:cs.length=m)(hn:es.length=n)(hb:m≤1099511627776∧n≤1099511627776∧exB 1099511627776 es):BCall Tryz.prog 27 [.agg [.rows false (IL cs) m,.rows false (EL false es) n]] [] (fun r H'=>r=.agg [.own 0 m 1,.own 1 n 5]∧H'=[IL cs,EL true es]):=by
 subst hm hn
 obtain ⟨hb1,hb2,hb3⟩:=hb
 refine Avz (pins:=[]) (pin:=0) l27_eq rfl rfl rfl ?_
 have hel:=Auz false es
 (repeat' ((first
 | (first|refine Afz ?_|refine Abz ?_)
 | (first|refine Agz ?_)
 | (first|refine Ajz false ?_)
 | (first|(refine Aiz (Foz _ _ ?_ ?_) ?_;(iterate 2 (exact sd));rintro _ _ ⟨rfl,rfl⟩)))<;>(try simp (disch:=omega) only [push_cast,seval,Aaz,hel])))
 refine Duz (fun i:Nat=>mkS [(1,.ref 16 2 0),(2,.ref 32 2 0),(3,.ref 48 2 0),(4,.int .i64 i)] [(16,[.rows false (IL cs) cs.length,.rows false (EL false es) es.length]),(32,[.rows true [] 0,.rows true [] 0]),(48,[.own 128 cs.length 1,.own 480 i 5]),(128,IL cs),(480,EL true (es.take i))]) (fun i=>i≤es.length) (fun i=>es.length-i) 0 (Nat.zero_le _) ?_ ?_
 ·refine SubW.adoptH [48] 480 5 (by simp [Vw.hk]) ?_
  have e0:EL true (es.take 0)=[]:=rfl
  rw [e0]
  simp only [adHL,List.map_cons,List.map_nil,adA,List.contains_cons,List.contains_nil]
  refine SubW.freeze [] (fun _ h=>by cases h) (SubW.of ?_)
  simp (disch:=omega) only [push_cast,seval,frzA,frzH,rhoF,List.contains_cons,List.contains_nil,Bool.or_false,Bool.false_eq_true,List.map_append,List.map_cons,List.map_nil,List.length_map]
  (refine Sub.of_lists ?_ ?_ ?_ ?_ ?_<;>simp [Vw.mkS,Vw.lk,Vw.hk,AV.inn,innL,Apz,Anz,Asz,-List.map_set,-List.getD_eq_getElem?_getD,Aaz])
 ·intro i hi
  by_cases hlt:i<es.length
  ·obtain ⟨p,b,x,y,o,he⟩:=Djz hlt
   have hbb:=Cgz hb3 he
   have hd:=Btz false es i he
   simp only at hd
   have hil:i*5+5≤es.length*5:=by omega
   have htl:(EL true (es.take i)).length=i*5:=by rw [Auz,List.length_take];omega
   have hsu:=EL_take true he
   simp only at hsu
   (repeat' ((first
 | (first|refine Afz ?_|refine Abz ?_)
 | (first|refine Agz ?_|refine Acz ?_|refine Amz ?_)
 | ((first|refine Alz (fun h=>?_) (fun h=>?_))<;>(try simp only [h])<;>(try simp only [bitvec_to_nat] at h)<;>(try simp only [h])<;>(first|(exfalso;omega)|(exfalso;simp_all;done)|skip))
 | (first|refine Ajz false ?_)
 | (first|(refine Aiz (Bjz _ _ _ _ _ ?_ ?_ ?_) ?_;(iterate 3 (exact sd));rintro _ _ ⟨rfl,rfl⟩)))<;>(try simp (disch:=omega) only [push_cast,seval,hd,hel,hil,htl,Aaz,zcX])))
   refine ⟨i+1,by omega,by omega,?_⟩
   refine SubW.trans (s1:=mkS [(1,.ref 16 2 0),(2,.ref 32 2 0),(3,.ref 48 2 0),(4,.int .i64 ((i:Int)+1))] [(16,[.rows false (IL cs) cs.length,.rows false (EL false es) es.length]),(32,[.rows true [] 0,.rows true [] 0]),(48,[.own 128 cs.length 1,.own 480 (i+1) 5]),(128,IL cs),(480,EL true (es.take i)++[.int .i64 p,.int .i64 b,.own 384 x.length 1,.own 385 y.length 1,.bool o]),(384,IL x),(385,IL y)]) (SubW.of (by (refine Sub.of_lists ?_ ?_ ?_ ?_ ?_<;>simp [Vw.mkS,Vw.lk,Vw.hk,AV.inn,innL,Apz,Anz,Asz,-List.map_set,-List.getD_eq_getElem?_getD,Aaz]))) ?_
   refine SubW.freeze [384,385] (by decide) (SubW.of ?_)
   simp (disch:=omega) only [push_cast,seval,frzA,frzH,rhoF,List.contains_cons,List.contains_nil,Bool.or_false,Bool.false_eq_true,List.map_append,List.map_cons,List.map_nil,List.length_map]
   (refine Sub.of_lists ?_ ?_ ?_ ?_ ?_<;>simp [Vw.mkS,Vw.lk,Vw.hk,AV.inn,innL,Apz,Anz,Asz,-List.map_set,-List.getD_eq_getElem?_getD,Aaz,hsu])
  ·have e:i=es.length:=by omega
   subst e
   (repeat' (first
 | (first|refine Afz ?_|refine Abz ?_)
 | ((first|refine Agz ?_|refine Acz ?_|refine Azz ?_);simp (disch:=omega) only [push_cast,seval,Aaz,List.take_length])
 | ((first|refine Alz (fun h=>?_) (fun h=>?_))<;>(try simp only [h])<;>(try simp only [bitvec_to_nat] at h)<;>(try simp only [h])<;>(first|(exfalso;omega)|(exfalso;simp_all;done)|(simp (disch:=omega) only [push_cast,seval,Aaz,List.take_length])|skip))
 | (refine Adz ⟨.inr rfl,[128,480],[],_,by decide,rfl,?_⟩;(try simp (disch:=omega) only [push_cast,seval,↓Ahz,↓Aez,↓List.map_cons,↓List.map_nil,Aaz,List.take_length]))))
   all_goals skip

end Go.Proofs.YtfccepgibbdfaaaGreatDoor
namespace Go.Proofs.YtfccepgibbdfaaaGreatDoor
open VwM Vw Go
variable [SentA]
variable [PowA]

abbrev OBs (ok:Bool)(cs:List Int)(es:List Ex):AV→List (List AV)→Prop:=fun r H'=>r=.tup [.agg [.own 0 cs.length 1,.own 1 es.length 5],.bool ok]∧H'=[IL cs,EL true es]
abbrev OBf (ok:Bool)(cs:List Int)(es:List Ex):AV→List (List AV)→Prop:=fun r H'=>r=.tup [.agg [.own 0 cs.length 1,.own 1 es.length 5],.bool ok]∧H'=IL cs::(esF es).cellsG (· + 2)::(esF es).conts
theorem C5z:(esF ([]:List Ex)).cellsG (· + 2)=[]∧(esF ([]:List Ex)).conts=[]:=⟨rfl,rfl⟩
/-- What comes of it if 'g' holds. -/
def ifB {α:Type}(g:Bool)(l:List α):List α:=if g=true then l else []
theorem Ayz {α:Type}(l:List α):ifB true l=l:=rfl
theorem A0z {α:Type}(l:List α):ifB false l=[]:=rfl
def relG (cs:List Int)(es:List Ex)(id:Int):Bool:=(vB cs es&&opA es id)&&decide ((kidsT es id es.length).length=0)


set_option maxHeartbeats 8000000 in
theorem sRel_ok (cs:List Int)(es:List Ex)(m n:Nat)(id:Int)(hm:cs.length=m)(hn:es.length=n)(hb:m≤1099511627776∧n≤1099511627776∧exB 1099511627776 es) :
  BCall Tryz.prog 99 [.agg [.rows false (IL cs) m,.rows false (EL false es) n],.int .i64 id] [] (OBs (relG cs es id) (ifB (relG cs es id) cs) (ifB (relG cs es id) (relE es id.toNat))):=by
 subst hm hn
 have hb0:=hb
 obtain ⟨hb1,hb2,hb3⟩:=hb
 have hel:=Auz false es
 have helt:=Auz true es
 refine Avz (pins:=[]) (pin:=0) l99_eq rfl rfl rfl ?_
 unfold relG
 cases hv:vB cs es with
 | false =>
  simp only [Bool.false_and,A0z]
  (repeat' ((first
 | (first|refine Afz ?_|refine Abz ?_)
 | (first|refine Agz ?_|refine Acz ?_)
 | (first|refine Ajz false ?_)
 | (first|(refine Aiz (Akz (Biz _ _ _ _ ?_ ?_ ?_)) ?_;(iterate 3 (exact sd));rintro _ _ ⟨rfl,rfl⟩))
 | (refine Adz ⟨.inr rfl,[16000,16001],[(16000,1),(16001,5)],_,by decide,rfl,?_⟩;(try simp (disch:=omega) only [push_cast,seval,↓Ahz,↓Aez,↓List.map_cons,↓List.map_nil,hv,hel,Aaz])))<;>(try simp (disch:=omega) only [push_cast,seval,hv,hel,Aaz])))
  all_goals simp [OBs,EL]
 | true =>
  obtain ⟨v1,v2,v3⟩:=vB_8 hv
  cases hr:opA es id with
  | false =>
   simp only [Bool.true_and,Bool.false_and,A0z]
   (repeat' ((first
 | (first|refine Afz ?_|refine Abz ?_)
 | (first|refine Agz ?_|refine Acz ?_)
 | (first|refine Ajz false ?_)
 | (first|(refine Aiz (Akz (Biz _ _ _ _ ?_ ?_ ?_)) ?_;(iterate 3 (exact sd));rintro _ _ ⟨rfl,rfl⟩)|(refine Aiz (Akz (Cyz _ _ _ _ _ ?_ ?_ ?_)) ?_;(iterate 3 (exact sd));rintro _ _ ⟨rfl,rfl⟩))
 | (refine Adz ⟨.inr rfl,[16000,16001],[(16000,1),(16001,5)],_,by decide,rfl,?_⟩;(try simp (disch:=omega) only [push_cast,seval,↓Ahz,↓Aez,↓List.map_cons,↓List.map_nil,hv,hr,hel,Aaz])))<;>(try simp (disch:=omega) only [push_cast,seval,hv,hr,hel,Aaz])))
   all_goals simp [OBs,EL]
  | true =>
   obtain ⟨q,p,b,x,y,rfl,hq,he,hvw⟩:=Dbz hr
   have hrel:=EL_rel (b:=true) he
   have hrl:=G8z es q
   have hil:q*5+5≤es.length*5:=by omega
   simp only [Bool.true_and,Int.toNat_natCast]
   generalize hK:kidsT es (q:Int) es.length=K at *
   by_cases hk0:K.length=0
   ·have hkd:decide (K.length=0)=true:=decide_eq_true hk0
    rw [hkd,Ayz,Ayz]
    (repeat' ((first
 | (first|refine Afz ?_|refine Abz ?_)
 | (first|refine Agz ?_|refine Acz ?_|refine Amz ?_)
 | (first|refine Ajz false ?_)
 | (first|(refine Aiz (Akz (Biz _ _ _ _ ?_ ?_ ?_)) ?_;(iterate 3 (exact sd));rintro _ _ ⟨rfl,rfl⟩)|(refine Aiz (Akz (Cyz _ _ _ _ _ ?_ ?_ ?_)) ?_;(iterate 3 (exact sd));rintro _ _ ⟨rfl,rfl⟩)|(refine Aiz (skids_ok _ _ _ _ _ ?_ ?_ ?_) ?_;(iterate 3 (exact sd));rintro _ _ ⟨rfl,rfl⟩)|(refine Aiz (Hpz _ _ _ _ ?_ ?_ ?_) ?_;(iterate 3 (exact sd));rintro _ _ ⟨rfl,rfl⟩))
 | (refine Adz ⟨.inr rfl,[400,401],[],_,by decide,rfl,?_⟩;(try simp (disch:=omega) only [push_cast,seval,↓Ahz,↓Aez,↓List.map_cons,↓List.map_nil,hv,hr,hK,hk0,hil,hel,helt,hrel,Aaz])))<;>(try simp (disch:=omega) only [push_cast,seval,hv,hr,hK,hk0,hil,hel,helt,hrel,Aaz])))
    all_goals simp [OBs,hrl]
   ·have hkd:decide (K.length=0)=false:=decide_eq_false hk0
    rw [hkd,A0z,A0z]
    (repeat' ((first
 | (first|refine Afz ?_|refine Abz ?_)
 | (first|refine Agz ?_|refine Acz ?_)
 | ((first|refine Alz (fun h=>?_) (fun h=>?_))<;>(try simp only [h])<;>(try simp only [bitvec_to_nat] at h)<;>(try simp only [h])<;>(first|(exfalso;omega)|(exfalso;simp_all;done)|skip))
 | (first|refine Ajz false ?_)
 | (first|(refine Aiz (Akz (Biz _ _ _ _ ?_ ?_ ?_)) ?_;(iterate 3 (exact sd));rintro _ _ ⟨rfl,rfl⟩)|(refine Aiz (Akz (Cyz _ _ _ _ _ ?_ ?_ ?_)) ?_;(iterate 3 (exact sd));rintro _ _ ⟨rfl,rfl⟩)|(refine Aiz (skids_ok _ _ _ _ _ ?_ ?_ ?_) ?_;(iterate 3 (exact sd));rintro _ _ ⟨rfl,rfl⟩))
 | (refine Adz ⟨.inr rfl,[16000,16001],[(16000,1),(16001,5)],_,by decide,rfl,?_⟩;(try simp (disch:=omega) only [push_cast,seval,↓Ahz,↓Aez,↓List.map_cons,↓List.map_nil,hv,hr,hK,hk0,hil,hel,Aaz])))<;>(try simp (disch:=omega) only [push_cast,seval,hv,hr,hK,hk0,hil,hel,Aaz])))
    all_goals simp [OBs,EL]




set_option maxHeartbeats 8000000 in
theorem iRel_ok (cs:List Int)(es:List Ex)(m n:Nat)(id:Int)(hm:cs.length=m)(hn:es.length=n)(hb:m≤1048576∧n≤1048576∧exB 1048576 es) :
  BCall Tryz.prog 72 [.agg [.rows false (IL cs) m,.rows false (EL false es) n],.int .i64 id] [] (OBf (relG cs es id) (ifB (relG cs es id) cs) (ifB (relG cs es id) (relE es id.toNat))):=by
 subst hm hn
 have hb0:=hb
 obtain ⟨hb1,hb2,hb3⟩:=hb
 have hq8:cs.length≤1099511627776∧es.length≤1099511627776∧exB 1099511627776 es:=⟨by omega,by omega,fun e he=>by have:=hb3 e he;omega⟩
 have hel:=Auz false es
 refine Avz (pins:=[]) (pin:=0) l72_eq rfl rfl rfl ?_
 unfold relG
 cases hc:(vB cs es&&opA es id) with
 | false =>
  simp only [Bool.false_and,A0z]
  (repeat' ((first
 | (first|refine Afz ?_|refine Abz ?_)
 | (first|refine Agz ?_|refine Arz (mid:=l72r1a) (post:=l72r1b) mixed (by decide) ?_|refine Acz ?_)
 | (first|refine Aqz false ?_)
 | (first|(refine Aoz (Akz (Crz _ _ _ _ _ ?_ ?_ ?_)) ⟨_,_,rfl,rfl⟩ ?_;(iterate 3 (exact sd));rintro _ _ ⟨rfl,rfl⟩))
 | (refine Adz ⟨.inr rfl,[16000,16001],[(16000,1),(16001,5)],_,by decide,rfl,?_⟩;(try simp (disch:=omega) only [push_cast,seval,↓Ahz,↓Aez,↓List.map_cons,↓List.map_nil,hc,hel,Aaz])))<;>(try simp (disch:=omega) only [push_cast,seval,hc,hel,Aaz])))
  all_goals simp [OBf,C5z]
 | true =>
  have hc2:=hc
  rw [Bool.and_eq_true] at hc2
  obtain ⟨hv,hr⟩:=hc2
  obtain ⟨v1,v2,v3⟩:=vB_8 hv
  obtain ⟨q,p,b,x,y,rfl,hq,he,hvw⟩:=Dbz hr
  have hrl:=G8z es q
  have hil:q*5+5≤es.length*5:=by omega
  have hrF:=relE_F he
  simp only [Bool.true_and,Int.toNat_natCast]
  have hid:-1≤(q:Int)∧(q:Int)<es.length:=by omega
  have hkl:=D9z es (q:Int) es.length
  generalize hK:kidsT es (q:Int) es.length=K at *
  by_cases hk0:K.length=0
  ·have hkd:decide (K.length=0)=true:=decide_eq_true hk0
   rw [hkd,Ayz,Ayz]
   have hset:((esF es).cellsG (fim 21)).set (q*5+4) (.bool false)=(esF (relE es q)).cellsG (fim 21):=by rw [hrF];exact eF_set4 ..
   (repeat' ((first
 | (first|refine Afz ?_|refine Abz ?_)
 | (first|refine Agz ?_|refine Arz (mid:=l72r1a) (post:=l72r1b) mixed (by decide) ?_|refine Acz ?_|refine Amz ?_)
 | (first|((with_reducible refine Ajz (f:=32) false ?_);simp (disch:=omega) only [push_cast,seval,hc,hK,hk0,hil,hel,hset,Aaz,B5z,Bcz,Nat.lt_irrefl,decide_false];(refine callFNB (H7z _ _ _ _ ?_ ?_ ?_) (by (simp (disch:=omega) only [push_cast,seval,hc,hK,hk0,hil,hel,hset,Aaz,B5z,Bcz,Nat.lt_irrefl,decide_false]);done) ?_;(iterate 3 (exact sd)))))
 | (first|refine Ajz false ?_|refine Aqz false ?_)
 | (first|((first|refine Aiz (Akz (Crz _ _ _ _ _ ?_ ?_ ?_)) ?_|refine Aoz (Akz (Crz _ _ _ _ _ ?_ ?_ ?_)) ⟨_,_,rfl,rfl⟩ ?_);(iterate 3 (exact sd));rintro _ _ ⟨rfl,rfl⟩)|((first|refine Aiz (Akz (C0z _ _ _ _ _ ?_ ?_ ?_ ?_ ?_)) ?_|refine Aoz (Akz (C0z _ _ _ _ _ ?_ ?_ ?_ ?_ ?_)) ⟨_,_,rfl,rfl⟩ ?_);(iterate 5 (exact sd));rintro _ _ ⟨rfl,rfl⟩)|((first|refine Aiz (Akz (Dxz _ _ ?_ ?_)) ?_|refine Aoz (Akz (Dxz _ _ ?_ ?_)) ⟨_,_,rfl,rfl⟩ ?_);(iterate 2 (exact sd));rintro _ _ ⟨rfl,rfl⟩)|((first|refine Aiz (Akz (Ciz _)) ?_|refine Aoz (Akz (Ciz _)) ⟨_,_,rfl,rfl⟩ ?_);rintro _ _ ⟨rfl,rfl⟩)))<;>(try simp (disch:=omega) only [push_cast,seval,hc,hK,hk0,hil,hel,hset,Aaz,B5z,Bcz,Nat.lt_irrefl,decide_false])))
   refine Adz ⟨.inr rfl,?_⟩
   have hRw:(esF (relE es q)).rows=exR es:=by rw [hrF];rfl
   have hRR:(esF (relE es q)).R=es.length*2:=by rw [hrF];rfl
   simp only [OBf,hrl]
   refine Ghz (id0:=336) (id1:=337) (d:=21) (F:=esF (relE es q)) (cs:=cs) (bufT cs.length es.length true) rfl rfl (fun _ _ _ _ e0 e1=>Ecz e0 e1) ?_ rfl ?_ (by omega)
   ·simp only [hk,if_false];rfl
   ·intro j hj
    rw [hRR] at hj
    rw [hRw]
    simp only [hk,Awz _ _ 64 (by omega),Awz _ _ 96 (by omega),Awz _ _ 336 (by omega),Awz _ _ 337 (by omega),if_false]
    exact Bpz 21 (esF es) _ j hj
  ·have hkd:decide (K.length=0)=false:=decide_eq_false hk0
   have hk1:0<K.length:=by omega
   rw [hkd,A0z,A0z]
   (repeat' ((first
 | (first|refine Afz ?_|refine Abz ?_)
 | (first|refine Agz ?_|refine Arz (mid:=l72r1a) (post:=l72r1b) mixed (by decide) ?_|refine Acz ?_)
 | (first|refine Ajz false ?_|refine Aqz false ?_)
 | (first|((first|refine Aiz (Akz (Crz _ _ _ _ _ ?_ ?_ ?_)) ?_|refine Aoz (Akz (Crz _ _ _ _ _ ?_ ?_ ?_)) ⟨_,_,rfl,rfl⟩ ?_);(iterate 3 (exact sd));rintro _ _ ⟨rfl,rfl⟩)|((first|refine Aiz (Akz (C0z _ _ _ _ _ ?_ ?_ ?_ ?_ ?_)) ?_|refine Aoz (Akz (C0z _ _ _ _ _ ?_ ?_ ?_ ?_ ?_)) ⟨_,_,rfl,rfl⟩ ?_);(iterate 5 (exact sd));rintro _ _ ⟨rfl,rfl⟩)|((first|refine Aiz (Akz (Dxz _ _ ?_ ?_)) ?_|refine Aoz (Akz (Dxz _ _ ?_ ?_)) ⟨_,_,rfl,rfl⟩ ?_);(iterate 2 (exact sd));rintro _ _ ⟨rfl,rfl⟩)|((first|refine Aiz (Akz (Ciz _)) ?_|refine Aoz (Akz (Ciz _)) ⟨_,_,rfl,rfl⟩ ?_);rintro _ _ ⟨rfl,rfl⟩))
 | (refine Adz ⟨.inr rfl,[16000,16001],[(16000,1),(16001,5)],_,by decide,rfl,?_⟩;(try simp (disch:=omega) only [push_cast,seval,↓Ahz,↓Aez,↓List.map_cons,↓List.map_nil,hc,hK,hk1,hil,hel,Aaz,B5z,Bcz,decide_true])))<;>(try simp (disch:=omega) only [push_cast,seval,hc,hK,hk1,hil,hel,Aaz,B5z,Bcz,decide_true])))
   all_goals simp [OBf,C5z]

end Go.Proofs.YtfccepgibbdfaaaGreatDoor
namespace Go.Proofs.YtfccepgibbdfaaaGreatDoor
open VwM Vw Go
variable [SentA]
variable [PowA]

end Go.Proofs.YtfccepgibbdfaaaGreatDoor
namespace Go.Proofs.YtfccepgibbdfaaaGreatDoor
open VwM Vw Go
variable [SentA]
variable [PowA]



set_option maxHeartbeats 8000000 in
theorem sAdB_ok (cs:List Int)(es:List Ex)(m n:Nat)(p b:Int)(x y:List Int)(k l:Nat)(hm:cs.length=m)(hn:es.length=n)(hk:x.length=k)(hl:y.length=l)(hb:(k≤1099511627776∧l≤1099511627776)∧m≤1099511627776∧n≤1000∧exB 1099511627776 es) :
  BCall Tryz.prog 116 [.agg [.rows false (IL cs) m,.rows false (EL false es) n],.int .i64 p,.agg [.int .i64 b,.rows false (IL x) k,.rows false (IL y) l]] [] (fun r H'=>r=.agg [.own 0 m 1,.own 1 (n+1) 5]∧H'=[IL cs,EL true (es++[(p,(b,x,y),true)])]):=by
 subst hm hn hk hl
 obtain ⟨⟨hbx,hby⟩,hb1,hb2,hb3⟩:=hb
 have hq:cs.length≤1099511627776∧es.length≤1099511627776∧exB 1099511627776 es:=⟨hb1,by omega,hb3⟩
 have hel:=Auz true es
 have ha:=H9z true es [(p,(b,x,y),true)]
 simp only [EL] at ha
 refine Avz (pins:=[]) (pin:=0) l116_eq rfl rfl rfl ?_
 (repeat' ((first
 | (first|refine Afz ?_|refine Abz ?_)
 | (first|refine Agz ?_|refine Arz (mid:=l116r2a) (post:=l116r2b) mixed (by decide) ?_)
 | (first|refine Ajz false ?_|refine Aqz false ?_)
 | (first|((first|refine Aiz (Hpz _ _ _ _ ?_ ?_ ?_) ?_|refine Aoz (Hpz _ _ _ _ ?_ ?_ ?_) ⟨_,_,rfl,rfl⟩ ?_);(iterate 3 (exact sd));rintro _ _ ⟨rfl,rfl⟩)|((first|refine Aiz (Bjz _ _ _ _ _ ?_ ?_ ?_) ?_|refine Aoz (Bjz _ _ _ _ _ ?_ ?_ ?_) ⟨_,_,rfl,rfl⟩ ?_);(iterate 3 (exact sd));rintro _ _ ⟨rfl,rfl⟩))
 | (refine Adz ⟨.inr rfl,[144,145],[],_,by decide,rfl,?_⟩;(try simp (disch:=omega) only [push_cast,seval,↓Ahz,↓Aez,↓List.map_cons,↓List.map_nil,hel,ha,Aaz,zcX,List.map_append,List.length_map])))<;>(try simp (disch:=omega) only [push_cast,seval,hel,ha,Aaz,zcX,List.map_append,List.length_map])))
 all_goals (try exact ⟨rfl,rfl⟩)
 all_goals (try rfl)


set_option maxHeartbeats 8000000 in
theorem iAdB_ok (cs:List Int)(es:List Ex)(m n:Nat)(p b:Int)(x y:List Int)(k l:Nat)(hm:cs.length=m)(hn:es.length=n)(hk:x.length=k)(hl:y.length=l)(hb:(k≤1099511627776∧l≤1099511627776)∧m≤1048576∧n≤1000∧exB 1048576 es) :
  BCall Tryz.prog 104 [.agg [.rows false (IL cs) m,.rows false (EL false es) n],.int .i64 p,.agg [.int .i64 b,.rows false (IL x) k,.rows false (IL y) l]] [] (OBf (!decide (n=8)) (ifB (!decide (n=8)) cs) (ifB (!decide (n=8)) (es++[(p,(b,x,y),true)]))):=by
 subst hm hn hk hl
 obtain ⟨⟨hbx,hby⟩,hb1,hb2,hb3⟩:=hb
 have hq:cs.length≤1048576∧es.length≤1048576∧exB 1048576 es:=⟨hb1,by omega,hb3⟩
 have hel:=Auz false es
 refine Avz (pins:=[]) (pin:=0) l104_eq rfl rfl rfl ?_
 by_cases h8:es.length=8
 ·have hd:(!decide (es.length=8))=false:=by simp [h8]
  have h8i:(es.length:Int)=8:=by omega
  rw [hd,A0z,A0z]
  (repeat' (first
 | (first|refine Afz ?_|refine Abz ?_)
 | ((first|refine Agz ?_|refine Acz ?_);simp (disch:=omega) only [push_cast,seval,h8i,hel,Aaz])
 | (refine Adz ⟨.inr rfl,[16000,16001],[(16000,1),(16001,5)],_,by decide,rfl,?_⟩;(try simp (disch:=omega) only [push_cast,seval,↓Ahz,↓Aez,↓List.map_cons,↓List.map_nil,h8i,hel,Aaz]))))
  all_goals simp [OBf,C5z]
 ·have hd:(!decide (es.length=8))=true:=by simp [h8]
  have h8i:((es.length:Int)=8)=False:=eq_false (by omega)
  rw [hd,Ayz,Ayz]
  (repeat' ((first
 | (first|refine Afz ?_|refine Abz ?_)
 | (first|refine Agz ?_|refine Arz (mid:=l104r4a) (post:=l104r4b) mixed (by decide) ?_|refine Acz ?_|refine Amz ?_)
 | (first|((with_reducible refine Ajz (f:=32) false ?_);simp (disch:=omega) only [push_cast,seval,h8i,hel,Aaz,zcX];(refine callFNB (H7z _ _ _ _ ?_ ?_ ?_) (by (simp (disch:=omega) only [push_cast,seval,h8i,hel,Aaz,zcX]);done) ?_;(iterate 3 (exact sd)))))
 | (first|refine Aqz false ?_)
 | (first|(refine Aoz (vclone_ok _ _ _ _ _ ?_ ?_ ?_) ⟨_,_,rfl,rfl⟩ ?_;(iterate 3 (exact sd));rintro _ _ ⟨rfl,rfl⟩)))<;>(try simp (disch:=omega) only [push_cast,seval,h8i,hel,Aaz,zcX])))
  refine Adz ⟨.inr rfl,?_⟩
  have hR:(esF (es++[(p,(b,x,y),true)])).R=es.length*2+2:=by rw [eF_R,List.length_append,List.length_singleton];omega
  have hl:(es++[(p,(b,x,y),true)]).length=es.length+1:=by simp
  simp only [OBf,hl]
  refine ret_famG (id0:=240) (id1:=241) (F:=esF (es++[(p,(b,x,y),true)])) (cs:=cs) (gN 15 (es.length*2) 320 321) (gN_inj (by omega) (by omega) (by omega)) (fun j=>⟨gN_ne (by omega) (by omega) (by omega) j,gN_ne (by omega) (by omega) (by omega) j⟩) (bufT cs.length (es.length+1) true) rfl rfl (fun _ _ _ _ e0 e1=>Ecz e0 e1) rfl ?_ ?_ (by omega)
  ·rw [app_cells];rfl
  ·intro j hj
   rw [hR] at hj
   show hk _ (gN 15 (es.length*2) 320 321 j)=some (IL (exR (es++[(p,(b,x,y),true)]) j))
   rw [exR_app]
   unfold gN
   by_cases c0:j=es.length*2
   ·rw [if_pos c0,if_pos c0];rfl
   ·rw [if_neg c0,if_neg c0]
    by_cases c1:j=es.length*2+1
    ·rw [if_pos c1,if_pos c1];rfl
    ·rw [if_neg c1,if_neg c1]
     simp only [hk,Awz _ _ 96 (by omega),Awz _ _ 128 (by omega),Awz _ _ 241 (by omega),Awz _ _ 352 (by omega),Awz _ _ 320 (by omega),Awz _ _ 321 (by omega),Awz _ _ 240 (by omega),if_false]
     exact Bpz 15 (esF es) _ j (by show j<es.length*2;omega)


set_option maxHeartbeats 8000000 in
theorem Mhz (cs:List Int)(es:List Ex)(xs:List Int)(m n k:Nat)(hm:cs.length=m)(hn:es.length=n)(hk:xs.length=k)(hb:m≤1048576∧n≤1048576∧exB 1048576 es) :
  BCall Tryz.prog 103 [.agg [.rows false (IL cs) m,.rows false (EL false es) n],.own 0 k 1,.bool true] [IL xs] (fun r H'=>r=.tup [.agg [.own 0 k 1,.own 1 n 5],.bool true]∧H'=IL xs::(esF es).cellsG (· + 2)::(esF es).conts):=by
 subst hm hn hk
 obtain ⟨hb1,hb2,hb3⟩:=hb
 have hel:=Auz false es
 refine Avz (pins:=[0]) (pin:=1) l103_eq rfl rfl rfl ?_
 (repeat' ((first
 | (first|refine Afz ?_|refine Abz ?_)
 | (first|refine Agz ?_|refine Acz ?_|refine Amz ?_)
 | (first|((with_reducible refine Ajz (f:=32) false ?_);simp (disch:=omega) only [push_cast,seval,hel,Aaz];(refine callFNB (H7z _ _ _ _ ?_ ?_ ?_) (by (simp (disch:=omega) only [push_cast,seval,hel,Aaz]);done) ?_;(iterate 3 (exact sd))))))<;>(try simp (disch:=omega) only [push_cast,seval,hel,Aaz])))
 refine Adz ⟨.inr rfl,ret_famP (id1:=209) (d:=13) (F:=esF es) (cs:=xs) (bufT xs.length es.length true) rfl rfl (fun _ _ _ _ e0 e1=>Ecz e0 e1) ?_ rfl ?_ (by omega)⟩
 ·simp only [hk,if_false]
  rw [C6z _ _ _ 0 (by omega)]
  rfl
 ·intro j hj
  simp only [hk,Awz _ _ 96 (by omega),Awz _ _ 128 (by omega),Awz _ _ 208 (by omega),Awz _ _ 209 (by omega),if_false]
  exact Bpz 13 (esF es) _ j hj

end Go.Proofs.YtfccepgibbdfaaaGreatDoor
namespace Go.Proofs.YtfccepgibbdfaaaGreatDoor
open VwM Vw Go
variable [SentA]
variable [PowA]

def evG (cs:List Int)(es:List Ex)(b:Int)(x y:List Int):Bool:=(vB cs es&&fitB b x y cs.length)&&!decide (es.length=8)


set_option maxHeartbeats 8000000 in
theorem sEV_ok (cs:List Int)(es:List Ex)(m n:Nat)(b:Int)(x y:List Int)(k l:Nat)(hm:cs.length=m)(hn:es.length=n)(hk:x.length=k)(hl:y.length=l)(hb:(k≤1099511627776∧l≤1099511627776)∧m≤1099511627776∧n≤1099511627776∧exB 1099511627776 es) :
  BCall Tryz.prog 95 [.agg [.rows false (IL cs) m,.rows false (EL false es) n],.agg [.int .i64 b,.rows false (IL x) k,.rows false (IL y) l]] [] (OBs (evG cs es b x y) (ifB (evG cs es b x y) cs) (ifB (evG cs es b x y) (es++[(-1,(b,x,y),true)]))):=by
 subst hm hn hk hl
 obtain ⟨⟨hbx,hby⟩,hb1,hb2,hb3⟩:=hb
 have hb0:cs.length≤1099511627776∧es.length≤1099511627776∧exB 1099511627776 es:=⟨hb1,hb2,hb3⟩
 have hel:=Auz false es
 refine Avz (pins:=[]) (pin:=0) l95_eq rfl rfl rfl ?_
 unfold evG
 cases hv:vB cs es with
 | false =>
  simp only [Bool.false_and,A0z]
  (repeat' ((first
 | (first|refine Afz ?_|refine Abz ?_)
 | (first|refine Agz ?_|refine Acz ?_)
 | (first|refine Ajz false ?_)
 | (first|(refine Aiz (Akz (Biz _ _ _ _ ?_ ?_ ?_)) ?_;(iterate 3 (exact sd));rintro _ _ ⟨rfl,rfl⟩))
 | (refine Adz ⟨.inr rfl,[16000,16001],[(16000,1),(16001,5)],_,by decide,rfl,?_⟩;(try simp (disch:=omega) only [push_cast,seval,↓Ahz,↓Aez,↓List.map_cons,↓List.map_nil,hv,hel,Aaz])))<;>(try simp (disch:=omega) only [push_cast,seval,hv,hel,Aaz])))
  all_goals simp [OBs,EL]
 | true =>
  obtain ⟨v1,v2,v3⟩:=vB_8 hv
  cases hvv:vV b x y with
  | false =>
   have hf:fitB b x y cs.length=false:=by unfold fitB;rw [hvv];rfl
   simp only [hf,Bool.and_false,Bool.false_and,A0z]
   (repeat' ((first
 | (first|refine Afz ?_|refine Abz ?_)
 | (first|refine Agz ?_|refine Acz ?_)
 | (first|refine Ajz false ?_)
 | (first|(refine Aiz (Akz (Biz _ _ _ _ ?_ ?_ ?_)) ?_;(iterate 3 (exact sd));rintro _ _ ⟨rfl,rfl⟩)|(refine Aiz (Akz (A3z _ _ _ _ _ ?_ ?_ ?_)) ?_;(iterate 3 (exact sd));rintro _ _ ⟨rfl,rfl⟩))
 | (refine Adz ⟨.inr rfl,[16000,16001],[(16000,1),(16001,5)],_,by decide,rfl,?_⟩;(try simp (disch:=omega) only [push_cast,seval,↓Ahz,↓Aez,↓List.map_cons,↓List.map_nil,hv,hvv,hel,Aaz])))<;>(try simp (disch:=omega) only [push_cast,seval,hv,hvv,hel,Aaz])))
   all_goals simp [OBs,EL]
  | true =>
   have hok:=(Dsz hvv).1
   have hf:fitB b x y cs.length=allI (offs b x y) 0 ((cs.length:Int)-1):=by
    unfold fitB
    rw [hvv]
    have:(decide ((0:Int)≤cs.length)&&decide ((cs.length:Int)≤60))=true:=by rw [Bool.and_eq_true,decide_eq_true_eq,decide_eq_true_eq];omega
    rw [this];rfl
   rw [hf]
   cases ha:allI (offs b x y) 0 ((cs.length:Int)-1) with
 | false =>
    simp only [Bool.and_false,Bool.false_and,A0z]
    (repeat' ((first
 | (first|refine Afz ?_|refine Abz ?_)
 | (first|refine Agz ?_|refine Acz ?_)
 | (first|refine Ajz false ?_)
 | (first|(refine Aiz (Akz (Biz _ _ _ _ ?_ ?_ ?_)) ?_;(iterate 3 (exact sd));rintro _ _ ⟨rfl,rfl⟩)|(refine Aiz (Akz (A3z _ _ _ _ _ ?_ ?_ ?_)) ?_;(iterate 3 (exact sd));rintro _ _ ⟨rfl,rfl⟩)|(refine Aiz (Akz (Esz _ _ _ _ _ _ ?_ ?_ ?_)) ?_;(iterate 3 (exact sd));rintro _ _ ⟨rfl,rfl⟩))
 | (refine Adz ⟨.inr rfl,[16000,16001],[(16000,1),(16001,5)],_,by decide,rfl,?_⟩;(try simp (disch:=omega) only [push_cast,seval,↓Ahz,↓Aez,↓List.map_cons,↓List.map_nil,hv,hvv,ha,hel,Aaz])))<;>(try simp (disch:=omega) only [push_cast,seval,hv,hvv,ha,hel,Aaz])))
    all_goals simp [OBs,EL]
 | true =>
    by_cases h8:es.length=8
    ·have hd:(!decide (es.length=8))=false:=by simp [h8]
     have h8i:(es.length:Int)=8:=by omega
     simp only [hd,Bool.and_false,A0z]
     (repeat' ((first
 | (first|refine Afz ?_|refine Abz ?_)
 | (first|refine Agz ?_|refine Acz ?_)
 | (first|refine Ajz false ?_)
 | (first|(refine Aiz (Akz (Biz _ _ _ _ ?_ ?_ ?_)) ?_;(iterate 3 (exact sd));rintro _ _ ⟨rfl,rfl⟩)|(refine Aiz (Akz (A3z _ _ _ _ _ ?_ ?_ ?_)) ?_;(iterate 3 (exact sd));rintro _ _ ⟨rfl,rfl⟩)|(refine Aiz (Akz (Esz _ _ _ _ _ _ ?_ ?_ ?_)) ?_;(iterate 3 (exact sd));rintro _ _ ⟨rfl,rfl⟩))
 | (refine Adz ⟨.inr rfl,[16000,16001],[(16000,1),(16001,5)],_,by decide,rfl,?_⟩; (try simp (disch := omega) only [push_cast,seval,↓Ahz,↓Aez,↓List.map_cons,↓List.map_nil,hv,hvv,ha,h8i,hel,Aaz])))<;>(try simp (disch:=omega) only [push_cast,seval,hv,hvv,ha,h8i,hel,Aaz])))
     all_goals simp [OBs,EL]
    ·have hd:(!decide (es.length=8))=true:=by simp [h8]
     have h8i:((es.length:Int)=8)=False:=eq_false (by omega)
     simp only [hd,Bool.and_true,Ayz]
     (repeat' ((first
 | (first|refine Afz ?_|refine Abz ?_)
 | (first|refine Agz ?_|refine Acz ?_|refine Amz ?_)
 | (first|refine Ajz false ?_)
 | (first|(refine Aiz (Akz (Biz _ _ _ _ ?_ ?_ ?_)) ?_;(iterate 3 (exact sd));rintro _ _ ⟨rfl,rfl⟩)|(refine Aiz (Akz (A3z _ _ _ _ _ ?_ ?_ ?_)) ?_;(iterate 3 (exact sd));rintro _ _ ⟨rfl,rfl⟩)|(refine Aiz (Akz (Esz _ _ _ _ _ _ ?_ ?_ ?_)) ?_;(iterate 3 (exact sd));rintro _ _ ⟨rfl,rfl⟩)|(refine Aiz (sAdB_ok _ _ _ _ _ _ _ _ _ _ ?_ ?_ ?_ ?_ ?_) ?_;(iterate 5 (exact sd));rintro _ _ ⟨rfl,rfl⟩))
 | (refine Adz ⟨.inr rfl,[496,497],[],_,by decide,rfl,?_⟩; (try simp (disch := omega) only [push_cast,seval,↓Ahz,↓Aez,↓List.map_cons,↓List.map_nil,hv,hvv,ha,h8i,hel,Aaz])))<;>(try simp (disch:=omega) only [push_cast,seval,hv,hvv,ha,h8i,hel,Aaz])))
     all_goals simp [OBs]


set_option maxHeartbeats 8000000 in
theorem iEV_ok (cs:List Int)(es:List Ex)(m n:Nat)(b:Int)(x y:List Int)(k l:Nat)(hm:cs.length=m)(hn:es.length=n)(hk:x.length=k)(hl:y.length=l)(hb:(k≤1099511627776∧l≤1099511627776)∧m≤1048576∧n≤1048576∧exB 1048576 es) :
  BCall Tryz.prog 68 [.agg [.rows false (IL cs) m,.rows false (EL false es) n],.agg [.int .i64 b,.rows false (IL x) k,.rows false (IL y) l]] [] (OBf (evG cs es b x y) (ifB (evG cs es b x y) cs) (ifB (evG cs es b x y) (es++[(-1,(b,x,y),true)]))):=by
 subst hm hn hk hl
 obtain ⟨⟨hbx,hby⟩,hb1,hb2,hb3⟩:=hb
 have hb0:cs.length≤1099511627776∧es.length≤1099511627776∧exB 1099511627776 es:=⟨by omega,by omega,fun e he=>by have:=hb3 e he;omega⟩
 have hel:=Auz false es
 refine Avz (pins:=[]) (pin:=0) l68_eq rfl rfl rfl ?_
 unfold evG
 cases hv:vB cs es with
 | false =>
  simp only [Bool.false_and,A0z]
  (repeat' ((first
 | (first|refine Afz ?_|refine Abz ?_)
 | (first|refine Agz ?_|refine Acz ?_)
 | (first|refine Ajz false ?_)
 | (first|(refine Aiz (Akz (Buz _ _ _ _ ?_ ?_ ?_)) ?_;(iterate 3 (exact sd));rintro _ _ ⟨rfl,rfl⟩))
 | (refine Adz ⟨.inr rfl,[16000,16001],[(16000,1),(16001,5)],_,by decide,rfl,?_⟩;(try simp (disch:=omega) only [push_cast,seval,↓Ahz,↓Aez,↓List.map_cons,↓List.map_nil,hv,hel,Aaz])))<;>(try simp (disch:=omega) only [push_cast,seval,hv,hel,Aaz])))
  all_goals simp [OBf,C5z]
 | true =>
  obtain ⟨v1,v2,v3⟩:=vB_8 hv
  have hadd:(x.length≤1099511627776∧y.length≤1099511627776)∧cs.length≤1048576∧es.length≤1000∧exB 1048576 es:=⟨⟨hbx,hby⟩,hb1,by omega,hb3⟩
  cases hf:fitB b x y cs.length with
  | false =>
   simp only [Bool.and_false,Bool.false_and,A0z]
   (repeat' ((first
 | (first|refine Afz ?_|refine Abz ?_)
 | (first|refine Agz ?_|refine Acz ?_)
 | (first|refine Ajz false ?_)
 | (first|(refine Aiz (Akz (Buz _ _ _ _ ?_ ?_ ?_)) ?_;(iterate 3 (exact sd));rintro _ _ ⟨rfl,rfl⟩)|(refine Aiz (Akz (D0z _ _ _ _ _ _ ?_ ?_ ?_)) ?_;(iterate 3 (exact sd));rintro _ _ ⟨rfl,rfl⟩))
 | (refine Adz ⟨.inr rfl,[16000,16001],[(16000,1),(16001,5)],_,by decide,rfl,?_⟩;(try simp (disch:=omega) only [push_cast,seval,↓Ahz,↓Aez,↓List.map_cons,↓List.map_nil,hv,hf,hel,Aaz])))<;>(try simp (disch:=omega) only [push_cast,seval,hv,hf,hel,Aaz])))
   all_goals simp [OBf,C5z]
  | true =>
   simp only [Bool.true_and]
   generalize hW1:ifB (!decide (es.length=8)) cs=W1 at *
   generalize hW2:ifB (!decide (es.length=8)) (es++[(-1,(b,x,y),true)])=W2 at *
   generalize hW3:(!decide (es.length=8))=W3 at *
   (repeat' ((first
 | (first|refine Afz ?_|refine Abz ?_)
 | (first|refine Agz ?_|refine Acz ?_|refine Amz ?_)
 | (first|((with_reducible refine Ajz (f:=104) false ?_);simp (disch:=omega) only [push_cast,seval,hv,hf,hel,Aaz,hW1,hW2,hW3];(refine callFNT (iAdB_ok _ _ _ _ _ _ _ _ _ _ ?_ ?_ ?_ ?_ ?_) (by (simp (disch:=omega) only [push_cast,seval,hv,hf,hel,Aaz,hW1,hW2,hW3]);done) ?_;(iterate 5 (exact sd)))))
 | (first|refine Ajz false ?_)
 | (first|(refine Aiz (Akz (Buz _ _ _ _ ?_ ?_ ?_)) ?_;(iterate 3 (exact sd));rintro _ _ ⟨rfl,rfl⟩)|(refine Aiz (Akz (D0z _ _ _ _ _ _ ?_ ?_ ?_)) ?_;(iterate 3 (exact sd));rintro _ _ ⟨rfl,rfl⟩)))<;>(try simp (disch:=omega) only [push_cast,seval,hv,hf,hel,Aaz,hW1,hW2,hW3])))
   refine Adz ⟨.inr rfl,Ghz (id0:=320) (id1:=321) (d:=20) (F:=esF W2) (cs:=W1) (bufT W1.length W2.length W3) rfl rfl (fun _ _ _ _ e0 e1=>Ecz e0 e1) rfl rfl (fun j hj=>?_) (by omega)⟩
   simp only [hk,Awz _ _ 64 (by omega),Awz _ _ 320 (by omega),Awz _ _ 321 (by omega),if_false]
   exact Bpz 20 (esF W2) _ j hj

end Go.Proofs.YtfccepgibbdfaaaGreatDoor
