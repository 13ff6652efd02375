/- Texts of this verifier. -/
import Derived.Test.YtfccepgibbdfaaaGreatDoorCB8
import Derived.Test.YtfccepgibbdfaaaGreatDoorCM1
import Derived.Test.YtfccepgibbdfaaaGreatDoorCW3
set_option maxHeartbeats 4000000
set_option linter.unusedSimpArgs false
set_option linter.unusedSectionVars false
set_option linter.unusedVariables false
set_option maxRecDepth 4000
namespace Go.Proofs.YtfccepgibbdfaaaGreatDoor
open VwM Vw Go
variable [SentA]
variable [PowA]

def xfG (cs:List Int)(es:List Ex)(id v:Int):Bool:=(vB cs es&&opA es id)&&(decide (0≤v)&&decide (v≤255))
def xfC (cs:List Int)(es:List Ex)(id v:Int):List Int:=filL cs (vwA es id).1 (vwA es id).2.1 (vwA es id).2.2 v
theorem Hez (cs:List Int)(b:Int)(x y:List Int)(v:Int):(filL cs b x y v).length=cs.length:=C3z ..


set_option maxHeartbeats 8000000 in
theorem sFE_ok (cs:List Int)(es:List Ex)(m n:Nat)(id v:Int)(hm:cs.length=m)(hn:es.length=n)(hb:m≤1099511627776∧n≤1099511627776∧exB 1099511627776 es) :
  BCall Tryz.prog 97 [.agg [.rows false (IL cs) m,.rows false (EL false es) n],.int .i64 id,.int .i64 v] [] (OBs (xfG cs es id v) (ifB (xfG cs es id v) (xfC cs es id v)) (ifB (xfG cs es id v) es)):=by
 subst hm hn
 have hb0:=hb
 obtain ⟨hb1,hb2,hb3⟩:=hb
 have hel:=Auz false es
 refine Avz (pins:=[]) (pin:=0) l97_eq rfl rfl rfl ?_
 unfold xfG
 cases hv:vB cs es with
 | false =>
  simp only [Bool.false_and,A0z]
  (repeat' ((first
 | (first|refine Afz ?_|refine Abz ?_)
 | (first|refine Agz ?_|refine Acz ?_)
 | (first|refine Ajz false ?_)
 | (first|(refine Aiz (Akz (Biz _ _ _ _ ?_ ?_ ?_)) ?_;(iterate 3 (exact sd));rintro _ _ ⟨rfl,rfl⟩))
 | (refine Adz ⟨.inr rfl,[16000,16001],[(16000,1),(16001,5)],_,by decide,rfl,?_⟩;(try simp (disch:=omega) only [push_cast,seval,↓Ahz,↓Aez,↓List.map_cons,↓List.map_nil,hv,hel,Aaz])))<;>(try simp (disch:=omega) only [push_cast,seval,hv,hel,Aaz])))
  all_goals simp [OBs,EL]
 | true =>
  obtain ⟨v1,v2,v3⟩:=vB_8 hv
  cases hr:opA es id with
  | false =>
   simp only [Bool.true_and,Bool.false_and,A0z]
   (repeat' ((first
 | (first|refine Afz ?_|refine Abz ?_)
 | (first|refine Agz ?_|refine Acz ?_)
 | (first|refine Ajz false ?_)
 | (first|(refine Aiz (Akz (Biz _ _ _ _ ?_ ?_ ?_)) ?_;(iterate 3 (exact sd));rintro _ _ ⟨rfl,rfl⟩)|(refine Aiz (Akz (Cyz _ _ _ _ _ ?_ ?_ ?_)) ?_;(iterate 3 (exact sd));rintro _ _ ⟨rfl,rfl⟩))
 | (refine Adz ⟨.inr rfl,[16000,16001],[(16000,1),(16001,5)],_,by decide,rfl,?_⟩;(try simp (disch:=omega) only [push_cast,seval,↓Ahz,↓Aez,↓List.map_cons,↓List.map_nil,hv,hr,hel,Aaz])))<;>(try simp (disch:=omega) only [push_cast,seval,hv,hr,hel,Aaz])))
   all_goals simp [OBs,EL]
  | true =>
   simp only [Bool.true_and]
   cases hx:(decide (0≤v)&&decide (v≤255)) with
 | false =>
    simp only [A0z]
    (repeat' ((first
 | (first|refine Afz ?_|refine Abz ?_)
 | (first|refine Agz ?_|refine Acz ?_)
 | (first|refine Ajz false ?_)
 | (first|(refine Aiz (Akz (Biz _ _ _ _ ?_ ?_ ?_)) ?_;(iterate 3 (exact sd));rintro _ _ ⟨rfl,rfl⟩)|(refine Aiz (Akz (Cyz _ _ _ _ _ ?_ ?_ ?_)) ?_;(iterate 3 (exact sd));rintro _ _ ⟨rfl,rfl⟩)|(refine Aiz (Akz (A1z _ _ _)) ?_;rintro _ _ ⟨rfl,rfl⟩))
 | (refine Adz ⟨.inr rfl,[16000,16001],[(16000,1),(16001,5)],_,by decide,rfl,?_⟩;(try simp (disch:=omega) only [push_cast,seval,↓Ahz,↓Aez,↓List.map_cons,↓List.map_nil,hv,hr,hx,hel,Aaz])))<;>(try simp (disch:=omega) only [push_cast,seval,hv,hr,hx,hel,Aaz])))
    all_goals simp [OBs,EL]
 | true =>
    obtain ⟨q,p,b,x,y,rfl,hq,he,hvw⟩:=Dbz hr
    have hs:=D1z hv he
    have hbb:=Cgz hb3 he
    have hd:=Btz false es q he
    simp only at hd
    have hil:q*5+5≤es.length*5:=by omega
    have h3:((EL false es).drop (q*5+1)).take 3=[.int .i64 b,.rows false (IL x) x.length,.rows false (IL y) y.length]:=by
     have:=congrArg (fun l=>(l.drop 1).take 3) hd
     simpa [List.drop_take,List.drop_drop,List.take_take] using this
    have hfb:filB cs b x y v=true:=by unfold filB;rw [hs,hx];rfl
    have hlen:=Hez cs b x y v
    unfold xfC
    simp only [Ayz,hvw]
    generalize hZ:filL cs b x y v=Z at *
    (repeat' ((first
 | (first|refine Afz ?_|refine Abz ?_)
 | (first|refine Agz ?_|refine Bbz (mid:=l97r4a) (post:=l97r4b) [128,1000000039] mixed (by decide) ?_|refine Acz ?_|refine Amz ?_)
 | (first|refine Ajz false ?_|refine Aqz false ?_)
 | (first|((first|refine Aiz (Akz (Biz _ _ _ _ ?_ ?_ ?_)) ?_|refine Aoz (Akz (Biz _ _ _ _ ?_ ?_ ?_)) ⟨_,_,rfl,rfl⟩ ?_);(iterate 3 (exact sd));rintro _ _ ⟨rfl,rfl⟩)|((first|refine Aiz (Akz (Cyz _ _ _ _ _ ?_ ?_ ?_)) ?_|refine Aoz (Akz (Cyz _ _ _ _ _ ?_ ?_ ?_)) ⟨_,_,rfl,rfl⟩ ?_);(iterate 3 (exact sd));rintro _ _ ⟨rfl,rfl⟩)|((first|refine Aiz (Akz (A1z _ _ _)) ?_|refine Aoz (Akz (A1z _ _ _)) ⟨_,_,rfl,rfl⟩ ?_);rintro _ _ ⟨rfl,rfl⟩)|((first|refine Aiz (Hpz _ _ _ _ ?_ ?_ ?_) ?_|refine Aoz (Hpz _ _ _ _ ?_ ?_ ?_) ⟨_,_,rfl,rfl⟩ ?_);(iterate 3 (exact sd));rintro _ _ ⟨rfl,rfl⟩)|((first|refine Aiz (sFill_ok _ _ _ _ _ _ _ _ ?_ ?_ ?_ ?_) ?_|refine Aoz (sFill_ok _ _ _ _ _ _ _ _ ?_ ?_ ?_ ?_) ⟨_,_,rfl,rfl⟩ ?_);(iterate 4 (exact sd));rintro _ _ ⟨rfl,rfl⟩))
 | (refine Adz ⟨.inr rfl,[576,401],[],_,by decide,rfl,?_⟩;(try simp (disch:=omega) only [push_cast,seval,↓Ahz,↓Aez,↓List.map_cons,↓List.map_nil,hv,hr,hx,h3,hfb,hZ,hil,hel,Aaz,MVL_true])))<;>(try simp (disch:=omega) only [push_cast,seval,hv,hr,hx,h3,hfb,hZ,hil,hel,Aaz,MVL_true])))
    all_goals simp [OBs]


theorem Grz (cs:List Int)(es:List Ex)(m n:Nat)(hm:cs.length=m)(hn:es.length=n) :
  BCall Tryz.prog 103 [.agg [.rows false (IL cs) m,.rows false (EL false es) n],.rows false [] 0,.bool false] [] (OBs false [] []):=by
 subst hm hn
 have hel:=Auz false es
 refine Avz (pins:=[]) (pin:=0) l103_eq rfl rfl rfl ?_
 (repeat' (first
 | (first|refine Afz ?_|refine Abz ?_)
 | ((first|refine Agz ?_|refine Acz ?_);simp (disch:=omega) only [push_cast,seval,hel,Aaz])
 | (refine Adz ⟨.inr rfl,[16000,16001],[(16000,1),(16001,5)],_,by decide,rfl,?_⟩;(try simp (disch:=omega) only [push_cast,seval,↓Ahz,↓Aez,↓List.map_cons,↓List.map_nil,hel,Aaz]))))
 all_goals simp [OBs,EL]


theorem iFillP_ok (mem:List Int)(b:Int)(sh st:List Int)(x:Int)(q n m:Nat)(hq:mem.length=q)(hn:sh.length=n)(hm:st.length=m)(hb:q≤1099511627776∧n≤1099511627776∧m≤1099511627776):PCall Tryz.prog 106 [.rows false (IL mem) q,.agg [.int .i64 b,.rows false (IL sh) n,.rows false (IL st) m],.int .i64 x] (fun r=>r=.tup [.rows true (IL (MVL (filB mem b sh st x) (filL mem b sh st x))) (MVL (filB mem b sh st x) (filL mem b sh st x)).length,.bool (filB mem b sh st x)]):=by
 refine (BCall.plain (iFill_ok mem b sh st x q n m hq hn hm hb)).mono ?_
 rintro r ⟨r0,H',⟨rfl,rfl⟩,rfl⟩
 simp [AV.ren,nthH,Isz]


set_option maxHeartbeats 8000000 in
theorem iFEno_ok (cs:List Int)(es:List Ex)(m n:Nat)(id v:Int)(hm:cs.length=m)(hn:es.length=n)(hb:m≤1048576∧n≤1048576∧exB 1048576 es)(hg:xfG cs es id v=false) :
  BCall Tryz.prog 70 [.agg [.rows false (IL cs) m,.rows false (EL false es) n],.int .i64 id,.int .i64 v] [] (OBf false [] []):=by
 subst hm hn
 have hb0:=hb
 obtain ⟨hb1,hb2,hb3⟩:=hb
 have hq8:cs.length≤1099511627776∧es.length≤1099511627776∧exB 1099511627776 es:=⟨by omega,by omega,fun e he=>by have:=hb3 e he;omega⟩
 have hel:=Auz false es
 refine Avz (pins:=[]) (pin:=0) l70_eq rfl rfl rfl ?_
 unfold xfG at hg
 cases hc:(vB cs es&&opA es id) with
 | false =>
  (repeat' ((first
 | (first|refine Afz ?_|refine Abz ?_)
 | (first|refine Agz ?_|refine Acz ?_)
 | (first|refine Ajz false ?_)
 | (first|(refine Aiz (Akz (Crz _ _ _ _ _ ?_ ?_ ?_)) ?_;(iterate 3 (exact sd));rintro _ _ ⟨rfl,rfl⟩))
 | (refine Adz ⟨.inr rfl,[16000,16001],[(16000,1),(16001,5)],_,by decide,rfl,?_⟩;(try simp (disch:=omega) only [push_cast,seval,↓Ahz,↓Aez,↓List.map_cons,↓List.map_nil,hc,hel,Aaz])))<;>(try simp (disch:=omega) only [push_cast,seval,hc,hel,Aaz])))
  all_goals simp [OBf,C5z]
 | true =>
  rw [hc,Bool.true_and] at hg
  have hc2:=hc
  rw [Bool.and_eq_true] at hc2
  obtain ⟨hv,hr⟩:=hc2
  obtain ⟨v1,v2,v3⟩:=vB_8 hv
  obtain ⟨q,p,b,x,y,rfl,hq,he,hvw⟩:=Dbz hr
  have hs:=D1z hv he
  have hbb:=Cgz hb3 he
  have hd:=Btz false es q he
  simp only at hd
  have hil:q*5+5≤es.length*5:=by omega
  have h3:((EL false es).drop (q*5+1)).take 3=[.int .i64 b,.rows false (IL x) x.length,.rows false (IL y) y.length]:=by
   have:=congrArg (fun l=>(l.drop 1).take 3) hd
   simpa [List.drop_take,List.drop_drop,List.take_take] using this
  have hfb:filB cs b x y v=false:=by unfold filB;rw [hs,hg];rfl
  (repeat' ((first
 | (first|refine Afz ?_|refine Abz ?_)
 | (first|refine Agz ?_|refine Arz (mid:=l70r3a) (post:=l70r3b) mixed (by decide) ?_|refine Acz ?_|refine Amz ?_)
 | (first|refine Ajz false ?_|refine Aqz false ?_)
 | (first|((first|refine Aiz (Akz (Crz _ _ _ _ _ ?_ ?_ ?_)) ?_|refine Aoz (Akz (Crz _ _ _ _ _ ?_ ?_ ?_)) ⟨_,_,rfl,rfl⟩ ?_);(iterate 3 (exact sd));rintro _ _ ⟨rfl,rfl⟩)|((first|refine Aiz (Akz (iFillP_ok _ _ _ _ _ _ _ _ ?_ ?_ ?_ ?_)) ?_|refine Aoz (Akz (iFillP_ok _ _ _ _ _ _ _ _ ?_ ?_ ?_ ?_)) ⟨_,_,rfl,rfl⟩ ?_);(iterate 4 (exact sd));rintro _ _ ⟨rfl,rfl⟩)|((first|refine Aiz (Grz _ _ _ _ ?_ ?_) ?_|refine Aoz (Grz _ _ _ _ ?_ ?_) ⟨_,_,rfl,rfl⟩ ?_);(iterate 2 (exact sd));rintro _ _ ⟨rfl,rfl⟩))
 | (refine Adz ⟨.inr rfl,[416,417],[],_,by decide,rfl,?_⟩;(try simp (disch:=omega) only [push_cast,seval,↓Ahz,↓Aez,↓List.map_cons,↓List.map_nil,hc,h3,hfb,hil,hel,Aaz,MVL_false,IL,List.map_nil,List.length_nil])))<;>(try simp (disch:=omega) only [push_cast,seval,hc,h3,hfb,hil,hel,Aaz,MVL_false,IL,List.map_nil,List.length_nil])))
  all_goals simp [OBf,C5z,EL]




set_option maxHeartbeats 8000000 in
theorem iFE_ok (cs:List Int)(es:List Ex)(m n:Nat)(id v:Int)(hm:cs.length=m)(hn:es.length=n)(hb:m≤1048576∧n≤1048576∧exB 1048576 es) :
  BCall Tryz.prog 70 [.agg [.rows false (IL cs) m,.rows false (EL false es) n],.int .i64 id,.int .i64 v] [] (OBf (xfG cs es id v) (ifB (xfG cs es id v) (xfC cs es id v)) (ifB (xfG cs es id v) es)):=by
 subst hm hn
 have hb0:=hb
 obtain ⟨hb1,hb2,hb3⟩:=hb
 have hq8:cs.length≤1099511627776∧es.length≤1099511627776∧exB 1099511627776 es:=⟨by omega,by omega,fun e he=>by have:=hb3 e he;omega⟩
 have hel:=Auz false es
 cases hg:xfG cs es id v with
 | false =>
  exact iFEno_ok cs es _ _ id v rfl rfl hb0 hg
 | true =>
  refine Avz (pins:=[]) (pin:=0) l70_eq rfl rfl rfl ?_
  have hg2:=hg
  unfold xfG at hg2
  rw [Bool.and_eq_true] at hg2
  obtain ⟨hc,hx⟩:=hg2
  have hc2:=hc
  rw [Bool.and_eq_true] at hc2
  obtain ⟨hv,hr⟩:=hc2
  obtain ⟨v1,v2,v3⟩:=vB_8 hv
  obtain ⟨q,p,b,x,y,rfl,hq,he,hvw⟩:=Dbz hr
  have hs:=D1z hv he
  have hbb:=Cgz hb3 he
  have hd:=Btz false es q he
  simp only at hd
  have hil:q*5+5≤es.length*5:=by omega
  have h3:((EL false es).drop (q*5+1)).take 3=[.int .i64 b,.rows false (IL x) x.length,.rows false (IL y) y.length]:=by
   have:=congrArg (fun l=>(l.drop 1).take 3) hd
   simpa [List.drop_take,List.drop_drop,List.take_take] using this
  have hlen:=Hez cs b x y v
  have hfb:filB cs b x y v=true:=by unfold filB;rw [hs,hx];rfl
  unfold xfC
  simp only [Ayz,hvw]
  generalize hZ:filL cs b x y v=Z at *
  (repeat' ((first
 | (first|refine Afz ?_|refine Abz ?_)
 | (first|refine Agz ?_|refine Acz ?_|refine Amz ?_)
 | (first|refine Ajz false ?_)
 | (first|(refine Aiz (Akz (Crz _ _ _ _ _ ?_ ?_ ?_)) ?_;(iterate 3 (exact sd));rintro _ _ ⟨rfl,rfl⟩)))<;>(try simp (disch:=omega) only [push_cast,seval,hc,h3,hfb,hZ,hil,hel,Aaz,MVL_true])))
  refine awp_drawQ (a:=l70r3a.take 13) (nth l70r3a 13) (b:=l70r3a.drop 14) (post:=l70r3b) _ [] rfl mixed (by decide) (fun _ _ h=>h) (fun _ h=>by cases h) ?_
  simp (disch:=omega) only [push_cast,seval,List.take_succ_cons,List.take_zero,List.drop_succ_cons,List.drop_zero,nth]
  (repeat' ((first
 | (first|refine Afz ?_|refine Abz ?_)
 | (first|((with_reducible refine Fqz (f:=103) ?_);simp (disch:=omega) only [push_cast,seval,hc,h3,hfb,hZ,hil,hel,Aaz,MVL_true];(refine callFNH (by intro _ _;first|rfl|((simp (disch:=omega) only [push_cast,seval,hc,h3,hfb,hZ,hil,hel,Aaz,MVL_true]);done)|((simp (disch:=omega) only [push_cast,seval,hc,h3,hfb,hZ,hil,hel,Aaz,MVL_true]);rfl)) (Mhz _ _ _ _ _ _ ?_ ?_ ?_ ?_) rfl (by (simp (disch:=omega) only [push_cast,seval,hc,h3,hfb,hZ,hil,hel,Aaz,MVL_true])<;>rfl) (by (simp (disch:=omega) only [push_cast,seval,hc,h3,hfb,hZ,hil,hel,Aaz,MVL_true]);done) (by omega) ?_;(iterate 4 (exact sd)))))
 | (first|refine Aqz false ?_)
 | (first|(refine Aoz (iFill_ok _ _ _ _ _ _ _ _ ?_ ?_ ?_ ?_) ⟨_,_,rfl,rfl⟩ ?_;(iterate 4 (exact sd));rintro _ _ ⟨rfl,rfl⟩)))<;>(try simp (disch:=omega) only [push_cast,seval,hc,h3,hfb,hZ,hil,hel,Aaz,MVL_true])))
  refine ⟨Sees_of fun p hp=>?_,Adz ⟨.inr rfl,Ghz (id0:=368) (id1:=416) (d:=26) (F:=esF es) (cs:=Z) (bufT Z.length es.length true) rfl rfl (fun _ _ _ _ e0 e1=>Ecz e0 e1) rfl rfl (fun j hj=>?_) (by omega)⟩⟩
  ·simp only [List.mem_cons,List.not_mem_nil,or_false] at hp
   rcases hp with rfl|rfl
   ·show hk (_::_::(famD 26 (esF es)++_)) 96=_
    simp only [hk,if_false]
    rw [C6z _ _ _ 96 (by omega)]
    rfl
   ·show hk (_::_::(famD 26 (esF es)++_)) 48=_
    simp only [hk,if_false]
    rw [C6z _ _ _ 48 (by omega)]
    rfl
  ·simp only [hk,Awz _ _ 96 (by omega),Awz _ _ 368 (by omega),Awz _ _ 416 (by omega),if_false]
   exact Bpz 26 (esF es) _ j hj

end Go.Proofs.YtfccepgibbdfaaaGreatDoor
namespace Go.Proofs.YtfccepgibbdfaaaGreatDoor
open VwM Vw Go
variable [SentA]
variable [PowA]

def xcG (cs:List Int)(es:List Ex)(t f:Int):Bool:=((vB cs es&&opA es t)&&opA es f)&&decide ((vwA es t).2.1=(vwA es f).2.1)
def xcC (cs:List Int)(es:List Ex)(t f:Int):List Int:=putL cs (offs (vwA es t).1 (vwA es t).2.1 (vwA es t).2.2) (takesL cs (offs (vwA es f).1 (vwA es f).2.1 (vwA es f).2.2))
theorem Lqz {mem:List Int}{b:Int}{sh st:List Int}{b':Int}{sh' st':List Int}(h:seeB mem b sh st=true)(h':seeB mem b' sh' st'=true):twoB mem b sh st b' sh' st'=decide (sh=sh'):=by
 unfold twoB;rw [h,h'];rfl
theorem Eiz {es:List Ex}{q:Nat}{p b:Int}{x y:List Int}{o:Bool}(he:es[q]?=some (p,(b,x,y),o)):((EL false es).drop (q*5+1)).take 3=[.int .i64 b,.rows false (IL x) x.length,.rows false (IL y) y.length]:=by
 have hd:=Btz false es q he
 simp only at hd
 have:=congrArg (fun l=>(l.drop 1).take 3) hd
 simpa [List.drop_take,List.drop_drop,List.take_take] using this


set_option maxHeartbeats 8000000 in
theorem sCE_ok (cs:List Int)(es:List Ex)(m n:Nat)(t f:Int)(hm:cs.length=m)(hn:es.length=n)(hb:m≤1099511627776∧n≤1099511627776∧exB 1099511627776 es) :
  BCall Tryz.prog 98 [.agg [.rows false (IL cs) m,.rows false (EL false es) n],.int .i64 t,.int .i64 f] [] (OBs (xcG cs es t f) (ifB (xcG cs es t f) (xcC cs es t f)) (ifB (xcG cs es t f) es)):=by
 subst hm hn
 have hb0:=hb
 obtain ⟨hb1,hb2,hb3⟩:=hb
 have hel:=Auz false es
 refine Avz (pins:=[]) (pin:=0) l98_eq rfl rfl rfl ?_
 unfold xcG
 cases hv:vB cs es with
 | false =>
  simp only [Bool.false_and,A0z]
  (repeat' ((first
 | (first|refine Afz ?_|refine Abz ?_)
 | (first|refine Agz ?_|refine Acz ?_)
 | (first|refine Ajz false ?_)
 | (first|(refine Aiz (Akz (Biz _ _ _ _ ?_ ?_ ?_)) ?_;(iterate 3 (exact sd));rintro _ _ ⟨rfl,rfl⟩))
 | (refine Adz ⟨.inr rfl,[16000,16001],[(16000,1),(16001,5)],_,by decide,rfl,?_⟩;(try simp (disch:=omega) only [push_cast,seval,↓Ahz,↓Aez,↓List.map_cons,↓List.map_nil,hv,hel,Aaz])))<;>(try simp (disch:=omega) only [push_cast,seval,hv,hel,Aaz])))
  all_goals simp [OBs,EL]
 | true =>
  obtain ⟨v1,v2,v3⟩:=vB_8 hv
  cases hr:opA es t with
  | false =>
   simp only [Bool.true_and,Bool.false_and,A0z]
   (repeat' ((first
 | (first|refine Afz ?_|refine Abz ?_)
 | (first|refine Agz ?_|refine Acz ?_)
 | (first|refine Ajz false ?_)
 | (first|(refine Aiz (Akz (Biz _ _ _ _ ?_ ?_ ?_)) ?_;(iterate 3 (exact sd));rintro _ _ ⟨rfl,rfl⟩)|(refine Aiz (Akz (Cyz _ _ _ _ _ ?_ ?_ ?_)) ?_;(iterate 3 (exact sd));rintro _ _ ⟨rfl,rfl⟩))
 | (refine Adz ⟨.inr rfl,[16000,16001],[(16000,1),(16001,5)],_,by decide,rfl,?_⟩;(try simp (disch:=omega) only [push_cast,seval,↓Ahz,↓Aez,↓List.map_cons,↓List.map_nil,hv,hr,hel,Aaz])))<;>(try simp (disch:=omega) only [push_cast,seval,hv,hr,hel,Aaz])))
   all_goals simp [OBs,EL]
  | true =>
   cases hrf:opA es f with
 | false =>
    simp only [Bool.true_and,Bool.false_and,A0z]
    (repeat' ((first
 | (first|refine Afz ?_|refine Abz ?_)
 | (first|refine Agz ?_|refine Acz ?_)
 | (first|refine Ajz false ?_)
 | (first|(refine Aiz (Akz (Biz _ _ _ _ ?_ ?_ ?_)) ?_;(iterate 3 (exact sd));rintro _ _ ⟨rfl,rfl⟩)|(refine Aiz (Akz (Cyz _ _ _ _ _ ?_ ?_ ?_)) ?_;(iterate 3 (exact sd));rintro _ _ ⟨rfl,rfl⟩))
 | (refine Adz ⟨.inr rfl,[16000,16001],[(16000,1),(16001,5)],_,by decide,rfl,?_⟩;(try simp (disch:=omega) only [push_cast,seval,↓Ahz,↓Aez,↓List.map_cons,↓List.map_nil,hv,hr,hrf,hel,Aaz])))<;>(try simp (disch:=omega) only [push_cast,seval,hv,hr,hrf,hel,Aaz])))
    all_goals simp [OBs,EL]
 | true =>
    simp only [Bool.true_and]
    obtain ⟨q,p,b,x,y,rfl,hq,he,hvw⟩:=Dbz hr
    obtain ⟨q',p',b',x',y',rfl,hq',he',hvw'⟩:=Dbz hrf
    have hs:=D1z hv he
    have hs':=D1z hv he'
    have hbb:=Cgz hb3 he
    have hbb':=Cgz hb3 he'
    have hil:q*5+5≤es.length*5:=by omega
    have hil':q'*5+5≤es.length*5:=by omega
    have h3:=Eiz he
    have h3':=Eiz he'
    have htw:=Lqz hs hs'
    unfold xcC
    simp only [hvw,hvw']
    have hlen:(putL cs (offs b x y) (takesL cs (offs b' x' y'))).length=cs.length:=C3z ..
    generalize hZ:putL cs (offs b x y) (takesL cs (offs b' x' y'))=Z at *
    cases hx:decide (x=x') with
    | false =>
     rw [hx] at htw
     simp only [A0z]
     (repeat' ((first
 | (first|refine Afz ?_|refine Abz ?_)
 | (first|refine Agz ?_|refine Arz (mid:=l98r3a) (post:=l98r3b) mixed (by decide) ?_|refine Acz ?_|refine Amz ?_)
 | (first|refine Ajz false ?_|refine Aqz false ?_)
 | (first|((first|refine Aiz (Akz (Biz _ _ _ _ ?_ ?_ ?_)) ?_|refine Aoz (Akz (Biz _ _ _ _ ?_ ?_ ?_)) ⟨_,_,rfl,rfl⟩ ?_);(iterate 3 (exact sd));rintro _ _ ⟨rfl,rfl⟩)|((first|refine Aiz (Akz (Cyz _ _ _ _ _ ?_ ?_ ?_)) ?_|refine Aoz (Akz (Cyz _ _ _ _ _ ?_ ?_ ?_)) ⟨_,_,rfl,rfl⟩ ?_);(iterate 3 (exact sd));rintro _ _ ⟨rfl,rfl⟩)|((first|refine Aiz (I8z _ _ _ _ _ _ _ _ _ _ _ _ ?_ ?_ ?_ ?_ ?_ ?_) ?_|refine Aoz (I8z _ _ _ _ _ _ _ _ _ _ _ _ ?_ ?_ ?_ ?_ ?_ ?_) ⟨_,_,rfl,rfl⟩ ?_);(iterate 6 (exact sd));rintro _ _ ⟨rfl,rfl⟩))
 | (refine Adz ⟨.inr rfl,[16000,16001],[(16000,1),(16001,5)],_,by decide,rfl,?_⟩; (try simp (disch := omega) only [push_cast,seval,↓Ahz,↓Aez,↓List.map_cons,↓List.map_nil,hv,hr,hrf,htw,h3,h3',hZ,hil,hil',hel,Aaz,MVL_false])))<;>(try simp (disch:=omega) only [push_cast,seval,hv,hr,hrf,htw,h3,h3',hZ,hil,hil',hel,Aaz,MVL_false])))
     all_goals simp [OBs,EL]
    | true =>
     rw [hx] at htw
     simp only [Ayz]
     (repeat' ((first
 | (first|refine Afz ?_|refine Abz ?_)
 | (first|refine Agz ?_|refine Arz (mid:=l98r3a) (post:=l98r3b) mixed (by decide) ?_|refine Acz ?_|refine Amz ?_)
 | (first|refine Ajz false ?_|refine Aqz false ?_)
 | (first|((first|refine Aiz (Akz (Biz _ _ _ _ ?_ ?_ ?_)) ?_|refine Aoz (Akz (Biz _ _ _ _ ?_ ?_ ?_)) ⟨_,_,rfl,rfl⟩ ?_);(iterate 3 (exact sd));rintro _ _ ⟨rfl,rfl⟩)|((first|refine Aiz (Akz (Cyz _ _ _ _ _ ?_ ?_ ?_)) ?_|refine Aoz (Akz (Cyz _ _ _ _ _ ?_ ?_ ?_)) ⟨_,_,rfl,rfl⟩ ?_);(iterate 3 (exact sd));rintro _ _ ⟨rfl,rfl⟩)|((first|refine Aiz (I8z _ _ _ _ _ _ _ _ _ _ _ _ ?_ ?_ ?_ ?_ ?_ ?_) ?_|refine Aoz (I8z _ _ _ _ _ _ _ _ _ _ _ _ ?_ ?_ ?_ ?_ ?_ ?_) ⟨_,_,rfl,rfl⟩ ?_);(iterate 6 (exact sd));rintro _ _ ⟨rfl,rfl⟩)|((first|refine Aiz (Hpz _ _ _ _ ?_ ?_ ?_) ?_|refine Aoz (Hpz _ _ _ _ ?_ ?_ ?_) ⟨_,_,rfl,rfl⟩ ?_);(iterate 3 (exact sd));rintro _ _ ⟨rfl,rfl⟩))
 | (refine Adz ⟨.inr rfl,[672,785],[],_,by decide,rfl,?_⟩; (try simp (disch := omega) only [push_cast,seval,↓Ahz,↓Aez,↓List.map_cons,↓List.map_nil,hv,hr,hrf,htw,h3,h3',hZ,hil,hil',hel,Aaz,MVL_true])))<;>(try simp (disch:=omega) only [push_cast,seval,hv,hr,hrf,htw,h3,h3',hZ,hil,hil',hel,Aaz,MVL_true])))
     all_goals simp [OBs]


theorem iCopyP_ok (mem:List Int)(b:Int)(sh st:List Int)(b':Int)(sh' st':List Int)(q n m n' m':Nat)(hq:mem.length=q)(hn:sh.length=n)(hm:st.length=m)(hn':sh'.length=n')(hm':st'.length=m')(hb:(q≤1099511627776∧n≤1099511627776∧m≤1099511627776)∧n'≤1099511627776∧m'≤1099511627776):PCall Tryz.prog 107 [.rows false (IL mem) q,.agg [.int .i64 b,.rows false (IL sh) n,.rows false (IL st) m],.agg [.int .i64 b',.rows false (IL sh') n',.rows false (IL st') m']] (fun r=>r=.tup [.rows true (IL (MVL (twoB mem b sh st b' sh' st') (putL mem (offs b sh st) (takesL mem (offs b' sh' st'))))) (MVL (twoB mem b sh st b' sh' st') (putL mem (offs b sh st) (takesL mem (offs b' sh' st')))).length,.bool (twoB mem b sh st b' sh' st')]):=by
 refine (BCall.plain (iCopy_ok mem b sh st b' sh' st' q n m n' m' hq hn hm hn' hm' hb)).mono ?_
 rintro r ⟨r0,H',⟨rfl,rfl⟩,rfl⟩
 simp [AV.ren,nthH,Isz]


set_option maxHeartbeats 8000000 in
theorem iCEno_ok (cs:List Int)(es:List Ex)(m n:Nat)(t f:Int)(hm:cs.length=m)(hn:es.length=n)(hb:m≤1048576∧n≤1048576∧exB 1048576 es)(hg:xcG cs es t f=false) :
  BCall Tryz.prog 71 [.agg [.rows false (IL cs) m,.rows false (EL false es) n],.int .i64 t,.int .i64 f] [] (OBf false [] []):=by
 subst hm hn
 have hb0:=hb
 obtain ⟨hb1,hb2,hb3⟩:=hb
 have hq8:cs.length≤1099511627776∧es.length≤1099511627776∧exB 1099511627776 es:=⟨by omega,by omega,fun e he=>by have:=hb3 e he;omega⟩
 have hel:=Auz false es
 refine Avz (pins:=[]) (pin:=0) l71_eq rfl rfl rfl ?_
 unfold xcG at hg
 cases hc:(vB cs es&&opA es t) with
 | false =>
  (repeat' ((first
 | (first|refine Afz ?_|refine Abz ?_)
 | (first|refine Agz ?_|refine Acz ?_)
 | (first|refine Ajz false ?_)
 | (first|(refine Aiz (Akz (Crz _ _ _ _ _ ?_ ?_ ?_)) ?_;(iterate 3 (exact sd));rintro _ _ ⟨rfl,rfl⟩))
 | (refine Adz ⟨.inr rfl,[16000,16001],[(16000,1),(16001,5)],_,by decide,rfl,?_⟩;(try simp (disch:=omega) only [push_cast,seval,↓Ahz,↓Aez,↓List.map_cons,↓List.map_nil,hc,hel,Aaz])))<;>(try simp (disch:=omega) only [push_cast,seval,hc,hel,Aaz])))
  all_goals simp [OBf,C5z]
 | true =>
  rw [hc,Bool.true_and] at hg
  have hc2:=hc
  rw [Bool.and_eq_true] at hc2
  obtain ⟨hv,hr⟩:=hc2
  cases hc':(vB cs es&&opA es f) with
  | false =>
   (repeat' ((first
 | (first|refine Afz ?_|refine Abz ?_)
 | (first|refine Agz ?_|refine Acz ?_)
 | (first|refine Ajz false ?_)
 | (first|(refine Aiz (Akz (Crz _ _ _ _ _ ?_ ?_ ?_)) ?_;(iterate 3 (exact sd));rintro _ _ ⟨rfl,rfl⟩))
 | (refine Adz ⟨.inr rfl,[16000,16001],[(16000,1),(16001,5)],_,by decide,rfl,?_⟩;(try simp (disch:=omega) only [push_cast,seval,↓Ahz,↓Aez,↓List.map_cons,↓List.map_nil,hc,hc',hel,Aaz])))<;>(try simp (disch:=omega) only [push_cast,seval,hc,hc',hel,Aaz])))
   all_goals simp [OBf,C5z]
  | true =>
   have hrf:opA es f=true:=by rw [hv,Bool.true_and] at hc';exact hc'
   rw [hrf,Bool.true_and] at hg
   obtain ⟨v1,v2,v3⟩:=vB_8 hv
   obtain ⟨q,p,b,x,y,rfl,hq,he,hvw⟩:=Dbz hr
   obtain ⟨q',p',b',x',y',rfl,hq',he',hvw'⟩:=Dbz hrf
   have hs:=D1z hv he
   have hs':=D1z hv he'
   have hbb:=Cgz hb3 he
   have hbb':=Cgz hb3 he'
   have hil:q*5+5≤es.length*5:=by omega
   have hil':q'*5+5≤es.length*5:=by omega
   have h3:=Eiz he
   have h3':=Eiz he'
   have htw:=Lqz hs hs'
   rw [hvw,hvw'] at hg
   rw [hg] at htw
   (repeat' ((first
 | (first|refine Afz ?_|refine Abz ?_)
 | (first|refine Agz ?_|refine Arz (mid:=l71r3a) (post:=l71r3b) mixed (by decide) ?_|refine Acz ?_|refine Amz ?_)
 | (first|refine Ajz false ?_|refine Aqz false ?_)
 | (first|((first|refine Aiz (Akz (Crz _ _ _ _ _ ?_ ?_ ?_)) ?_|refine Aoz (Akz (Crz _ _ _ _ _ ?_ ?_ ?_)) ⟨_,_,rfl,rfl⟩ ?_);(iterate 3 (exact sd));rintro _ _ ⟨rfl,rfl⟩)|((first|refine Aiz (Akz (iCopyP_ok _ _ _ _ _ _ _ _ _ _ _ _ ?_ ?_ ?_ ?_ ?_ ?_)) ?_|refine Aoz (Akz (iCopyP_ok _ _ _ _ _ _ _ _ _ _ _ _ ?_ ?_ ?_ ?_ ?_ ?_)) ⟨_,_,rfl,rfl⟩ ?_);(iterate 6 (exact sd));rintro _ _ ⟨rfl,rfl⟩)|((first|refine Aiz (Grz _ _ _ _ ?_ ?_) ?_|refine Aoz (Grz _ _ _ _ ?_ ?_) ⟨_,_,rfl,rfl⟩ ?_);(iterate 2 (exact sd));rintro _ _ ⟨rfl,rfl⟩))
 | (refine Adz ⟨.inr rfl,[592,593],[],_,by decide,rfl,?_⟩;(try simp (disch:=omega) only [push_cast,seval,↓Ahz,↓Aez,↓List.map_cons,↓List.map_nil,hc,hc',htw,h3,h3',hil,hil',hel,Aaz,MVL_false,IL,List.map_nil,List.length_nil])))<;>(try simp (disch:=omega) only [push_cast,seval,hc,hc',htw,h3,h3',hil,hil',hel,Aaz,MVL_false,IL,List.map_nil,List.length_nil])))
   all_goals simp [OBf,C5z,EL]




set_option maxHeartbeats 8000000 in
theorem iCE_ok (cs:List Int)(es:List Ex)(m n:Nat)(t f:Int)(hm:cs.length=m)(hn:es.length=n)(hb:m≤1048576∧n≤1048576∧exB 1048576 es) :
  BCall Tryz.prog 71 [.agg [.rows false (IL cs) m,.rows false (EL false es) n],.int .i64 t,.int .i64 f] [] (OBf (xcG cs es t f) (ifB (xcG cs es t f) (xcC cs es t f)) (ifB (xcG cs es t f) es)):=by
 subst hm hn
 have hb0:=hb
 obtain ⟨hb1,hb2,hb3⟩:=hb
 have hq8:cs.length≤1099511627776∧es.length≤1099511627776∧exB 1099511627776 es:=⟨by omega,by omega,fun e he=>by have:=hb3 e he;omega⟩
 have hel:=Auz false es
 cases hg:xcG cs es t f with
 | false=>exact iCEno_ok cs es _ _ t f rfl rfl hb0 hg
 | true =>
  refine Avz (pins:=[]) (pin:=0) l71_eq rfl rfl rfl ?_
  have hg2:=hg
  unfold xcG at hg2
  rw [Bool.and_eq_true,Bool.and_eq_true] at hg2
  obtain ⟨⟨hc,hrf⟩,hx⟩:=hg2
  have hc2:=hc
  rw [Bool.and_eq_true] at hc2
  obtain ⟨hv,hr⟩:=hc2
  have hc':(vB cs es&&opA es f)=true:=by rw [hv,hrf];rfl
  obtain ⟨v1,v2,v3⟩:=vB_8 hv
  obtain ⟨q,p,b,x,y,rfl,hq,he,hvw⟩:=Dbz hr
  obtain ⟨q',p',b',x',y',rfl,hq',he',hvw'⟩:=Dbz hrf
  have hs:=D1z hv he
  have hs':=D1z hv he'
  have hbb:=Cgz hb3 he
  have hbb':=Cgz hb3 he'
  have hil:q*5+5≤es.length*5:=by omega
  have hil':q'*5+5≤es.length*5:=by omega
  have h3:=Eiz he
  have h3':=Eiz he'
  have htw:=Lqz hs hs'
  rw [hvw,hvw'] at hx
  rw [hx] at htw
  unfold xcC
  simp only [Ayz,hvw,hvw']
  have hlen:(putL cs (offs b x y) (takesL cs (offs b' x' y'))).length=cs.length:=C3z ..
  generalize hZ:putL cs (offs b x y) (takesL cs (offs b' x' y'))=Z at *
  (repeat' ((first
 | (first|refine Afz ?_|refine Abz ?_)
 | (first|refine Agz ?_|refine Acz ?_|refine Amz ?_)
 | (first|refine Ajz false ?_)
 | (first|(refine Aiz (Akz (Crz _ _ _ _ _ ?_ ?_ ?_)) ?_;(iterate 3 (exact sd));rintro _ _ ⟨rfl,rfl⟩)))<;>(try simp (disch:=omega) only [push_cast,seval,hc,hc',h3,h3',htw,hZ,hil,hil',hel,Aaz,MVL_true])))
  refine awp_drawQ (a:=l71r3a.take 18) (nth l71r3a 18) (b:=l71r3a.drop 19) (post:=l71r3b) _ [] rfl mixed (by decide) (fun _ _ h=>h) (fun _ h=>by cases h) ?_
  simp (disch:=omega) only [push_cast,seval,List.take_succ_cons,List.take_zero,List.drop_succ_cons,List.drop_zero,nth]
  (repeat' ((first
 | (first|refine Afz ?_|refine Abz ?_)
 | (first|((with_reducible refine Fqz (f:=103) ?_);simp (disch:=omega) only [push_cast,seval,hc,hc',h3,h3',htw,hZ,hil,hil',hel,Aaz,MVL_true];(refine callFNH (by intro _ _;first|rfl|((simp (disch:=omega) only [push_cast,seval,hc,hc',h3,h3',htw,hZ,hil,hil',hel,Aaz,MVL_true]);done)|((simp (disch:=omega) only [push_cast,seval,hc,hc',h3,h3',htw,hZ,hil,hil',hel,Aaz,MVL_true]);rfl)) (Mhz _ _ _ _ _ _ ?_ ?_ ?_ ?_) rfl (by (simp (disch:=omega) only [push_cast,seval,hc,hc',h3,h3',htw,hZ,hil,hil',hel,Aaz,MVL_true])<;>rfl) (by (simp (disch:=omega) only [push_cast,seval,hc,hc',h3,h3',htw,hZ,hil,hil',hel,Aaz,MVL_true]);done) (by omega) ?_;(iterate 4 (exact sd)))))
 | (first|refine Aqz false ?_)
 | (first|(refine Aoz (iCopy_ok _ _ _ _ _ _ _ _ _ _ _ _ ?_ ?_ ?_ ?_ ?_ ?_) ⟨_,_,rfl,rfl⟩ ?_;(iterate 6 (exact sd));rintro _ _ ⟨rfl,rfl⟩)))<;>(try simp (disch:=omega) only [push_cast,seval,hc,hc',h3,h3',htw,hZ,hil,hil',hel,Aaz,MVL_true])))
  refine ⟨Sees_of fun p hp=>?_,Adz ⟨.inr rfl,Ghz (id0:=544) (id1:=592) (d:=37) (F:=esF es) (cs:=Z) (bufT Z.length es.length true) rfl rfl (fun _ _ _ _ e0 e1=>Ecz e0 e1) rfl rfl (fun j hj=>?_) (by omega)⟩⟩
  ·simp only [List.mem_cons,List.not_mem_nil,or_false] at hp
   rcases hp with rfl|rfl
   ·show hk (_::_::(famD 37 (esF es)++_)) 96=_
    simp only [hk,if_false]
    rw [C6z _ _ _ 96 (by omega)]
    rfl
   ·show hk (_::_::(famD 37 (esF es)++_)) 48=_
    simp only [hk,if_false]
    rw [C6z _ _ _ 48 (by omega)]
    rfl
  ·simp only [hk,Awz _ _ 96 (by omega),Awz _ _ 544 (by omega),Awz _ _ 592 (by omega),if_false]
   exact Bpz 37 (esF es) _ j hj

end Go.Proofs.YtfccepgibbdfaaaGreatDoor
namespace Go.Proofs.YtfccepgibbdfaaaGreatDoor
open VwM Vw Go
variable [SentA]
variable [PowA]

/-- The first cells,and zeros. -/
def rz (cs:List Int)(N i:Nat):List Int:=(List.range N).map fun j=>if j<i then cs.getD j 0 else 0
def zz (cs:List Int)(N:Nat):List Int:=(List.range N).map fun j=>cs.getD j 0
theorem rz_length (cs:List Int)(N i:Nat):(rz cs N i).length=N:=by simp [rz]
theorem Jgz (cs:List Int)(N:Nat):(zz cs N).length=N:=by simp [zz]
theorem rz_zero (cs:List Int)(N:Nat):rz cs N 0=List.replicate N 0:=by
 unfold rz
 apply List.ext_getElem?
 intro j
 rw [List.getElem?_map]
 by_cases h:j<N
 ·rw [List.getElem?_range h,List.getElem?_replicate];simp [h]
 ·rw [List.getElem?_eq_none (by simp;omega),List.getElem?_eq_none (by simp;omega)];rfl
theorem rz_set (cs:List Int)(N i:Nat):(rz cs N i).set i (cs.getD i 0)=rz cs N (i+1):=by
 unfold rz
 apply List.ext_getElem?
 intro j
 rw [List.getElem?_set,List.getElem?_map,List.getElem?_map]
 by_cases h:j<N
 ·rw [List.getElem?_range h]
  by_cases e:i=j
  ·subst e;simp [h]
  ·rw [if_neg e]
   simp only [Option.map_some]
   by_cases h2:j<i
   ·rw [if_pos h2,if_pos (by omega)]
   ·rw [if_neg h2,if_neg (by omega)]
 ·rw [List.getElem?_eq_none (by simp;omega)]
  split
  ·rename_i e;simp only [List.length_map,List.length_range];rw [if_neg (by omega)];first|done|rfl
  ·rfl
theorem rz_done {cs:List Int}{N i:Nat}(h:N≤i∨cs.length≤i):rz cs N i=zz cs N:=by
 unfold rz zz
 refine List.map_congr_left fun j hj=>?_
 have hj:=List.mem_range.1 hj
 by_cases h2:j<i
 ·rw [if_pos h2]
 ·rw [if_neg h2,List.getD_eq_getElem?_getD,List.getElem?_eq_none (by omega)];rfl
theorem cpy_zz (cs:List Int)(N:Nat):setRange (IL (List.replicate N 0)) 0 ((IL cs).take (min cs.length N*1))=IL (zz cs N):=by
 have e:IL (List.replicate N 0)=[]++(IL (List.replicate (min cs.length N) 0)++IL (List.replicate (N-min cs.length N) 0)):=by
  unfold IL
  rw [List.nil_append,← List.map_append,List.replicate_append_replicate]
  congr 2;omega
 have h:=F0z ((IL cs).take (min cs.length N*1)) [] (IL (List.replicate (min cs.length N) 0)) (IL (List.replicate (N-min cs.length N) 0)) (by unfold IL;simp)
 rw [e]
 refine h.trans ?_
 rw [List.nil_append]
 unfold IL
 rw [← List.map_take,← List.map_append]
 congr 1
 apply List.ext_getElem?
 intro j
 unfold zz
 by_cases hj:j<min cs.length N
 ·rw [List.getElem?_append_left (by simp;omega),List.getElem?_take,if_pos (by omega),List.getElem?_map,List.getElem?_range (by omega),List.getElem?_eq_getElem (by omega)]
  simp only [Option.map_some,List.getD_eq_getElem?_getD]
  rw [List.getElem?_eq_getElem (by omega)];rfl
 ·rw [List.getElem?_append_right (by simp;omega),List.getElem?_map,List.getElem?_replicate]
  have hl:(List.take (min cs.length N*1) cs).length=min cs.length N:=by simp
  rw [hl]
  by_cases h2:j<N
  ·rw [if_pos (by omega),List.getElem?_range h2]
   simp only [Option.map_some,List.getD_eq_getElem?_getD]
   rw [List.getElem?_eq_none (by omega)];rfl
  ·rw [if_neg (by omega),List.getElem?_eq_none (by simp;omega),Option.map_none]
theorem Exz {es:List Ex}:∀ {k:Nat},opensT es k=[]↔∀ i e,i<k→es[i]?=some e→¬ e.2.2=true
 | 0=>by simp [opensT]
 | k+1=>by
  constructor
  ·intro h i e hi he
   cases hk:es[k]? with
 | none =>
    by_cases hik:i=k
    ·subst hik;rw [hk] at he;cases he
    ·simp only [opensT,hk] at h
     exact Exz.1 h i e (by omega) he
 | some f =>
    by_cases hf:f.2.2=true
    ·rw [Eyz hk hf] at h;simp at h
    ·rw [Ezz hk hf] at h
     by_cases hik:i=k
     ·subst hik;rw [hk] at he;injection he with he;subst he;exact hf
     ·exact Exz.1 h i e (by omega) he
  ·intro h
   have ih:opensT es k=[]:=Exz.2 fun i e hi he=>h i e (by omega) he
   cases hk:es[k]? with
 | none=>simp only [opensT,hk];exact ih
 | some f=>rw [Ezz hk (h k f (by omega) hk)];exact ih
/-- With an open export one of them hangs on the buffer itself. -/
theorem open_root {cs:List Int}{es:List Ex}(h:vB cs es=true):(opensT es es.length).length=0↔(kidsT es (-1) es.length).length=0:=by
 rw [List.length_eq_zero_iff,List.length_eq_zero_iff,Exz,Ffz]
 constructor
 ·intro h1 i e hi he hh
  exact h1 i e hi he hh.1
 ·intro h1
  have hp:=(vB_8 h).2.2
  unfold vB at h
  simp only [Bool.and_eq_true,decide_eq_true_eq] at h
  have ha:=(Dfz (f:=sxV cs.length es)).1 h.2
  intro i
  induction i using Nat.strongRecOn with
  | ind i ih =>
   intro e hi he ho
   have h2:=ha i e hi he
   unfold sxV at h2
   rw [ho] at h2
   simp only [Bool.and_eq_true,Bool.not_true,Bool.false_or,Bool.or_eq_true,decide_eq_true_eq] at h2
   have hpe:=hp i e he
   rcases h2.2 with hx|hx
   ·exact h1 i e hi he ⟨ho,by omega⟩
   ·obtain ⟨q,hq⟩:∃ q:Nat,e.1=q∨e.1=-1:=⟨e.1.toNat,by omega⟩
    rcases hq with hq|hq
    ·unfold opE at hx
     rw [hq,Int.toNat_natCast] at hx
     have hql:q<i:=by omega
     cases hf:es[q]? with
     | none=>rw [hf] at hx;cases hx
     | some f =>
      rw [hf] at hx
      exact ih q hql f (by omega) hf hx
    ·exact h1 i e hi he ⟨ho,hq⟩
def rzG (cs:List Int)(es:List Ex)(s:Int):Bool:=(vB cs es&&(decide (0≤s)&&decide (s≤60)))&&decide ((opensT es es.length).length=0)


set_option maxHeartbeats 8000000 in
theorem sRz_ok (cs:List Int)(es:List Ex)(m n:Nat)(s:Int)(hm:cs.length=m)(hn:es.length=n)(hb:m≤1099511627776∧n≤1099511627776∧exB 1099511627776 es) :
  BCall Tryz.prog 94 [.agg [.rows false (IL cs) m,.rows false (EL false es) n],.int .i64 s] [] (OBs (rzG cs es s) (ifB (rzG cs es s) (zz cs s.toNat)) (ifB (rzG cs es s) es)):=by
 subst hm hn
 have hb0:=hb
 obtain ⟨hb1,hb2,hb3⟩:=hb
 have hel:=Auz false es
 refine Avz (pins:=[]) (pin:=0) l94_eq rfl rfl rfl ?_
 unfold rzG
 cases hv:vB cs es with
 | false =>
  simp only [Bool.false_and,A0z]
  (repeat' ((first
 | (first|refine Afz ?_|refine Abz ?_)
 | (first|refine Agz ?_|refine Acz ?_)
 | (first|refine Ajz false ?_)
 | (first|(refine Aiz (Akz (Biz _ _ _ _ ?_ ?_ ?_)) ?_;(iterate 3 (exact sd));rintro _ _ ⟨rfl,rfl⟩))
 | (refine Adz ⟨.inr rfl,[16000,16001],[(16000,1),(16001,5)],_,by decide,rfl,?_⟩;(try simp (disch:=omega) only [push_cast,seval,↓Ahz,↓Aez,↓List.map_cons,↓List.map_nil,hv,hel,Aaz])))<;>(try simp (disch:=omega) only [push_cast,seval,hv,hel,Aaz])))
  all_goals simp [OBs,EL]
 | true =>
  obtain ⟨v1,v2,v3⟩:=vB_8 hv
  simp only [Bool.true_and]
  cases hr:(decide (0≤s)&&decide (s≤60)) with
  | false =>
   simp only [Bool.false_and,A0z]
   (repeat' ((first
 | (first|refine Afz ?_|refine Abz ?_)
 | (first|refine Agz ?_|refine Acz ?_)
 | (first|refine Ajz false ?_)
 | (first|(refine Aiz (Akz (Biz _ _ _ _ ?_ ?_ ?_)) ?_;(iterate 3 (exact sd));rintro _ _ ⟨rfl,rfl⟩)|(refine Aiz (Akz (A1z _ _ _)) ?_;rintro _ _ ⟨rfl,rfl⟩))
 | (refine Adz ⟨.inr rfl,[16000,16001],[(16000,1),(16001,5)],_,by decide,rfl,?_⟩;(try simp (disch:=omega) only [push_cast,seval,↓Ahz,↓Aez,↓List.map_cons,↓List.map_nil,hv,hr,hel,Aaz])))<;>(try simp (disch:=omega) only [push_cast,seval,hv,hr,hel,Aaz])))
   all_goals simp [OBs,EL]
  | true =>
   simp only [Bool.true_and]
   have hr2:=hr
   rw [Bool.and_eq_true,decide_eq_true_eq,decide_eq_true_eq] at hr2
   have hop:opensA cs es=opensT es es.length:=by unfold opensA;rw [if_pos hv]
   generalize hK:opensT es es.length=K at *
   by_cases hk0:K.length=0
   ·rw [decide_eq_true hk0]
    obtain ⟨N,rfl⟩:∃ N:Nat,s=N:=⟨s.toNat,by omega⟩
    simp only [Ayz,Int.toNat_natCast]
    (repeat' ((first
 | (first|refine Afz ?_|refine Abz ?_)
 | (first|refine Agz ?_|refine Acz ?_|refine Amz ?_)
 | (first|refine Ajz false ?_)
 | (first|(refine Aiz (Akz (Biz _ _ _ _ ?_ ?_ ?_)) ?_;(iterate 3 (exact sd));rintro _ _ ⟨rfl,rfl⟩)|(refine Aiz (Akz (A1z _ _ _)) ?_;rintro _ _ ⟨rfl,rfl⟩)|(refine Aiz (L0z _ _ _ _ ?_ ?_ ?_) ?_;(iterate 3 (exact sd));rintro _ _ ⟨rfl,rfl⟩)|(refine Aiz (Hpz _ _ _ _ ?_ ?_ ?_) ?_;(iterate 3 (exact sd));rintro _ _ ⟨rfl,rfl⟩)))<;>(try simp (disch:=omega) only [push_cast,seval,hv,hr,hop,hk0,hel,Aaz])))
    refine Duz (fun i:Nat=>mkS [(1,.int .i64 N),(2,.ref 32 2 0),(4,.ref 64 2 0),(6,.ref 96 2 0),(7,.int .i64 i)] [(32,[.rows false (IL cs) cs.length,.rows false (EL false es) es.length]),(64,[.val (.slice none 0 0),.val (.slice none 0 0)]),(96,[.own 416 N 1,.own 385 es.length 5]),(385,EL true es),(416,IL (rz cs N i))]) (fun i=>i≤N∧i≤cs.length) (fun i=>N-i) 0 ⟨Nat.zero_le _,Nat.zero_le _⟩ ?_ ?_
    ·refine SubW.of ?_
     rw [rz_zero]
     (refine Sub.of_lists ?_ ?_ ?_ ?_ ?_<;>simp [Vw.mkS,Vw.lk,Vw.hk,AV.inn,innL,Apz,Anz,Asz,-List.map_set,-List.getD_eq_getElem?_getD,Aaz])
    ·rintro i ⟨hi,hi2⟩
     have hrl:=rz_length cs N i
     by_cases hlt:i<N∧i<cs.length
     ·have hrs:=rz_set cs N i
      have hrs2:(IL (rz cs N i)).set i (.int .i64 (cs.getD i 0))=IL (rz cs N (i+1)):=by rw [← hrs];unfold IL;rw [List.map_set]
      obtain ⟨l1,l2⟩:=hlt
      (repeat' (first
 | (first|refine Afz ?_|refine Abz ?_)
 | ((first|refine Agz ?_|refine Arz (mid:=l94r7a) (post:=l94r7b) mixed (by decide) ?_|refine Acz ?_|refine Amz ?_);simp (disch:=omega) only [push_cast,seval,hel,hrl,hrs2,Aaz])
 | ((first | refine Alz (fun h => ?_) (fun h => ?_) | refine A4z (fun h => ?_) (fun h => ?_)) <;> (try simp only [h]) <;> (try simp only [bitvec_to_nat] at h) <;> (try simp only [h]) <;> (first | (exfalso; omega) | (focus (exfalso; simp_all; done)) | (simp (disch := omega) only [push_cast,seval,hel,hrl,hrs2,Aaz]) | skip))))
      refine ⟨i+1,⟨by omega,by omega⟩,by omega,SubW.of ?_⟩
      (refine Sub.of_lists ?_ ?_ ?_ ?_ ?_<;>simp [Vw.mkS,Vw.lk,Vw.hk,AV.inn,innL,Apz,Anz,Asz,-List.map_set,-List.getD_eq_getElem?_getD,Aaz])
     ·have hd:rz cs N i=zz cs N:=rz_done (by omega)
      (repeat' (first
 | (first|refine Afz ?_|refine Abz ?_)
 | ((first|refine Agz ?_|refine Acz ?_|refine Azz ?_);simp (disch:=omega) only [push_cast,seval,hel,hd,Aaz])
 | ((first|refine Alz (fun h=>?_) (fun h=>?_)|refine A4z (fun h=>?_) (fun h=>?_))<;>(try simp only [h])<;>(try simp only [bitvec_to_nat] at h)<;>(try simp only [h])<;>(first|(exfalso;omega)|(exfalso;simp_all;done)|(simp (disch:=omega) only [push_cast,seval,hel,hd,Aaz])|skip))
 | (refine Adz ⟨.inr rfl,[416,385],[],_,by decide,rfl,?_⟩; (try simp (disch := omega) only [push_cast,seval,↓Ahz,↓Aez,↓List.map_cons,↓List.map_nil,hel,hd,Aaz]))))
      all_goals simp [OBs,Jgz]
   ·rw [decide_eq_false hk0]
    simp only [A0z]
    (repeat' ((first
 | (first|refine Afz ?_|refine Abz ?_)
 | (first|refine Agz ?_|refine Acz ?_)
 | ((first|refine Alz (fun h=>?_) (fun h=>?_))<;>(try simp only [h])<;>(try simp only [bitvec_to_nat] at h)<;>(try simp only [h])<;>(first|(exfalso;omega)|(exfalso;simp_all;done)|skip))
 | (first|refine Ajz false ?_)
 | (first|(refine Aiz (Akz (Biz _ _ _ _ ?_ ?_ ?_)) ?_;(iterate 3 (exact sd));rintro _ _ ⟨rfl,rfl⟩)|(refine Aiz (Akz (A1z _ _ _)) ?_;rintro _ _ ⟨rfl,rfl⟩)|(refine Aiz (L0z _ _ _ _ ?_ ?_ ?_) ?_;(iterate 3 (exact sd));rintro _ _ ⟨rfl,rfl⟩))
 | (refine Adz ⟨.inr rfl,[16000,16001],[(16000,1),(16001,5)],_,by decide,rfl,?_⟩;(try simp (disch:=omega) only [push_cast,seval,↓Ahz,↓Aez,↓List.map_cons,↓List.map_nil,hv,hr,hop,hk0,hel,Aaz])))<;>(try simp (disch:=omega) only [push_cast,seval,hv,hr,hop,hk0,hel,Aaz])))
    all_goals simp [OBs,EL]


set_option maxHeartbeats 8000000 in
theorem iRz_ok (cs:List Int)(es:List Ex)(m n:Nat)(s:Int)(hm:cs.length=m)(hn:es.length=n)(hb:m≤1048576∧n≤1048576∧exB 1048576 es) :
  BCall Tryz.prog 67 [.agg [.rows false (IL cs) m,.rows false (EL false es) n],.int .i64 s] [] (OBf (rzG cs es s) (ifB (rzG cs es s) (zz cs s.toNat)) (ifB (rzG cs es s) es)):=by
 subst hm hn
 have hb0:=hb
 obtain ⟨hb1,hb2,hb3⟩:=hb
 have hq8:cs.length≤1099511627776∧es.length≤1099511627776∧exB 1099511627776 es:=⟨by omega,by omega,fun e he=>by have:=hb3 e he;omega⟩
 have hel:=Auz false es
 refine Avz (pins:=[]) (pin:=0) l67_eq rfl rfl rfl ?_
 unfold rzG
 cases hv:vB cs es with
 | false =>
  simp only [Bool.false_and,A0z]
  (repeat' ((first
 | (first|refine Afz ?_|refine Abz ?_)
 | (first|refine Agz ?_|refine Arz (mid:=l67r1a) (post:=l67r1b) mixed (by decide) ?_|refine Acz ?_)
 | (first|refine Aqz false ?_)
 | (first|(refine Aoz (Akz (Buz _ _ _ _ ?_ ?_ ?_)) ⟨_,_,rfl,rfl⟩ ?_;(iterate 3 (exact sd));rintro _ _ ⟨rfl,rfl⟩))
 | (refine Adz ⟨.inr rfl,[16000,16001],[(16000,1),(16001,5)],_,by decide,rfl,?_⟩;(try simp (disch:=omega) only [push_cast,seval,↓Ahz,↓Aez,↓List.map_cons,↓List.map_nil,hv,hel,Aaz])))<;>(try simp (disch:=omega) only [push_cast,seval,hv,hel,Aaz])))
  all_goals simp [OBf,C5z]
 | true =>
  obtain ⟨v1,v2,v3⟩:=vB_8 hv
  simp only [Bool.true_and]
  cases hr:(decide (0≤s)&&decide (s≤60)) with
  | false =>
   simp only [Bool.false_and,A0z]
   (repeat' ((first
 | (first|refine Afz ?_|refine Abz ?_)
 | (first|refine Agz ?_|refine Arz (mid:=l67r1a) (post:=l67r1b) mixed (by decide) ?_|refine Acz ?_)
 | (first|refine Aqz false ?_)
 | (first|(refine Aoz (Akz (Buz _ _ _ _ ?_ ?_ ?_)) ⟨_,_,rfl,rfl⟩ ?_;(iterate 3 (exact sd));rintro _ _ ⟨rfl,rfl⟩)|(refine Aoz (Akz (Caz _)) ⟨_,_,rfl,rfl⟩ ?_;rintro _ _ ⟨rfl,rfl⟩))
 | (refine Adz ⟨.inr rfl,[16000,16001],[(16000,1),(16001,5)],_,by decide,rfl,?_⟩;(try simp (disch:=omega) only [push_cast,seval,↓Ahz,↓Aez,↓List.map_cons,↓List.map_nil,hv,hr,hel,Aaz])))<;>(try simp (disch:=omega) only [push_cast,seval,hv,hr,hel,Aaz])))
   all_goals simp [OBf,C5z]
  | true =>
   simp only [Bool.true_and]
   have hr2:=hr
   rw [Bool.and_eq_true,decide_eq_true_eq,decide_eq_true_eq] at hr2
   have hroot:=open_root hv
   have hid:-1≤(-1:Int)∧(-1:Int)<es.length:=by omega
   have hkl:=D9z es (-1) es.length
   generalize opensT es es.length=K at *
   generalize hK:kidsT es (-1) es.length=L at *
   by_cases hk0:K.length=0
   ·have hl0:=hroot.1 hk0
    rw [decide_eq_true hk0]
    obtain ⟨N,rfl⟩:∃ N:Nat,s=N:=⟨s.toNat,by omega⟩
    simp only [Ayz,Int.toNat_natCast]
    have hcz:=cpy_zz cs N
    rw [Nat.mul_one,show IL (List.replicate N 0)=List.replicate N (AV.int .i64 0) by unfold IL;simp] at hcz
    have hzl:=Jgz cs N
    (repeat' ((first
 | (first|refine Afz ?_|refine Abz ?_)
 | (first|refine Agz ?_|refine Arz (mid:=l67r1a) (post:=l67r1b) mixed (by decide) ?_|refine Acz ?_|refine Amz ?_)
 | (first|((with_reducible refine Fqz (f:=103) ?_);simp (disch:=omega) only [push_cast,seval,hv,hr,hK,hl0,hel,hcz,Aaz,B5z,Bcz,Nat.lt_irrefl,decide_false];(refine callFNH (by intro _ _;first|rfl|((simp (disch:=omega) only [push_cast,seval,hv,hr,hK,hl0,hel,hcz,Aaz,B5z,Bcz,Nat.lt_irrefl,decide_false]);done)|((simp (disch:=omega) only [push_cast,seval,hv,hr,hK,hl0,hel,hcz,Aaz,B5z,Bcz,Nat.lt_irrefl,decide_false]);rfl)) (Mhz _ _ _ _ _ _ ?_ ?_ ?_ ?_) rfl (by (simp (disch:=omega) only [push_cast,seval,hv,hr,hK,hl0,hel,hcz,Aaz,B5z,Bcz,Nat.lt_irrefl,decide_false])<;>rfl) (by (simp (disch:=omega) only [push_cast,seval,hv,hr,hK,hl0,hel,hcz,Aaz,B5z,Bcz,Nat.lt_irrefl,decide_false]);done) (by omega) ?_;(iterate 4 (exact sd)))))
 | (first|refine Ajz false ?_|refine Aqz false ?_)
 | (first|((first|refine Aiz (Akz (Buz _ _ _ _ ?_ ?_ ?_)) ?_|refine Aoz (Akz (Buz _ _ _ _ ?_ ?_ ?_)) ⟨_,_,rfl,rfl⟩ ?_);(iterate 3 (exact sd));rintro _ _ ⟨rfl,rfl⟩)|((first|refine Aiz (Akz (Caz _)) ?_|refine Aoz (Akz (Caz _)) ⟨_,_,rfl,rfl⟩ ?_);rintro _ _ ⟨rfl,rfl⟩)|((first|refine Aiz (Akz (C0z _ _ _ _ _ ?_ ?_ ?_ ?_ ?_)) ?_|refine Aoz (Akz (C0z _ _ _ _ _ ?_ ?_ ?_ ?_ ?_)) ⟨_,_,rfl,rfl⟩ ?_);(iterate 5 (exact sd));rintro _ _ ⟨rfl,rfl⟩)|((first|refine Aiz (Akz (Dxz _ _ ?_ ?_)) ?_|refine Aoz (Akz (Dxz _ _ ?_ ?_)) ⟨_,_,rfl,rfl⟩ ?_);(iterate 2 (exact sd));rintro _ _ ⟨rfl,rfl⟩)|((first|refine Aiz (Akz (Ciz _)) ?_|refine Aoz (Akz (Ciz _)) ⟨_,_,rfl,rfl⟩ ?_);rintro _ _ ⟨rfl,rfl⟩)))<;>(try simp (disch:=omega) only [push_cast,seval,hv,hr,hK,hl0,hel,hcz,Aaz,B5z,Bcz,Nat.lt_irrefl,decide_false])))
    refine Adz ⟨.inr rfl,?_⟩
    simp only [OBf,hzl]
    refine Ghz (id0:=384) (id1:=496) (d:=31) (F:=esF es) (cs:=zz cs N) (bufT N es.length true) rfl rfl (fun _ _ _ _ e0 e1=>Ecz e0 e1) rfl rfl (fun j hj=>?_) (by omega)
    simp only [hk,Awz _ _ 64 (by omega),Awz _ _ 384 (by omega),Awz _ _ 496 (by omega),if_false]
    exact Bpz 31 (esF es) _ j hj
   ·have hl0:0<L.length:=by have:=mt hroot.2 hk0;omega
    rw [decide_eq_false hk0]
    simp only [A0z]
    (repeat' ((first
 | (first|refine Afz ?_|refine Abz ?_)
 | (first|refine Agz ?_|refine Arz (mid:=l67r1a) (post:=l67r1b) mixed (by decide) ?_|refine Acz ?_)
 | (first|refine Ajz false ?_|refine Aqz false ?_)
 | (first|((first|refine Aiz (Akz (Buz _ _ _ _ ?_ ?_ ?_)) ?_|refine Aoz (Akz (Buz _ _ _ _ ?_ ?_ ?_)) ⟨_,_,rfl,rfl⟩ ?_);(iterate 3 (exact sd));rintro _ _ ⟨rfl,rfl⟩)|((first|refine Aiz (Akz (Caz _)) ?_|refine Aoz (Akz (Caz _)) ⟨_,_,rfl,rfl⟩ ?_);rintro _ _ ⟨rfl,rfl⟩)|((first|refine Aiz (Akz (C0z _ _ _ _ _ ?_ ?_ ?_ ?_ ?_)) ?_|refine Aoz (Akz (C0z _ _ _ _ _ ?_ ?_ ?_ ?_ ?_)) ⟨_,_,rfl,rfl⟩ ?_);(iterate 5 (exact sd));rintro _ _ ⟨rfl,rfl⟩)|((first|refine Aiz (Akz (Dxz _ _ ?_ ?_)) ?_|refine Aoz (Akz (Dxz _ _ ?_ ?_)) ⟨_,_,rfl,rfl⟩ ?_);(iterate 2 (exact sd));rintro _ _ ⟨rfl,rfl⟩)|((first|refine Aiz (Akz (Ciz _)) ?_|refine Aoz (Akz (Ciz _)) ⟨_,_,rfl,rfl⟩ ?_);rintro _ _ ⟨rfl,rfl⟩))
 | (refine Adz ⟨.inr rfl,[16000,16001],[(16000,1),(16001,5)],_,by decide,rfl,?_⟩;(try simp (disch:=omega) only [push_cast,seval,↓Ahz,↓Aez,↓List.map_cons,↓List.map_nil,hv,hr,hK,hl0,hel,Aaz,B5z,Bcz,decide_true])))<;>(try simp (disch:=omega) only [push_cast,seval,hv,hr,hK,hl0,hel,Aaz,B5z,Bcz,decide_true])))
    all_goals simp [OBf,C5z]

end Go.Proofs.YtfccepgibbdfaaaGreatDoor
