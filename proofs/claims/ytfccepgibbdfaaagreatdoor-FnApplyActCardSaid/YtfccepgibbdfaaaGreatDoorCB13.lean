/- Texts of this verifier. -/
import Derived.Test.YtfccepgibbdfaaaGreatDoorCB12
import Derived.Test.YtfccepgibbdfaaaGreatDoorCM1
import Derived.Laws.Strings
set_option maxHeartbeats 4000000
set_option linter.unusedSimpArgs false
set_option linter.unusedSectionVars false
set_option linter.unusedVariables false
set_option maxRecDepth 4000
namespace Go.Proofs.YtfccepgibbdfaaaGreatDoor
open VwM Vw Go
variable [SentA]
variable [PowA]

variable [PowB]
def aaG (cs:List Int)(es:List Ex)(k:Int)(y:List Int):Bool:=vB cs es&&vA k y
def anT (cs:List Int)(es:List Ex)(k:Int)(y:List Int):ByteArray:=if k=6 then txB hasB (loadA cs es (y.getD 0 0)) else if k=1∨k=2∨k=3 then txB atB [(es.length:Int)-1] else okB2
theorem OBp_plain {P:Program}{f:Nat}{args:List AV}{cs:List Int}{es:List Ex}(h:BCall P f args [] (fun r H'=>r=.agg [.own 0 cs.length 1,.own 1 es.length 5]∧H'=IL cs::(esF es).cellsG (· + 2)::(esF es).conts)):PCall P f args (fun r=>r=.agg [.rows true (IL cs) cs.length,.rows true (EL true es) es.length]):=by
 refine (BCall.plain h).mono ?_
 rintro r ⟨r0,H',⟨rfl,rfl⟩,rfl⟩
 have e0:nthH (IL cs::(esF es).cellsG (· + 2)::(esF es).conts) 0=some (IL cs):=rfl
 have e1:nthH (IL cs::(esF es).cellsG (· + 2)::(esF es).conts) 1=some ((esF es).cellsG (· + 2)):=rfl
 show AV.agg [AV.ren _ _ true some 4 (.own 0 cs.length 1),AV.ren _ _ true some 4 (.own 1 es.length 5)]=_
 rw [Emz,Emz,e0,e1,Evz,Evz,if_pos (by unfold IL;simp),if_pos (by rw [Fpz,eF_C])]
 have e2:((esF es).cellsG (· + 2)).map (AV.ren (fun _=>none) (nthH (IL cs::(esF es).cellsG (· + 2)::(esF es).conts)) true some 3)=EL true es:=by
  rw [← Khz]
  unfold Fam.cellsG Fam.plain
  rw [C2z]
  refine Bxz fun p hp=>(esF es).ren_plain fun j hj=>⟨rfl,?_⟩
  have hjR:=(esF es).ok p j hp hj
  show ((esF es).conts)[j]?=_
  unfold Fam.conts
  rw [List.getElem?_map,List.getElem?_range hjR];rfl
 have e3:(IL cs).map (AV.ren (fun _=>none) (nthH (IL cs::(esF es).cellsG (· + 2)::(esF es).conts)) true some 3)=IL cs:=Ckz _
 rw [e2,e3]


theorem scBP_ok (cs:List Int)(es:List Ex)(m n:Nat)(hm:cs.length=m)(hn:es.length=n)(hb:m≤1099511627776∧n≤1099511627776∧exB 1099511627776 es) :
  PCall Tryz.prog 27 [.agg [.rows false (IL cs) m,.rows false (EL false es) n]] (fun r=>r=.agg [.rows true (IL cs) cs.length,.rows true (EL true es) es.length]):=by
 subst hm hn
 refine (BCall.plain (Hpz cs es _ _ rfl rfl hb)).mono ?_
 rintro r ⟨r0,H',⟨rfl,rfl⟩,rfl⟩
 simp [AV.ren,nthH,Itz,Auz]


set_option maxHeartbeats 16000000 in
theorem L1z (cs:List Int)(es:List Ex)(m n:Nat)(k:Int)(y:List Int)(l:Nat)(hm:cs.length=m)(hn:es.length=n)(hl:y.length=l)(hG:aaG cs es k y=true) :
  PCall Tryz.prog 8 [.agg [.rows false (IL cs) m,.rows false (EL false es) n],.agg [.int .i64 k,.rows false (IL y) l]] (fun r=>r=.tup [.agg [.rows true (IL (apC cs es k y)) (apC cs es k y).length,.rows true (EL true (apE cs es k y)) (apE cs es k y).length],.str (acT cs es k y)]):=by
 subst hm hn hl
 unfold aaG at hG
 rw [Bool.and_eq_true] at hG
 obtain ⟨hv,ha⟩:=hG
 have hb1:=And.intro hv ha
 have hb0:=vB_x hv
 obtain ⟨_,_,h4,_⟩:=E8z ha
 have hbl:y.length≤1099511627776:=by omega
 have hel:=Auz false es
 have hq:=vB_x (vB_ap (cs:=cs) (es:=es) (k:=k) (y:=y) hv)
 have hel2:=fun c=>Auz c (apE cs es k y)
 refine Atz l8_eq rfl ?_
 generalize hC:apC cs es k y=C at *
 generalize hE:apE cs es k y=E at *
 generalize hT:acT cs es k y=T at *
 generalize hF:apF cs es k y=F at *
 cases F with
 | true =>
  (repeat' ((first
 | (first|refine Afz ?_|refine Abz ?_)
 | (first|refine Agz ?_|refine Acz ?_|refine Amz ?_)
 | (first|((with_reducible refine Ajz (f:=26) true ?_);simp (disch:=omega) only [push_cast,seval,hv,ha,hC,hE,hT,hF,hel,hel2,fz_EL];(refine Aiz (Akz (sApP_ok _ _ _ _ _ _ _ ?_ ?_ ?_ ?_)) ?_;(iterate 4 (exact sd));rintro _ _ ⟨rfl,rfl⟩)))
 | (first|refine Ajz false ?_)
 | (first|(refine Aiz (Akz (Biz _ _ _ _ ?_ ?_ ?_)) ?_;(iterate 3 (exact sd));rintro _ _ ⟨rfl,rfl⟩)|(refine Aiz (Akz (svA_ok _ _ _ ?_ ?_)) ?_;(iterate 2 (exact sd));rintro _ _ ⟨rfl,rfl⟩)|(refine Aiz (Akz (scBP_ok _ _ _ _ ?_ ?_ ?_)) ?_;(iterate 3 (exact sd));rintro _ _ ⟨rfl,rfl⟩))
 | (refine Adz ⟨.inr rfl,_,rfl,?_⟩))<;>(try simp (disch:=omega) only [push_cast,seval,hv,ha,hC,hE,hT,hF,hel,hel2,fz_EL])))
  all_goals (try rfl)
 | false =>
  (repeat' ((first
 | (first|refine Afz ?_|refine Abz ?_)
 | (first|refine Agz ?_|refine Acz ?_|refine Amz ?_)
 | (first|((with_reducible refine Ajz (f:=26) true ?_);simp (disch:=omega) only [push_cast,seval,hv,ha,hC,hE,hT,hF,hel,hel2,fz_EL];(refine Aiz (Akz (sApP_ok _ _ _ _ _ _ _ ?_ ?_ ?_ ?_)) ?_;(iterate 4 (exact sd));rintro _ _ ⟨rfl,rfl⟩)))
 | (first|refine Ajz false ?_)
 | (first|(refine Aiz (Akz (Biz _ _ _ _ ?_ ?_ ?_)) ?_;(iterate 3 (exact sd));rintro _ _ ⟨rfl,rfl⟩)|(refine Aiz (Akz (svA_ok _ _ _ ?_ ?_)) ?_;(iterate 2 (exact sd));rintro _ _ ⟨rfl,rfl⟩)|(refine Aiz (Akz (scBP_ok _ _ _ _ ?_ ?_ ?_)) ?_;(iterate 3 (exact sd));rintro _ _ ⟨rfl,rfl⟩))
 | (refine Adz ⟨.inr rfl,_,rfl,?_⟩))<;>(try simp (disch:=omega) only [push_cast,seval,hv,ha,hC,hE,hT,hF,hel,hel2,fz_EL])))
  all_goals (try rfl)
theorem sAAn_ok (cs:List Int)(es:List Ex)(m n:Nat)(k:Int)(y:List Int)(l:Nat)(hm:cs.length=m)(hn:es.length=n)(hl:y.length=l)(hb:aaG cs es k y=false∧(cs.length≤1099511627776∧es.length≤1099511627776∧exB 1099511627776 es)∧y.length≤1099511627776) :
  PCall Tryz.prog 8 [.agg [.rows false (IL cs) m,.rows false (EL false es) n],.agg [.int .i64 k,.rows false (IL y) l]] (fun r=>r=.tup [.agg [.val (.slice none 0 0),.val (.slice none 0 0)],.str { data:={ toList:=[] } }]):=by
 subst hm hn hl
 obtain ⟨hG,hb0,hbl⟩:=hb
 unfold aaG at hG
 have hel:=Auz false es
 refine Atz l8_eq rfl ?_
 cases hv:vB cs es with
 | false =>
  (repeat' ((first
 | (first|refine Afz ?_|refine Abz ?_)
 | (first|refine Agz ?_|refine Acz ?_)
 | (first|refine Ajz false ?_)
 | (first|(refine Aiz (Akz (Biz _ _ _ _ ?_ ?_ ?_)) ?_;(iterate 3 (exact sd));rintro _ _ ⟨rfl,rfl⟩))
 | (refine Adz ⟨.inr rfl,_,rfl,?_⟩))<;>(try simp (disch:=omega) only [push_cast,seval,hv,hel,fz_EL])))
  all_goals (try rfl)
 | true =>
  rw [hv,Bool.true_and] at hG
  (repeat' ((first
 | (first|refine Afz ?_|refine Abz ?_)
 | (first|refine Agz ?_|refine Acz ?_)
 | (first|refine Ajz false ?_)
 | (first|(refine Aiz (Akz (Biz _ _ _ _ ?_ ?_ ?_)) ?_;(iterate 3 (exact sd));rintro _ _ ⟨rfl,rfl⟩)|(refine Aiz (Akz (svA_ok _ _ _ ?_ ?_)) ?_;(iterate 2 (exact sd));rintro _ _ ⟨rfl,rfl⟩))
 | (refine Adz ⟨.inr rfl,_,rfl,?_⟩))<;>(try simp (disch:=omega) only [push_cast,seval,hv,hG,hel,fz_EL])))
  all_goals (try rfl)


theorem Inz (cs:List Int)(es:List Ex)(m n:Nat)(hm:cs.length=m)(hn:es.length=n)(hb:m≤1048576∧n≤1048576∧exB 1048576 es) :
  PCall Tryz.prog 32 [.agg [.rows false (IL cs) m,.rows false (EL false es) n]] (fun r=>r=.agg [.rows true (IL cs) cs.length,.rows true (EL true es) es.length]):=by
 subst hm hn
 exact OBp_plain (H7z cs es _ _ rfl rfl hb)




theorem iEV1_ok (cs:List Int)(es:List Ex)(m n:Nat)(b e s:Int)(hm:cs.length=m)(hn:es.length=n)(hb:m≤1048576∧n≤1048576∧exB 1048576 es) :
  PCall Tryz.prog 68 [.agg [.rows false (IL cs) m,.rows false (EL false es) n],.agg [.int .i64 b,.rows false [.int .i64 e] 1,.rows false [.int .i64 s] 1]] (fun r=>r=.tup [.agg [.rows true (IL (ifB (evG cs es b [e] [s]) cs)) (ifB (evG cs es b [e] [s]) cs).length,.rows true (EL true (ifB (evG cs es b [e] [s]) (es++[(-1,(b,[e],[s]),true)]))) (ifB (evG cs es b [e] [s]) (es++[(-1,(b,[e],[s]),true)])).length],.bool (evG cs es b [e] [s])]):=by
 subst hm hn
 exact E6z (iEV_ok cs es _ _ b [e] [s] 1 1 rfl rfl rfl rfl ⟨⟨by decide,by decide⟩,hb⟩)


theorem iEPc_ok (cs:List Int)(es:List Ex)(m n:Nat)(id d f t w:Int)(hf ht:Bool)(hm:cs.length=m)(hn:es.length=n)(hb:m≤1048576∧n≤1048576∧exB 1048576 es) :
  PCall Tryz.prog 69 [.agg [.rows false (IL cs) m,.rows false (EL false es) n],.int .i64 id,.int .i64 d,slc f t w hf ht] (fun r=>r=.tup [.agg [.rows true (IL (ifB (epG cs es id d f t w hf ht) cs)) (ifB (epG cs es id d f t w hf ht) cs).length,.rows true (EL true (ifB (epG cs es id d f t w hf ht) (epE es id d f t w hf ht))) (ifB (epG cs es id d f t w hf ht) (epE es id d f t w hf ht)).length],.bool (epG cs es id d f t w hf ht)]) :=
 E6z (iEP_ok cs es m n id d f t w hf ht hm hn hb)


theorem iFEc_ok (cs:List Int)(es:List Ex)(m n:Nat)(id v:Int)(hm:cs.length=m)(hn:es.length=n)(hb:m≤1048576∧n≤1048576∧exB 1048576 es) :
  PCall Tryz.prog 70 [.agg [.rows false (IL cs) m,.rows false (EL false es) n],.int .i64 id,.int .i64 v] (fun r=>r=.tup [.agg [.rows true (IL (ifB (xfG cs es id v) (xfC cs es id v))) (ifB (xfG cs es id v) (xfC cs es id v)).length,.rows true (EL true (ifB (xfG cs es id v) es)) (ifB (xfG cs es id v) es).length],.bool (xfG cs es id v)]) :=
 E6z (iFE_ok cs es m n id v hm hn hb)


theorem iCEc_ok (cs:List Int)(es:List Ex)(m n:Nat)(t f:Int)(hm:cs.length=m)(hn:es.length=n)(hb:m≤1048576∧n≤1048576∧exB 1048576 es) :
  PCall Tryz.prog 71 [.agg [.rows false (IL cs) m,.rows false (EL false es) n],.int .i64 t,.int .i64 f] (fun r=>r=.tup [.agg [.rows true (IL (ifB (xcG cs es t f) (xcC cs es t f))) (ifB (xcG cs es t f) (xcC cs es t f)).length,.rows true (EL true (ifB (xcG cs es t f) es)) (ifB (xcG cs es t f) es).length],.bool (xcG cs es t f)]) :=
 E6z (iCE_ok cs es m n t f hm hn hb)




theorem one_of {y:List Int}{i:Nat}(h:i<y.length):((IL y).drop i).take 1=[AV.int .i64 (y.getD i 0)]:=by
 unfold IL
 rw [← List.map_drop,← List.map_take,List.drop_eq_getElem_cons h,List.take_succ_cons,List.take_zero,List.map_cons,List.map_nil,List.getD_eq_getElem?_getD,List.getElem?_eq_getElem h,Option.getD_some]


set_option maxHeartbeats 16000000 in
theorem iAc_ok (cs:List Int)(es:List Ex)(m n:Nat)(k:Int)(y:List Int)(l:Nat)(hm:cs.length=m)(hn:es.length=n)(hl:y.length=l)(hb:vB cs es=true∧vA k y=true) :
  PCall Tryz.prog 31 [.agg [.rows false (IL cs) m,.rows false (EL false es) n],.agg [.int .i64 k,.rows false (IL y) l]] (fun r=>r=.tup [.agg [.rows true (IL (ifB (acI cs es k y) (acC cs es k y))) (ifB (acI cs es k y) (acC cs es k y)).length,.rows true (EL true (ifB (acI cs es k y) (acE es k y))) (ifB (acI cs es k y) (acE es k y)).length],.bool (acOk cs es k y)]):=by
 subst hm hn hl
 obtain ⟨hv,ha⟩:=hb
 have hq8:=vB_x hv
 have hq7:cs.length≤1048576∧es.length≤1048576∧exB 1048576 es:=by
  have hz:=Fuz hv
  exact ⟨by omega,by omega,fun e he=>by have:=hz.2.2 e he;omega⟩
 obtain ⟨hk,hl,_,hr⟩:=E8z ha
 have hel:=Auz false es
 refine Atz l31_eq rfl ?_
 unfold acI acOk acC acE
 rcases k8 hk with rfl|rfl|rfl|rfl|rfl|rfl|rfl|rfl
 ·have hl':y.length=1:=by have:ndA 0=1:=rfl;omega
  simp only [if_true]
  (repeat' ((first
 | (first|refine Afz ?_|refine Abz ?_)
 | (first|refine Agz ?_|refine Arz (mid:=l31r4a) (post:=l31r4b) mixed (by decide) ?_|refine Acz ?_)
 | (first|refine Aqz false ?_)
 | (first|(refine Aoz (Akz (iRzP_ok _ _ _ _ _ ?_ ?_ ?_)) ⟨_,_,rfl,rfl⟩ ?_;(iterate 3 (exact sd));rintro _ _ ⟨rfl,rfl⟩))
 | (refine Adz ⟨.inr rfl,_,rfl,?_⟩))<;>(try simp (disch:=omega) only [push_cast,seval,hl',hel,fz_EL])))
  all_goals (try rfl)
 ·have hl':y.length=3:=by have:ndA 1=3:=rfl;omega
  have h1:=one_of (y:=y) (i:=1) (by omega)
  have h2:=one_of (y:=y) (i:=2) (by omega)
  (repeat' ((first
 | (first|refine Afz ?_|refine Abz ?_)
 | (first|refine Agz ?_|refine Arz (mid:=l31r6a) (post:=l31r6b) mixed (by decide) ?_|refine Acz ?_)
 | (first|refine Aqz false ?_)
 | (first|(refine Aoz (Akz (iEV1_ok _ _ _ _ _ _ _ ?_ ?_ ?_)) ⟨_,_,rfl,rfl⟩ ?_;(iterate 3 (exact sd));rintro _ _ ⟨rfl,rfl⟩))
 | (refine Adz ⟨.inr rfl,_,rfl,?_⟩))<;>(try simp (disch:=omega) only [push_cast,seval,hl',hel,h1,h2,fz_EL])))
  all_goals (try simp)
 ·have hl':y.length=4:=by have:ndA 2=4:=rfl;omega
  (repeat' ((first
 | (first|refine Afz ?_|refine Abz ?_)
 | (first|refine Agz ?_|refine Arz (mid:=l31r8a) (post:=l31r8b) mixed (by decide) ?_|refine Acz ?_)
 | (first|refine Aqz false ?_)
 | (first|(refine Aoz (Akz (iEPc_ok _ _ _ _ _ _ _ _ _ _ _ ?_ ?_ ?_)) ⟨_,_,rfl,rfl⟩ ?_;(iterate 3 (exact sd));rintro _ _ ⟨rfl,rfl⟩))
 | (refine Adz ⟨.inr rfl,_,rfl,?_⟩))<;>(try simp (disch:=omega) only [push_cast,seval,hl',hel,fz_EL])))
  all_goals (try simp)
 ·have hl':y.length=1:=by have:ndA 3=1:=rfl;omega
  (repeat' ((first
 | (first|refine Afz ?_|refine Abz ?_)
 | (first|refine Agz ?_|refine Arz (mid:=l31r10a) (post:=l31r10b) mixed (by decide) ?_|refine Acz ?_)
 | (first|refine Aqz false ?_)
 | (first|(refine Aoz (Akz (iEPc_ok _ _ _ _ _ _ _ _ _ _ _ ?_ ?_ ?_)) ⟨_,_,rfl,rfl⟩ ?_;(iterate 3 (exact sd));rintro _ _ ⟨rfl,rfl⟩))
 | (refine Adz ⟨.inr rfl,_,rfl,?_⟩))<;>(try simp (disch:=omega) only [push_cast,seval,hl',hel,fz_EL])))
  all_goals (try simp)
 ·have hl':y.length=2:=by have:ndA 4=2:=rfl;omega
  (repeat' ((first
 | (first|refine Afz ?_|refine Abz ?_)
 | (first|refine Agz ?_|refine Arz (mid:=l31r12a) (post:=l31r12b) mixed (by decide) ?_|refine Acz ?_)
 | (first|refine Aqz false ?_)
 | (first|(refine Aoz (Akz (iFEc_ok _ _ _ _ _ _ ?_ ?_ ?_)) ⟨_,_,rfl,rfl⟩ ?_;(iterate 3 (exact sd));rintro _ _ ⟨rfl,rfl⟩))
 | (refine Adz ⟨.inr rfl,_,rfl,?_⟩))<;>(try simp (disch:=omega) only [push_cast,seval,hl',hel,fz_EL])))
  all_goals (try simp)
 ·have hl':y.length=2:=by have:ndA 5=2:=rfl;omega
  (repeat' ((first
 | (first|refine Afz ?_|refine Abz ?_)
 | (first|refine Agz ?_|refine Arz (mid:=l31r14a) (post:=l31r14b) mixed (by decide) ?_|refine Acz ?_)
 | (first|refine Aqz false ?_)
 | (first|(refine Aoz (Akz (iCEc_ok _ _ _ _ _ _ ?_ ?_ ?_)) ⟨_,_,rfl,rfl⟩ ?_;(iterate 3 (exact sd));rintro _ _ ⟨rfl,rfl⟩))
 | (refine Adz ⟨.inr rfl,_,rfl,?_⟩))<;>(try simp (disch:=omega) only [push_cast,seval,hl',hel,fz_EL])))
  all_goals (try simp)
 ·have hl':y.length=1:=by have:ndA 6=1:=rfl;omega
  (repeat' ((first
 | (first|refine Afz ?_|refine Abz ?_)
 | (first|refine Agz ?_|refine Arz (mid:=l31r17a) (post:=l31r17b) mixed (by decide) ?_|refine Acz ?_|refine Amz ?_)
 | (first|refine Ajz false ?_|refine Aqz false ?_)
 | (first|((first|refine Aiz (Akz (Inz _ _ _ _ ?_ ?_ ?_)) ?_|refine Aoz (Akz (Inz _ _ _ _ ?_ ?_ ?_)) ⟨_,_,rfl,rfl⟩ ?_);(iterate 3 (exact sd));rintro _ _ ⟨rfl,rfl⟩)|((first|refine Aiz (Akz (Crz _ _ _ _ _ ?_ ?_ ?_)) ?_|refine Aoz (Akz (Crz _ _ _ _ _ ?_ ?_ ?_)) ⟨_,_,rfl,rfl⟩ ?_);(iterate 3 (exact sd));rintro _ _ ⟨rfl,rfl⟩))
 | (refine Adz ⟨.inr rfl,_,rfl,?_⟩))<;>(try simp (disch:=omega) only [push_cast,seval,hl',hel,hv,fz_EL])))
  all_goals (try simp [Ayz,IL])
 ·have hl':y.length=1:=by have:ndA 7=1:=rfl;omega
  (repeat' ((first
 | (first|refine Afz ?_|refine Abz ?_)
 | (first|refine Agz ?_|refine Arz (mid:=l31r16a) (post:=l31r16b) mixed (by decide) ?_|refine Acz ?_)
 | (first|refine Aqz false ?_)
 | (first|(refine Aoz (Akz (iRelP_ok _ _ _ _ _ ?_ ?_ ?_)) ⟨_,_,rfl,rfl⟩ ?_;(iterate 3 (exact sd));rintro _ _ ⟨rfl,rfl⟩))
 | (refine Adz ⟨.inr rfl,_,rfl,?_⟩))<;>(try simp (disch:=omega) only [push_cast,seval,hl',hel,fz_EL])))
  all_goals (try simp)


theorem iLEPc_ok (cs:List Int)(es:List Ex)(m n:Nat)(id:Int)(hm:cs.length=m)(hn:es.length=n)(hb:m≤1099511627776∧n≤1099511627776∧exB 1099511627776 es) :
  PCall Tryz.prog 77 [.agg [.rows false (IL cs) m,.rows false (EL false es) n],.int .i64 id] (fun r=>r=.rows true (IL (loadA cs es id)) (loadA cs es id).length):=by
 refine (BCall.plain (iLE_ok cs es m n id hm hn hb)).mono ?_
 rintro r ⟨r0,H',⟨rfl,rfl⟩,rfl⟩
 simp [AV.ren,nthH,List.map_map,Function.comp_def]


theorem Iez (w:ByteArray)(x:Int)(hb:w.size≤1000∧-9223372036854775807≤x∧x≤9223372036854775807):PCall Tryz.prog 76 [.str w,.rows false [.int .i64 x] 1] (fun r=>r=.str (txB w [x])) :=
 spaced_ok w [x] 1 rfl ⟨⟨by decide,hb.1⟩,fun z hz=>by rw [List.mem_singleton] at hz;subst hz;exact hb.2⟩


theorem loadA_rng {cs:List Int}{es:List Ex}{id:Int}:∀ v∈loadA cs es id,-9223372036854775807≤v∧v≤9223372036854775807:=by
 unfold loadA
 split
 ·rename_i h
  rw [Bool.and_eq_true] at h
  intro v hv
  have:=Faz (L:=offs (vwA es id).1 (vwA es id).2.1 (vwA es id).2.2) (Cnz.1 (Ftz.1 h.1).1).2 v hv
  omega
 ·intro v hv;cases hv


set_option maxHeartbeats 16000000 in
theorem iAn_ok (cs:List Int)(es:List Ex)(m n:Nat)(k:Int)(y:List Int)(l:Nat)(hm:cs.length=m)(hn:es.length=n)(hl:y.length=l)(hb:(cs.length≤60∧es.length≤8∧exB 4 es)∧vA k y=true) :
  PCall Tryz.prog 33 [.agg [.rows false (IL cs) m,.rows false (EL false es) n],.agg [.int .i64 k,.rows false (IL y) l]] (fun r=>r=.str (anT cs es k y)):=by
 subst hm hn hl
 obtain ⟨⟨hb1,hb2,hb3⟩,ha⟩:=hb
 have hq8:cs.length≤1099511627776∧es.length≤1099511627776∧exB 1099511627776 es:=⟨by omega,by omega,fun e he=>by have:=hb3 e he;omega⟩
 obtain ⟨hk,hl,_,hr⟩:=E8z ha
 have hel:=Auz false es
 have q1:({ data:={ toList:=[97,116] } }:ByteArray).size≤1000∧-9223372036854775807≤(es.length:Int)-1∧(es.length:Int)-1≤9223372036854775807:=⟨by decide,by omega,by omega⟩
 refine Atz l33_eq rfl ?_
 unfold anT
 rcases k8 hk with rfl|rfl|rfl|rfl|rfl|rfl|rfl|rfl
 ·(repeat' (first
 | (first|refine Afz ?_|refine Abz ?_)
 | ((first|refine Agz ?_|refine Acz ?_|refine Amz ?_);simp (disch:=omega) only [push_cast,seval,hel])
 | (refine Adz ⟨.inr rfl,_,rfl,?_⟩;(try simp (disch:=omega) only [push_cast,seval,hel]))))
  all_goals (try rfl)
 ·(repeat' ((first
 | (first|refine Afz ?_|refine Abz ?_)
 | (first|refine Agz ?_|refine Acz ?_|refine Amz ?_)
 | (first|refine Ajz false ?_)
 | (first|(refine Aiz (Akz (Iez _ _ ?_)) ?_;(exact sd);rintro _ _ ⟨rfl,rfl⟩))
 | (refine Adz ⟨.inr rfl,_,rfl,?_⟩))<;>(try simp (disch:=omega) only [push_cast,seval,hel])))
  all_goals (try rfl)
 ·(repeat' ((first
 | (first|refine Afz ?_|refine Abz ?_)
 | (first|refine Agz ?_|refine Acz ?_|refine Amz ?_)
 | (first|refine Ajz false ?_)
 | (first|(refine Aiz (Akz (Iez _ _ ?_)) ?_;(exact sd);rintro _ _ ⟨rfl,rfl⟩))
 | (refine Adz ⟨.inr rfl,_,rfl,?_⟩))<;>(try simp (disch:=omega) only [push_cast,seval,hel])))
  all_goals (try rfl)
 ·(repeat' ((first
 | (first|refine Afz ?_|refine Abz ?_)
 | (first|refine Agz ?_|refine Acz ?_)
 | (first|refine Ajz false ?_)
 | (first|(refine Aiz (Akz (Iez _ _ ?_)) ?_;(exact sd);rintro _ _ ⟨rfl,rfl⟩))
 | (refine Adz ⟨.inr rfl,_,rfl,?_⟩))<;>(try simp (disch:=omega) only [push_cast,seval,hel])))
  all_goals (try rfl)
 ·(repeat' (first
 | (first|refine Afz ?_|refine Abz ?_)
 | ((first|refine Agz ?_|refine Acz ?_|refine Amz ?_);simp (disch:=omega) only [push_cast,seval,hel])
 | (refine Adz ⟨.inr rfl,_,rfl,?_⟩;(try simp (disch:=omega) only [push_cast,seval,hel]))))
  all_goals (try rfl)
 ·(repeat' (first
 | (first|refine Afz ?_|refine Abz ?_)
 | ((first|refine Agz ?_|refine Acz ?_|refine Amz ?_);simp (disch:=omega) only [push_cast,seval,hel])
 | (refine Adz ⟨.inr rfl,_,rfl,?_⟩;(try simp (disch:=omega) only [push_cast,seval,hel]))))
  all_goals (try rfl)
 ·have hl':y.length=1:=by have:ndA 6=1:=rfl;omega
  have hll:=loadA_len cs es (y.getD 0 0)
  have q2:((loadA cs es (y.getD 0 0)).length≤1000000∧({ data:={ toList:=[104,97,115] } }:ByteArray).size≤1000)∧∀ v∈loadA cs es (y.getD 0 0),-9223372036854775807≤v∧v≤9223372036854775807:=⟨⟨by omega,by decide⟩,loadA_rng⟩
  (repeat' ((first
 | (first|refine Afz ?_|refine Abz ?_)
 | (first|refine Agz ?_|refine Arz (mid:=l33r7a) (post:=l33r7b) mixed (by decide) ?_|refine Acz ?_)
 | (first|refine Ajz false ?_)
 | (first|(refine Aiz (Akz (spaced_ok _ _ _ ?_ ?_)) ?_;(iterate 2 (exact sd));rintro _ _ ⟨rfl,rfl⟩)|(refine Aiz (Akz (iLEPc_ok _ _ _ _ _ ?_ ?_ ?_)) ?_;(iterate 3 (exact sd));rintro _ _ ⟨rfl,rfl⟩))
 | (refine Adz ⟨.inr rfl,_,rfl,?_⟩))<;>(try simp (disch:=omega) only [push_cast,seval,hl',hel])))
  all_goals (try rfl)
 ·(repeat' (first
 | (first|refine Afz ?_|refine Abz ?_)
 | ((first|refine Agz ?_|refine Acz ?_|refine Amz ?_);simp (disch:=omega) only [push_cast,seval,hel])
 | (refine Adz ⟨.inr rfl,_,rfl,?_⟩;(try simp (disch:=omega) only [push_cast,seval,hel]))))
  all_goals (try rfl)


set_option maxHeartbeats 16000000 in
theorem Miz (cs:List Int)(es:List Ex)(m n:Nat)(k:Int)(y:List Int)(l:Nat)(hm:cs.length=m)(hn:es.length=n)(hl:y.length=l)(hG:aaG cs es k y=true) :
  PCall Tryz.prog 11 [.agg [.rows false (IL cs) m,.rows false (EL false es) n],.agg [.int .i64 k,.rows false (IL y) l]] (fun r=>r=.tup [.agg [.rows true (IL (apC cs es k y)) (apC cs es k y).length,.rows true (EL true (apE cs es k y)) (apE cs es k y).length],.str (acT cs es k y)]):=by
 subst hm hn hl
 unfold aaG at hG
 rw [Bool.and_eq_true] at hG
 obtain ⟨hv,ha⟩:=hG
 have hb1:=And.intro hv ha
 have hb0:=vB_x hv
 have hq7:cs.length≤1048576∧es.length≤1048576∧exB 1048576 es:=by
  have hz:=Fuz hv
  exact ⟨by omega,by omega,fun e he=>by have:=hz.2.2 e he;omega⟩
 obtain ⟨_,_,h4,_⟩:=E8z ha
 have hbl:y.length≤1099511627776:=by omega
 have hel:=Auz false es
 refine Atz l11_eq rfl ?_
 unfold apC apE acT
 cases ho:acOk cs es k y with
 | false =>
  simp only [Bool.false_eq_true,if_false]
  generalize hC:ifB (acI cs es k y) (acC cs es k y)=C at *
  generalize hE:ifB (acI cs es k y) (acE es k y)=E at *
  (repeat' ((first
 | (first|refine Afz ?_|refine Abz ?_)
 | (first|refine Agz ?_|refine Acz ?_|refine Amz ?_)
 | (first|refine Ajz false ?_)
 | (first|(refine Aiz (Akz (Buz _ _ _ _ ?_ ?_ ?_)) ?_;(iterate 3 (exact sd));rintro _ _ ⟨rfl,rfl⟩)|(refine Aiz (Akz (ivA_ok _ _ _ ?_ ?_)) ?_;(iterate 2 (exact sd));rintro _ _ ⟨rfl,rfl⟩)|(refine Aiz (Akz (iAc_ok _ _ _ _ _ _ _ ?_ ?_ ?_ ?_)) ?_;(iterate 4 (exact sd));rintro _ _ ⟨rfl,rfl⟩)|(refine Aiz (Akz (Inz _ _ _ _ ?_ ?_ ?_)) ?_;(iterate 3 (exact sd));rintro _ _ ⟨rfl,rfl⟩))
 | (refine Adz ⟨.inr rfl,_,rfl,?_⟩))<;>(try simp (disch:=omega) only [push_cast,seval,hv,ha,hC,hE,ho,hel,fz_EL])))
  all_goals (try rfl)
 | true =>
  have hI:acI cs es k y=true:=by unfold acI;split<;>first|rfl|exact ho
  have hq:=Fuz (vB_ac (cs:=cs) (es:=es) (k:=k) (y:=y) hv ho)
  have hb5:=And.intro hq ha
  have hel2:=fun c=>Auz c (acE es k y)
  have hT:anT (acC cs es k y) (acE es k y) k y=(if k=6 then txB hasB (loadA cs es (y.getD 0 0)) else if k=1∨k=2∨k=3 then txB atB [((acE es k y).length:Int)-1] else okB2):=by
   unfold anT
   by_cases h6:k=6
   ·subst h6;rfl
   ·rw [if_neg h6,if_neg h6]
  simp only [if_true]
  rw [← hT]
  generalize hA:anT (acC cs es k y) (acE es k y) k y=T at *
  generalize hC:acC cs es k y=C at *
  generalize hE:acE es k y=E at *
  (repeat' ((first
 | (first|refine Afz ?_|refine Abz ?_)
 | (first|refine Agz ?_|refine Arz (mid:=l11r6a) (post:=l11r6b) mixed (by decide) ?_|refine Acz ?_|refine Amz ?_)
 | (first|refine Ajz false ?_|refine Aqz false ?_)
 | (first|((first|refine Aiz (Akz (Buz _ _ _ _ ?_ ?_ ?_)) ?_|refine Aoz (Akz (Buz _ _ _ _ ?_ ?_ ?_)) ⟨_,_,rfl,rfl⟩ ?_);(iterate 3 (exact sd));rintro _ _ ⟨rfl,rfl⟩)|((first|refine Aiz (Akz (ivA_ok _ _ _ ?_ ?_)) ?_|refine Aoz (Akz (ivA_ok _ _ _ ?_ ?_)) ⟨_,_,rfl,rfl⟩ ?_);(iterate 2 (exact sd));rintro _ _ ⟨rfl,rfl⟩)|((first|refine Aiz (Akz (iAc_ok _ _ _ _ _ _ _ ?_ ?_ ?_ ?_)) ?_|refine Aoz (Akz (iAc_ok _ _ _ _ _ _ _ ?_ ?_ ?_ ?_)) ⟨_,_,rfl,rfl⟩ ?_);(iterate 4 (exact sd));rintro _ _ ⟨rfl,rfl⟩)|((first|refine Aiz (Akz (iAn_ok _ _ _ _ _ _ _ ?_ ?_ ?_ ?_)) ?_|refine Aoz (Akz (iAn_ok _ _ _ _ _ _ _ ?_ ?_ ?_ ?_)) ⟨_,_,rfl,rfl⟩ ?_);(iterate 4 (exact sd));rintro _ _ ⟨rfl,rfl⟩))
 | (refine Adz ⟨.inr rfl,_,rfl,?_⟩))<;>(try simp (disch:=omega) only [push_cast,seval,hv,ha,hI,hC,hE,hA,ho,Ayz,hel,hel2,fz_EL])))
  all_goals (try rfl)
theorem iAAn_ok (cs:List Int)(es:List Ex)(m n:Nat)(k:Int)(y:List Int)(l:Nat)(hm:cs.length=m)(hn:es.length=n)(hl:y.length=l)(hb:aaG cs es k y=false∧(cs.length≤1099511627776∧es.length≤1099511627776∧exB 1099511627776 es)∧y.length≤1099511627776) :
  PCall Tryz.prog 11 [.agg [.rows false (IL cs) m,.rows false (EL false es) n],.agg [.int .i64 k,.rows false (IL y) l]] (fun r=>r=.tup [.agg [.val (.slice none 0 0),.val (.slice none 0 0)],.str { data:={ toList:=[] } }]):=by
 subst hm hn hl
 obtain ⟨hG,hb0,hbl⟩:=hb
 unfold aaG at hG
 have hel:=Auz false es
 refine Atz l11_eq rfl ?_
 cases hv:vB cs es with
 | false =>
  (repeat' ((first
 | (first|refine Afz ?_|refine Abz ?_)
 | (first|refine Agz ?_|refine Acz ?_)
 | (first|refine Ajz false ?_)
 | (first|(refine Aiz (Akz (Buz _ _ _ _ ?_ ?_ ?_)) ?_;(iterate 3 (exact sd));rintro _ _ ⟨rfl,rfl⟩))
 | (refine Adz ⟨.inr rfl,_,rfl,?_⟩))<;>(try simp (disch:=omega) only [push_cast,seval,hv,hel,fz_EL])))
  all_goals (try rfl)
 | true =>
  rw [hv,Bool.true_and] at hG
  (repeat' ((first
 | (first|refine Afz ?_|refine Abz ?_)
 | (first|refine Agz ?_|refine Acz ?_)
 | (first|refine Ajz false ?_)
 | (first|(refine Aiz (Akz (Buz _ _ _ _ ?_ ?_ ?_)) ?_;(iterate 3 (exact sd));rintro _ _ ⟨rfl,rfl⟩)|(refine Aiz (Akz (ivA_ok _ _ _ ?_ ?_)) ?_;(iterate 2 (exact sd));rintro _ _ ⟨rfl,rfl⟩))
 | (refine Adz ⟨.inr rfl,_,rfl,?_⟩))<;>(try simp (disch:=omega) only [push_cast,seval,hv,hG,hel,fz_EL])))
  all_goals (try rfl)

end Go.Proofs.YtfccepgibbdfaaaGreatDoor
namespace Go.Proofs.YtfccepgibbdfaaaGreatDoor
open VwM Vw Go
variable [SentA]
variable [PowA]

theorem actK_len {k:Int}{nums:List Int}(h:actK k nums):1≤nums.length∧nums.length≤4:=by
 rcases h with h|h|h|h|h|h|h|h
 ·obtain ⟨_,a,rfl⟩:=h;exact ⟨by simp,by simp⟩
 ·obtain ⟨_,a,b,c,rfl⟩:=h;exact ⟨by simp,by simp⟩
 ·obtain ⟨_,a,b,c,d,rfl⟩:=h;exact ⟨by simp,by simp⟩
 ·obtain ⟨_,a,rfl⟩:=h;exact ⟨by simp,by simp⟩
 ·obtain ⟨_,a,b,rfl⟩:=h;exact ⟨by simp,by simp⟩
 ·obtain ⟨_,a,b,rfl⟩:=h;exact ⟨by simp,by simp⟩
 ·obtain ⟨_,a,rfl⟩:=h;exact ⟨by simp,by simp⟩
 ·obtain ⟨_,a,rfl⟩:=h;exact ⟨by simp,by simp⟩
theorem someActL_ok (bs:List Int)(p:Int)(cs:List Int)(es:List Ex)(m n:Nat)(hm:cs.length=m)(hn:es.length=n)(hbs:okB bs)(hp:0≤p∧p≤900000)(hq:cs.length≤61∧es.length≤9∧exB 4 es) :
  BCall Tryz.prog 82 [.ref 0 2 0,.agg [.own 1 m 1,.own 2 n 5]] [RD bs p,IL cs,EL false es] (fun r H'=>∃ k nums p',(1≤nums.length∧nums.length≤4)∧(p≤p'∧p'≤p+10)∧r=.agg [.int .i64 k,.own 3 nums.length 1]∧H'=[RD bs p',IL cs,EL false es,IL nums]):=by
 refine (Jkz bs p cs es m n hm hn hbs hp hq).mono ?_
 rintro r H' ⟨k,nums,p',h1,h2,h3,h4⟩
 exact ⟨k,nums,p',actK_len h1,h2,h3,h4⟩


set_option maxHeartbeats 16000000 in
theorem anyAct_ok (bs:List Int)(p:Int)(cs:List Int)(es:List Ex)(m n:Nat)(hm:cs.length=m)(hn:es.length=n)(hbs:okB bs)(hp:0≤p∧p≤800000)(hq:cs.length≤61∧es.length≤9∧exB 4 es) :
  BCall Tryz.prog 42 [.ref 0 2 0,.agg [.own 1 m 1,.own 2 n 5]] [RD bs p,IL cs,EL false es] (fun r H'=>∃ k nums p',nums.length≤5∧(p≤p'∧p'≤p+20)∧r=.agg [.int .i64 k,.own 3 nums.length 1]∧H'=[RD bs p',IL cs,EL false es,IL nums]):=by
 subst hm hn
 have hel:=Auz false es
 obtain ⟨hp1,hp2⟩:=hp
 refine Avz (pins:=[0,1,2]) (pin:=3) l42_eq rfl rfl rfl ?_
 (repeat' ((first
 | (first|refine Afz ?_|refine Abz ?_)
 | (first|refine Agz ?_|refine Bbz (mid:=l42r8a) (post:=l42r8b) [0] mixed (by decide) ?_|refine Acz ?_|refine Amz ?_)
 | ((first|refine Alz (fun h=>?_) (fun h=>?_))<;>(try simp only [h])<;>(try simp only [bitvec_to_nat] at h)<;>(try simp only [h])<;>(first|(exfalso;omega)|(exfalso;simp_all;done)|skip))
 | (first|((with_reducible refine A9z (f:=82) [0,1,2] true ?_);simp (disch:=omega) only [push_cast,seval,hel,Aaz];(refine callND (by decide) (someActL_ok _ _ _ _ _ _ ?_ ?_ ?_ ?_ ?_) (by (simp (disch:=omega) only [push_cast,seval,hel,Aaz])<;>rfl) ?_;(iterate 5 (exact sd));rintro _ _ ⟨kA,nums,pA,⟨hl1,hl4⟩,hpA,rfl,rfl⟩))|((with_reducible refine A9z (f:=80) [0] true ?_);simp (disch:=omega) only [push_cast,seval,hel,Aaz];(refine I1z (id:=0) (Jwz _ _ _ ?_ ?_) (by (simp (disch:=omega) only [push_cast,seval,hel,Aaz])<;>rfl) ?_;(iterate 2 (exact sd));rintro _ _ ⟨x,hx0,hx1,rfl,rfl⟩))|((with_reducible refine A9z (f:=81) (args:=[Operand.tmp 13,Operand.tmp 14]) [0,224] true ?_);simp (disch:=omega) only [push_cast,seval,hel,Aaz];(refine E2z (id:=0) (id':=224) (by decide) (Huz _ _ _ _ ?_ ?_ ?_ ?_ ?_) (by (simp (disch:=omega) only [push_cast,seval,hel,Aaz])<;>rfl) (by (simp (disch:=omega) only [push_cast,seval,hel,Aaz])<;>rfl) ?_;(iterate 5 (exact sd));rintro _ _ ⟨x,hx,hx0,rfl,rfl⟩))|((with_reducible refine F3z (f:=81) [0] true ?_);simp (disch:=omega) only [push_cast,seval,hel,Aaz];(refine qcall1D (id:=0) (oneR_ok _ _ _ _ ?_ ?_ ?_ ?_ ?_) (by (simp (disch:=omega) only [push_cast,seval,hel,Aaz])<;>rfl) (by decide) (by simp only [Hlz,Jjz];exact ⟨_,_,_,List.mem_cons_self,by omega,rfl,rfl⟩) ?_;(iterate 5 (exact sd));rintro _ _ ⟨x,hx,hx0,rfl,rfl⟩))))<;>(try simp (disch:=omega) only [push_cast,seval,hel,Aaz])))
 all_goals ((refine Adz ⟨.inr rfl,[128],[],_,by decide,rfl,?_⟩;(try simp (disch:=omega) only [push_cast,seval,↓Ahz,↓Aez,↓List.map_cons,↓List.map_nil,hel,Aaz,A2z,IL_snoc,List.length_append,List.length_set])))
 all_goals first
  | exact ⟨_,nums,_,by omega,by omega,rfl,rfl⟩
  | exact ⟨_,nums++[1],_,by rw [List.length_append,List.length_singleton];omega,by omega,by rw [List.length_append];rfl,rfl⟩
  | exact ⟨_,nums.set 0 x,_,by rw [List.length_set];omega,by omega,by rw [List.length_set],rfl⟩
  | skip


end Go.Proofs.YtfccepgibbdfaaaGreatDoor
namespace Go.Proofs.YtfccepgibbdfaaaGreatDoor
open VwM Vw Go
variable [SentA]
variable [PowA]

variable [PowB]
theorem txB_pref (w:ByteArray):∀ xs:List Int,∃ t,txB w xs=w++t:=by
 intro xs
 induction xs generalizing w with
 | nil=>exact ⟨{ data:={ toList:=[] } },(emp_app w).symm⟩
 | cons x xs ih =>
  obtain ⟨t,ht⟩:=ih (w++spB++itB x)
  refine ⟨spB++itB x++t,?_⟩
  have e:txB w (x::xs)=txB (w++spB++itB x) xs:=rfl
  rw [e,ht]
  simp only [ByteArray.append_assoc]
theorem tl_app (a b:ByteArray):(a++b).toList=a.toList++b.toList:=by
 rw [ByteArray.toList_eq,ByteArray.toList_eq,ByteArray.toList_eq,ByteArray.data_append]
 simp
theorem K1z (l:List UInt8):({ data:={ toList:=l } }:ByteArray).toList=l:=ByteArray.toList_eq _
theorem Brz (a b:ByteArray):abin .neq (.str a) (.str b)=some (.bool (!(a.toList==b.toList))):=rfl
theorem Bsz (a b:ByteArray):abin .eql (.str a) (.str b)=some (.bool (a.toList==b.toList)):=rfl
theorem acT_head (cs:List Int)(es:List Ex)(k:Int)(y:List Int):∃ (c:UInt8) (t:List UInt8),(acT cs es k y).toList=c::t∧(acOk cs es k y=true→k≠6→c≠110):=by
 unfold acT
 by_cases ho:acOk cs es k y=true
 ·rw [if_pos ho]
  by_cases h6:k=6
  ·rw [if_pos h6]
   obtain ⟨t,ht⟩:=txB_pref hasB (loadA cs es (y.getD 0 0))
   rw [ht,tl_app,hasB,K1z]
   exact ⟨_,_,rfl,fun _ h=>absurd h6 h⟩
  ·rw [if_neg h6]
   by_cases h1:k=1∨k=2∨k=3
   ·rw [if_pos h1]
    obtain ⟨t,ht⟩:=txB_pref atB [((acE es k y).length:Int)-1]
    rw [ht,tl_app,atB,K1z]
    exact ⟨_,_,rfl,fun _ _=>by decide⟩
   ·rw [if_neg h1,okB2,K1z]
    exact ⟨_,_,rfl,fun _ _=>by decide⟩
 ·rw [if_neg ho,noB,K1z]
  exact ⟨_,_,rfl,fun h=>absurd h ho⟩
theorem acT_ne (cs:List Int)(es:List Ex)(k:Int)(y:List Int):((acT cs es k y).toList==({ data:={ toList:=[] } }:ByteArray).toList)=false:=by
 obtain ⟨c,t,h,_⟩:=acT_head cs es k y
 rw [h,K1z];rfl
theorem acT_no {cs:List Int}{es:List Ex}{k:Int}{y:List Int}(ho:acOk cs es k y=true)(h6:k≠6):((acT cs es k y).toList==({ data:={ toList:=[110,111] } }:ByteArray).toList)=false:=by
 obtain ⟨c,t,h,hc⟩:=acT_head cs es k y
 rw [h,K1z,beq_eq_false_iff_ne]
 intro e
 injection e with e1 _
 exact hc ho h6 e1
theorem acT_is {cs:List Int}{es:List Ex}{k:Int}{y:List Int}(ho:acOk cs es k y=false):acT cs es k y={ data:={ toList:=[110,111] } }:=by
 unfold acT;rw [ho];rfl
theorem ap_same {cs:List Int}{es:List Ex}{k:Int}{y:List Int}(h:acOk cs es k y=false∨k=6):apC cs es k y=cs∧apE cs es k y=es:=by
 unfold apC apE
 rcases h with h|h
 ·rw [h];exact ⟨rfl,rfl⟩
 ·subst h;exact ⟨by split<;>rfl,by split<;>rfl⟩
theorem ap_bnd {cs:List Int}{es:List Ex}{k:Int}{y:List Int}(h:aaG cs es k y=true):vB (apC cs es k y) (apE cs es k y)=true:=by
 unfold aaG at h
 rw [Bool.and_eq_true] at h
 exact vB_ap h.1




theorem drawAAB_ok (bs:List Int)(n:Nat)(hn:bs.length=n)(hb:n≤1099511627776∧∀ x∈bs,0≤x∧x≤255):BCall Tryz.prog 17 [.rows false (UL bs) n] [] (fun r H'=>∃ cs es k y,sbQ cs es∧y.length≤5∧r=.tup [.agg [.own 0 cs.length 1,.own 1 es.length 5],.agg [.int .i64 k,.own 2 y.length 1]]∧H'=[IL cs,EL false es,IL y]):=by
 subst hn
 refine Avz (pins:=[]) (pin:=0) l17_eq rfl rfl rfl ?_
 (repeat' ((first
 | (first|refine Afz ?_|refine Abz ?_)
 | (first|refine Agz ?_|refine Bbz (mid:=l17r3a) (post:=l17r3b) [112,144,145] mixed (by decide) ?_)
 | (first|((with_reducible refine Ajz (f:=40) true ?_);simp (disch:=omega) only [push_cast,seval,Aaz];(refine Aiz (newReader_ok _ _ ?_ ?_) ?_;(iterate 2 (exact sd));rintro _ _ ⟨bs0,hbs0,rfl,rfl⟩))|((with_reducible refine A9z (f:=41) [112] true ?_);simp (disch:=omega) only [push_cast,seval,Aaz];(refine I1z (id:=112) (someB_ok _ _ ?_ ?_) (by (simp (disch:=omega) only [push_cast,seval,Aaz])<;>rfl) ?_;(iterate 2 (exact sd));rintro _ _ ⟨csG,esG,pG,hsG,hpG,rfl,rfl⟩))|((with_reducible refine F3z (f:=42) [112,144,145] true ?_);simp (disch:=omega) only [push_cast,seval,Aaz];(refine qcallND (by decide) (anyAct_ok _ _ _ _ _ _ ?_ ?_ ?_ ?_ ?_) (by (simp (disch:=omega) only [push_cast,seval,Aaz])<;>rfl) (by decide) ⟨_,_,0,[],_,Nat.zero_le _,⟨Int.le_refl _,by omega⟩,rfl,rfl⟩ ?_;(iterate 5 (exact sd));rintro _ _ ⟨kA,nums,pA,hkA,hpA,rfl,rfl⟩))))<;>(try simp (disch:=omega) only [push_cast,seval,Aaz])))
 all_goals ((refine Adz ⟨.inr rfl,[144,145,208],[],_,by decide,rfl,?_⟩;(try simp (disch:=omega) only [push_cast,seval,↓Ahz,↓Aez,↓List.map_cons,↓List.map_nil,Aaz])))
 all_goals exact ⟨csG,esG,_,nums,sbQ_of hsG,hkA,rfl,rfl⟩
theorem drawAA_ok (bs:List Int)(n:Nat)(hn:bs.length=n)(hb:n≤1099511627776∧∀ x∈bs,0≤x∧x≤255):PCall Tryz.prog 17 [.rows false (UL bs) n] (fun r=>∃ cs es k y,sbQ cs es∧y.length≤5∧r=.tup [.agg [.rows true (IL cs) cs.length,.rows true (EL false es) es.length],.agg [.int .i64 k,.rows true (IL y) y.length]]):=by
 refine (BCall.plain (drawAAB_ok bs n hn hb)).mono ?_
 rintro r ⟨r0,H',⟨cs,es,k,y,h,hy,rfl,rfl⟩,rfl⟩
 refine ⟨cs,es,k,y,h,hy,?_⟩
 simp [AV.ren,nthH,Itz,Auz,Isz]


theorem Lhz:PCall Tryz.prog 18 [.agg [.rows false [] 0,.rows false [] 0],.agg [.rows false [] 0,.rows false [] 0]] (fun r=>r=.bool true) :=
 Dez [] [] 0 0 0 0 rfl rfl rfl rfl ⟨by decide,by decide,fun e he=>by cases he⟩


set_option maxHeartbeats 32000000 in
theorem lAAf_ok (bs:List Int)(hn:bs.length≤9223372036854775807)(hb:∀ x∈bs,0≤x∧x≤255):PCall Tryz.prog 4 [.rows false (UL bs) bs.length] (fun r=>r=.bool true):=by
 refine Atz l4_eq rfl ?_
 by_cases h:bs.length≤1048576
 ·have q:bs.length≤1099511627776∧∀ x∈bs,0≤x∧x≤255:=⟨by omega,hb⟩
  (repeat' ((first
 | (first|refine Afz ?_|refine Abz ?_)
 | (first|refine Agz ?_|refine Acz ?_|refine Amz ?_)
 | ((first|refine Alz (fun h=>?_) (fun h=>?_))<;>(try simp only [h])<;>(try simp only [bitvec_to_nat] at h)<;>(try simp only [h])<;>(first|(exfalso;omega)|(exfalso;simp_all;done)|skip))
 | (first|((with_reducible refine Ajz (f:=17) true ?_);simp (disch:=omega) only [push_cast,seval,Aaz];(refine Aiz (Akz (drawAA_ok _ _ ?_ ?_)) ?_;(iterate 2 (exact sd));rintro _ _ ⟨⟨cs,es,k,y,⟨hs1,hs2,hs3,hs4,hs5⟩,hy5,rfl⟩,rfl⟩)))
 | (first|refine Ajz false ?_))<;>(try simp (disch:=omega) only [push_cast,seval,Aaz])))
  cases hG:aaG cs es k y with
  | false =>
   have q3:aaG cs es k y=false∧(cs.length≤1099511627776∧es.length≤1099511627776∧exB 1099511627776 es)∧y.length≤1099511627776:=⟨hG,hs1,by omega⟩
   (repeat' ((first
 | (first|refine Afz ?_|refine Abz ?_)
 | (first|refine Agz ?_|refine Acz ?_)
 | (first|refine Ajz false ?_)
 | (first|(refine Aiz (Akz (iAAn_ok _ _ _ _ _ _ _ ?_ ?_ ?_ ?_)) ?_;(iterate 4 (exact sd));rintro _ _ ⟨rfl,rfl⟩)|(refine Aiz (Akz (sAAn_ok _ _ _ _ _ _ _ ?_ ?_ ?_ ?_)) ?_;(iterate 4 (exact sd));rintro _ _ ⟨rfl,rfl⟩)|(refine Aiz (Akz (Lhz)) ?_;rintro _ _ ⟨rfl,rfl⟩)))<;>(try simp (disch:=omega) only [push_cast,seval,Aaz,bne_self_eq_false,decide_true,beq_self_eq_true,Brz,Bsz])))
   all_goals (first|((refine Adz ⟨.inr rfl,_,rfl,?_⟩;try simp (disch:=omega) only [push_cast,seval]))|skip)
   all_goals (try rfl)
  | true =>
   have hv2:=ap_bnd hG
   have hv:=hG
   unfold aaG at hv
   rw [Bool.and_eq_true] at hv
   have hb2:=vB_x hv2
   have hne:=acT_ne cs es k y
   by_cases hsm:acOk cs es k y=false∨k=6
   ·obtain ⟨e1,e2⟩:=ap_same hsm
    rcases hsm with ho|h6
    ·have hT:=acT_is (k:=k) (y:=y) ho
     rw [hT] at hne
     (repeat' ((first
 | (first|refine Afz ?_|refine Abz ?_)
 | (first|refine Agz ?_|refine Acz ?_|refine Amz ?_)
 | (first|refine Ajz false ?_)
 | ((first | (refine Aiz (Akz (Miz _ _ _ _ _ _ _ ?_ ?_ ?_ ?_)) ?_; (iterate 4 (exact sd)); rintro _ _ ⟨rfl,rfl⟩) | (refine Aiz (Akz (L1z _ _ _ _ _ _ _ ?_ ?_ ?_ ?_)) ?_; (iterate 4 (exact sd)); rintro _ _ ⟨rfl,rfl⟩) | (refine Aiz (Akz (Dez _ _ _ _ _ _ ?_ ?_ ?_ ?_ ?_)) ?_; (iterate 5 (exact sd)); rintro _ _ ⟨rfl,rfl⟩) | (refine Aiz (Akz (Dez _ _ _ _ _ _ ?_ ?_ ?_ ?_ ?_)) ?_; (iterate 5 (exact sd)); rintro _ _ ⟨rfl,rfl⟩) | (refine Aiz (Akz (Buz _ _ _ _ ?_ ?_ ?_)) ?_; (iterate 3 (exact sd)); rintro _ _ ⟨rfl,rfl⟩)) <;> (try simp (disch := omega) only [push_cast,seval,Aaz,bne_self_eq_false,decide_true,beq_self_eq_true,Brz,Bsz,e1,e2,hT,hne,hv.1])))<;>(try simp (disch:=omega) only [push_cast,seval,Aaz,bne_self_eq_false,decide_true,beq_self_eq_true,Brz,Bsz,e1,e2,hT,hne,hv.1])))
     all_goals (first|((refine Adz ⟨.inr rfl,_,rfl,?_⟩;try simp (disch:=omega) only [push_cast,seval]))|skip)
     all_goals (try rfl)
    ·have n6:(k=6)=True:=eq_true h6
     generalize hT:acT cs es k y=T at *
     (repeat' ((first
 | (first|refine Afz ?_|refine Abz ?_)
 | (first|refine Agz ?_|refine Acz ?_|refine Amz ?_)
 | ((first|refine A4z (fun h=>?_) (fun h=>?_))<;>(try simp only [h])<;>(try simp only [bitvec_to_nat] at h)<;>(try simp only [h])<;>(first|(exfalso;omega)|(exfalso;simp_all;done)|skip))
 | (first|refine Ajz false ?_)
 | ((first | (refine Aiz (Akz (Miz _ _ _ _ _ _ _ ?_ ?_ ?_ ?_)) ?_; (iterate 4 (exact sd)); rintro _ _ ⟨rfl,rfl⟩) | (refine Aiz (Akz (L1z _ _ _ _ _ _ _ ?_ ?_ ?_ ?_)) ?_; (iterate 4 (exact sd)); rintro _ _ ⟨rfl,rfl⟩) | (refine Aiz (Akz (Dez _ _ _ _ _ _ ?_ ?_ ?_ ?_ ?_)) ?_; (iterate 5 (exact sd)); rintro _ _ ⟨rfl,rfl⟩) | (refine Aiz (Akz (Dez _ _ _ _ _ _ ?_ ?_ ?_ ?_ ?_)) ?_; (iterate 5 (exact sd)); rintro _ _ ⟨rfl,rfl⟩) | (refine Aiz (Akz (Buz _ _ _ _ ?_ ?_ ?_)) ?_; (iterate 3 (exact sd)); rintro _ _ ⟨rfl,rfl⟩)) <;> (try simp (disch := omega) only [push_cast,seval,Aaz,bne_self_eq_false,decide_true,beq_self_eq_true,Brz,Bsz,e1,e2,hT,hne,hv.1,n6])))<;>(try simp (disch:=omega) only [push_cast,seval,Aaz,bne_self_eq_false,decide_true,beq_self_eq_true,Brz,Bsz,e1,e2,hT,hne,hv.1,n6])))
     all_goals (first|((refine Adz ⟨.inr rfl,_,rfl,?_⟩;try simp (disch:=omega) only [push_cast,seval]))|skip)
     all_goals (try rfl)
   ·have ho:acOk cs es k y=true:=by cases ho:acOk cs es k y with
     | true=>rfl
     | false=>exact absurd (.inl ho) hsm
    have h6:k≠6:=fun e=>hsm (.inr e)
    have hno:=acT_no ho h6
    have n6:(k=6)=False:=eq_false h6
    generalize hT:acT cs es k y=T at *
    generalize hC:apC cs es k y=C at *
    generalize hE:apE cs es k y=E at *
    (repeat' ((first
 | (first|refine Afz ?_|refine Abz ?_)
 | (first|refine Agz ?_|refine Acz ?_|refine Amz ?_)
 | (first|refine Ajz false ?_)
 | (first|(refine Aiz (Akz (Miz _ _ _ _ _ _ _ ?_ ?_ ?_ ?_)) ?_;(iterate 4 (exact sd));rintro _ _ ⟨rfl,rfl⟩)|(refine Aiz (Akz (L1z _ _ _ _ _ _ _ ?_ ?_ ?_ ?_)) ?_;(iterate 4 (exact sd));rintro _ _ ⟨rfl,rfl⟩)|(refine Aiz (Akz (Dez _ _ _ _ _ _ ?_ ?_ ?_ ?_ ?_)) ?_;(iterate 5 (exact sd));rintro _ _ ⟨rfl,rfl⟩)|(refine Aiz (Akz (Dez _ _ _ _ _ _ ?_ ?_ ?_ ?_ ?_)) ?_;(iterate 5 (exact sd));rintro _ _ ⟨rfl,rfl⟩)|(refine Aiz (Akz (Buz _ _ _ _ ?_ ?_ ?_)) ?_;(iterate 3 (exact sd));rintro _ _ ⟨rfl,rfl⟩)))<;>(try simp (disch:=omega) only [push_cast,seval,Aaz,bne_self_eq_false,decide_true,decide_false,beq_self_eq_true,Brz,Bsz,hC,hE,hT,hne,hno,hv2,n6])))
    all_goals (first|((refine Adz ⟨.inr rfl,_,rfl,?_⟩;try simp (disch:=omega) only [push_cast,seval]))|skip)
    all_goals (try rfl)
 ·(repeat' (first
 | (first|refine Afz ?_|refine Abz ?_)
 | ((first|refine Agz ?_|refine Acz ?_);simp (disch:=omega) only [push_cast,seval,Aaz])
 | ((first|refine Alz (fun h=>?_) (fun h=>?_))<;>(try simp only [h])<;>(try simp only [bitvec_to_nat] at h)<;>(try simp only [h])<;>(first|(exfalso;omega)|(exfalso;simp_all;done)|(simp (disch:=omega) only [push_cast,seval,Aaz])|skip))
 | (refine Adz ⟨.inr rfl,_,rfl,?_⟩;(try simp (disch:=omega) only [push_cast,seval,Aaz]))))

end Go.Proofs.YtfccepgibbdfaaaGreatDoor
