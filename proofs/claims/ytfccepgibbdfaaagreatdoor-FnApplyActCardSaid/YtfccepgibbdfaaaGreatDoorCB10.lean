/- Texts of this verifier. -/
import Derived.Test.YtfccepgibbdfaaaGreatDoorCB9
import Derived.Test.YtfccepgibbdfaaaGreatDoorCM1
import Derived.Test.YtfccepgibbdfaaaGreatDoorCW3
import Derived.Shelf.Strconv.Itoa3
set_option maxHeartbeats 4000000
set_option linter.unusedSimpArgs false
set_option linter.unusedSectionVars false
set_option linter.unusedVariables false
set_option maxRecDepth 4000
namespace Go.Proofs.YtfccepgibbdfaaaGreatDoor
open VwM Vw Go
variable [SentA]
variable [PowA]

theorem E6z {P:Program}{f:Nat}{args:List AV}{ok:Bool}{cs:List Int}{es:List Ex}(h:BCall P f args [] (OBf ok cs es)):PCall P f args (fun r=>r=.tup [.agg [.rows true (IL cs) cs.length,.rows true (EL true es) es.length],.bool ok]):=by
 refine (BCall.plain h).mono ?_
 rintro r ⟨r0,H',⟨rfl,rfl⟩,rfl⟩
 have e0:nthH (IL cs::(esF es).cellsG (· + 2)::(esF es).conts) 0=some (IL cs):=rfl
 have e1:nthH (IL cs::(esF es).cellsG (· + 2)::(esF es).conts) 1=some ((esF es).cellsG (· + 2)):=rfl
 show AV.tup [AV.agg [AV.ren _ _ true some 3 (.own 0 cs.length 1),AV.ren _ _ true some 3 (.own 1 es.length 5)],.bool ok]=_
 rw [Emz,Emz,e0,e1,Evz,Evz,if_pos (by unfold IL;simp),if_pos (by rw [Fpz,eF_C])]
 have e2:((esF es).cellsG (· + 2)).map (AV.ren (fun _=>none) (nthH (IL cs::(esF es).cellsG (· + 2)::(esF es).conts)) true some 2)=EL true es:=by
  rw [← Khz]
  unfold Fam.cellsG Fam.plain
  rw [C2z]
  refine Bxz fun p hp=>(esF es).ren_plain fun j hj=>⟨rfl,?_⟩
  have hjR:=(esF es).ok p j hp hj
  show ((esF es).conts)[j]?=_
  unfold Fam.conts
  rw [List.getElem?_map,List.getElem?_range hjR];rfl
 have e3:(IL cs).map (AV.ren (fun _=>none) (nthH (IL cs::(esF es).cellsG (· + 2)::(esF es).conts)) true some 2)=IL cs:=Ckz _
 rw [e2,e3]
end Go.Proofs.YtfccepgibbdfaaaGreatDoor
namespace Go.Proofs.YtfccepgibbdfaaaGreatDoor
open VwM Vw Go
variable [SentA]
variable [PowA]

def epO (es:List Ex)(id d f t w:Int)(hf ht:Bool):Bool:=sdOk (vwA es id).1 (vwA es id).2.1 (vwA es id).2.2 d f t w hf ht
def epG (cs:List Int)(es:List Ex)(id d f t w:Int)(hf ht:Bool):Bool:=((vB cs es&&opA es id)&&!decide (es.length=8))&&epO es id d f t w hf ht
def epV (es:List Ex)(id d f t w:Int)(hf ht:Bool):Vw3:=(cutB (vwA es id).1 (vwA es id).2.1 (vwA es id).2.2 d.toNat f t w hf ht,cutSh (vwA es id).2.1 d.toNat f t w hf ht,cutSt (vwA es id).2.1 (vwA es id).2.2 d.toNat f t w hf ht)
def epE (es:List Ex)(id d f t w:Int)(hf ht:Bool):List Ex:=es++[(id,epV es id d f t w hf ht,true)]
theorem cutSt_lenE (sh st:List Int)(j:Nat)(f t w:Int)(hf ht:Bool):(cutSt sh st j f t w hf ht).length≤max sh.length st.length:=by
 unfold cutSt;split<;>simp<;>omega
theorem EL_tak3 {es:List Ex}{q:Nat}{p b:Int}{x y:List Int}{o:Bool}(he:es[q]?=some (p,(b,x,y),o)):((EL false es).drop (q*5+1)).take 3=[.int .i64 b,.rows false (IL x) x.length,.rows false (IL y) y.length]:=by
 have hd:=Btz false es q he
 simp only at hd
 have:=congrArg (fun l=>(l.drop 1).take 3) hd
 simpa [List.drop_take,List.drop_drop,List.take_take] using this
theorem cut_lens {sh st:List Int}{d:Nat}{f t w:Int}{hf ht:Bool}{k:Nat}(h1:sh.length≤k)(h2:st.length≤k):(cutSh sh d f t w hf ht).length≤k∧(cutSt sh st d f t w hf ht).length≤k:=by
 refine ⟨by rw [B0z];exact h1,?_⟩
 have:=cutSt_lenE sh st d f t w hf ht
 omega


set_option maxHeartbeats 8000000 in
theorem sEP_ok (cs:List Int)(es:List Ex)(m n:Nat)(id d f t w:Int)(hf ht:Bool)(hm:cs.length=m)(hn:es.length=n)(hb:m≤1099511627776∧n≤1099511627776∧exB 1099511627776 es) :
  BCall Tryz.prog 96 [.agg [.rows false (IL cs) m,.rows false (EL false es) n],.int .i64 id,.int .i64 d,slc f t w hf ht] [] (OBs (epG cs es id d f t w hf ht) (ifB (epG cs es id d f t w hf ht) cs) (ifB (epG cs es id d f t w hf ht) (epE es id d f t w hf ht))):=by
 subst hm hn
 have hb0:=hb
 obtain ⟨hb1,hb2,hb3⟩:=hb
 have hel:=Auz false es
 refine Avz (pins:=[]) (pin:=0) l96_eq rfl rfl rfl ?_
 unfold epG
 cases hv:vB cs es with
 | false =>
  simp only [Bool.false_and,A0z]
  (repeat' ((first
 | (first|refine Afz ?_|refine Abz ?_)
 | (first|refine Agz ?_|refine Acz ?_)
 | (first|refine Ajz false ?_)
 | (first|(refine Aiz (Akz (Biz _ _ _ _ ?_ ?_ ?_)) ?_;(iterate 3 (exact sd));rintro _ _ ⟨rfl,rfl⟩))
 | (refine Adz ⟨.inr rfl,[16000,16001],[(16000,1),(16001,5)],_,by decide,rfl,?_⟩;(try simp (disch:=omega) only [push_cast,seval,↓Ahz,↓Aez,↓List.map_cons,↓List.map_nil,hv,hel,Aaz])))<;>(try simp (disch:=omega) only [push_cast,seval,hv,hel,Aaz])))
  all_goals simp [OBs,EL]
 | true =>
  obtain ⟨v1,v2,v3⟩:=vB_8 hv
  cases hr:opA es id with
  | false =>
   simp only [Bool.true_and,Bool.false_and,A0z]
   (repeat' ((first
 | (first|refine Afz ?_|refine Abz ?_)
 | (first|refine Agz ?_|refine Acz ?_)
 | (first|refine Ajz false ?_)
 | (first|(refine Aiz (Akz (Biz _ _ _ _ ?_ ?_ ?_)) ?_;(iterate 3 (exact sd));rintro _ _ ⟨rfl,rfl⟩)|(refine Aiz (Akz (Cyz _ _ _ _ _ ?_ ?_ ?_)) ?_;(iterate 3 (exact sd));rintro _ _ ⟨rfl,rfl⟩))
 | (refine Adz ⟨.inr rfl,[16000,16001],[(16000,1),(16001,5)],_,by decide,rfl,?_⟩;(try simp (disch:=omega) only [push_cast,seval,↓Ahz,↓Aez,↓List.map_cons,↓List.map_nil,hv,hr,hel,Aaz])))<;>(try simp (disch:=omega) only [push_cast,seval,hv,hr,hel,Aaz])))
   all_goals simp [OBs,EL]
  | true =>
   simp only [Bool.true_and]
   by_cases h8:es.length=8
   ·have hd:(!decide (es.length=8))=false:=by simp [h8]
    have h8i:(es.length:Int)=8:=by omega
    simp only [hd,Bool.false_and,A0z]
    (repeat' ((first
 | (first|refine Afz ?_|refine Abz ?_)
 | (first|refine Agz ?_|refine Acz ?_)
 | (first|refine Ajz false ?_)
 | (first|(refine Aiz (Akz (Biz _ _ _ _ ?_ ?_ ?_)) ?_;(iterate 3 (exact sd));rintro _ _ ⟨rfl,rfl⟩)|(refine Aiz (Akz (Cyz _ _ _ _ _ ?_ ?_ ?_)) ?_;(iterate 3 (exact sd));rintro _ _ ⟨rfl,rfl⟩))
 | (refine Adz ⟨.inr rfl,[16000,16001],[(16000,1),(16001,5)],_,by decide,rfl,?_⟩;(try simp (disch:=omega) only [push_cast,seval,↓Ahz,↓Aez,↓List.map_cons,↓List.map_nil,hv,hr,h8i,hel,Aaz])))<;>(try simp (disch:=omega) only [push_cast,seval,hv,hr,h8i,hel,Aaz])))
    all_goals simp [OBs,EL]
   ·have hd:(!decide (es.length=8))=true:=by simp [h8]
    have h8i:((es.length:Int)=8)=False:=eq_false (by omega)
    simp only [hd,Bool.true_and]
    obtain ⟨q,p,b,x,y,rfl,hq,he,hvw⟩:=Dbz hr
    have hbb:=Cgz hb3 he
    have hil:q*5+5≤es.length*5:=by omega
    have h3:=EL_tak3 he
    have hcl:=cut_lens (d:=d.toNat) (f:=f) (t:=t) (w:=w) (hf:=hf) (ht:=ht) hbb.1 hbb.2
    unfold epO epE epV
    simp only [hvw]
    generalize hcB:cutB b x y d.toNat f t w hf ht=cB at *
    generalize hcS:cutSh x d.toNat f t w hf ht=cS at *
    generalize hcT:cutSt x y d.toNat f t w hf ht=cT at *
    cases hx:sdOk b x y d f t w hf ht with
    | false =>
     simp only [A0z]
     (repeat' ((first
 | (first|refine Afz ?_|refine Abz ?_)
 | (first|refine Agz ?_|refine Bbz (mid:=l96r3a) (post:=l96r3b) [160,1000000010,2000000160] mixed (by decide) ?_|refine Acz ?_|refine Amz ?_)
 | (first|refine Ajz false ?_|refine Aqz false ?_)
 | (first|((first|refine Aiz (Akz (Biz _ _ _ _ ?_ ?_ ?_)) ?_|refine Aoz (Akz (Biz _ _ _ _ ?_ ?_ ?_)) ⟨_,_,rfl,rfl⟩ ?_);(iterate 3 (exact sd));rintro _ _ ⟨rfl,rfl⟩)|((first|refine Aiz (Akz (Cyz _ _ _ _ _ ?_ ?_ ?_)) ?_|refine Aoz (Akz (Cyz _ _ _ _ _ ?_ ?_ ?_)) ⟨_,_,rfl,rfl⟩ ?_);(iterate 3 (exact sd));rintro _ _ ⟨rfl,rfl⟩)|((first|refine Aiz (Ebz _ _ _ _ _ _ _ _ _ _ _ ?_ ?_ ?_) ?_|refine Aoz (Ebz _ _ _ _ _ _ _ _ _ _ _ ?_ ?_ ?_) ⟨_,_,rfl,rfl⟩ ?_);(iterate 3 (exact sd));rintro _ _ ⟨rfl,rfl⟩))
 | (refine Adz ⟨.inr rfl,[16000,16001],[(16000,1),(16001,5)],_,by decide,rfl,?_⟩; (try simp (disch := omega) only [push_cast,seval,↓Ahz,↓Aez,↓List.map_cons,↓List.map_nil,hv,hr,h8i,h3,hx,hil,hel,Aaz,Dvz,MVL_false])))<;>(try simp (disch:=omega) only [push_cast,seval,hv,hr,h8i,h3,hx,hil,hel,Aaz,Dvz,MVL_false])))
     all_goals simp [OBs,EL]
    | true =>
     simp only [Ayz]
     have hadd:(cS.length≤1099511627776∧cT.length≤1099511627776)∧cs.length≤1099511627776∧es.length≤1000∧exB 1099511627776 es:=⟨hcl,hb1,by omega,hb3⟩
     (repeat' ((first
 | (first|refine Afz ?_|refine Abz ?_)
 | (first|refine Agz ?_|refine Bbz (mid:=l96r3a) (post:=l96r3b) [160,1000000010,2000000160] mixed (by decide) ?_|refine Acz ?_|refine Amz ?_)
 | (first|refine Ajz false ?_|refine Aqz false ?_)
 | (first|((first|refine Aiz (Akz (Biz _ _ _ _ ?_ ?_ ?_)) ?_|refine Aoz (Akz (Biz _ _ _ _ ?_ ?_ ?_)) ⟨_,_,rfl,rfl⟩ ?_);(iterate 3 (exact sd));rintro _ _ ⟨rfl,rfl⟩)|((first|refine Aiz (Akz (Cyz _ _ _ _ _ ?_ ?_ ?_)) ?_|refine Aoz (Akz (Cyz _ _ _ _ _ ?_ ?_ ?_)) ⟨_,_,rfl,rfl⟩ ?_);(iterate 3 (exact sd));rintro _ _ ⟨rfl,rfl⟩)|((first|refine Aiz (Ebz _ _ _ _ _ _ _ _ _ _ _ ?_ ?_ ?_) ?_|refine Aoz (Ebz _ _ _ _ _ _ _ _ _ _ _ ?_ ?_ ?_) ⟨_,_,rfl,rfl⟩ ?_);(iterate 3 (exact sd));rintro _ _ ⟨rfl,rfl⟩)|((first|refine Aiz (sAdB_ok _ _ _ _ _ _ _ _ _ _ ?_ ?_ ?_ ?_ ?_) ?_|refine Aoz (sAdB_ok _ _ _ _ _ _ _ _ _ _ ?_ ?_ ?_ ?_ ?_) ⟨_,_,rfl,rfl⟩ ?_);(iterate 5 (exact sd));rintro _ _ ⟨rfl,rfl⟩))
 | (refine Adz ⟨.inr rfl,[736,737],[],_,by decide,rfl,?_⟩; (try simp (disch := omega) only [push_cast,seval,↓Ahz,↓Aez,↓List.map_cons,↓List.map_nil,hv,hr,h8i,h3,hx,hil,hcB,hcS,hcT,hel,Aaz,Dpz,MVL_true])))<;>(try simp (disch:=omega) only [push_cast,seval,hv,hr,h8i,h3,hx,hil,hcB,hcS,hcT,hel,Aaz,Dpz,MVL_true])))
     all_goals simp [OBs]


set_option maxHeartbeats 8000000 in
theorem iEP_ok (cs:List Int)(es:List Ex)(m n:Nat)(id d f t w:Int)(hf ht:Bool)(hm:cs.length=m)(hn:es.length=n)(hb:m≤1048576∧n≤1048576∧exB 1048576 es) :
  BCall Tryz.prog 69 [.agg [.rows false (IL cs) m,.rows false (EL false es) n],.int .i64 id,.int .i64 d,slc f t w hf ht] [] (OBf (epG cs es id d f t w hf ht) (ifB (epG cs es id d f t w hf ht) cs) (ifB (epG cs es id d f t w hf ht) (epE es id d f t w hf ht))):=by
 subst hm hn
 have hb0:=hb
 obtain ⟨hb1,hb2,hb3⟩:=hb
 have hq8:cs.length≤1099511627776∧es.length≤1099511627776∧exB 1099511627776 es:=⟨by omega,by omega,fun e he=>by have:=hb3 e he;omega⟩
 have hel:=Auz false es
 refine Avz (pins:=[]) (pin:=0) l69_eq rfl rfl rfl ?_
 unfold epG
 cases hc:(vB cs es&&opA es id) with
 | false =>
  simp only [Bool.false_and,A0z]
  (repeat' ((first
 | (first|refine Afz ?_|refine Abz ?_)
 | (first|refine Agz ?_|refine Acz ?_)
 | (first|refine Ajz false ?_)
 | (first|(refine Aiz (Akz (Crz _ _ _ _ _ ?_ ?_ ?_)) ?_;(iterate 3 (exact sd));rintro _ _ ⟨rfl,rfl⟩))
 | (refine Adz ⟨.inr rfl,[16000,16001],[(16000,1),(16001,5)],_,by decide,rfl,?_⟩;(try simp (disch:=omega) only [push_cast,seval,↓Ahz,↓Aez,↓List.map_cons,↓List.map_nil,hc,hel,Aaz])))<;>(try simp (disch:=omega) only [push_cast,seval,hc,hel,Aaz])))
  all_goals simp [OBf,C5z]
 | true =>
  have hc2:=hc
  rw [Bool.and_eq_true] at hc2
  obtain ⟨hv,hr⟩:=hc2
  obtain ⟨v1,v2,v3⟩:=vB_8 hv
  obtain ⟨q,p,b,x,y,rfl,hq,he,hvw⟩:=Dbz hr
  have hbb:=Cgz hb3 he
  have hil:q*5+5≤es.length*5:=by omega
  have h3:=EL_tak3 he
  have hcl:=cut_lens (d:=d.toNat) (f:=f) (t:=t) (w:=w) (hf:=hf) (ht:=ht) hbb.1 hbb.2
  unfold epO epE epV
  simp only [hvw,Bool.true_and]
  generalize hcB:cutB b x y d.toNat f t w hf ht=cB at *
  generalize hcS:cutSh x d.toNat f t w hf ht=cS at *
  generalize hcT:cutSt x y d.toNat f t w hf ht=cT at *
  cases hx:sdOk b x y d f t w hf ht with
  | false =>
   simp only [Bool.and_false,A0z]
   (repeat' ((first
 | (first|refine Afz ?_|refine Abz ?_)
 | (first|refine Agz ?_|refine Bbz (mid:=l69r3a) (post:=l69r3b) [160,1000000010,2000000160] mixed (by decide) ?_|refine Acz ?_|refine Amz ?_)
 | (first|refine Ajz false ?_|refine Aqz false ?_)
 | (first|((first|refine Aiz (Akz (Crz _ _ _ _ _ ?_ ?_ ?_)) ?_|refine Aoz (Akz (Crz _ _ _ _ _ ?_ ?_ ?_)) ⟨_,_,rfl,rfl⟩ ?_);(iterate 3 (exact sd));rintro _ _ ⟨rfl,rfl⟩)|((first|refine Aiz (Efz _ _ _ _ _ _ _ _ _ _ _ ?_ ?_ ?_) ?_|refine Aoz (Efz _ _ _ _ _ _ _ _ _ _ _ ?_ ?_ ?_) ⟨_,_,rfl,rfl⟩ ?_);(iterate 3 (exact sd));rintro _ _ ⟨rfl,rfl⟩))
 | (refine Adz ⟨.inr rfl,[16000,16001],[(16000,1),(16001,5)],_,by decide,rfl,?_⟩;(try simp (disch:=omega) only [push_cast,seval,↓Ahz,↓Aez,↓List.map_cons,↓List.map_nil,hc,h3,hx,hil,hel,Aaz,Dvz,MVL_false])))<;>(try simp (disch:=omega) only [push_cast,seval,hc,h3,hx,hil,hel,Aaz,Dvz,MVL_false])))
   all_goals simp [OBf,C5z]
  | true =>
   simp only [Bool.and_true]
   have hadd:(cS.length≤1099511627776∧cT.length≤1099511627776)∧cs.length≤1048576∧es.length≤1000∧exB 1048576 es:=⟨⟨by omega,by omega⟩,hb1,by omega,hb3⟩
   generalize hW1:ifB (!decide (es.length=8)) cs=W1 at *
   generalize hW2:ifB (!decide (es.length=8)) (es++[((q:Int),(cB,cS,cT),true)])=W2 at *
   generalize hW3:(!decide (es.length=8))=W3 at *
   (repeat' ((first
 | (first|refine Afz ?_|refine Abz ?_)
 | (first|refine Agz ?_|refine Bbz (mid:=l69r3a) (post:=l69r3b) [160,1000000010,2000000160] mixed (by decide) ?_|refine Acz ?_|refine Amz ?_)
 | (first|((with_reducible refine Ajz (f:=104) false ?_);simp (disch:=omega) only [push_cast,seval,hc,h3,hx,hil,hcB,hcS,hcT,hel,Aaz,Dpz,MVL_true,hW1,hW2,hW3];(refine callFNT (iAdB_ok _ _ _ _ _ _ _ _ _ _ ?_ ?_ ?_ ?_ ?_) (by (simp (disch:=omega) only [push_cast,seval,hc,h3,hx,hil,hcB,hcS,hcT,hel,Aaz,Dpz,MVL_true,hW1,hW2,hW3]);done) ?_;(iterate 5 (exact sd)))))
 | (first|refine Ajz false ?_|refine Aqz false ?_)
 | (first|((first|refine Aiz (Akz (Crz _ _ _ _ _ ?_ ?_ ?_)) ?_|refine Aoz (Akz (Crz _ _ _ _ _ ?_ ?_ ?_)) ⟨_,_,rfl,rfl⟩ ?_);(iterate 3 (exact sd));rintro _ _ ⟨rfl,rfl⟩)|((first|refine Aiz (Efz _ _ _ _ _ _ _ _ _ _ _ ?_ ?_ ?_) ?_|refine Aoz (Efz _ _ _ _ _ _ _ _ _ _ _ ?_ ?_ ?_) ⟨_,_,rfl,rfl⟩ ?_);(iterate 3 (exact sd));rintro _ _ ⟨rfl,rfl⟩)))<;>(try simp (disch:=omega) only [push_cast,seval,hc,h3,hx,hil,hcB,hcS,hcT,hel,Aaz,Dpz,MVL_true,hW1,hW2,hW3])))
   refine Adz ⟨.inr rfl,Ghz (id0:=560) (id1:=561) (d:=35) (F:=esF W2) (cs:=W1) (bufT W1.length W2.length W3) rfl rfl (fun _ _ _ _ e0 e1=>Ecz e0 e1) rfl rfl (fun j hj=>?_) (by omega)⟩
   simp only [hk,Awz _ _ 128 (by omega),Awz _ _ 560 (by omega),Awz _ _ 561 (by omega),if_false]
   rw [Bpz 35 (esF W2) _ j hj]

end Go.Proofs.YtfccepgibbdfaaaGreatDoor
namespace Go.Proofs.YtfccepgibbdfaaaGreatDoor
open VwM Vw Go
variable [SentA]
variable [PowA]

def nbN (s:Int):Nat:=if 0≤s∧s≤60 then s.toNat else 0
theorem nbN_le (s:Int):nbN s≤60:=by unfold nbN;split<;>omega


theorem sNewBuf_ok (s:Int):BCall Tryz.prog 111 [.int .i64 s] [] (fun r H'=>r=.agg [.own 0 (nbN s) 1,.own 1 0 5]∧H'=[IL (List.replicate (nbN s) 0),[]]):=by
 refine Avz (pins:=[]) (pin:=0) l111_eq rfl rfl rfl ?_
 by_cases h:0≤s∧s≤60
 ·have hw:(decide (0≤s)&&decide (s≤60))=true:=by rw [Bool.and_eq_true,decide_eq_true_eq,decide_eq_true_eq];exact h
  have hN:nbN s=s.toNat:=if_pos h
  rw [hN]
  obtain ⟨n,rfl⟩:∃ n:Nat,s=n:=⟨s.toNat,by omega⟩
  rw [Int.toNat_natCast]
  (repeat' ((first
 | (first|refine Afz ?_|refine Abz ?_)
 | (first|refine Agz ?_|refine Acz ?_|refine Amz ?_)
 | (first|refine Ajz false ?_)
 | (first|(refine Aiz (Akz (A1z _ _ _)) ?_;rintro _ _ ⟨rfl,rfl⟩))
 | (refine Adz ⟨.inr rfl,[128,16000],[(16000,5)],_,by decide,rfl,?_⟩;(try simp (disch:=omega) only [push_cast,seval,↓Ahz,↓Aez,↓List.map_cons,↓List.map_nil,hw])))<;>(try simp (disch:=omega) only [push_cast,seval,hw])))
  all_goals (try simp)
 ·have hw:(decide (0≤s)&&decide (s≤60))=false:=by rw [Bool.and_eq_false_iff,decide_eq_false_iff_not,decide_eq_false_iff_not];omega
  have hN:nbN s=0:=if_neg h
  rw [hN]
  (repeat' ((first
 | (first|refine Afz ?_|refine Abz ?_)
 | (first|refine Agz ?_|refine Acz ?_)
 | (first|refine Ajz false ?_)
 | (first|(refine Aiz (Akz (A1z _ _ _)) ?_;rintro _ _ ⟨rfl,rfl⟩))
 | (refine Adz ⟨.inr rfl,[16000,16016],[(16000,1),(16016,5)],_,by decide,rfl,?_⟩;(try simp (disch:=omega) only [push_cast,seval,↓Ahz,↓Aez,↓List.map_cons,↓List.map_nil,hw])))<;>(try simp (disch:=omega) only [push_cast,seval,hw])))
  all_goals (try simp)

end Go.Proofs.YtfccepgibbdfaaaGreatDoor
namespace Go.Proofs.YtfccepgibbdfaaaGreatDoor
open VwM Vw Go
variable [SentA]
variable [PowA]

def ndA (k:Int):Int:=([1,3,4,1,2,2,1,1]:List Int).getD k.toNat 0
def vA (k:Int)(y:List Int):Bool:=(decide (0≤k)&&decide (k≤7))&&decide ((y.length:Int)=ndA k)&&allI y (-100) 100
theorem vA_out {k:Int}{y:List Int}(h:¬ (0≤k∧k≤7)):vA k y=false:=by
 have:(decide (0≤k)&&decide (k≤7))=false:=by
  rw [Bool.and_eq_false_iff,decide_eq_false_iff_not,decide_eq_false_iff_not];omega
 simp [vA,this]
theorem vA_len {k:Int}{y:List Int}(h:¬ (y.length:Int)=ndA k):vA k y=false:=by simp [vA,h]
theorem vA_in {k:Int}{y:List Int}(h:0≤k∧k≤7)(h2:(y.length:Int)=ndA k):vA k y=allI y (-100) 100:=by simp [vA,h.1,h.2,h2]
theorem k8 {k:Int}(h:0≤k∧k≤7):k=0∨k=1∨k=2∨k=3∨k=4∨k=5∨k=6∨k=7:=by omega
theorem acts0 (σ:List (Nat×AV))(H:List (Nat×List AV)):(mkS σ H).ev (.global 1)=.prow false [.str (ByteArray.mk (Array.mk [115,105,122,101])),.int .i64 1,.str (ByteArray.mk (Array.mk [118,105,101,119])),.int .i64 3,.str (ByteArray.mk (Array.mk [112,97,114,116])),.int .i64 4,.str (ByteArray.mk (Array.mk [102,108,105,112])),.int .i64 1,.str (ByteArray.mk (Array.mk [102,105,108,108])),.int .i64 2,.str (ByteArray.mk (Array.mk [99,111,112,121])),.int .i64 2,.str (ByteArray.mk (Array.mk [108,111,97,100])),.int .i64 1,.str (ByteArray.mk (Array.mk [102,114,101,101])),.int .i64 1] 0:=rfl
theorem ndA_in {k:Int}(h:0≤k∧k≤7):1≤ndA k∧ndA k≤4:=by
 rcases k8 h with rfl|rfl|rfl|rfl|rfl|rfl|rfl|rfl<;>decide


theorem Mdz (k:Int)(h:0≤k∧k≤7):PCall Tryz.prog 57 [.int .i64 k] (fun r=>r=.int .i64 (ndA k)):=by
 refine Atz l57_eq rfl ?_
 rcases k8 h with rfl|rfl|rfl|rfl|rfl|rfl|rfl|rfl
 ·have e:ndA 0=1:=rfl
  (repeat' (first
 | (first|refine Afz ?_|refine Abz ?_)
 | ((first|refine Agz ?_);simp (disch:=omega) only [push_cast,seval,e])
 | (refine Adz ⟨.inr rfl,_,rfl,?_⟩;(try simp (disch:=omega) only [push_cast,seval,e]))))
 ·have e:ndA 1=3:=rfl
  (repeat' (first
 | (first|refine Afz ?_|refine Abz ?_)
 | ((first|refine Agz ?_);simp (disch:=omega) only [push_cast,seval,e])
 | (refine Adz ⟨.inr rfl,_,rfl,?_⟩;(try simp (disch:=omega) only [push_cast,seval,e]))))
 ·have e:ndA 2=4:=rfl
  (repeat' (first
 | (first|refine Afz ?_|refine Abz ?_)
 | ((first|refine Agz ?_);simp (disch:=omega) only [push_cast,seval,e])
 | (refine Adz ⟨.inr rfl,_,rfl,?_⟩;(try simp (disch:=omega) only [push_cast,seval,e]))))
 ·have e:ndA 3=1:=rfl
  (repeat' (first
 | (first|refine Afz ?_|refine Abz ?_)
 | ((first|refine Agz ?_);simp (disch:=omega) only [push_cast,seval,e])
 | (refine Adz ⟨.inr rfl,_,rfl,?_⟩;(try simp (disch:=omega) only [push_cast,seval,e]))))
 ·have e:ndA 4=2:=rfl
  (repeat' (first
 | (first|refine Afz ?_|refine Abz ?_)
 | ((first|refine Agz ?_);simp (disch:=omega) only [push_cast,seval,e])
 | (refine Adz ⟨.inr rfl,_,rfl,?_⟩;(try simp (disch:=omega) only [push_cast,seval,e]))))
 ·have e:ndA 5=2:=rfl
  (repeat' (first
 | (first|refine Afz ?_|refine Abz ?_)
 | ((first|refine Agz ?_);simp (disch:=omega) only [push_cast,seval,e])
 | (refine Adz ⟨.inr rfl,_,rfl,?_⟩;(try simp (disch:=omega) only [push_cast,seval,e]))))
 ·have e:ndA 6=1:=rfl
  (repeat' (first
 | (first|refine Afz ?_|refine Abz ?_)
 | ((first|refine Agz ?_);simp (disch:=omega) only [push_cast,seval,e])
 | (refine Adz ⟨.inr rfl,_,rfl,?_⟩;(try simp (disch:=omega) only [push_cast,seval,e]))))
 ·have e:ndA 7=1:=rfl
  (repeat' (first
 | (first|refine Afz ?_|refine Abz ?_)
 | ((first|refine Agz ?_);simp (disch:=omega) only [push_cast,seval,e])
 | (refine Adz ⟨.inr rfl,_,rfl,?_⟩;(try simp (disch:=omega) only [push_cast,seval,e]))))


theorem svA_ok (k:Int)(y:List Int)(m:Nat)(hm:y.length=m)(hb:m≤1099511627776):PCall Tryz.prog 25 [.agg [.int .i64 k,.rows false (IL y) m]] (fun r=>r=.bool (vA k y)):=by
 subst hm
 refine Atz l25_eq rfl ?_
 by_cases h:0≤k∧k≤7
 ·have hn:=ndA_in h
  obtain ⟨h1,h2⟩:=h
  by_cases hz:(y.length:Int)=ndA k
  ·rw [vA_in ⟨h1,h2⟩ hz]
   (repeat' ((first
 | (first|refine Afz ?_|refine Abz ?_)
 | (first|refine Agz ?_|refine Arz (mid:=l25r1a) (post:=l25r1b) mixed (by decide) ?_)
 | (first|refine Ajz false ?_|refine Aqz false ?_)
 | (first|((first|refine Aiz (Akz (A1z _ _ _)) ?_|refine Aoz (Akz (A1z _ _ _)) ⟨_,_,rfl,rfl⟩ ?_);rintro _ _ ⟨rfl,rfl⟩)|((first|refine Aiz (Akz (Mdz _ ?_)) ?_|refine Aoz (Akz (Mdz _ ?_)) ⟨_,_,rfl,rfl⟩ ?_);(exact sd);rintro _ _ ⟨rfl,rfl⟩)|((first|refine Aiz (Akz (C1z _ _ _ _ ?_ ?_)) ?_|refine Aoz (Akz (C1z _ _ _ _ ?_ ?_)) ⟨_,_,rfl,rfl⟩ ?_);(iterate 2 (exact sd));rintro _ _ ⟨rfl,rfl⟩))
 | (refine Adz ⟨.inr rfl,_,rfl,?_⟩))<;>(try simp (disch:=omega) only [push_cast,seval,h1,h2,hz,decide_true,Bool.and_self])))
  ·rw [vA_len hz]
   (repeat' ((first
 | (first|refine Afz ?_|refine Abz ?_)
 | (first|refine Agz ?_|refine Arz (mid:=l25r1a) (post:=l25r1b) mixed (by decide) ?_)
 | (first|refine Aqz false ?_)
 | (first|(refine Aoz (Akz (A1z _ _ _)) ⟨_,_,rfl,rfl⟩ ?_;rintro _ _ ⟨rfl,rfl⟩)|(refine Aoz (Akz (Mdz _ ?_)) ⟨_,_,rfl,rfl⟩ ?_;(exact sd);rintro _ _ ⟨rfl,rfl⟩))
 | (refine Adz ⟨.inr rfl,_,rfl,?_⟩))<;>(try simp (disch:=omega) only [push_cast,seval,h1,h2,hz,decide_true,decide_false,Bool.and_self])))
 ·have hw:(decide (0≤k)&&decide (k≤7))=false:=by
   rw [Bool.and_eq_false_iff,decide_eq_false_iff_not,decide_eq_false_iff_not];omega
  rw [vA_out h]
  (repeat' ((first
 | (first|refine Afz ?_|refine Abz ?_)
 | (first|refine Agz ?_|refine Arz (mid:=l25r1a) (post:=l25r1b) mixed (by decide) ?_)
 | (first|refine Aqz false ?_)
 | (first|(refine Aoz (Akz (A1z _ _ _)) ⟨_,_,rfl,rfl⟩ ?_;rintro _ _ ⟨rfl,rfl⟩))
 | (refine Adz ⟨.inr rfl,_,rfl,?_⟩))<;>(try simp (disch:=omega) only [push_cast,seval,hw])))


theorem Kzz (x l:Int)(h0:0≤l)(h1:l≤10000):PCall Tryz.prog 66 [.int .i64 x,.int .i64 l] (fun r=>r=.bool (decide (-l≤x)&&decide (x≤l))):=by
 refine Atz l66_eq rfl ?_
 (repeat' (first
 | (first|refine Afz ?_|refine Abz ?_)
 | ((first|refine Agz ?_);simp (disch:=omega) only [push_cast,seval])
 | ((first|refine A4z (fun h=>?_) (fun h=>?_))<;>(try simp only [h])<;>(try simp only [bitvec_to_nat] at h)<;>(try simp only [h])<;>(first|(exfalso;omega)|(exfalso;simp_all;done)|(simp (disch:=omega) only [push_cast,seval])|skip))
 | (refine Adz ⟨.inr rfl,_,rfl,?_⟩;(try simp (disch:=omega) only [push_cast,seval]))))
 all_goals (first|rfl|(simp_all;done)|(simp_all;omega)|(simp;omega)|(simp;grind)|(simp_all;grind)|skip)


theorem k8n {k:Int}(h:0≤k∧k≤7):(k=0∧ndA k=1)∨(k=1∧ndA k=3)∨(k=2∧ndA k=4)∨(k=3∧ndA k=1)∨(k=4∧ndA k=2)∨(k=5∧ndA k=2)∨(k=6∧ndA k=1)∨(k=7∧ndA k=1):=by
 rcases k8 h with rfl|rfl|rfl|rfl|rfl|rfl|rfl|rfl<;>simp [ndA]
theorem vA_both {k n:Int}{y:List Int}(h:0≤k∧k≤7)(e:ndA k=n):((y.length:Int)=n∧vA k y=allI y (-100) 100)∨((¬ (y.length:Int)=n)∧vA k y=false):=by
 subst e
 by_cases hz:(y.length:Int)=ndA k
 ·exact .inl ⟨hz,vA_in h hz⟩
 ·exact .inr ⟨hz,vA_len hz⟩


set_option maxHeartbeats 16000000 in
theorem ivA_ok (k:Int)(y:List Int)(m:Nat)(hm:y.length=m)(hb:m≤1099511627776):PCall Tryz.prog 30 [.agg [.int .i64 k,.rows false (IL y) m]] (fun r=>r=.bool (vA k y)):=by
 subst hm
 refine Atz l30_eq rfl ?_
 by_cases h:0≤k∧k≤7
 ·rcases k8n h with ⟨rfl,e⟩|⟨rfl,e⟩|⟨rfl,e⟩|⟨rfl,e⟩|⟨rfl,e⟩|⟨rfl,e⟩|⟨rfl,e⟩|⟨rfl,e⟩<;>rcases vA_both (y:=y) h e with ⟨hz,hva⟩|⟨hz,hva⟩<;>rw [hva]
  all_goals ((repeat' ((first
 | (first|refine Afz ?_|refine Abz ?_)
 | (first|refine Agz ?_|refine Arz (mid:=l30r1a) (post:=l30r1b) mixed (by decide) ?_|refine Acz ?_|refine Amz ?_)
 | (first|refine Aqz false ?_)
 | (first|(refine Aoz (Akz (Dwz _ _)) ⟨_,_,rfl,rfl⟩ ?_;rintro _ _ ⟨rfl,rfl⟩))
 | (refine Adz ⟨.inr rfl,_,rfl,?_⟩;(try simp (disch:=omega) only [push_cast,seval,hz,acts0]))))<;>(try simp (disch:=omega) only [push_cast,seval,hz,acts0])))
  all_goals
   refine A5z (fun k:Nat=>mkS [(21,RI y),(22,.int .i64 y.length),(23,.int .i64 k)] []) (fun k=>k≤y.length∧∀ j:Nat,j<k→-100≤y.getD j 0∧y.getD j 0≤100) (fun k=>y.length-k) 0 ⟨Nat.zero_le _,fun j h=>absurd h (Nat.not_lt_zero _)⟩ ?_ ?_
   ·(refine Sub.of_lists ?_ ?_ ?_ ?_ ?_<;>simp [Vw.mkS,Vw.lk,Vw.hk,AV.inn,innL,Apz,Anz,Asz,-List.map_set,-List.getD_eq_getElem?_getD,hz])
   ·rintro k ⟨hk,hj⟩
    by_cases hlt:k<y.length
    ·by_cases hin:-100≤y.getD k 0∧y.getD k 0≤100
     ·have hw:(decide (-100≤y.getD k 0)&&decide (y.getD k 0≤100))=true:=by
       rw [Bool.and_eq_true,decide_eq_true_eq,decide_eq_true_eq];exact hin
      (repeat' ((first
 | (first|refine Afz ?_|refine Abz ?_)
 | (first|refine Agz ?_|refine Acz ?_|refine Amz ?_)
 | ((first|refine Alz (fun h=>?_) (fun h=>?_))<;>(try simp only [h])<;>(try simp only [bitvec_to_nat] at h)<;>(try simp only [h])<;>(first|(exfalso;omega)|(exfalso;simp_all;done)|skip))
 | (first|refine Ajz false ?_)
 | (first|(refine Aiz (Akz (Kzz _ _ ?_ ?_)) ?_;(iterate 2 (exact sd));rintro _ _ ⟨rfl,rfl⟩))
 | (refine Adz ⟨.inr rfl,_,rfl,?_⟩; (try simp (disch := omega) only [push_cast,seval,hw])))<;>(try simp (disch:=omega) only [push_cast,seval,hw])))
      refine ⟨k+1,⟨by omega,fun j h=>?_⟩,by omega,?_⟩
      ·by_cases hjk:j=k
       ·subst hjk;exact hin
       ·exact hj j (by omega)
      ·(refine Sub.of_lists ?_ ?_ ?_ ?_ ?_<;>simp [Vw.mkS,Vw.lk,Vw.hk,AV.inn,innL,Apz,Anz,Asz,-List.map_set,-List.getD_eq_getElem?_getD])
     ·have hw:(decide (-100≤y.getD k 0)&&decide (y.getD k 0≤100))=false:=by
       rw [Bool.and_eq_false_iff,decide_eq_false_iff_not,decide_eq_false_iff_not];omega
      rw [E3z (j:=k) hlt (by omega)]
      (repeat' ((first
 | (first|refine Afz ?_|refine Abz ?_)
 | (first|refine Agz ?_|refine Acz ?_|refine Amz ?_)
 | ((first|refine Alz (fun h=>?_) (fun h=>?_))<;>(try simp only [h])<;>(try simp only [bitvec_to_nat] at h)<;>(try simp only [h])<;>(first|(exfalso;omega)|(exfalso;simp_all;done)|skip))
 | (first|refine Ajz false ?_)
 | (first|(refine Aiz (Akz (Kzz _ _ ?_ ?_)) ?_;(iterate 2 (exact sd));rintro _ _ ⟨rfl,rfl⟩))
 | (refine Adz ⟨.inr rfl,_,rfl,?_⟩))<;>(try simp (disch:=omega) only [push_cast,seval,hw])))
    ·rw [Gez fun j h=>hj j (by omega)]
     (repeat' (first
 | (first|refine Afz ?_|refine Abz ?_)
 | ((first|refine Agz ?_|refine Acz ?_|refine Azz ?_);simp (disch:=omega) only [push_cast,seval])
 | ((first|refine Alz (fun h=>?_) (fun h=>?_))<;>(try simp only [h])<;>(try simp only [bitvec_to_nat] at h)<;>(try simp only [h])<;>(first|(exfalso;omega)|(exfalso;simp_all;done)|(simp (disch:=omega) only [push_cast,seval])|skip))
 | (refine Adz ⟨.inr rfl,_,rfl,?_⟩;(try simp (disch:=omega) only [push_cast,seval]))))
 ·have hw:(decide (0≤k)&&decide (k≤7))=false:=by
   rw [Bool.and_eq_false_iff,decide_eq_false_iff_not,decide_eq_false_iff_not];omega
  rw [vA_out h]
  (repeat' ((first
 | (first|refine Afz ?_|refine Abz ?_)
 | (first|refine Agz ?_|refine Arz (mid:=l30r1a) (post:=l30r1b) mixed (by decide) ?_|refine Acz ?_)
 | (first|refine Aqz false ?_)
 | (first|(refine Aoz (Akz (Dwz _ _)) ⟨_,_,rfl,rfl⟩ ?_;rintro _ _ ⟨rfl,rfl⟩))
 | (refine Adz ⟨.inr rfl,_,rfl,?_⟩))<;>(try simp (disch:=omega) only [push_cast,seval,hw])))

end Go.Proofs.YtfccepgibbdfaaaGreatDoor
namespace Go.Proofs.YtfccepgibbdfaaaGreatDoor
open VwM Vw Go
variable [SentA]
variable [PowA]

class PowB [PowA]:Prop where
 has:(2,Go.Lib.pow10Tab.map (Value.int .u64))∈PowA.rest
variable [PowB]


set_option maxHeartbeats 8000000 in
theorem numN_ok (k:Nat):∀ n:Int,n.toNat=k→(0≤n∧n≤9223372036854775807)→PCall Tryz.prog 62 [.int .i64 n] (fun r=>r=.str (itB n)):=by
 induction k using Nat.strongRecOn with
 | _ k ih =>
 intro n hk hn
 have ihN:∀ m:Int,(0≤m∧m<n)→PCall Tryz.prog 62 [.int .i64 m] (fun r=>r=.str (itB m)):=fun m hm=>ih m.toNat (by omega) m rfl ⟨hm.1,by omega⟩
 have h1:(n<0)=False:=eq_false (by omega)
 refine Atz l62_eq rfl ?_
 by_cases h10:n<10
 ·have hs:∀ (σ:List (Nat×AV)),lk σ 19=.int .i64 n→lk σ 21=.int .i64 (n+1)→arun (mkS σ []) 0 22 (.sliceS (.const (.string { data:={ toList:=[48,49,50,51,52,53,54,55,56,57] } })) (some (.tmp 19)) (some (.tmp 21)))=some (.str (ByteArray.extract { data:={ toList:=[48,49,50,51,52,53,54,55,56,57] } } n.toNat (n+1).toNat),none):=fun σ e1 e2 =>
   I2z rfl e1 e2 ⟨by omega,by show n+1≤10;omega⟩
  (repeat' (first
 | (first|refine Afz ?_|refine Abz ?_)
 | ((first|refine Agz ?_|refine Acz ?_|refine Amz ?_);simp (disch:=omega) only [push_cast,seval,h1,h10,decide_false])
 | (refine Adz ⟨.inr rfl,_,rfl,?_⟩;(try simp (disch:=omega) only [push_cast,seval,h1,h10,decide_false]))))
  rw [hs _ rfl rfl]
  simp (disch:=omega) only [push_cast,seval]
  (repeat' (first
 | (first|refine Afz ?_|refine Abz ?_)
 | (refine Adz ⟨.inr rfl,_,rfl,?_⟩;(try simp (disch:=omega) only [push_cast,seval,h1,h10,decide_false]))))
  rw [itB_one hn.1 h10]
 ·have q1:0≤n.tdiv 10∧n.tdiv 10<n:=by rw [Int.tdiv_eq_ediv_of_nonneg hn.1];omega
  have q2:=Dgz hn.1 (n:=10) (by omega)
  have q3:0≤n.tmod 10∧n.tmod 10<n:=by omega
  have z1:=Fgz (n:=n.tdiv 10) (by omega)
  have z2:=Fgz (n:=n.tmod 10) (by omega)
  have e1:=itB_more (n:=n) (by omega)
  (repeat' ((first
 | (first|refine Afz ?_|refine Abz ?_)
 | (first|refine Agz ?_|refine Acz ?_|refine Amz ?_)
 | (first|refine Ajz false ?_)
 | (first|(refine Aiz (Akz (ihN _ ?_)) ?_;(exact sd);rintro _ _ ⟨rfl,rfl⟩))
 | (refine Adz ⟨.inr rfl,_,rfl,?_⟩))<;>(try simp (disch:=omega) only [push_cast,seval,h1,h10,decide_false])))
  rw [e1]


theorem Hvz (n:Int)(hn:-9223372036854775807≤n∧n≤9223372036854775807):PCall Tryz.prog 62 [.int .i64 n] (fun r=>r=.str (itB n)):=by
 by_cases h:0≤n
 ·exact numN_ok n.toNat n rfl ⟨h,hn.2⟩
 have ihN:∀ m:Int,(0≤m∧m≤9223372036854775807)→PCall Tryz.prog 62 [.int .i64 m] (fun r=>r=.str (itB m)):=fun m hm=>numN_ok m.toNat m rfl hm
 have h1:(n<0)=True:=eq_true (by omega)
 have h2:(n=-n)=False:=eq_false (by omega)
 have q1:0≤-n∧-n≤9223372036854775807:=by omega
 have z1:=Fgz (n:=0-n) (by omega)
 have h45:({ data:={ toList:=[45] } }:ByteArray).size=1:=rfl
 refine Atz l62_eq rfl ?_
 have h1':n<0:=by omega
 have h3:(n=0-n)=False:=eq_false (by omega)
 clear h
 (repeat' ((first
 | (first|refine Afz ?_|refine Abz ?_)
 | (first|refine Agz ?_|refine Acz ?_|refine Amz ?_)
 | (first|refine Ajz false ?_)
 | (first|(refine Aiz (Akz (ihN _ ?_)) ?_;(exact sd);rintro _ _ ⟨rfl,rfl⟩)))<;>(try simp (disch:=omega) only [push_cast,seval,h1,h2,h3,decide_false,decide_true])))
 all_goals ((refine Adz ⟨.inr rfl,_,rfl,?_⟩;try simp (disch:=omega) only [push_cast,seval]))
 rw [show (0:Int)-n=-n by omega,itB_neg h1']




set_option maxHeartbeats 8000000 in
theorem numTX_ok (xs:List Int)(n:Nat)(hn:xs.length=n)(hb:n≤1000000∧∀ x∈xs,-9223372036854775807≤x∧x≤9223372036854775807):PCall Tryz.prog 60 [.rows false (IL xs) n] (fun r=>r=.str (txB { data:={ toList:=[] } } xs)):=by
 subst hn
 obtain ⟨hb1,hb2⟩:=hb
 refine Atz l60_eq rfl ?_
 (repeat' (first
 | (first|refine Afz ?_|refine Abz ?_)
 | ((first|refine Agz ?_);simp (disch:=omega) only [push_cast,seval])
 | (refine Adz ⟨.inr rfl,_,rfl,?_⟩;(try simp (disch:=omega) only [push_cast,seval]))))
 refine A5z (fun i:Nat=>mkS [(0,.rows false (IL xs) xs.length),(3,.str (txB { data:={ toList:=[] } } (xs.take i))),(4,.int .i64 i)] []) (fun i=>i≤xs.length) (fun i=>xs.length-i) 0 (Nat.zero_le _) ?_ ?_
 ·have e0:txB { data:={ toList:=[] } } (xs.take 0)={ data:={ toList:=[] } }:=rfl
  (refine Sub.of_lists ?_ ?_ ?_ ?_ ?_<;>simp [Vw.mkS,Vw.lk,Vw.hk,AV.inn,innL,Apz,Anz,Asz,-List.map_set,-List.getD_eq_getElem?_getD])
  all_goals rfl
 ·intro i hi
  have hsz:=I6z (xs.take i) { data:={ toList:=[] } } (fun x hx=>by have:=hb2 x (List.mem_of_mem_take hx);omega)
  have hsl:(xs.take i).length≤1000000:=by rw [List.length_take];omega
  have he0:({ data:={ toList:=[] } }:ByteArray).size=0:=rfl
  by_cases hlt:i<xs.length
  ·have hx:=hb2 _ (Ddz hlt)
   have hzx:=Fgz (n:=xs.getD i 0) (by omega)
   have h32:({ data:={ toList:=[32] } }:ByteArray).size=1:=rfl
   have htk:=txB_take (w:={ data:={ toList:=[] } }) hlt
   generalize hT:txB { data:={ toList:=[] } } (xs.take i)=t at *
   have ht2:(t++({ data:={ toList:=[32] } }:ByteArray)).size=t.size+1:=by rw [ByteArray.size_append];rfl
   have hadd:=E4z t { data:={ toList:=[32] } } (by rw [h32];omega)
   (repeat' ((first
 | (first|refine Afz ?_|refine Abz ?_)
 | (first|refine Agz ?_|refine Acz ?_|refine Amz ?_)
 | ((first|refine Alz (fun h=>?_) (fun h=>?_))<;>(try simp only [h])<;>(try simp only [bitvec_to_nat] at h)<;>(try simp only [h])<;>(first|(exfalso;omega)|(exfalso;simp_all;done)|skip))
 | (first|refine Ajz false ?_)
 | (first|(refine Aiz (Akz (Hvz _ ?_)) ?_;(exact sd);rintro _ _ ⟨rfl,rfl⟩))
 | (refine Adz ⟨.inr rfl,_,rfl,?_⟩))<;>(try simp (disch:=omega) only [push_cast,seval,hlt,hadd])))
   refine ⟨i+1,by omega,by omega,?_⟩
   rw [← htk]
   (refine Sub.of_lists ?_ ?_ ?_ ?_ ?_<;>simp [Vw.mkS,Vw.lk,Vw.hk,AV.inn,innL,Apz,Anz,Asz,-List.map_set,-List.getD_eq_getElem?_getD])
  ·have e:i=xs.length:=by omega
   subst e
   rw [List.take_length]
   (repeat' (first
 | (first|refine Afz ?_|refine Abz ?_)
 | ((first|refine Agz ?_|refine Acz ?_|refine Azz ?_);simp (disch:=omega) only [push_cast,seval])
 | ((first|refine Alz (fun h=>?_) (fun h=>?_))<;>(try simp only [h])<;>(try simp only [bitvec_to_nat] at h)<;>(try simp only [h])<;>(first|(exfalso;omega)|(exfalso;simp_all;done)|(simp (disch:=omega) only [push_cast,seval])|skip))
 | (refine Adz ⟨.inr rfl,_,rfl,?_⟩;(try simp (disch:=omega) only [push_cast,seval]))))


def ren171:Go.Shelf.Ren:=(⟨fun n=>match n with|129=>169|171=>108|243=>135|246=>152|283=>162|284=>163|285=>164|286=>165|317=>168|318=>170|319=>171|320=>172|337=>173|338=>174|_=>0,fun n=>match n with|0=>0|2=>2|3=>3|4=>4|5=>5|9=>9|20=>20|37=>43|46=>174|51=>183|53=>186|171=>189|173=>192|212=>196|213=>197|232=>200|233=>201|_=>0,fun n=>match n with|17=>2|18=>3|19=>4|_=>0⟩:Go.Shelf.Ren)
theorem lays171:Go.Proofs.LaysM.n171 Tryz.prog ren171:={ mixed:=by kernel_rfl,f129:=by kernel_rfl,f171:=by kernel_rfl,f243:=by kernel_rfl,f246:=by kernel_rfl,f283:=by kernel_rfl,f284:=by kernel_rfl,f285:=by kernel_rfl,f286:=by kernel_rfl,f317:=by kernel_rfl,f318:=by kernel_rfl,f319:=by kernel_rfl,f320:=by kernel_rfl,f337:=by kernel_rfl,f338:=by kernel_rfl,t0:=by kernel_rfl,a0:=fun w=>by kernel_rfl,z0:=fun w=>by kernel_rfl,v0:=fun w=>by kernel_rfl,t2:=by kernel_rfl,a2:=fun w=>by kernel_rfl,z2:=fun w=>by kernel_rfl,v2:=fun w=>by kernel_rfl,t3:=by kernel_rfl,a3:=fun w=>by kernel_rfl,z3:=fun w=>by kernel_rfl,v3:=fun w=>by kernel_rfl,t4:=by kernel_rfl,a4:=fun w=>by kernel_rfl,z4:=fun w=>by kernel_rfl,v4:=fun w=>by kernel_rfl,t5:=by kernel_rfl,a5:=fun w=>by kernel_rfl,z5:=fun w=>by kernel_rfl,v5:=fun w=>by kernel_rfl,t9:=by kernel_rfl,a9:=fun w=>by kernel_rfl,z9:=fun w=>by kernel_rfl,v9:=fun w=>by kernel_rfl,t20:=by kernel_rfl,a20:=fun w=>by kernel_rfl,z20:=fun w=>by kernel_rfl,v20:=fun w=>by kernel_rfl,t37:=by kernel_rfl,a37:=fun w=>by kernel_rfl,z37:=fun w=>by kernel_rfl,v37:=fun w=>by kernel_rfl,t46:=by kernel_rfl,a46:=fun w=>by kernel_rfl,z46:=fun w=>by kernel_rfl,v46:=fun w=>by kernel_rfl,t51:=by kernel_rfl,a51:=fun w=>by kernel_rfl,z51:=fun w=>by kernel_rfl,v51:=fun w=>by kernel_rfl,t53:=by kernel_rfl,a53:=fun w=>by kernel_rfl,z53:=fun w=>by kernel_rfl,v53:=fun w=>by kernel_rfl,t171:=by kernel_rfl,a171:=fun w=>by kernel_rfl,z171:=fun w=>by kernel_rfl,v171:=fun w=>by kernel_rfl,t173:=by kernel_rfl,a173:=fun w=>by kernel_rfl,z173:=fun w=>by kernel_rfl,v173:=fun w=>by kernel_rfl,t212:=by kernel_rfl,a212:=fun w=>by kernel_rfl,z212:=fun w=>by kernel_rfl,v212:=fun w=>by kernel_rfl,t213:=by kernel_rfl,a213:=fun w=>by kernel_rfl,z213:=fun w=>by kernel_rfl,t232:=by kernel_rfl,a232:=fun w=>by kernel_rfl,z232:=fun w=>by kernel_rfl,v232:=fun w=>by kernel_rfl,t233:=by kernel_rfl,a233:=fun w=>by kernel_rfl,z233:=fun w=>by kernel_rfl,v233:=fun w=>by kernel_rfl,g17:=by kernel_rfl,g18:=by kernel_rfl,g19:=by kernel_rfl,i0:=by kernel_rfl,i2:=by kernel_rfl,i3:=by kernel_rfl,i4:=by kernel_rfl,i5:=by kernel_rfl,i9:=by kernel_rfl,i20:=by kernel_rfl,i37:=by kernel_rfl,i46:=by kernel_rfl,i51:=by kernel_rfl,i53:=by kernel_rfl,i171:=by kernel_rfl,i173:=by kernel_rfl,i212:=by kernel_rfl,i232:=by kernel_rfl,i233:=by kernel_rfl,m17:=by kernel_rfl,m18:=by kernel_rfl,m19:=by kernel_rfl }
theorem itoa_ok (n:Int)(hn:-9223372036854775808≤n∧n≤9223372036854775807):PCall Tryz.prog 108 [.int .i64 n] (fun r=>r=.str (itB n)):=by
 intro w B vs hB hG hl hd
 match vs,hl with
 | [v],_ =>
 simp only [DenP,Den,and_true] at hd
 subst hd
 have htab : Go.Lib.TabIs Tryz.prog w "internal/strconv.uint64pow10" .u64 Go.Lib.pow10Tab := by
  obtain ⟨⟨e,fz,hh⟩,_⟩:=hG (2,Go.Lib.pow10Tab.map (Value.int .u64)) (by first|exact List.mem_cons_of_mem _ PowB.has|exact List.mem_cons_of_mem _ (List.mem_cons_of_mem _ PowB.has))
  unfold Go.Lib.TabIs World.var?
  have hg : Tryz.prog.globalNamed "internal/strconv.uint64pow10" = some 2 := by kernel_rfl
  rw [hg]
  simp only [Option.bind_some,hh]
  rfl
 refine (Go.Proofs.Any.strconv_Itoa lays171 n hn.1 hn.2 w htab).mono fun e w'=>?_
 rintro ⟨rfl,k,os,rfl⟩
 refine ⟨.str (itB n),_,rfl,rfl,rfl,rfl,rfl,rfl,?_,fun j hj=>?_⟩
 ·show w.heap.size≤(w.heap++os).size
  rw [Array.size_append];omega
 ·show (w.heap++os)[j]?=_
  rw [Array.getElem?_append_left hj]

end Go.Proofs.YtfccepgibbdfaaaGreatDoor
namespace Go.Proofs.YtfccepgibbdfaaaGreatDoor
open VwM Vw Go
variable [SentA]
variable [PowA]

theorem Ftz {cs:List Int}{es:List Ex}:vB cs es=true↔vMem cs=true∧es.length≤8∧∀ i e,es[i]?=some e→sxV cs.length es i e=true:=by
 unfold vB
 simp only [Bool.and_eq_true,decide_eq_true_eq,Dfz]
 constructor
 ·rintro ⟨⟨h1,h2⟩,h3⟩
  exact ⟨h1,h2,fun i e he=>h3 i e (List.getElem?_eq_some_iff.1 he).1 he⟩
 ·rintro ⟨h1,h2,h3⟩
  exact ⟨⟨h1,h2⟩,fun i e _ he=>h3 i e he⟩
theorem Ekz {m:Int}{es:List Ex}{i:Nat}{e:Ex}:sxV m es i e=true↔((-1≤e.1∧e.1≤(i:Int)-1)∧vV e.2.1.1 e.2.1.2.1 e.2.1.2.2=true)∧(e.2.2=true→allI (offs e.2.1.1 e.2.1.2.1 e.2.1.2.2) 0 (m-1)=true∧(e.1<0∨opE es e.1=true)):=by
 unfold sxV exV
 simp only [Bool.and_eq_true,Bool.or_eq_true,Bool.not_eq_true',decide_eq_true_eq]
 cases e.2.2<;>simp [and_assoc]
theorem vB_cells {cs cs':List Int}{es:List Ex}(h:vB cs es=true)(hl:cs'.length=cs.length)(hm:vMem cs'=true):vB cs' es=true:=by
 rw [Ftz] at h ⊢
 rw [hl]
 exact ⟨hm,h.2⟩
theorem vB_size {cs cs':List Int}{es:List Ex}(h:vB cs es=true)(ho:opensT es es.length=[])(hm:vMem cs'=true):vB cs' es=true:=by
 rw [Ftz] at h ⊢
 refine ⟨hm,h.2.1,fun i e he=>?_⟩
 have h1:=Ekz.1 (h.2.2 i e he)
 have h2:=Exz.1 ho i e (List.getElem?_eq_some_iff.1 he).1 he
 exact Ekz.2 ⟨h1.1,fun h3=>absurd h3 h2⟩
theorem vB_rel {cs:List Int}{es:List Ex}{q:Nat}(h:vB cs es=true)(hk:kidsT es (q:Int) es.length=[]):vB cs (relE es q)=true:=by
 cases he:es[q]? with
 | none=>simp only [relE,he];exact h
 | some f =>
  rw [Ftz] at h ⊢
  have hq:q<es.length:=(List.getElem?_eq_some_iff.1 he).1
  rw [relE_at he]
  refine ⟨h.1,by simpa using h.2.1,fun i e hi=>?_⟩
  rw [List.getElem?_set] at hi
  by_cases e1:q=i
  ·subst e1
   rw [if_pos rfl,if_pos hq] at hi
   injection hi with hi
   subst hi
   have h1:=Ekz.1 (h.2.2 q f he)
   exact Ekz.2 ⟨h1.1,fun h3=>by cases h3⟩
  ·rw [if_neg e1] at hi
   have h1:=Ekz.1 (h.2.2 i e hi)
   refine Ekz.2 ⟨h1.1,fun h3=>⟨(h1.2 h3).1,?_⟩⟩
   rcases (h1.2 h3).2 with h4|h4
   ·exact .inl h4
   ·by_cases h5:e.1<0
    ·exact .inl h5
    ·refine .inr ?_
     have hne:q≠e.1.toNat:=fun e2=>by
      have:=Ffz.1 hk i e (List.getElem?_eq_some_iff.1 hi).1 hi
      exact this ⟨h3,by omega⟩
     unfold opE at h4 ⊢
     rw [List.getElem?_set,if_neg hne]
     exact h4
theorem vB_add {cs:List Int}{es:List Ex}{p b:Int}{x y:List Int}(h:vB cs es=true)(h8:es.length≠8)(hv:vV b x y=true)(hf:allI (offs b x y) 0 ((cs.length:Int)-1)=true)(hp:p=-1∨(0≤p∧p<es.length∧opE es p=true)):vB cs (es++[(p,(b,x,y),true)])=true:=by
 rw [Ftz] at h ⊢
 refine ⟨h.1,by rw [List.length_append,List.length_singleton];omega,fun i e hi=>?_⟩
 have hop:∀ r:Int,0≤r→r<es.length→opE es r=true→opE (es++[(p,(b,x,y),true)]) r=true:=fun r h1 h2 h3=>by
  unfold opE at h3 ⊢
  rw [List.getElem?_append_left (by omega)]
  exact h3
 by_cases hl:i<es.length
 ·rw [List.getElem?_append_left hl] at hi
  have h1:=Ekz.1 (h.2.2 i e hi)
  refine Ekz.2 ⟨h1.1,fun h3=>⟨(h1.2 h3).1,?_⟩⟩
  rcases (h1.2 h3).2 with h4|h4
  ·exact .inl h4
  ·by_cases h5:e.1<0
   ·exact .inl h5
   ·exact .inr (hop e.1 (by omega) (by omega) h4)
 ·rw [List.getElem?_append_right (by omega)] at hi
  have hil:i=es.length:=by
   have:=(List.getElem?_eq_some_iff.1 hi).1
   simp at this
   omega
  subst hil
  rw [Nat.sub_self] at hi
  injection hi with hi
  subst hi
  refine Ekz.2 ⟨⟨?_,hv⟩,fun _=>⟨hf,?_⟩⟩
  ·simp only
   rcases hp with h1|h1<;>omega
  ·rcases hp with h1|h1
   ·exact .inl (by simp only;omega)
   ·exact .inr (hop p h1.1 h1.2.1 h1.2.2)
theorem cut_sub {b:Int}{sh st:List Int}{j:Nat}{f t w:Int}{hf ht:Bool}(hv:vV b sh st=true)(hj:j<sh.length)(hs:vS f t w hf ht=true){x:Int}(hx:x∈offs (cutB b sh st j f t w hf ht) (cutSh sh j f t w hf ht) (cutSt sh st j f t w hf ht)):x∈offs b sh st:=by
 have hg:=(Cbz (Cmz.1 hv).1).1
 have hg2:=(Cbz (Cmz.1 (vV_cut hv hj hs)).1).1
 by_cases hz:pr (cutSh sh j f t w hf ht)=0
 ·have:=List.length_pos_of_mem hx
  rw [Bdz,hz] at this
  exact absurd this (by decide)
 ·rw [Cqz hg2] at hx
  rw [Cqz hg]
  obtain ⟨g,h1,h2⟩:=hx
  refine ⟨cutIx sh j f w hf g,cutIx_ix hv hj hs h1,?_⟩
  rw [← cut_dot hv hj hs hz h1]
  rw [B0z] at h2
  exact h2
theorem sdOk_facts {b:Int}{sh st:List Int}{d f t w:Int}{hf ht:Bool}(h:sdOk b sh st d f t w hf ht=true):vV b sh st=true∧d.toNat<sh.length∧vS f t w hf ht=true∧vV (cutB b sh st d.toNat f t w hf ht) (cutSh sh d.toNat f t w hf ht) (cutSt sh st d.toNat f t w hf ht)=true:=by
 unfold sdOk at h
 simp only [Bool.and_eq_true,decide_eq_true_eq] at h
 exact ⟨h.1.1.1,by omega,h.1.2,h.2⟩
theorem vB_ep {cs:List Int}{es:List Ex}{id d f t w:Int}{hf ht:Bool}(h:epG cs es id d f t w hf ht=true):vB cs (epE es id d f t w hf ht)=true:=by
 unfold epG at h
 simp only [Bool.and_eq_true,Bool.not_eq_true',decide_eq_false_iff_not] at h
 obtain ⟨⟨⟨hv,hr⟩,h8⟩,ho⟩:=h
 obtain ⟨q,p,b,x,y,rfl,hq,he,hvw⟩:=Dbz hr
 unfold epO at ho
 unfold epE epV
 rw [hvw] at ho ⊢
 simp only at ho ⊢
 obtain ⟨g1,g2,g3,g4⟩:=sdOk_facts ho
 have hs:=D1z hv he
 unfold seeB at hs
 simp only [Bool.and_eq_true] at hs
 refine vB_add hv h8 g4 ?_ (.inr ⟨by omega,by omega,?_⟩)
 ·rw [Cxz] at hs ⊢
  exact fun z hz=>hs.2 z (cut_sub g1 g2 g3 hz)
 ·unfold opE
  rw [Int.toNat_natCast,he]
theorem vB_ev {cs:List Int}{es:List Ex}{b:Int}{x y:List Int}(h:evG cs es b x y=true):vB cs (es++[(-1,(b,x,y),true)])=true:=by
 unfold evG at h
 simp only [Bool.and_eq_true,Bool.not_eq_true',decide_eq_false_iff_not] at h
 obtain ⟨⟨hv,hf⟩,h8⟩:=h
 unfold fitB at hf
 simp only [Bool.and_eq_true] at hf
 exact vB_add hv h8 hf.1.1 hf.2 (.inl rfl)
theorem vB_relG {cs:List Int}{es:List Ex}{id:Int}(h:relG cs es id=true):vB cs (relE es id.toNat)=true:=by
 unfold relG at h
 simp only [Bool.and_eq_true,decide_eq_true_eq,List.length_eq_zero_iff] at h
 obtain ⟨q,_,_,_,_,rfl,_⟩:=Dbz h.1.2
 rw [Int.toNat_natCast]
 exact vB_rel h.1.1 h.2
theorem getD_rng {mem:List Int}(hm:∀ x∈mem,0≤x∧x≤255)(j:Nat):0≤mem.getD j 0∧mem.getD j 0≤255:=by
 by_cases hl:j<mem.length
 ·exact hm _ (Ddz hl)
 ·rw [List.getD,List.getElem?_eq_none (Nat.le_of_not_lt hl)];simp
theorem putK_rng {mem cells vals:List Int}(hm:∀ x∈mem,0≤x∧x≤255)(hv:∀ j,0≤vals.getD j 0∧vals.getD j 0≤255):∀ k,∀ x∈putK mem cells vals k,0≤x∧x≤255
 | 0,x,hx=>hm x hx
 | k+1,x,hx=>by
  simp only [putK] at hx
  rcases List.mem_or_eq_of_mem_set hx with h1|h1
  ·exact putK_rng hm hv k x h1
  ·subst h1;exact hv k
theorem vMem_put {cs:List Int}(h:vMem cs=true)(os vs:List Int)(hvs:∀ x∈vs,0≤x∧x≤255):vMem (putL cs os vs)=true:=by
 rw [Cnz] at h ⊢
 exact ⟨by rw [C3z];exact h.1,putK_rng h.2 (getD_rng hvs) _⟩

end Go.Proofs.YtfccepgibbdfaaaGreatDoor
