/- Texts of this verifier. -/
import Derived.Test.YtkpcjppnjmhanaaGreatDoorCB7
import Derived.Test.YtkpcjppnjmhanaaGreatDoorCM1
import Derived.Test.YtkpcjppnjmhanaaGreatDoorCW3
set_option maxHeartbeats 4000000
set_option linter.unusedSimpArgs false
set_option linter.unusedSectionVars false
set_option linter.unusedVariables false
set_option maxRecDepth 4000
namespace Go.Proofs.YtkpcjppnjmhanaaGreatDoor
open VwM Vw Go
variable [SentA]

def xfG (cs:List Int) (es:List Ex) (id v:Int):Bool:=(vB cs es && opA es id) && (decide (0 ≤ v) && decide (v ≤ 255))
def xfC (cs:List Int) (es:List Ex) (id v:Int):List Int:=filL cs (vwA es id).1 (vwA es id).2.1 (vwA es id).2.2 v
theorem J0z (cs:List Int) (b:Int) (x y:List Int) (v:Int):(filL cs b x y v).length=cs.length:=Dsz ..


set_option maxHeartbeats 8000000 in
theorem sFE_ok (cs:List Int) (es:List Ex) (m n:Nat) (id v:Int) (hm:cs.length=m) (hn:es.length=n) (hb:m ≤ 1099511627776 ∧ n ≤ 1099511627776 ∧ exB 1099511627776 es) :
    BCall Tryz.prog 23 [.agg [.rows false (IL cs) m,.rows false (EL false es) n],.int .i64 id,.int .i64 v] [] (OBs (xfG cs es id v) (ifB (xfG cs es id v) (xfC cs es id v)) (ifB (xfG cs es id v) es)):=by
  subst hm hn
  have hb0:=hb
  obtain ⟨hb1,hb2,hb3⟩:=hb
  have hel:=A1z false es
  refine Axz (pins:=[]) (pin:=0) l23_eq rfl rfl rfl ?_
  unfold xfG
  cases hv:vB cs es with
  | false =>
    simp only [Bool.false_and,A9z]
    (repeat' (first
 | (first|refine Ahz ?_|refine Abz ?_)
 | ((first|refine Aiz ?_|refine Adz ?_);simp (disch:=omega) only [push_cast,seval,l23r0,l23r1,l23r2,l23r3,l23r4a,l23r4b,l23r4,l23r5,hv,hel,Aaz])
 | ((first|refine Alz false ?_);simp (disch:=omega) only [push_cast,seval,hv,hel,Aaz])
 | ((first|((first|refine Akz (Ajz (A7z _ _ _ _ ?_ ?_ ?_)) ?_|refine Agz (Ajz (A7z _ _ _ _ ?_ ?_ ?_)) ⟨_,_,rfl,rfl⟩ ?_);(iterate 3 (exact sd));rintro _ _ ⟨rfl,rfl⟩))<;>(try simp (disch:=omega) only [push_cast,seval,hv,hel,Aaz]))
 | (refine Aez ⟨.inr rfl,[16000,16001],[(16000,1),(16001,5)],_,by decide,rfl,?_⟩;(try simp (disch:=omega) only [push_cast,seval,↓Afz,↓Acz,↓List.map_cons,↓List.map_nil,hv,hel,Aaz]))))
    all_goals simp [OBs,EL]
  | true =>
    obtain ⟨v1,v2,v3⟩:=vB_8 hv
    cases hr:opA es id with
    | false =>
      simp only [Bool.true_and,Bool.false_and,A9z]
      (repeat' (first
 | (first|refine Ahz ?_|refine Abz ?_)
 | ((first|refine Aiz ?_|refine Adz ?_);simp (disch:=omega) only [push_cast,seval,l23r0,l23r1,l23r2,l23r3,l23r4a,l23r4b,l23r4,l23r5,hv,hr,hel,Aaz])
 | ((first|refine Alz false ?_);simp (disch:=omega) only [push_cast,seval,hv,hr,hel,Aaz])
 | ((first|((first|refine Akz (Ajz (A7z _ _ _ _ ?_ ?_ ?_)) ?_|refine Agz (Ajz (A7z _ _ _ _ ?_ ?_ ?_)) ⟨_,_,rfl,rfl⟩ ?_);(iterate 3 (exact sd));rintro _ _ ⟨rfl,rfl⟩)|((first|refine Akz (Ajz (Bwz _ _ _ _ _ ?_ ?_ ?_)) ?_|refine Agz (Ajz (Bwz _ _ _ _ _ ?_ ?_ ?_)) ⟨_,_,rfl,rfl⟩ ?_);(iterate 3 (exact sd));rintro _ _ ⟨rfl,rfl⟩))<;>(try simp (disch:=omega) only [push_cast,seval,hv,hr,hel,Aaz]))
 | (refine Aez ⟨.inr rfl,[16000,16001],[(16000,1),(16001,5)],_,by decide,rfl,?_⟩;(try simp (disch:=omega) only [push_cast,seval,↓Afz,↓Acz,↓List.map_cons,↓List.map_nil,hv,hr,hel,Aaz]))))
      all_goals simp [OBs,EL]
    | true =>
      simp only [Bool.true_and]
      cases hx:(decide (0 ≤ v) && decide (v ≤ 255)) with
 | false =>
        simp only [A9z]
        (repeat' (first
 | (first|refine Ahz ?_|refine Abz ?_)
 | ((first|refine Aiz ?_|refine Adz ?_);simp (disch:=omega) only [push_cast,seval,l23r0,l23r1,l23r2,l23r3,l23r4a,l23r4b,l23r4,l23r5,hv,hr,hx,hel,Aaz])
 | ((first|refine Alz false ?_);simp (disch:=omega) only [push_cast,seval,hv,hr,hx,hel,Aaz])
 | ((first|((first|refine Akz (Ajz (A7z _ _ _ _ ?_ ?_ ?_)) ?_|refine Agz (Ajz (A7z _ _ _ _ ?_ ?_ ?_)) ⟨_,_,rfl,rfl⟩ ?_);(iterate 3 (exact sd));rintro _ _ ⟨rfl,rfl⟩)|((first|refine Akz (Ajz (Bwz _ _ _ _ _ ?_ ?_ ?_)) ?_|refine Agz (Ajz (Bwz _ _ _ _ _ ?_ ?_ ?_)) ⟨_,_,rfl,rfl⟩ ?_);(iterate 3 (exact sd));rintro _ _ ⟨rfl,rfl⟩)|((first|refine Akz (Ajz (Atz _ _ _)) ?_|refine Agz (Ajz (Atz _ _ _)) ⟨_,_,rfl,rfl⟩ ?_);rintro _ _ ⟨rfl,rfl⟩))<;>(try simp (disch:=omega) only [push_cast,seval,hv,hr,hx,hel,Aaz]))
 | (refine Aez ⟨.inr rfl,[16000,16001],[(16000,1),(16001,5)],_,by decide,rfl,?_⟩;(try simp (disch:=omega) only [push_cast,seval,↓Afz,↓Acz,↓List.map_cons,↓List.map_nil,hv,hr,hx,hel,Aaz]))))
        all_goals simp [OBs,EL]
 | true =>
        obtain ⟨q,p,b,x,y,rfl,hq,he,hvw⟩:=Gnz hr
        have hs:=vB_see hv he
        have hbb:=Dmz hb3 he
        have hd:=Cez false es q he
        simp only at hd
        have hil:q * 5 + 5 ≤ es.length * 5:=by omega
        have h3:((EL false es).drop (q * 5 + 1)).take 3=[.int .i64 b,.rows false (IL x) x.length,.rows false (IL y) y.length]:=by
          have:=congrArg (fun l=>(l.drop 1).take 3) hd
          simpa [List.drop_take,List.drop_drop,List.take_take] using this
        have hfb:filB cs b x y v=true:=by unfold filB;rw [hs,hx];rfl
        have hlen:=J0z cs b x y v
        unfold xfC
        simp only [C7z,hvw]
        generalize hZ:filL cs b x y v=Z at *
        (repeat' (first
 | (first|refine Ahz ?_|refine Abz ?_)
 | ((first|refine Aiz ?_|refine Buz (mid:=l23r4a) (post:=l23r4b) [128,1000000039] mixed (by decide) ?_|refine Adz ?_|refine Aoz ?_);simp (disch:=omega) only [push_cast,seval,l23r0,l23r1,l23r2,l23r3,l23r4a,l23r4b,l23r4,l23r5,hv,hr,hx,h3,hfb,hZ,hil,hel,Aaz,MVL_true])
 | ((first|refine Alz false ?_|refine A0z false ?_);simp (disch:=omega) only [push_cast,seval,hv,hr,hx,h3,hfb,hZ,hil,hel,Aaz,MVL_true])
 | ((first|((first|refine Akz (Ajz (A7z _ _ _ _ ?_ ?_ ?_)) ?_|refine Agz (Ajz (A7z _ _ _ _ ?_ ?_ ?_)) ⟨_,_,rfl,rfl⟩ ?_);(iterate 3 (exact sd));rintro _ _ ⟨rfl,rfl⟩)|((first|refine Akz (Ajz (Bwz _ _ _ _ _ ?_ ?_ ?_)) ?_|refine Agz (Ajz (Bwz _ _ _ _ _ ?_ ?_ ?_)) ⟨_,_,rfl,rfl⟩ ?_);(iterate 3 (exact sd));rintro _ _ ⟨rfl,rfl⟩)|((first|refine Akz (Ajz (Atz _ _ _)) ?_|refine Agz (Ajz (Atz _ _ _)) ⟨_,_,rfl,rfl⟩ ?_);rintro _ _ ⟨rfl,rfl⟩)|((first|refine Akz (Glz _ _ _ _ ?_ ?_ ?_) ?_|refine Agz (Glz _ _ _ _ ?_ ?_ ?_) ⟨_,_,rfl,rfl⟩ ?_);(iterate 3 (exact sd));rintro _ _ ⟨rfl,rfl⟩)|((first|refine Akz (sFill_ok _ _ _ _ _ _ _ _ ?_ ?_ ?_ ?_) ?_|refine Agz (sFill_ok _ _ _ _ _ _ _ _ ?_ ?_ ?_ ?_) ⟨_,_,rfl,rfl⟩ ?_);(iterate 4 (exact sd));rintro _ _ ⟨rfl,rfl⟩))<;>(try simp (disch:=omega) only [push_cast,seval,hv,hr,hx,h3,hfb,hZ,hil,hel,Aaz,MVL_true]))
 | (refine Aez ⟨.inr rfl,[576,401],[],_,by decide,rfl,?_⟩;(try simp (disch:=omega) only [push_cast,seval,↓Afz,↓Acz,↓List.map_cons,↓List.map_nil,hv,hr,hx,h3,hfb,hZ,hil,hel,Aaz,MVL_true]))))
        all_goals simp [OBs]

end Go.Proofs.YtkpcjppnjmhanaaGreatDoor
namespace Go.Proofs.YtkpcjppnjmhanaaGreatDoor
open VwM Vw Go
variable [SentA]

def xcG (cs:List Int) (es:List Ex) (t f:Int):Bool:=((vB cs es && opA es t) && opA es f) && decide ((vwA es t).2.1=(vwA es f).2.1)
def xcC (cs:List Int) (es:List Ex) (t f:Int):List Int:=putL cs (offs (vwA es t).1 (vwA es t).2.1 (vwA es t).2.2) (takesL cs (offs (vwA es f).1 (vwA es f).2.1 (vwA es f).2.2))
theorem twoB_see {mem:List Int} {b:Int} {sh st:List Int} {b':Int} {sh' st':List Int} (h:seeB mem b sh st=true) (h':seeB mem b' sh' st'=true):twoB mem b sh st b' sh' st'=decide (sh=sh'):=by
  unfold twoB;rw [h,h'];rfl
theorem Miz {es:List Ex} {q:Nat} {p b:Int} {x y:List Int} {o:Bool} (he:es[q]?=some (p,(b,x,y),o)):((EL false es).drop (q * 5 + 1)).take 3=[.int .i64 b,.rows false (IL x) x.length,.rows false (IL y) y.length]:=by
  have hd:=Cez false es q he
  simp only at hd
  have:=congrArg (fun l=>(l.drop 1).take 3) hd
  simpa [List.drop_take,List.drop_drop,List.take_take] using this


set_option maxHeartbeats 8000000 in
theorem sCE_ok (cs:List Int) (es:List Ex) (m n:Nat) (t f:Int) (hm:cs.length=m) (hn:es.length=n) (hb:m ≤ 1099511627776 ∧ n ≤ 1099511627776 ∧ exB 1099511627776 es) :
    BCall Tryz.prog 28 [.agg [.rows false (IL cs) m,.rows false (EL false es) n],.int .i64 t,.int .i64 f] [] (OBs (xcG cs es t f) (ifB (xcG cs es t f) (xcC cs es t f)) (ifB (xcG cs es t f) es)):=by
  subst hm hn
  have hb0:=hb
  obtain ⟨hb1,hb2,hb3⟩:=hb
  have hel:=A1z false es
  refine Axz (pins:=[]) (pin:=0) l28_eq rfl rfl rfl ?_
  unfold xcG
  cases hv:vB cs es with
  | false =>
    simp only [Bool.false_and,A9z]
    (repeat' (first
 | (first|refine Ahz ?_|refine Abz ?_)
 | ((first|refine Aiz ?_|refine Adz ?_);simp (disch:=omega) only [push_cast,seval,l28r0,l28r1,l28r2,l28r3a,l28r3b,l28r3,l28r4,l28r5,l28r6,l28r7,l28r8,hv,hel,Aaz])
 | ((first|refine Alz false ?_);simp (disch:=omega) only [push_cast,seval,hv,hel,Aaz])
 | ((first|((first|refine Akz (Ajz (A7z _ _ _ _ ?_ ?_ ?_)) ?_|refine Agz (Ajz (A7z _ _ _ _ ?_ ?_ ?_)) ⟨_,_,rfl,rfl⟩ ?_);(iterate 3 (exact sd));rintro _ _ ⟨rfl,rfl⟩))<;>(try simp (disch:=omega) only [push_cast,seval,hv,hel,Aaz]))
 | (refine Aez ⟨.inr rfl,[16000,16001],[(16000,1),(16001,5)],_,by decide,rfl,?_⟩;(try simp (disch:=omega) only [push_cast,seval,↓Afz,↓Acz,↓List.map_cons,↓List.map_nil,hv,hel,Aaz]))))
    all_goals simp [OBs,EL]
  | true =>
    obtain ⟨v1,v2,v3⟩:=vB_8 hv
    cases hr:opA es t with
    | false =>
      simp only [Bool.true_and,Bool.false_and,A9z]
      (repeat' (first
 | (first|refine Ahz ?_|refine Abz ?_)
 | ((first|refine Aiz ?_|refine Adz ?_);simp (disch:=omega) only [push_cast,seval,l28r0,l28r1,l28r2,l28r3a,l28r3b,l28r3,l28r4,l28r5,l28r6,l28r7,l28r8,hv,hr,hel,Aaz])
 | ((first|refine Alz false ?_);simp (disch:=omega) only [push_cast,seval,hv,hr,hel,Aaz])
 | ((first|((first|refine Akz (Ajz (A7z _ _ _ _ ?_ ?_ ?_)) ?_|refine Agz (Ajz (A7z _ _ _ _ ?_ ?_ ?_)) ⟨_,_,rfl,rfl⟩ ?_);(iterate 3 (exact sd));rintro _ _ ⟨rfl,rfl⟩)|((first|refine Akz (Ajz (Bwz _ _ _ _ _ ?_ ?_ ?_)) ?_|refine Agz (Ajz (Bwz _ _ _ _ _ ?_ ?_ ?_)) ⟨_,_,rfl,rfl⟩ ?_);(iterate 3 (exact sd));rintro _ _ ⟨rfl,rfl⟩))<;>(try simp (disch:=omega) only [push_cast,seval,hv,hr,hel,Aaz]))
 | (refine Aez ⟨.inr rfl,[16000,16001],[(16000,1),(16001,5)],_,by decide,rfl,?_⟩;(try simp (disch:=omega) only [push_cast,seval,↓Afz,↓Acz,↓List.map_cons,↓List.map_nil,hv,hr,hel,Aaz]))))
      all_goals simp [OBs,EL]
    | true =>
      cases hrf:opA es f with
 | false =>
        simp only [Bool.true_and,Bool.false_and,A9z]
        (repeat' (first
 | (first|refine Ahz ?_|refine Abz ?_)
 | ((first|refine Aiz ?_|refine Adz ?_);simp (disch:=omega) only [push_cast,seval,l28r0,l28r1,l28r2,l28r3a,l28r3b,l28r3,l28r4,l28r5,l28r6,l28r7,l28r8,hv,hr,hrf,hel,Aaz])
 | ((first|refine Alz false ?_);simp (disch:=omega) only [push_cast,seval,hv,hr,hrf,hel,Aaz])
 | ((first|((first|refine Akz (Ajz (A7z _ _ _ _ ?_ ?_ ?_)) ?_|refine Agz (Ajz (A7z _ _ _ _ ?_ ?_ ?_)) ⟨_,_,rfl,rfl⟩ ?_);(iterate 3 (exact sd));rintro _ _ ⟨rfl,rfl⟩)|((first|refine Akz (Ajz (Bwz _ _ _ _ _ ?_ ?_ ?_)) ?_|refine Agz (Ajz (Bwz _ _ _ _ _ ?_ ?_ ?_)) ⟨_,_,rfl,rfl⟩ ?_);(iterate 3 (exact sd));rintro _ _ ⟨rfl,rfl⟩))<;>(try simp (disch:=omega) only [push_cast,seval,hv,hr,hrf,hel,Aaz]))
 | (refine Aez ⟨.inr rfl,[16000,16001],[(16000,1),(16001,5)],_,by decide,rfl,?_⟩;(try simp (disch:=omega) only [push_cast,seval,↓Afz,↓Acz,↓List.map_cons,↓List.map_nil,hv,hr,hrf,hel,Aaz]))))
        all_goals simp [OBs,EL]
 | true =>
        simp only [Bool.true_and]
        obtain ⟨q,p,b,x,y,rfl,hq,he,hvw⟩:=Gnz hr
        obtain ⟨q',p',b',x',y',rfl,hq',he',hvw'⟩:=Gnz hrf
        have hs:=vB_see hv he
        have hs':=vB_see hv he'
        have hbb:=Dmz hb3 he
        have hbb':=Dmz hb3 he'
        have hil:q * 5 + 5 ≤ es.length * 5:=by omega
        have hil':q' * 5 + 5 ≤ es.length * 5:=by omega
        have h3:=Miz he
        have h3':=Miz he'
        have htw:=twoB_see hs hs'
        unfold xcC
        simp only [hvw,hvw']
        have hlen:(putL cs (offs b x y) (takesL cs (offs b' x' y'))).length=cs.length:=Dsz ..
        generalize hZ:putL cs (offs b x y) (takesL cs (offs b' x' y'))=Z at *
        cases hx:decide (x=x') with
        | false =>
          rw [hx] at htw
          simp only [A9z]
          (repeat' (first
 | (first|refine Ahz ?_|refine Abz ?_)
 | ((first|refine Aiz ?_|refine Auz (mid:=l28r3a) (post:=l28r3b) mixed (by decide) ?_|refine Adz ?_|refine Aoz ?_);simp (disch:=omega) only [push_cast,seval,l28r0,l28r1,l28r2,l28r3a,l28r3b,l28r3,l28r4,l28r5,l28r6,l28r7,l28r8,hv,hr,hrf,htw,h3,h3',hZ,hil,hil',hel,Aaz,MVL_false])
 | ((first|refine Alz false ?_|refine A0z false ?_);simp (disch:=omega) only [push_cast,seval,hv,hr,hrf,htw,h3,h3',hZ,hil,hil',hel,Aaz,MVL_false])
 | ((first|((first|refine Akz (Ajz (A7z _ _ _ _ ?_ ?_ ?_)) ?_|refine Agz (Ajz (A7z _ _ _ _ ?_ ?_ ?_)) ⟨_,_,rfl,rfl⟩ ?_);(iterate 3 (exact sd));rintro _ _ ⟨rfl,rfl⟩)|((first|refine Akz (Ajz (Bwz _ _ _ _ _ ?_ ?_ ?_)) ?_|refine Agz (Ajz (Bwz _ _ _ _ _ ?_ ?_ ?_)) ⟨_,_,rfl,rfl⟩ ?_);(iterate 3 (exact sd));rintro _ _ ⟨rfl,rfl⟩)|((first|refine Akz (Irz _ _ _ _ _ _ _ _ _ _ _ _ ?_ ?_ ?_ ?_ ?_ ?_) ?_|refine Agz (Irz _ _ _ _ _ _ _ _ _ _ _ _ ?_ ?_ ?_ ?_ ?_ ?_) ⟨_,_,rfl,rfl⟩ ?_);(iterate 6 (exact sd));rintro _ _ ⟨rfl,rfl⟩))<;>(try simp (disch:=omega) only [push_cast,seval,hv,hr,hrf,htw,h3,h3',hZ,hil,hil',hel,Aaz,MVL_false]))
 | (refine Aez ⟨.inr rfl,[16000,16001],[(16000,1),(16001,5)],_,by decide,rfl,?_⟩; (try simp (disch := omega) only [push_cast,seval,↓Afz,↓Acz,↓List.map_cons,↓List.map_nil,hv,hr,hrf,htw,h3,h3',hZ,hil,hil',hel,Aaz,MVL_false]))))
          all_goals simp [OBs,EL]
        | true =>
          rw [hx] at htw
          simp only [C7z]
          (repeat' (first
 | (first|refine Ahz ?_|refine Abz ?_)
 | ((first|refine Aiz ?_|refine Auz (mid:=l28r3a) (post:=l28r3b) mixed (by decide) ?_|refine Adz ?_|refine Aoz ?_);simp (disch:=omega) only [push_cast,seval,l28r0,l28r1,l28r2,l28r3a,l28r3b,l28r3,l28r4,l28r5,l28r6,l28r7,l28r8,hv,hr,hrf,htw,h3,h3',hZ,hil,hil',hel,Aaz,MVL_true])
 | ((first|refine Alz false ?_|refine A0z false ?_);simp (disch:=omega) only [push_cast,seval,hv,hr,hrf,htw,h3,h3',hZ,hil,hil',hel,Aaz,MVL_true])
 | ((first|((first|refine Akz (Ajz (A7z _ _ _ _ ?_ ?_ ?_)) ?_|refine Agz (Ajz (A7z _ _ _ _ ?_ ?_ ?_)) ⟨_,_,rfl,rfl⟩ ?_);(iterate 3 (exact sd));rintro _ _ ⟨rfl,rfl⟩)|((first|refine Akz (Ajz (Bwz _ _ _ _ _ ?_ ?_ ?_)) ?_|refine Agz (Ajz (Bwz _ _ _ _ _ ?_ ?_ ?_)) ⟨_,_,rfl,rfl⟩ ?_);(iterate 3 (exact sd));rintro _ _ ⟨rfl,rfl⟩)|((first|refine Akz (Irz _ _ _ _ _ _ _ _ _ _ _ _ ?_ ?_ ?_ ?_ ?_ ?_) ?_|refine Agz (Irz _ _ _ _ _ _ _ _ _ _ _ _ ?_ ?_ ?_ ?_ ?_ ?_) ⟨_,_,rfl,rfl⟩ ?_);(iterate 6 (exact sd));rintro _ _ ⟨rfl,rfl⟩)|((first|refine Akz (Glz _ _ _ _ ?_ ?_ ?_) ?_|refine Agz (Glz _ _ _ _ ?_ ?_ ?_) ⟨_,_,rfl,rfl⟩ ?_);(iterate 3 (exact sd));rintro _ _ ⟨rfl,rfl⟩))<;>(try simp (disch:=omega) only [push_cast,seval,hv,hr,hrf,htw,h3,h3',hZ,hil,hil',hel,Aaz,MVL_true]))
 | (refine Aez ⟨.inr rfl,[672,785],[],_,by decide,rfl,?_⟩; (try simp (disch := omega) only [push_cast,seval,↓Afz,↓Acz,↓List.map_cons,↓List.map_nil,hv,hr,hrf,htw,h3,h3',hZ,hil,hil',hel,Aaz,MVL_true]))))
          all_goals simp [OBs]

end Go.Proofs.YtkpcjppnjmhanaaGreatDoor
namespace Go.Proofs.YtkpcjppnjmhanaaGreatDoor
open VwM Vw Go
variable [SentA]

/-- The first cells,and zeros. -/
def rz (cs:List Int) (N i:Nat):List Int:=(List.range N).map fun j=>if j < i then cs.getD j 0 else 0
def zz (cs:List Int) (N:Nat):List Int:=(List.range N).map fun j=>cs.getD j 0
theorem rz_length (cs:List Int) (N i:Nat):(rz cs N i).length=N:=by simp [rz]
theorem zz_length (cs:List Int) (N:Nat):(zz cs N).length=N:=by simp [zz]
theorem rz_zero (cs:List Int) (N:Nat):rz cs N 0=List.replicate N 0:=by
  unfold rz
  apply List.ext_getElem?
  intro j
  rw [List.getElem?_map]
  by_cases h:j < N
  · rw [List.getElem?_range h,List.getElem?_replicate];simp [h]
  · rw [List.getElem?_eq_none (by simp;omega),List.getElem?_eq_none (by simp;omega)];rfl
theorem rz_set (cs:List Int) (N i:Nat):(rz cs N i).set i (cs.getD i 0)=rz cs N (i + 1):=by
  unfold rz
  apply List.ext_getElem?
  intro j
  rw [List.getElem?_set,List.getElem?_map,List.getElem?_map]
  by_cases h:j < N
  · rw [List.getElem?_range h]
    by_cases e:i=j
    · subst e;simp [h]
    · rw [if_neg e]
      simp only [Option.map_some]
      by_cases h2:j < i
      · rw [if_pos h2,if_pos (by omega)]
      · rw [if_neg h2,if_neg (by omega)]
  · rw [List.getElem?_eq_none (by simp;omega)]
    split
    · rename_i e;simp only [List.length_map,List.length_range];rw [if_neg (by omega)];first|done|rfl
    · rfl
theorem rz_done {cs:List Int} {N i:Nat} (h:N ≤ i ∨ cs.length ≤ i):rz cs N i=zz cs N:=by
  unfold rz zz
  refine List.map_congr_left fun j hj=>?_
  have hj:=List.mem_range.1 hj
  by_cases h2:j < i
  · rw [if_pos h2]
  · rw [if_neg h2,List.getD_eq_getElem?_getD,List.getElem?_eq_none (by omega)];rfl
theorem F3z {es:List Ex}:∀ {k:Nat},opensT es k=[] ↔ ∀ i e,i < k → es[i]?=some e → ¬ e.2.2=true
  | 0=>by simp [opensT]
  | k + 1=>by
    constructor
    · intro h i e hi he
      cases hk:es[k]? with
 | none =>
        by_cases hik:i=k
        · subst hik;rw [hk] at he;cases he
        · simp only [opensT,hk] at h
          exact F3z.1 h i e (by omega) he
 | some f =>
        by_cases hf:f.2.2=true
        · rw [F4z hk hf] at h;simp at h
        · rw [Fhz hk hf] at h
          by_cases hik:i=k
          · subst hik;rw [hk] at he;injection he with he;subst he;exact hf
          · exact F3z.1 h i e (by omega) he
    · intro h
      have ih:opensT es k=[]:=F3z.2 fun i e hi he=>h i e (by omega) he
      cases hk:es[k]? with
 | none=>simp only [opensT,hk];exact ih
 | some f=>rw [Fhz hk (h k f (by omega) hk)];exact ih
def rzG (cs:List Int) (es:List Ex) (s:Int):Bool:=(vB cs es && (decide (0 ≤ s) && decide (s ≤ 60))) && decide ((opensT es es.length).length=0)


set_option maxHeartbeats 8000000 in
theorem sRz_ok (cs:List Int) (es:List Ex) (m n:Nat) (s:Int) (hm:cs.length=m) (hn:es.length=n) (hb:m ≤ 1099511627776 ∧ n ≤ 1099511627776 ∧ exB 1099511627776 es) :
    BCall Tryz.prog 177 [.agg [.rows false (IL cs) m,.rows false (EL false es) n],.int .i64 s] [] (OBs (rzG cs es s) (ifB (rzG cs es s) (zz cs s.toNat)) (ifB (rzG cs es s) es)):=by
  subst hm hn
  have hb0:=hb
  obtain ⟨hb1,hb2,hb3⟩:=hb
  have hel:=A1z false es
  refine Axz (pins:=[]) (pin:=0) l177_eq rfl rfl rfl ?_
  unfold rzG
  cases hv:vB cs es with
  | false =>
    simp only [Bool.false_and,A9z]
    (repeat' (first
 | (first|refine Ahz ?_|refine Abz ?_)
 | ((first|refine Aiz ?_|refine Adz ?_);simp (disch:=omega) only [push_cast,seval,l177r0,l177r1,l177r2,l177r3,l177r4,l177r5,l177r6,l177r7a,l177r7b,l177r7,l177r8,l177r9,hv,hel,Aaz])
 | ((first|refine Alz false ?_);simp (disch:=omega) only [push_cast,seval,hv,hel,Aaz])
 | ((first|((first|refine Akz (Ajz (A7z _ _ _ _ ?_ ?_ ?_)) ?_|refine Agz (Ajz (A7z _ _ _ _ ?_ ?_ ?_)) ⟨_,_,rfl,rfl⟩ ?_);(iterate 3 (exact sd));rintro _ _ ⟨rfl,rfl⟩))<;>(try simp (disch:=omega) only [push_cast,seval,hv,hel,Aaz]))
 | (refine Aez ⟨.inr rfl,[16000,16001],[(16000,1),(16001,5)],_,by decide,rfl,?_⟩;(try simp (disch:=omega) only [push_cast,seval,↓Afz,↓Acz,↓List.map_cons,↓List.map_nil,hv,hel,Aaz]))))
    all_goals simp [OBs,EL]
  | true =>
    obtain ⟨v1,v2,v3⟩:=vB_8 hv
    simp only [Bool.true_and]
    cases hr:(decide (0 ≤ s) && decide (s ≤ 60)) with
    | false =>
      simp only [Bool.false_and,A9z]
      (repeat' (first
 | (first|refine Ahz ?_|refine Abz ?_)
 | ((first|refine Aiz ?_|refine Adz ?_);simp (disch:=omega) only [push_cast,seval,l177r0,l177r1,l177r2,l177r3,l177r4,l177r5,l177r6,l177r7a,l177r7b,l177r7,l177r8,l177r9,hv,hr,hel,Aaz])
 | ((first|refine Alz false ?_);simp (disch:=omega) only [push_cast,seval,hv,hr,hel,Aaz])
 | ((first|((first|refine Akz (Ajz (A7z _ _ _ _ ?_ ?_ ?_)) ?_|refine Agz (Ajz (A7z _ _ _ _ ?_ ?_ ?_)) ⟨_,_,rfl,rfl⟩ ?_);(iterate 3 (exact sd));rintro _ _ ⟨rfl,rfl⟩)|((first|refine Akz (Ajz (Atz _ _ _)) ?_|refine Agz (Ajz (Atz _ _ _)) ⟨_,_,rfl,rfl⟩ ?_);rintro _ _ ⟨rfl,rfl⟩))<;>(try simp (disch:=omega) only [push_cast,seval,hv,hr,hel,Aaz]))
 | (refine Aez ⟨.inr rfl,[16000,16001],[(16000,1),(16001,5)],_,by decide,rfl,?_⟩;(try simp (disch:=omega) only [push_cast,seval,↓Afz,↓Acz,↓List.map_cons,↓List.map_nil,hv,hr,hel,Aaz]))))
      all_goals simp [OBs,EL]
    | true =>
      simp only [Bool.true_and]
      have hr2:=hr
      rw [Bool.and_eq_true,decide_eq_true_eq,decide_eq_true_eq] at hr2
      have hop:opensA cs es=opensT es es.length:=by unfold opensA;rw [if_pos hv]
      generalize hK:opensT es es.length=K at *
      by_cases hk0:K.length=0
      · rw [decide_eq_true hk0]
        obtain ⟨N,rfl⟩:∃ N:Nat,s=N:=⟨s.toNat,by omega⟩
        simp only [C7z,Int.toNat_natCast]
        (repeat' (first
 | (first|refine Ahz ?_|refine Abz ?_)
 | ((first|refine Aiz ?_|refine Adz ?_|refine Aoz ?_);simp (disch:=omega) only [push_cast,seval,l177r0,l177r1,l177r2,l177r3,l177r4,l177r5,l177r6,l177r7a,l177r7b,l177r7,l177r8,l177r9,hv,hr,hop,hk0,hel,Aaz])
 | ((first|refine Alz false ?_);simp (disch:=omega) only [push_cast,seval,hv,hr,hop,hk0,hel,Aaz])
 | ((first|((first|refine Akz (Ajz (A7z _ _ _ _ ?_ ?_ ?_)) ?_|refine Agz (Ajz (A7z _ _ _ _ ?_ ?_ ?_)) ⟨_,_,rfl,rfl⟩ ?_);(iterate 3 (exact sd));rintro _ _ ⟨rfl,rfl⟩)|((first|refine Akz (Ajz (Atz _ _ _)) ?_|refine Agz (Ajz (Atz _ _ _)) ⟨_,_,rfl,rfl⟩ ?_);rintro _ _ ⟨rfl,rfl⟩)|((first|refine Akz (Fyz _ _ _ _ ?_ ?_ ?_) ?_|refine Agz (Fyz _ _ _ _ ?_ ?_ ?_) ⟨_,_,rfl,rfl⟩ ?_);(iterate 3 (exact sd));rintro _ _ ⟨rfl,rfl⟩)|((first|refine Akz (Glz _ _ _ _ ?_ ?_ ?_) ?_|refine Agz (Glz _ _ _ _ ?_ ?_ ?_) ⟨_,_,rfl,rfl⟩ ?_);(iterate 3 (exact sd));rintro _ _ ⟨rfl,rfl⟩))<;>(try simp (disch:=omega) only [push_cast,seval,hv,hr,hop,hk0,hel,Aaz]))))
        refine Dhz (fun i:Nat=>mkS [(1,.int .i64 N),(2,.ref 32 2 0),(4,.ref 64 2 0),(6,.ref 96 2 0),(7,.int .i64 i)] [(32,[.rows false (IL cs) cs.length,.rows false (EL false es) es.length]),(64,[.val (.slice none 0 0),.val (.slice none 0 0)]),(96,[.own 416 N 1,.own 385 es.length 5]),(385,EL true es),(416,IL (rz cs N i))]) (fun i=>i ≤ N ∧ i ≤ cs.length) (fun i=>N - i) 0 ⟨Nat.zero_le _,Nat.zero_le _⟩ ?_ ?_
        · refine SubW.of ?_
          rw [rz_zero]
          (refine Sub.of_lists ?_ ?_ ?_ ?_ ?_<;>simp [Vw.mkS,Vw.lk,Vw.hk,AV.inn,innL,Apz,Anz,Aqz,-List.map_set,-List.getD_eq_getElem?_getD,Aaz])
        · rintro i ⟨hi,hi2⟩
          have hrl:=rz_length cs N i
          by_cases hlt:i < N ∧ i < cs.length
          · have hrs:=rz_set cs N i
            have hrs2:(IL (rz cs N i)).set i (.int .i64 (cs.getD i 0))=IL (rz cs N (i + 1)):=by rw [← hrs];unfold IL;rw [List.map_set]
            obtain ⟨l1,l2⟩:=hlt
            (repeat' (first
 | (first|refine Ahz ?_|refine Abz ?_)
 | ((first|refine Aiz ?_|refine Auz (mid:=l177r7a) (post:=l177r7b) mixed (by decide) ?_|refine Adz ?_|refine Aoz ?_);simp (disch:=omega) only [push_cast,seval,l177r0,l177r1,l177r2,l177r3,l177r4,l177r5,l177r6,l177r7a,l177r7b,l177r7,l177r8,l177r9,hel,hrl,hrs2,Aaz])
 | ((first | refine Amz (fun h => ?_) (fun h => ?_) | refine Bbz (fun h => ?_) (fun h => ?_)) <;> (try simp only [h]) <;> (try simp only [bitvec_to_nat] at h) <;> (try simp only [h]) <;> (first | (exfalso; omega) | (focus (exfalso; simp_all; done)) | (simp (disch := omega) only [push_cast,seval,hel,hrl,hrs2,Aaz]) | skip))))
            refine ⟨i + 1,⟨by omega,by omega⟩,by omega,SubW.of ?_⟩
            (refine Sub.of_lists ?_ ?_ ?_ ?_ ?_<;>simp [Vw.mkS,Vw.lk,Vw.hk,AV.inn,innL,Apz,Anz,Aqz,-List.map_set,-List.getD_eq_getElem?_getD,Aaz])
          · have hd:rz cs N i=zz cs N:=rz_done (by omega)
            (repeat' (first
 | (first|refine Ahz ?_|refine Abz ?_)
 | ((first|refine Aiz ?_|refine Adz ?_|refine A2z ?_);simp (disch:=omega) only [push_cast,seval,l177r0,l177r1,l177r2,l177r3,l177r4,l177r5,l177r6,l177r7a,l177r7b,l177r7,l177r8,l177r9,hel,hd,Aaz])
 | ((first|refine Amz (fun h=>?_) (fun h=>?_)|refine Bbz (fun h=>?_) (fun h=>?_))<;>(try simp only [h])<;>(try simp only [bitvec_to_nat] at h)<;>(try simp only [h])<;>(first|(exfalso;omega)|(exfalso;simp_all;done)|(simp (disch:=omega) only [push_cast,seval,hel,hd,Aaz])|skip))
 | (refine Aez ⟨.inr rfl,[416,385],[],_,by decide,rfl,?_⟩; (try simp (disch := omega) only [push_cast,seval,↓Afz,↓Acz,↓List.map_cons,↓List.map_nil,hel,hd,Aaz]))))
            all_goals simp [OBs,zz_length]
      · rw [decide_eq_false hk0]
        simp only [A9z]
        (repeat' (first
 | (first|refine Ahz ?_|refine Abz ?_)
 | ((first|refine Aiz ?_|refine Adz ?_);simp (disch:=omega) only [push_cast,seval,l177r0,l177r1,l177r2,l177r3,l177r4,l177r5,l177r6,l177r7a,l177r7b,l177r7,l177r8,l177r9,hv,hr,hop,hk0,hel,Aaz])
 | ((first|refine Amz (fun h=>?_) (fun h=>?_))<;>(try simp only [h])<;>(try simp only [bitvec_to_nat] at h)<;>(try simp only [h])<;>(first|(exfalso;omega)|(exfalso;simp_all;done)|(simp (disch:=omega) only [push_cast,seval,hv,hr,hop,hk0,hel,Aaz])|skip))
 | ((first|refine Alz false ?_);simp (disch:=omega) only [push_cast,seval,hv,hr,hop,hk0,hel,Aaz])
 | ((first|((first|refine Akz (Ajz (A7z _ _ _ _ ?_ ?_ ?_)) ?_|refine Agz (Ajz (A7z _ _ _ _ ?_ ?_ ?_)) ⟨_,_,rfl,rfl⟩ ?_);(iterate 3 (exact sd));rintro _ _ ⟨rfl,rfl⟩)|((first|refine Akz (Ajz (Atz _ _ _)) ?_|refine Agz (Ajz (Atz _ _ _)) ⟨_,_,rfl,rfl⟩ ?_);rintro _ _ ⟨rfl,rfl⟩)|((first|refine Akz (Fyz _ _ _ _ ?_ ?_ ?_) ?_|refine Agz (Fyz _ _ _ _ ?_ ?_ ?_) ⟨_,_,rfl,rfl⟩ ?_);(iterate 3 (exact sd));rintro _ _ ⟨rfl,rfl⟩))<;>(try simp (disch:=omega) only [push_cast,seval,hv,hr,hop,hk0,hel,Aaz]))
 | (refine Aez ⟨.inr rfl,[16000,16001],[(16000,1),(16001,5)],_,by decide,rfl,?_⟩;(try simp (disch:=omega) only [push_cast,seval,↓Afz,↓Acz,↓List.map_cons,↓List.map_nil,hv,hr,hop,hk0,hel,Aaz]))))
        all_goals simp [OBs,EL]

end Go.Proofs.YtkpcjppnjmhanaaGreatDoor
namespace Go.Proofs.YtkpcjppnjmhanaaGreatDoor
open VwM Vw Go
variable [SentA]

theorem OBf_plain {P:Program} {f:Nat} {args:List AV} {ok:Bool} {cs:List Int} {es:List Ex} (h:BCall P f args [] (OBf ok cs es)):PCall P f args (fun r=>r=.tup [.agg [.rows true (IL cs) cs.length,.rows true (EL true es) es.length],.bool ok]):=by
  refine (BCall.plain h).mono ?_
  rintro r ⟨r0,H',⟨rfl,rfl⟩,rfl⟩
  have e0:nthH (IL cs :: (esF es).cellsG (· + 2) :: (esF es).conts) 0=some (IL cs):=rfl
  have e1:nthH (IL cs :: (esF es).cellsG (· + 2) :: (esF es).conts) 1=some ((esF es).cellsG (· + 2)):=rfl
  show AV.tup [AV.agg [AV.ren _ _ true some 3 (.own 0 cs.length 1),AV.ren _ _ true some 3 (.own 1 es.length 5)],.bool ok]=_
  rw [Gtz,Gtz,e0,e1,Hbz,Hbz,if_pos (by unfold IL;simp),if_pos (by rw [Hrz,eF_C])]
  have e2:((esF es).cellsG (· + 2)).map (AV.ren (fun _=>none) (nthH (IL cs :: (esF es).cellsG (· + 2) :: (esF es).conts)) true some 2)=EL true es:=by
    rw [← esF_plain]
    unfold Fam.cellsG Fam.plain
    rw [Dkz]
    refine Crz fun p hp=>(esF es).ren_plain fun j hj=>⟨rfl,?_⟩
    have hjR:=(esF es).ok p j hp hj
    show ((esF es).conts)[j]?=_
    unfold Fam.conts
    rw [List.getElem?_map,List.getElem?_range hjR];rfl
  have e3:(IL cs).map (AV.ren (fun _=>none) (nthH (IL cs :: (esF es).cellsG (· + 2) :: (esF es).conts)) true some 2)=IL cs:=Dlz _
  rw [e2,e3]
end Go.Proofs.YtkpcjppnjmhanaaGreatDoor
namespace Go.Proofs.YtkpcjppnjmhanaaGreatDoor
open VwM Vw Go
variable [SentA]

def epO (es:List Ex) (id d f t w:Int) (hf ht:Bool):Bool:=sdOk (vwA es id).1 (vwA es id).2.1 (vwA es id).2.2 d f t w hf ht
def epG (cs:List Int) (es:List Ex) (id d f t w:Int) (hf ht:Bool):Bool:=((vB cs es && opA es id) && !decide (es.length=8)) && epO es id d f t w hf ht
def epV (es:List Ex) (id d f t w:Int) (hf ht:Bool):Vw3:=(cutB (vwA es id).1 (vwA es id).2.1 (vwA es id).2.2 d.toNat f t w hf ht,cutSh (vwA es id).2.1 d.toNat f t w hf ht,cutSt (vwA es id).2.1 (vwA es id).2.2 d.toNat f t w hf ht)
def epE (es:List Ex) (id d f t w:Int) (hf ht:Bool):List Ex:=es ++ [(id,epV es id d f t w hf ht,true)]
theorem cutSt_lenE (sh st:List Int) (j:Nat) (f t w:Int) (hf ht:Bool):(cutSt sh st j f t w hf ht).length ≤ max sh.length st.length:=by
  unfold cutSt;split<;>simp<;>omega
theorem EL_tak3 {es:List Ex} {q:Nat} {p b:Int} {x y:List Int} {o:Bool} (he:es[q]?=some (p,(b,x,y),o)):((EL false es).drop (q * 5 + 1)).take 3=[.int .i64 b,.rows false (IL x) x.length,.rows false (IL y) y.length]:=by
  have hd:=Cez false es q he
  simp only at hd
  have:=congrArg (fun l=>(l.drop 1).take 3) hd
  simpa [List.drop_take,List.drop_drop,List.take_take] using this
theorem cut_lens {sh st:List Int} {d:Nat} {f t w:Int} {hf ht:Bool} {k:Nat} (h1:sh.length ≤ k) (h2:st.length ≤ k):(cutSh sh d f t w hf ht).length ≤ k ∧ (cutSt sh st d f t w hf ht).length ≤ k:=by
  refine ⟨by rw [B0z];exact h1,?_⟩
  have:=cutSt_lenE sh st d f t w hf ht
  omega


set_option maxHeartbeats 8000000 in
theorem sEP_ok (cs:List Int) (es:List Ex) (m n:Nat) (id d f t w:Int) (hf ht:Bool) (hm:cs.length=m) (hn:es.length=n) (hb:m ≤ 1099511627776 ∧ n ≤ 1099511627776 ∧ exB 1099511627776 es) :
    BCall Tryz.prog 37 [.agg [.rows false (IL cs) m,.rows false (EL false es) n],.int .i64 id,.int .i64 d,slc f t w hf ht] [] (OBs (epG cs es id d f t w hf ht) (ifB (epG cs es id d f t w hf ht) cs) (ifB (epG cs es id d f t w hf ht) (epE es id d f t w hf ht))):=by
  subst hm hn
  have hb0:=hb
  obtain ⟨hb1,hb2,hb3⟩:=hb
  have hel:=A1z false es
  refine Axz (pins:=[]) (pin:=0) l37_eq rfl rfl rfl ?_
  unfold epG
  cases hv:vB cs es with
  | false =>
    simp only [Bool.false_and,A9z]
    (repeat' (first
 | (first|refine Ahz ?_|refine Abz ?_)
 | ((first|refine Aiz ?_|refine Adz ?_);simp (disch:=omega) only [push_cast,seval,l37r0,l37r1,l37r2,l37r3a,l37r3b,l37r3,l37r4,l37r5,l37r6,hv,hel,Aaz])
 | ((first|refine Alz false ?_);simp (disch:=omega) only [push_cast,seval,hv,hel,Aaz])
 | ((first|((first|refine Akz (Ajz (A7z _ _ _ _ ?_ ?_ ?_)) ?_|refine Agz (Ajz (A7z _ _ _ _ ?_ ?_ ?_)) ⟨_,_,rfl,rfl⟩ ?_);(iterate 3 (exact sd));rintro _ _ ⟨rfl,rfl⟩))<;>(try simp (disch:=omega) only [push_cast,seval,hv,hel,Aaz]))
 | (refine Aez ⟨.inr rfl,[16000,16001],[(16000,1),(16001,5)],_,by decide,rfl,?_⟩;(try simp (disch:=omega) only [push_cast,seval,↓Afz,↓Acz,↓List.map_cons,↓List.map_nil,hv,hel,Aaz]))))
    all_goals simp [OBs,EL]
  | true =>
    obtain ⟨v1,v2,v3⟩:=vB_8 hv
    cases hr:opA es id with
    | false =>
      simp only [Bool.true_and,Bool.false_and,A9z]
      (repeat' (first
 | (first|refine Ahz ?_|refine Abz ?_)
 | ((first|refine Aiz ?_|refine Adz ?_);simp (disch:=omega) only [push_cast,seval,l37r0,l37r1,l37r2,l37r3a,l37r3b,l37r3,l37r4,l37r5,l37r6,hv,hr,hel,Aaz])
 | ((first|refine Alz false ?_);simp (disch:=omega) only [push_cast,seval,hv,hr,hel,Aaz])
 | ((first|((first|refine Akz (Ajz (A7z _ _ _ _ ?_ ?_ ?_)) ?_|refine Agz (Ajz (A7z _ _ _ _ ?_ ?_ ?_)) ⟨_,_,rfl,rfl⟩ ?_);(iterate 3 (exact sd));rintro _ _ ⟨rfl,rfl⟩)|((first|refine Akz (Ajz (Bwz _ _ _ _ _ ?_ ?_ ?_)) ?_|refine Agz (Ajz (Bwz _ _ _ _ _ ?_ ?_ ?_)) ⟨_,_,rfl,rfl⟩ ?_);(iterate 3 (exact sd));rintro _ _ ⟨rfl,rfl⟩))<;>(try simp (disch:=omega) only [push_cast,seval,hv,hr,hel,Aaz]))
 | (refine Aez ⟨.inr rfl,[16000,16001],[(16000,1),(16001,5)],_,by decide,rfl,?_⟩;(try simp (disch:=omega) only [push_cast,seval,↓Afz,↓Acz,↓List.map_cons,↓List.map_nil,hv,hr,hel,Aaz]))))
      all_goals simp [OBs,EL]
    | true =>
      simp only [Bool.true_and]
      by_cases h8:es.length=8
      · have hd:(!decide (es.length=8))=false:=by simp [h8]
        have h8i:(es.length:Int)=8:=by omega
        simp only [hd,Bool.false_and,A9z]
        (repeat' (first
 | (first|refine Ahz ?_|refine Abz ?_)
 | ((first|refine Aiz ?_|refine Adz ?_);simp (disch:=omega) only [push_cast,seval,l37r0,l37r1,l37r2,l37r3a,l37r3b,l37r3,l37r4,l37r5,l37r6,hv,hr,h8i,hel,Aaz])
 | ((first|refine Alz false ?_);simp (disch:=omega) only [push_cast,seval,hv,hr,h8i,hel,Aaz])
 | ((first|((first|refine Akz (Ajz (A7z _ _ _ _ ?_ ?_ ?_)) ?_|refine Agz (Ajz (A7z _ _ _ _ ?_ ?_ ?_)) ⟨_,_,rfl,rfl⟩ ?_);(iterate 3 (exact sd));rintro _ _ ⟨rfl,rfl⟩)|((first|refine Akz (Ajz (Bwz _ _ _ _ _ ?_ ?_ ?_)) ?_|refine Agz (Ajz (Bwz _ _ _ _ _ ?_ ?_ ?_)) ⟨_,_,rfl,rfl⟩ ?_);(iterate 3 (exact sd));rintro _ _ ⟨rfl,rfl⟩))<;>(try simp (disch:=omega) only [push_cast,seval,hv,hr,h8i,hel,Aaz]))
 | (refine Aez ⟨.inr rfl,[16000,16001],[(16000,1),(16001,5)],_,by decide,rfl,?_⟩;(try simp (disch:=omega) only [push_cast,seval,↓Afz,↓Acz,↓List.map_cons,↓List.map_nil,hv,hr,h8i,hel,Aaz]))))
        all_goals simp [OBs,EL]
      · have hd:(!decide (es.length=8))=true:=by simp [h8]
        have h8i:((es.length:Int)=8)=False:=eq_false (by omega)
        simp only [hd,Bool.true_and]
        obtain ⟨q,p,b,x,y,rfl,hq,he,hvw⟩:=Gnz hr
        have hbb:=Dmz hb3 he
        have hil:q * 5 + 5 ≤ es.length * 5:=by omega
        have h3:=EL_tak3 he
        have hcl:=cut_lens (d:=d.toNat) (f:=f) (t:=t) (w:=w) (hf:=hf) (ht:=ht) hbb.1 hbb.2
        unfold epO epE epV
        simp only [hvw]
        generalize hcB:cutB b x y d.toNat f t w hf ht=cB at *
        generalize hcS:cutSh x d.toNat f t w hf ht=cS at *
        generalize hcT:cutSt x y d.toNat f t w hf ht=cT at *
        cases hx:sdOk b x y d f t w hf ht with
        | false =>
          simp only [A9z]
          (repeat' (first
 | (first|refine Ahz ?_|refine Abz ?_)
 | ((first|refine Aiz ?_|refine Buz (mid:=l37r3a) (post:=l37r3b) [160,1000000010,2000000160] mixed (by decide) ?_|refine Adz ?_|refine Aoz ?_);simp (disch:=omega) only [push_cast,seval,l37r0,l37r1,l37r2,l37r3a,l37r3b,l37r3,l37r4,l37r5,l37r6,hv,hr,h8i,h3,hx,hil,hel,Aaz,Diz,MVL_false])
 | ((first|refine Alz false ?_|refine A0z false ?_);simp (disch:=omega) only [push_cast,seval,hv,hr,h8i,h3,hx,hil,hel,Aaz,Diz,MVL_false])
 | ((first|((first|refine Akz (Ajz (A7z _ _ _ _ ?_ ?_ ?_)) ?_|refine Agz (Ajz (A7z _ _ _ _ ?_ ?_ ?_)) ⟨_,_,rfl,rfl⟩ ?_);(iterate 3 (exact sd));rintro _ _ ⟨rfl,rfl⟩)|((first|refine Akz (Ajz (Bwz _ _ _ _ _ ?_ ?_ ?_)) ?_|refine Agz (Ajz (Bwz _ _ _ _ _ ?_ ?_ ?_)) ⟨_,_,rfl,rfl⟩ ?_);(iterate 3 (exact sd));rintro _ _ ⟨rfl,rfl⟩)|((first|refine Akz (Dyz _ _ _ _ _ _ _ _ _ _ _ ?_ ?_ ?_) ?_|refine Agz (Dyz _ _ _ _ _ _ _ _ _ _ _ ?_ ?_ ?_) ⟨_,_,rfl,rfl⟩ ?_);(iterate 3 (exact sd));rintro _ _ ⟨rfl,rfl⟩))<;>(try simp (disch:=omega) only [push_cast,seval,hv,hr,h8i,h3,hx,hil,hel,Aaz,Diz,MVL_false]))
 | (refine Aez ⟨.inr rfl,[16000,16001],[(16000,1),(16001,5)],_,by decide,rfl,?_⟩; (try simp (disch := omega) only [push_cast,seval,↓Afz,↓Acz,↓List.map_cons,↓List.map_nil,hv,hr,h8i,h3,hx,hil,hel,Aaz,Diz,MVL_false]))))
          all_goals simp [OBs,EL]
        | true =>
          simp only [C7z]
          have hadd:(cS.length ≤ 1099511627776 ∧ cT.length ≤ 1099511627776) ∧ cs.length ≤ 1099511627776 ∧ es.length ≤ 1000 ∧ exB 1099511627776 es:=⟨hcl,hb1,by omega,hb3⟩
          (repeat' (first
 | (first|refine Ahz ?_|refine Abz ?_)
 | ((first|refine Aiz ?_|refine Buz (mid:=l37r3a) (post:=l37r3b) [160,1000000010,2000000160] mixed (by decide) ?_|refine Adz ?_|refine Aoz ?_);simp (disch:=omega) only [push_cast,seval,l37r0,l37r1,l37r2,l37r3a,l37r3b,l37r3,l37r4,l37r5,l37r6,hv,hr,h8i,h3,hx,hil,hcB,hcS,hcT,hel,Aaz,Dbz,MVL_true])
 | ((first|refine Alz false ?_|refine A0z false ?_);simp (disch:=omega) only [push_cast,seval,hv,hr,h8i,h3,hx,hil,hcB,hcS,hcT,hel,Aaz,Dbz,MVL_true])
 | ((first|((first|refine Akz (Ajz (A7z _ _ _ _ ?_ ?_ ?_)) ?_|refine Agz (Ajz (A7z _ _ _ _ ?_ ?_ ?_)) ⟨_,_,rfl,rfl⟩ ?_);(iterate 3 (exact sd));rintro _ _ ⟨rfl,rfl⟩)|((first|refine Akz (Ajz (Bwz _ _ _ _ _ ?_ ?_ ?_)) ?_|refine Agz (Ajz (Bwz _ _ _ _ _ ?_ ?_ ?_)) ⟨_,_,rfl,rfl⟩ ?_);(iterate 3 (exact sd));rintro _ _ ⟨rfl,rfl⟩)|((first|refine Akz (Dyz _ _ _ _ _ _ _ _ _ _ _ ?_ ?_ ?_) ?_|refine Agz (Dyz _ _ _ _ _ _ _ _ _ _ _ ?_ ?_ ?_) ⟨_,_,rfl,rfl⟩ ?_);(iterate 3 (exact sd));rintro _ _ ⟨rfl,rfl⟩)|((first|refine Akz (Loz _ _ _ _ _ _ _ _ _ _ ?_ ?_ ?_ ?_ ?_) ?_|refine Agz (Loz _ _ _ _ _ _ _ _ _ _ ?_ ?_ ?_ ?_ ?_) ⟨_,_,rfl,rfl⟩ ?_);(iterate 5 (exact sd));rintro _ _ ⟨rfl,rfl⟩))<;>(try simp (disch:=omega) only [push_cast,seval,hv,hr,h8i,h3,hx,hil,hcB,hcS,hcT,hel,Aaz,Dbz,MVL_true]))
 | (refine Aez ⟨.inr rfl,[736,737],[],_,by decide,rfl,?_⟩; (try simp (disch := omega) only [push_cast,seval,↓Afz,↓Acz,↓List.map_cons,↓List.map_nil,hv,hr,h8i,h3,hx,hil,hcB,hcS,hcT,hel,Aaz,Dbz,MVL_true]))))
          all_goals simp [OBs]


set_option maxHeartbeats 8000000 in
theorem iEP_ok (cs:List Int) (es:List Ex) (m n:Nat) (id d f t w:Int) (hf ht:Bool) (hm:cs.length=m) (hn:es.length=n) (hb:m ≤ 1048576 ∧ n ≤ 1048576 ∧ exB 1048576 es) :
    BCall Tryz.prog 36 [.agg [.rows false (IL cs) m,.rows false (EL false es) n],.int .i64 id,.int .i64 d,slc f t w hf ht] [] (OBf (epG cs es id d f t w hf ht) (ifB (epG cs es id d f t w hf ht) cs) (ifB (epG cs es id d f t w hf ht) (epE es id d f t w hf ht))):=by
  subst hm hn
  have hb0:=hb
  obtain ⟨hb1,hb2,hb3⟩:=hb
  have hq8:cs.length ≤ 1099511627776 ∧ es.length ≤ 1099511627776 ∧ exB 1099511627776 es:=⟨by omega,by omega,fun e he=>by have:=hb3 e he;omega⟩
  have hel:=A1z false es
  refine Axz (pins:=[]) (pin:=0) l36_eq rfl rfl rfl ?_
  unfold epG
  cases hc:(vB cs es && opA es id) with
  | false =>
    simp only [Bool.false_and,A9z]
    (repeat' (first
 | (first|refine Ahz ?_|refine Abz ?_)
 | ((first|refine Aiz ?_|refine Adz ?_);simp (disch:=omega) only [push_cast,seval,l36r0,l36r1,l36r2,l36r3a,l36r3b,l36r3,l36r4,l36r5,l36r6,hc,hel,Aaz])
 | ((first|refine Alz false ?_);simp (disch:=omega) only [push_cast,seval,hc,hel,Aaz])
 | ((first|((first|refine Akz (Ajz (Kxz _ _ _ _ _ ?_ ?_ ?_)) ?_|refine Agz (Ajz (Kxz _ _ _ _ _ ?_ ?_ ?_)) ⟨_,_,rfl,rfl⟩ ?_);(iterate 3 (exact sd));rintro _ _ ⟨rfl,rfl⟩))<;>(try simp (disch:=omega) only [push_cast,seval,hc,hel,Aaz]))
 | (refine Aez ⟨.inr rfl,[16000,16001],[(16000,1),(16001,5)],_,by decide,rfl,?_⟩;(try simp (disch:=omega) only [push_cast,seval,↓Afz,↓Acz,↓List.map_cons,↓List.map_nil,hc,hel,Aaz]))))
    all_goals simp [OBf,mkE_nil]
  | true =>
    have hc2:=hc
    rw [Bool.and_eq_true] at hc2
    obtain ⟨hv,hr⟩:=hc2
    obtain ⟨v1,v2,v3⟩:=vB_8 hv
    obtain ⟨q,p,b,x,y,rfl,hq,he,hvw⟩:=Gnz hr
    have hbb:=Dmz hb3 he
    have hil:q * 5 + 5 ≤ es.length * 5:=by omega
    have h3:=EL_tak3 he
    have hcl:=cut_lens (d:=d.toNat) (f:=f) (t:=t) (w:=w) (hf:=hf) (ht:=ht) hbb.1 hbb.2
    unfold epO epE epV
    simp only [hvw,Bool.true_and]
    generalize hcB:cutB b x y d.toNat f t w hf ht=cB at *
    generalize hcS:cutSh x d.toNat f t w hf ht=cS at *
    generalize hcT:cutSt x y d.toNat f t w hf ht=cT at *
    cases hx:sdOk b x y d f t w hf ht with
    | false =>
      simp only [Bool.and_false,A9z]
      (repeat' (first
 | (first|refine Ahz ?_|refine Abz ?_)
 | ((first|refine Aiz ?_|refine Buz (mid:=l36r3a) (post:=l36r3b) [160,1000000010,2000000160] mixed (by decide) ?_|refine Adz ?_|refine Aoz ?_);simp (disch:=omega) only [push_cast,seval,l36r0,l36r1,l36r2,l36r3a,l36r3b,l36r3,l36r4,l36r5,l36r6,hc,h3,hx,hil,hel,Aaz,Diz,MVL_false])
 | ((first|refine Alz false ?_|refine A0z false ?_);simp (disch:=omega) only [push_cast,seval,hc,h3,hx,hil,hel,Aaz,Diz,MVL_false])
 | ((first|((first|refine Akz (Ajz (Kxz _ _ _ _ _ ?_ ?_ ?_)) ?_|refine Agz (Ajz (Kxz _ _ _ _ _ ?_ ?_ ?_)) ⟨_,_,rfl,rfl⟩ ?_);(iterate 3 (exact sd));rintro _ _ ⟨rfl,rfl⟩)|((first|refine Akz (D2z _ _ _ _ _ _ _ _ _ _ _ ?_ ?_ ?_) ?_|refine Agz (D2z _ _ _ _ _ _ _ _ _ _ _ ?_ ?_ ?_) ⟨_,_,rfl,rfl⟩ ?_);(iterate 3 (exact sd));rintro _ _ ⟨rfl,rfl⟩))<;>(try simp (disch:=omega) only [push_cast,seval,hc,h3,hx,hil,hel,Aaz,Diz,MVL_false]))
 | (refine Aez ⟨.inr rfl,[16000,16001],[(16000,1),(16001,5)],_,by decide,rfl,?_⟩;(try simp (disch:=omega) only [push_cast,seval,↓Afz,↓Acz,↓List.map_cons,↓List.map_nil,hc,h3,hx,hil,hel,Aaz,Diz,MVL_false]))))
      all_goals simp [OBf,mkE_nil]
    | true =>
      simp only [Bool.and_true]
      have hadd:(cS.length ≤ 1099511627776 ∧ cT.length ≤ 1099511627776) ∧ cs.length ≤ 1048576 ∧ es.length ≤ 1000 ∧ exB 1048576 es:=⟨⟨by omega,by omega⟩,hb1,by omega,hb3⟩
      generalize hW1:ifB (!decide (es.length=8)) cs=W1 at *
      generalize hW2:ifB (!decide (es.length=8)) (es ++ [((q:Int),(cB,cS,cT),true)])=W2 at *
      generalize hW3:(!decide (es.length=8))=W3 at *
      (repeat' (first
 | (first|refine Ahz ?_|refine Abz ?_)
 | ((first|refine Aiz ?_|refine Buz (mid:=l36r3a) (post:=l36r3b) [160,1000000010,2000000160] mixed (by decide) ?_|refine Adz ?_|refine Aoz ?_);simp (disch:=omega) only [push_cast,seval,l36r0,l36r1,l36r2,l36r3a,l36r3b,l36r3,l36r4,l36r5,l36r6,hc,h3,hx,hil,hcB,hcS,hcT,hel,Aaz,Dbz,MVL_true,hW1,hW2,hW3])
 | ((first|((with_reducible refine Alz (f:=71) false ?_);simp (disch:=omega) only [push_cast,seval,hc,h3,hx,hil,hcB,hcS,hcT,hel,Aaz,Dbz,MVL_true,hW1,hW2,hW3];(refine callFNT (iAdB_ok _ _ _ _ _ _ _ _ _ _ ?_ ?_ ?_ ?_ ?_) (by (simp (disch:=omega) only [push_cast,seval,hc,h3,hx,hil,hcB,hcS,hcT,hel,Aaz,Dbz,MVL_true,hW1,hW2,hW3]);done) ?_;(iterate 5 (exact sd)))))<;>(try simp (disch:=omega) only [push_cast,seval,hc,h3,hx,hil,hcB,hcS,hcT,hel,Aaz,Dbz,MVL_true,hW1,hW2,hW3]))
 | ((first|refine Alz false ?_|refine A0z false ?_);simp (disch:=omega) only [push_cast,seval,hc,h3,hx,hil,hcB,hcS,hcT,hel,Aaz,Dbz,MVL_true,hW1,hW2,hW3])
 | ((first|((first|refine Akz (Ajz (Kxz _ _ _ _ _ ?_ ?_ ?_)) ?_|refine Agz (Ajz (Kxz _ _ _ _ _ ?_ ?_ ?_)) ⟨_,_,rfl,rfl⟩ ?_);(iterate 3 (exact sd));rintro _ _ ⟨rfl,rfl⟩)|((first|refine Akz (D2z _ _ _ _ _ _ _ _ _ _ _ ?_ ?_ ?_) ?_|refine Agz (D2z _ _ _ _ _ _ _ _ _ _ _ ?_ ?_ ?_) ⟨_,_,rfl,rfl⟩ ?_);(iterate 3 (exact sd));rintro _ _ ⟨rfl,rfl⟩))<;>(try simp (disch:=omega) only [push_cast,seval,hc,h3,hx,hil,hcB,hcS,hcT,hel,Aaz,Dbz,MVL_true,hW1,hW2,hW3]))))
      refine Aez ⟨.inr rfl,ret_famW (id0:=560) (id1:=561) (d:=35) (F:=esF W2) (cs:=W1) (bufT W1.length W2.length W3) rfl rfl (fun _ _ _ _ e0 e1=>ren_bufT e0 e1) rfl rfl (fun j hj=>?_) (by omega)⟩
      simp only [hk,Azz _ _ 128 (by omega),Azz _ _ 560 (by omega),Azz _ _ 561 (by omega),if_false]
      rw [Dez 35 (esF W2) _ j hj]

end Go.Proofs.YtkpcjppnjmhanaaGreatDoor
namespace Go.Proofs.YtkpcjppnjmhanaaGreatDoor
open VwM Vw Go
variable [SentA]

def nbN (s:Int):Nat:=if 0 ≤ s ∧ s ≤ 60 then s.toNat else 0
theorem nbN_le (s:Int):nbN s ≤ 60:=by unfold nbN;split<;>omega


theorem Knz (s:Int):BCall Tryz.prog 134 [.int .i64 s] [] (fun r H'=>r=.agg [.own 0 (nbN s) 1,.own 1 0 5] ∧ H'=[IL (List.replicate (nbN s) 0),[]]):=by
  refine Axz (pins:=[]) (pin:=0) l134_eq rfl rfl rfl ?_
  by_cases h:0 ≤ s ∧ s ≤ 60
  · have hw:(decide (0 ≤ s) && decide (s ≤ 60))=true:=by rw [Bool.and_eq_true,decide_eq_true_eq,decide_eq_true_eq];exact h
    have hN:nbN s=s.toNat:=if_pos h
    rw [hN]
    obtain ⟨n,rfl⟩:∃ n:Nat,s=n:=⟨s.toNat,by omega⟩
    rw [Int.toNat_natCast]
    (repeat' (first
 | (first|refine Ahz ?_|refine Abz ?_)
 | ((first|refine Aiz ?_|refine Adz ?_|refine Aoz ?_);simp (disch:=omega) only [push_cast,seval,l134r0,l134r1,l134r2,l134r3,hw])
 | ((first|refine Alz false ?_);simp (disch:=omega) only [push_cast,seval,hw])
 | ((first|((first|refine Akz (Ajz (Atz _ _ _)) ?_|refine Agz (Ajz (Atz _ _ _)) ⟨_,_,rfl,rfl⟩ ?_);rintro _ _ ⟨rfl,rfl⟩))<;>(try simp (disch:=omega) only [push_cast,seval,hw]))
 | (refine Aez ⟨.inr rfl,[128,16000],[(16000,5)],_,by decide,rfl,?_⟩;(try simp (disch:=omega) only [push_cast,seval,↓Afz,↓Acz,↓List.map_cons,↓List.map_nil,hw]))))
    all_goals (try simp)
  · have hw:(decide (0 ≤ s) && decide (s ≤ 60))=false:=by rw [Bool.and_eq_false_iff,decide_eq_false_iff_not,decide_eq_false_iff_not];omega
    have hN:nbN s=0:=if_neg h
    rw [hN]
    (repeat' (first
 | (first|refine Ahz ?_|refine Abz ?_)
 | ((first|refine Aiz ?_|refine Adz ?_);simp (disch:=omega) only [push_cast,seval,l134r0,l134r1,l134r2,l134r3,hw])
 | ((first|refine Alz false ?_);simp (disch:=omega) only [push_cast,seval,hw])
 | ((first|((first|refine Akz (Ajz (Atz _ _ _)) ?_|refine Agz (Ajz (Atz _ _ _)) ⟨_,_,rfl,rfl⟩ ?_);rintro _ _ ⟨rfl,rfl⟩))<;>(try simp (disch:=omega) only [push_cast,seval,hw]))
 | (refine Aez ⟨.inr rfl,[16000,16016],[(16000,1),(16016,5)],_,by decide,rfl,?_⟩;(try simp (disch:=omega) only [push_cast,seval,↓Afz,↓Acz,↓List.map_cons,↓List.map_nil,hw]))))
    all_goals (try simp)

end Go.Proofs.YtkpcjppnjmhanaaGreatDoor
namespace Go.Proofs.YtkpcjppnjmhanaaGreatDoor
open VwM Vw Go
variable [SentA]

theorem Gkz {cs:List Int} {es:List Ex}:vB cs es=true ↔ vMem cs=true ∧ es.length ≤ 8 ∧ ∀ i e,es[i]?=some e → sxV cs.length es i e=true:=by
  unfold vB
  simp only [Bool.and_eq_true,decide_eq_true_eq,Daz]
  constructor
  · rintro ⟨⟨h1,h2⟩,h3⟩
    exact ⟨h1,h2,fun i e he=>h3 i e (List.getElem?_eq_some_iff.1 he).1 he⟩
  · rintro ⟨h1,h2,h3⟩
    exact ⟨⟨h1,h2⟩,fun i e _ he=>h3 i e he⟩
theorem D7z {m:Int} {es:List Ex} {i:Nat} {e:Ex}:sxV m es i e=true ↔ ((-1 ≤ e.1 ∧ e.1 ≤ (i:Int) - 1) ∧ vV e.2.1.1 e.2.1.2.1 e.2.1.2.2=true) ∧ (e.2.2=true → allI (offs e.2.1.1 e.2.1.2.1 e.2.1.2.2) 0 (m - 1)=true ∧ (e.1 < 0 ∨ opE es e.1=true)):=by
  unfold sxV exV
  simp only [Bool.and_eq_true,Bool.or_eq_true,Bool.not_eq_true',decide_eq_true_eq]
  cases e.2.2<;>simp [and_assoc]
theorem vB_cells {cs cs':List Int} {es:List Ex} (h:vB cs es=true) (hl:cs'.length=cs.length) (hm:vMem cs'=true):vB cs' es=true:=by
  rw [Gkz] at h ⊢
  rw [hl]
  exact ⟨hm,h.2⟩
theorem vB_size {cs cs':List Int} {es:List Ex} (h:vB cs es=true) (ho:opensT es es.length=[]) (hm:vMem cs'=true):vB cs' es=true:=by
  rw [Gkz] at h ⊢
  refine ⟨hm,h.2.1,fun i e he=>?_⟩
  have h1:=D7z.1 (h.2.2 i e he)
  have h2:=F3z.1 ho i e (List.getElem?_eq_some_iff.1 he).1 he
  exact D7z.2 ⟨h1.1,fun h3=>absurd h3 h2⟩
theorem vB_rel {cs:List Int} {es:List Ex} {q:Nat} (h:vB cs es=true) (hk:kidsT es (q:Int) es.length=[]):vB cs (relE es q)=true:=by
  cases he:es[q]? with
  | none=>simp only [relE,he];exact h
  | some f =>
    rw [Gkz] at h ⊢
    have hq:q < es.length:=(List.getElem?_eq_some_iff.1 he).1
    rw [relE_at he]
    refine ⟨h.1,by simpa using h.2.1,fun i e hi=>?_⟩
    rw [List.getElem?_set] at hi
    by_cases e1:q=i
    · subst e1
      rw [if_pos rfl,if_pos hq] at hi
      injection hi with hi
      subst hi
      have h1:=D7z.1 (h.2.2 q f he)
      exact D7z.2 ⟨h1.1,fun h3=>by cases h3⟩
    · rw [if_neg e1] at hi
      have h1:=D7z.1 (h.2.2 i e hi)
      refine D7z.2 ⟨h1.1,fun h3=>⟨(h1.2 h3).1,?_⟩⟩
      rcases (h1.2 h3).2 with h4|h4
      · exact .inl h4
      · by_cases h5:e.1 < 0
        · exact .inl h5
        · refine .inr ?_
          have hne:q ≠ e.1.toNat:=fun e2=>by
            have:=Gaz.1 hk i e (List.getElem?_eq_some_iff.1 hi).1 hi
            exact this ⟨h3,by omega⟩
          unfold opE at h4 ⊢
          rw [List.getElem?_set,if_neg hne]
          exact h4
theorem vB_add {cs:List Int} {es:List Ex} {p b:Int} {x y:List Int} (h:vB cs es=true) (h8:es.length ≠ 8) (hv:vV b x y=true) (hf:allI (offs b x y) 0 ((cs.length:Int) - 1)=true) (hp:p=-1 ∨ (0 ≤ p ∧ p < es.length ∧ opE es p=true)):vB cs (es ++ [(p,(b,x,y),true)])=true:=by
  rw [Gkz] at h ⊢
  refine ⟨h.1,by rw [List.length_append,List.length_singleton];omega,fun i e hi=>?_⟩
  have hop:∀ r:Int,0 ≤ r → r < es.length → opE es r=true → opE (es ++ [(p,(b,x,y),true)]) r=true:=fun r h1 h2 h3=>by
    unfold opE at h3 ⊢
    rw [List.getElem?_append_left (by omega)]
    exact h3
  by_cases hl:i < es.length
  · rw [List.getElem?_append_left hl] at hi
    have h1:=D7z.1 (h.2.2 i e hi)
    refine D7z.2 ⟨h1.1,fun h3=>⟨(h1.2 h3).1,?_⟩⟩
    rcases (h1.2 h3).2 with h4|h4
    · exact .inl h4
    · by_cases h5:e.1 < 0
      · exact .inl h5
      · exact .inr (hop e.1 (by omega) (by omega) h4)
  · rw [List.getElem?_append_right (by omega)] at hi
    have hil:i=es.length:=by
      have:=(List.getElem?_eq_some_iff.1 hi).1
      simp at this
      omega
    subst hil
    rw [Nat.sub_self] at hi
    injection hi with hi
    subst hi
    refine D7z.2 ⟨⟨?_,hv⟩,fun _=>⟨hf,?_⟩⟩
    · simp only
      rcases hp with h1|h1<;>omega
    · rcases hp with h1|h1
      · exact .inl (by simp only;omega)
      · exact .inr (hop p h1.1 h1.2.1 h1.2.2)
theorem cut_sub {b:Int} {sh st:List Int} {j:Nat} {f t w:Int} {hf ht:Bool} (hv:vV b sh st=true) (hj:j < sh.length) (hs:vS f t w hf ht=true) {x:Int} (hx:x ∈ offs (cutB b sh st j f t w hf ht) (cutSh sh j f t w hf ht) (cutSt sh st j f t w hf ht)):x ∈ offs b sh st:=by
  have hg:=(Caz (Chz.1 hv).1).1
  have hg2:=(Caz (Chz.1 (vV_cut hv hj hs)).1).1
  by_cases hz:pr (cutSh sh j f t w hf ht)=0
  · have:=List.length_pos_of_mem hx
    rw [Bez,hz] at this
    exact absurd this (by decide)
  · rw [Ckz hg2] at hx
    rw [Ckz hg]
    obtain ⟨g,h1,h2⟩:=hx
    refine ⟨cutIx sh j f w hf g,cutIx_ix hv hj hs h1,?_⟩
    rw [← cut_dot hv hj hs hz h1]
    rw [B0z] at h2
    exact h2
theorem Klz {b:Int} {sh st:List Int} {d f t w:Int} {hf ht:Bool} (h:sdOk b sh st d f t w hf ht=true):vV b sh st=true ∧ d.toNat < sh.length ∧ vS f t w hf ht=true ∧ vV (cutB b sh st d.toNat f t w hf ht) (cutSh sh d.toNat f t w hf ht) (cutSt sh st d.toNat f t w hf ht)=true:=by
  unfold sdOk at h
  simp only [Bool.and_eq_true,decide_eq_true_eq] at h
  exact ⟨h.1.1.1,by omega,h.1.2,h.2⟩
theorem vB_ep {cs:List Int} {es:List Ex} {id d f t w:Int} {hf ht:Bool} (h:epG cs es id d f t w hf ht=true):vB cs (epE es id d f t w hf ht)=true:=by
  unfold epG at h
  simp only [Bool.and_eq_true,Bool.not_eq_true',decide_eq_false_iff_not] at h
  obtain ⟨⟨⟨hv,hr⟩,h8⟩,ho⟩:=h
  obtain ⟨q,p,b,x,y,rfl,hq,he,hvw⟩:=Gnz hr
  unfold epO at ho
  unfold epE epV
  rw [hvw] at ho ⊢
  simp only at ho ⊢
  obtain ⟨g1,g2,g3,g4⟩:=Klz ho
  have hs:=vB_see hv he
  unfold seeB at hs
  simp only [Bool.and_eq_true] at hs
  refine vB_add hv h8 g4 ?_ (.inr ⟨by omega,by omega,?_⟩)
  · rw [Csz] at hs ⊢
    exact fun z hz=>hs.2 z (cut_sub g1 g2 g3 hz)
  · unfold opE
    rw [Int.toNat_natCast,he]
theorem vB_ev {cs:List Int} {es:List Ex} {b:Int} {x y:List Int} (h:evG cs es b x y=true):vB cs (es ++ [(-1,(b,x,y),true)])=true:=by
  unfold evG at h
  simp only [Bool.and_eq_true,Bool.not_eq_true',decide_eq_false_iff_not] at h
  obtain ⟨⟨hv,hf⟩,h8⟩:=h
  unfold fitB at hf
  simp only [Bool.and_eq_true] at hf
  exact vB_add hv h8 hf.1.1 hf.2 (.inl rfl)
theorem vB_relG {cs:List Int} {es:List Ex} {id:Int} (h:relG cs es id=true):vB cs (relE es id.toNat)=true:=by
  unfold relG at h
  simp only [Bool.and_eq_true,decide_eq_true_eq,List.length_eq_zero_iff] at h
  obtain ⟨q,_,_,_,_,rfl,_⟩:=Gnz h.1.2
  rw [Int.toNat_natCast]
  exact vB_rel h.1.1 h.2
theorem getD_rng {mem:List Int} (hm:∀ x ∈ mem,0 ≤ x ∧ x ≤ 255) (j:Nat):0 ≤ mem.getD j 0 ∧ mem.getD j 0 ≤ 255:=by
  by_cases hl:j < mem.length
  · exact hm _ (C9z hl)
  · rw [List.getD,List.getElem?_eq_none (Nat.le_of_not_lt hl)];simp
theorem putK_rng {mem cells vals:List Int} (hm:∀ x ∈ mem,0 ≤ x ∧ x ≤ 255) (hv:∀ j,0 ≤ vals.getD j 0 ∧ vals.getD j 0 ≤ 255):∀ k,∀ x ∈ putK mem cells vals k,0 ≤ x ∧ x ≤ 255
  | 0,x,hx=>hm x hx
  | k + 1,x,hx=>by
    simp only [putK] at hx
    rcases List.mem_or_eq_of_mem_set hx with h1|h1
    · exact putK_rng hm hv k x h1
    · subst h1;exact hv k
theorem vMem_put {cs:List Int} (h:vMem cs=true) (os vs:List Int) (hvs:∀ x ∈ vs,0 ≤ x ∧ x ≤ 255):vMem (putL cs os vs)=true:=by
  rw [Dcz] at h ⊢
  exact ⟨by rw [Dsz];exact h.1,putK_rng h.2 (getD_rng hvs) _⟩

end Go.Proofs.YtkpcjppnjmhanaaGreatDoor
