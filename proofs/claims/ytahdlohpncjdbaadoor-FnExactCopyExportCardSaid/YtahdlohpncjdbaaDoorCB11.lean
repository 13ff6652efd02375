/- Texts of this verifier. -/
import Derived.Test.YtahdlohpncjdbaaDoorCB10
import Derived.Test.YtahdlohpncjdbaaDoorCM1
import Derived.Test.YtahdlohpncjdbaaDoorCW3
set_option linter.unusedSimpArgs false
set_option linter.unusedVariables false
set_option maxRecDepth 4000
set_option maxHeartbeats 4000000
namespace Go.Proofs.YtahdlohpncjdbaaDoor
open VwM Vw Go
set_option linter.unusedSectionVars false
variable [SentA]

def xfG (cs:List Int) (es:List Ex) (id v:Int):Bool:=(vB cs es && opA es id) && (decide (0 ≤ v) && decide (v ≤ 255))
def xfC (cs:List Int) (es:List Ex) (id v:Int):List Int:=filL cs (vwA es id).1 (vwA es id).2.1 (vwA es id).2.2 v
theorem iWithNo_ok (cs:List Int) (es:List Ex) (m n:Nat) (hm:cs.length=m) (hn:es.length=n) :
    BCall Tryd.prog 48 [.agg [.rows false (IL cs) m,.rows false (EL false es) n],.rows false [] 0,.bool false] [] (OBs false [] []):=by
  subst hm hn
  have hel:=Bbz false es
  refine A4z (pins:=[]) (pin:=0) l48_eq rfl rfl rfl ?_
  (repeat' (first
 | (first|refine Akz ?_|refine Afz ?_)
 | ((first|refine Alz ?_|refine Aez ?_|refine Agz ?_|refine Ahz ?_);simp (disch:=omega) only [push_cast,seval,l48r0,l48r1,l48r2,l48r3,l48r4,l48r5,hel,Abz])
 | ((first|refine Aaz ?_ ?_|refine Adz ?_ ?_|refine Acz ?_ ?_)<;>intro h<;>(try simp only [h])<;>(try simp only [bitvec_to_nat] at h)<;>(try simp only [h])<;>(first|(exfalso;omega)|(exfalso;simp_all;done)|(simp (disch:=omega) only [push_cast,seval,hel,Abz])|skip))
 | ((first|((with_reducible refine callD_of (f:=39) false ?_);simp (disch:=omega) only [push_cast,seval,hel,Abz];(refine Jjz (bclone_ok _ _ _ _ ?_ ?_ ?_) (by (simp (disch:=omega) only [push_cast,seval,hel,Abz]);done) ?_;(iterate 3 (exact sd)))))<;>(try simp (disch:=omega) only [push_cast,seval,hel,Abz]))
 | (refine Aiz ⟨.inr rfl,[16000,16001],[(16000,1),(16001,5)],_,by decide,rfl,?_⟩;(try simp (disch:=omega) only [push_cast,seval,↓Anz,↓Amz,↓List.map_cons,↓List.map_nil,hel,Abz]))))
  all_goals simp [OBs,EL]

end Go.Proofs.YtahdlohpncjdbaaDoor
set_option linter.unusedSimpArgs false
set_option linter.unusedVariables false
set_option maxRecDepth 4000
set_option maxHeartbeats 4000000
namespace Go.Proofs.YtahdlohpncjdbaaDoor
open VwM Vw Go
set_option linter.unusedSectionVars false
variable [SentA]

def xcG (cs:List Int) (es:List Ex) (t f:Int):Bool:=((vB cs es && opA es t) && opA es f) && decide ((vwA es t).2.1=(vwA es f).2.1)
def xcC (cs:List Int) (es:List Ex) (t f:Int):List Int:=putL cs (offs (vwA es t).1 (vwA es t).2.1 (vwA es t).2.2) (takesL cs (offs (vwA es f).1 (vwA es f).2.1 (vwA es f).2.2))
theorem Iqz {mem:List Int} {b:Int} {sh st:List Int} {b':Int} {sh' st':List Int} (h:seeB mem b sh st=true) (h':seeB mem b' sh' st'=true):twoB mem b sh st b' sh' st'=decide (sh=sh'):=by
  unfold twoB;rw [h,h'];rfl
theorem Eyz {es:List Ex} {q:Nat} {p b:Int} {x y:List Int} {o:Bool} (he:es[q]?=some (p,(b,x,y),o)):((EL false es).drop (q * 5 + 1)).take 3=[.int .i64 b,.rows false (IL x) x.length,.rows false (IL y) y.length]:=by
  have hd:=B8z false es q he
  simp only at hd
  have:=congrArg (fun l=>(l.drop 1).take 3) hd
  simpa [List.drop_take,List.drop_drop,List.take_take] using this


set_option maxHeartbeats 8000000 in
theorem sCE_ok (cs:List Int) (es:List Ex) (m n:Nat) (t f:Int) (hm:cs.length=m) (hn:es.length=n) (hb:m ≤ 1099511627776 ∧ n ≤ 1099511627776 ∧ exB 1099511627776 es) :
    BCall Tryd.prog 17 [.agg [.rows false (IL cs) m,.rows false (EL false es) n],.int .i64 t,.int .i64 f] [] (OBs (xcG cs es t f) (ifB (xcG cs es t f) (xcC cs es t f)) (ifB (xcG cs es t f) es)):=by
  subst hm hn
  have hb0:=hb
  obtain ⟨hb1,hb2,hb3⟩:=hb
  have hel:=Bbz false es
  refine A4z (pins:=[]) (pin:=0) l17_eq rfl rfl rfl ?_
  unfold xcG
  cases hv:vB cs es with
  | false =>
    simp only [Bool.false_and,Fyz]
    (repeat' (first
 | (first|refine Akz ?_|refine Afz ?_)
 | ((first|refine Alz ?_|refine Asz (mid:=l17r3a) (post:=l17r3b) A9z (by decide) ?_|refine Aez ?_|refine Agz ?_|refine Ahz ?_);simp (disch:=omega) only [push_cast,seval,l17r0,l17r1,l17r2,l17r3a,l17r3b,l17r3,l17r4,l17r5,l17r6,l17r7,l17r8,hv,hel,Abz])
 | ((first|refine Aaz ?_ ?_|refine Adz ?_ ?_|refine Acz ?_ ?_)<;>intro h<;>(try simp only [h])<;>(try simp only [bitvec_to_nat] at h)<;>(try simp only [h])<;>(first|(exfalso;omega)|(exfalso;simp_all;done)|(simp (disch:=omega) only [push_cast,seval,hv,hel,Abz])|skip))
 | ((first|refine callD_of false ?_|refine Ajz false ?_);simp (disch:=omega) only [push_cast,seval,hv,hel,Abz])
 | ((first|((first|refine call0D (BCall.ofP (E0z _ _ _ _ ?_ ?_ ?_)) ?_|refine qcall0D (BCall.ofP (E0z _ _ _ _ ?_ ?_ ?_)) ⟨_,_,rfl,rfl⟩ ?_);(iterate 3 (exact sd));rintro _ _ ⟨rfl,rfl⟩)|((first|refine call0D (BCall.ofP (siO_ok _ _ _ _ _ ?_ ?_ ?_)) ?_|refine qcall0D (BCall.ofP (siO_ok _ _ _ _ _ ?_ ?_ ?_)) ⟨_,_,rfl,rfl⟩ ?_);(iterate 3 (exact sd));rintro _ _ ⟨rfl,rfl⟩)|((first|refine call0D (sCopy_ok _ _ _ _ _ _ _ _ _ _ _ _ ?_ ?_ ?_ ?_ ?_ ?_) ?_|refine qcall0D (sCopy_ok _ _ _ _ _ _ _ _ _ _ _ _ ?_ ?_ ?_ ?_ ?_ ?_) ⟨_,_,rfl,rfl⟩ ?_);(iterate 6 (exact sd));rintro _ _ ⟨rfl,rfl⟩)|((first|refine call0D (scB_ok _ _ _ _ ?_ ?_ ?_) ?_|refine qcall0D (scB_ok _ _ _ _ ?_ ?_ ?_) ⟨_,_,rfl,rfl⟩ ?_);(iterate 3 (exact sd));rintro _ _ ⟨rfl,rfl⟩))<;>(try simp (disch:=omega) only [push_cast,seval,hv,hel,Abz]))
 | (refine Aiz ⟨.inr rfl,[16000,16001],[(16000,1),(16001,5)],_,by decide,rfl,?_⟩;(try simp (disch:=omega) only [push_cast,seval,↓Anz,↓Amz,↓List.map_cons,↓List.map_nil,hv,hel,Abz]))))
    all_goals simp [OBs,EL]
  | true =>
    obtain ⟨v1,v2,v3⟩:=vB_8 hv
    cases hr:opA es t with
    | false =>
      simp only [Bool.true_and,Bool.false_and,Fyz]
      (repeat' (first
 | (first|refine Akz ?_|refine Afz ?_)
 | ((first|refine Alz ?_|refine Asz (mid:=l17r3a) (post:=l17r3b) A9z (by decide) ?_|refine Aez ?_|refine Agz ?_|refine Ahz ?_);simp (disch:=omega) only [push_cast,seval,l17r0,l17r1,l17r2,l17r3a,l17r3b,l17r3,l17r4,l17r5,l17r6,l17r7,l17r8,hv,hr,hel,Abz])
 | ((first|refine Aaz ?_ ?_|refine Adz ?_ ?_|refine Acz ?_ ?_)<;>intro h<;>(try simp only [h])<;>(try simp only [bitvec_to_nat] at h)<;>(try simp only [h])<;>(first|(exfalso;omega)|(exfalso;simp_all;done)|(simp (disch:=omega) only [push_cast,seval,hv,hr,hel,Abz])|skip))
 | ((first|refine callD_of false ?_|refine Ajz false ?_);simp (disch:=omega) only [push_cast,seval,hv,hr,hel,Abz])
 | ((first|((first|refine call0D (BCall.ofP (E0z _ _ _ _ ?_ ?_ ?_)) ?_|refine qcall0D (BCall.ofP (E0z _ _ _ _ ?_ ?_ ?_)) ⟨_,_,rfl,rfl⟩ ?_);(iterate 3 (exact sd));rintro _ _ ⟨rfl,rfl⟩)|((first|refine call0D (BCall.ofP (siO_ok _ _ _ _ _ ?_ ?_ ?_)) ?_|refine qcall0D (BCall.ofP (siO_ok _ _ _ _ _ ?_ ?_ ?_)) ⟨_,_,rfl,rfl⟩ ?_);(iterate 3 (exact sd));rintro _ _ ⟨rfl,rfl⟩)|((first|refine call0D (sCopy_ok _ _ _ _ _ _ _ _ _ _ _ _ ?_ ?_ ?_ ?_ ?_ ?_) ?_|refine qcall0D (sCopy_ok _ _ _ _ _ _ _ _ _ _ _ _ ?_ ?_ ?_ ?_ ?_ ?_) ⟨_,_,rfl,rfl⟩ ?_);(iterate 6 (exact sd));rintro _ _ ⟨rfl,rfl⟩)|((first|refine call0D (scB_ok _ _ _ _ ?_ ?_ ?_) ?_|refine qcall0D (scB_ok _ _ _ _ ?_ ?_ ?_) ⟨_,_,rfl,rfl⟩ ?_);(iterate 3 (exact sd));rintro _ _ ⟨rfl,rfl⟩))<;>(try simp (disch:=omega) only [push_cast,seval,hv,hr,hel,Abz]))
 | (refine Aiz ⟨.inr rfl,[16000,16001],[(16000,1),(16001,5)],_,by decide,rfl,?_⟩;(try simp (disch:=omega) only [push_cast,seval,↓Anz,↓Amz,↓List.map_cons,↓List.map_nil,hv,hr,hel,Abz]))))
      all_goals simp [OBs,EL]
    | true =>
      cases hrf:opA es f with
 | false =>
        simp only [Bool.true_and,Bool.false_and,Fyz]
        (repeat' (first
 | (first|refine Akz ?_|refine Afz ?_)
 | ((first|refine Alz ?_|refine Asz (mid:=l17r3a) (post:=l17r3b) A9z (by decide) ?_|refine Aez ?_|refine Agz ?_|refine Ahz ?_);simp (disch:=omega) only [push_cast,seval,l17r0,l17r1,l17r2,l17r3a,l17r3b,l17r3,l17r4,l17r5,l17r6,l17r7,l17r8,hv,hr,hrf,hel,Abz])
 | ((first|refine Aaz ?_ ?_|refine Adz ?_ ?_|refine Acz ?_ ?_)<;>intro h<;>(try simp only [h])<;>(try simp only [bitvec_to_nat] at h)<;>(try simp only [h])<;>(first|(exfalso;omega)|(exfalso;simp_all;done)|(simp (disch:=omega) only [push_cast,seval,hv,hr,hrf,hel,Abz])|skip))
 | ((first|refine callD_of false ?_|refine Ajz false ?_);simp (disch:=omega) only [push_cast,seval,hv,hr,hrf,hel,Abz])
 | ((first|((first|refine call0D (BCall.ofP (E0z _ _ _ _ ?_ ?_ ?_)) ?_|refine qcall0D (BCall.ofP (E0z _ _ _ _ ?_ ?_ ?_)) ⟨_,_,rfl,rfl⟩ ?_);(iterate 3 (exact sd));rintro _ _ ⟨rfl,rfl⟩)|((first|refine call0D (BCall.ofP (siO_ok _ _ _ _ _ ?_ ?_ ?_)) ?_|refine qcall0D (BCall.ofP (siO_ok _ _ _ _ _ ?_ ?_ ?_)) ⟨_,_,rfl,rfl⟩ ?_);(iterate 3 (exact sd));rintro _ _ ⟨rfl,rfl⟩)|((first|refine call0D (sCopy_ok _ _ _ _ _ _ _ _ _ _ _ _ ?_ ?_ ?_ ?_ ?_ ?_) ?_|refine qcall0D (sCopy_ok _ _ _ _ _ _ _ _ _ _ _ _ ?_ ?_ ?_ ?_ ?_ ?_) ⟨_,_,rfl,rfl⟩ ?_);(iterate 6 (exact sd));rintro _ _ ⟨rfl,rfl⟩)|((first|refine call0D (scB_ok _ _ _ _ ?_ ?_ ?_) ?_|refine qcall0D (scB_ok _ _ _ _ ?_ ?_ ?_) ⟨_,_,rfl,rfl⟩ ?_);(iterate 3 (exact sd));rintro _ _ ⟨rfl,rfl⟩))<;>(try simp (disch:=omega) only [push_cast,seval,hv,hr,hrf,hel,Abz]))
 | (refine Aiz ⟨.inr rfl,[16000,16001],[(16000,1),(16001,5)],_,by decide,rfl,?_⟩;(try simp (disch:=omega) only [push_cast,seval,↓Anz,↓Amz,↓List.map_cons,↓List.map_nil,hv,hr,hrf,hel,Abz]))))
        all_goals simp [OBs,EL]
 | true =>
        simp only [Bool.true_and]
        obtain ⟨q,p,b,x,y,rfl,hq,he,hvw⟩:=H8z hr
        obtain ⟨q',p',b',x',y',rfl,hq',he',hvw'⟩:=H8z hrf
        have hs:=H4z hv he
        have hs':=H4z hv he'
        have hbb:=Cfz hb3 he
        have hbb':=Cfz hb3 he'
        have hil:q * 5 + 5 ≤ es.length * 5:=by omega
        have hil':q' * 5 + 5 ≤ es.length * 5:=by omega
        have h3:=Eyz he
        have h3':=Eyz he'
        have htw:=Iqz hs hs'
        unfold xcC
        simp only [hvw,hvw']
        have hlen:(putL cs (offs b x y) (takesL cs (offs b' x' y'))).length=cs.length:=E8z ..
        generalize hZ:putL cs (offs b x y) (takesL cs (offs b' x' y'))=Z at *
        cases hx:decide (x=x') with
        | false =>
          rw [hx] at htw
          simp only [Fyz]
          (repeat' (first
 | (first|refine Akz ?_|refine Afz ?_)
 | ((first|refine Alz ?_|refine Asz (mid:=l17r3a) (post:=l17r3b) A9z (by decide) ?_|refine Aez ?_|refine Agz ?_|refine Ahz ?_);simp (disch:=omega) only [push_cast,seval,l17r0,l17r1,l17r2,l17r3a,l17r3b,l17r3,l17r4,l17r5,l17r6,l17r7,l17r8,hv,hr,hrf,htw,h3,h3',hZ,hil,hil',hel,Abz,MVL_false])
 | ((first|refine Aaz ?_ ?_|refine Adz ?_ ?_|refine Acz ?_ ?_)<;>intro h<;>(try simp only [h])<;>(try simp only [bitvec_to_nat] at h)<;>(try simp only [h])<;>(first|(exfalso;omega)|(exfalso;simp_all;done)|(simp (disch:=omega) only [push_cast,seval,hv,hr,hrf,htw,h3,h3',hZ,hil,hil',hel,Abz,MVL_false])|skip))
 | ((first|refine callD_of false ?_|refine Ajz false ?_);simp (disch:=omega) only [push_cast,seval,hv,hr,hrf,htw,h3,h3',hZ,hil,hil',hel,Abz,MVL_false])
 | ((first|((first|refine call0D (BCall.ofP (E0z _ _ _ _ ?_ ?_ ?_)) ?_|refine qcall0D (BCall.ofP (E0z _ _ _ _ ?_ ?_ ?_)) ⟨_,_,rfl,rfl⟩ ?_);(iterate 3 (exact sd));rintro _ _ ⟨rfl,rfl⟩)|((first|refine call0D (BCall.ofP (siO_ok _ _ _ _ _ ?_ ?_ ?_)) ?_|refine qcall0D (BCall.ofP (siO_ok _ _ _ _ _ ?_ ?_ ?_)) ⟨_,_,rfl,rfl⟩ ?_);(iterate 3 (exact sd));rintro _ _ ⟨rfl,rfl⟩)|((first|refine call0D (sCopy_ok _ _ _ _ _ _ _ _ _ _ _ _ ?_ ?_ ?_ ?_ ?_ ?_) ?_|refine qcall0D (sCopy_ok _ _ _ _ _ _ _ _ _ _ _ _ ?_ ?_ ?_ ?_ ?_ ?_) ⟨_,_,rfl,rfl⟩ ?_);(iterate 6 (exact sd));rintro _ _ ⟨rfl,rfl⟩)|((first|refine call0D (scB_ok _ _ _ _ ?_ ?_ ?_) ?_|refine qcall0D (scB_ok _ _ _ _ ?_ ?_ ?_) ⟨_,_,rfl,rfl⟩ ?_);(iterate 3 (exact sd));rintro _ _ ⟨rfl,rfl⟩))<;>(try simp (disch:=omega) only [push_cast,seval,hv,hr,hrf,htw,h3,h3',hZ,hil,hil',hel,Abz,MVL_false]))
 | (refine Aiz ⟨.inr rfl,[16000,16001],[(16000,1),(16001,5)],_,by decide,rfl,?_⟩; (try simp (disch := omega) only [push_cast,seval,↓Anz,↓Amz,↓List.map_cons,↓List.map_nil,hv,hr,hrf,htw,h3,h3',hZ,hil,hil',hel,Abz,MVL_false]))))
          all_goals simp [OBs,EL]
        | true =>
          rw [hx] at htw
          simp only [ifB_true]
          (repeat' (first
 | (first|refine Akz ?_|refine Afz ?_)
 | ((first|refine Alz ?_|refine Asz (mid:=l17r3a) (post:=l17r3b) A9z (by decide) ?_|refine Aez ?_|refine Agz ?_|refine Ahz ?_);simp (disch:=omega) only [push_cast,seval,l17r0,l17r1,l17r2,l17r3a,l17r3b,l17r3,l17r4,l17r5,l17r6,l17r7,l17r8,hv,hr,hrf,htw,h3,h3',hZ,hil,hil',hel,Abz,MVL_true])
 | ((first|refine Aaz ?_ ?_|refine Adz ?_ ?_|refine Acz ?_ ?_)<;>intro h<;>(try simp only [h])<;>(try simp only [bitvec_to_nat] at h)<;>(try simp only [h])<;>(first|(exfalso;omega)|(exfalso;simp_all;done)|(simp (disch:=omega) only [push_cast,seval,hv,hr,hrf,htw,h3,h3',hZ,hil,hil',hel,Abz,MVL_true])|skip))
 | ((first|refine callD_of false ?_|refine Ajz false ?_);simp (disch:=omega) only [push_cast,seval,hv,hr,hrf,htw,h3,h3',hZ,hil,hil',hel,Abz,MVL_true])
 | ((first|((first|refine call0D (BCall.ofP (E0z _ _ _ _ ?_ ?_ ?_)) ?_|refine qcall0D (BCall.ofP (E0z _ _ _ _ ?_ ?_ ?_)) ⟨_,_,rfl,rfl⟩ ?_);(iterate 3 (exact sd));rintro _ _ ⟨rfl,rfl⟩)|((first|refine call0D (BCall.ofP (siO_ok _ _ _ _ _ ?_ ?_ ?_)) ?_|refine qcall0D (BCall.ofP (siO_ok _ _ _ _ _ ?_ ?_ ?_)) ⟨_,_,rfl,rfl⟩ ?_);(iterate 3 (exact sd));rintro _ _ ⟨rfl,rfl⟩)|((first|refine call0D (sCopy_ok _ _ _ _ _ _ _ _ _ _ _ _ ?_ ?_ ?_ ?_ ?_ ?_) ?_|refine qcall0D (sCopy_ok _ _ _ _ _ _ _ _ _ _ _ _ ?_ ?_ ?_ ?_ ?_ ?_) ⟨_,_,rfl,rfl⟩ ?_);(iterate 6 (exact sd));rintro _ _ ⟨rfl,rfl⟩)|((first|refine call0D (scB_ok _ _ _ _ ?_ ?_ ?_) ?_|refine qcall0D (scB_ok _ _ _ _ ?_ ?_ ?_) ⟨_,_,rfl,rfl⟩ ?_);(iterate 3 (exact sd));rintro _ _ ⟨rfl,rfl⟩))<;>(try simp (disch:=omega) only [push_cast,seval,hv,hr,hrf,htw,h3,h3',hZ,hil,hil',hel,Abz,MVL_true]))
 | (refine Aiz ⟨.inr rfl,[672,785],[],_,by decide,rfl,?_⟩; (try simp (disch := omega) only [push_cast,seval,↓Anz,↓Amz,↓List.map_cons,↓List.map_nil,hv,hr,hrf,htw,h3,h3',hZ,hil,hil',hel,Abz,MVL_true]))))
          all_goals simp [OBs]


theorem iCopyP_ok (mem:List Int) (b:Int) (sh st:List Int) (b':Int) (sh' st':List Int) (q n m n' m':Nat) (hq:mem.length=q) (hn:sh.length=n) (hm:st.length=m) (hn':sh'.length=n') (hm':st'.length=m') (hb:(q ≤ 1099511627776 ∧ n ≤ 1099511627776 ∧ m ≤ 1099511627776) ∧ n' ≤ 1099511627776 ∧ m' ≤ 1099511627776):PCall Tryd.prog 51 [.rows false (IL mem) q,.agg [.int .i64 b,.rows false (IL sh) n,.rows false (IL st) m],.agg [.int .i64 b',.rows false (IL sh') n',.rows false (IL st') m']] (fun r=>r=.tup [.rows true (IL (MVL (twoB mem b sh st b' sh' st') (putL mem (offs b sh st) (takesL mem (offs b' sh' st'))))) (MVL (twoB mem b sh st b' sh' st') (putL mem (offs b sh st) (takesL mem (offs b' sh' st')))).length,.bool (twoB mem b sh st b' sh' st')]):=by
  refine (BCall.plain (iCopy_ok mem b sh st b' sh' st' q n m n' m' hq hn hm hn' hm' hb)).mono ?_
  rintro r ⟨r0,H',⟨rfl,rfl⟩,rfl⟩
  simp [AV.ren,nthH,H6z]


set_option maxHeartbeats 8000000 in
theorem iCEno_ok (cs:List Int) (es:List Ex) (m n:Nat) (t f:Int) (hm:cs.length=m) (hn:es.length=n) (hb:m ≤ 1048576 ∧ n ≤ 1048576 ∧ exB 1048576 es) (hg:xcG cs es t f=false) :
    BCall Tryd.prog 18 [.agg [.rows false (IL cs) m,.rows false (EL false es) n],.int .i64 t,.int .i64 f] [] (OBf false [] []):=by
  subst hm hn
  have hb0:=hb
  obtain ⟨hb1,hb2,hb3⟩:=hb
  have hq8:cs.length ≤ 1099511627776 ∧ es.length ≤ 1099511627776 ∧ exB 1099511627776 es:=⟨by omega,by omega,fun e he=>by have:=hb3 e he;omega⟩
  have hel:=Bbz false es
  refine A4z (pins:=[]) (pin:=0) l18_eq rfl rfl rfl ?_
  unfold xcG at hg
  cases hc:(vB cs es && opA es t) with
  | false =>
    (repeat' (first
 | (first|refine Akz ?_|refine Afz ?_)
 | ((first|refine Alz ?_|refine Asz (mid:=l18r3a) (post:=l18r3b) A9z (by decide) ?_|refine Aez ?_|refine Agz ?_|refine Ahz ?_);simp (disch:=omega) only [push_cast,seval,l18r0,l18r1,l18r2,l18r3a,l18r3b,l18r3,hc,hel,Abz])
 | ((first|refine Aaz ?_ ?_|refine Adz ?_ ?_|refine Acz ?_ ?_)<;>intro h<;>(try simp only [h])<;>(try simp only [bitvec_to_nat] at h)<;>(try simp only [h])<;>(first|(exfalso;omega)|(exfalso;simp_all;done)|(simp (disch:=omega) only [push_cast,seval,hc,hel,Abz])|skip))
 | ((first|((with_reducible refine B7z (f:=48) ?_);simp (disch:=omega) only [push_cast,seval,hc,hel,Abz];(refine Huz (by intro _ _;first|rfl|((simp (disch:=omega) only [push_cast,seval,hc,hel,Abz]);done)|((simp (disch:=omega) only [push_cast,seval,hc,hel,Abz]);rfl)) (Fzz _ _ _ _ _ _ ?_ ?_ ?_ ?_) rfl (by (simp (disch:=omega) only [push_cast,seval,hc,hel,Abz])<;>rfl) (by (simp (disch:=omega) only [push_cast,seval,hc,hel,Abz]);done) (by omega) ?_;(iterate 4 (exact sd)))))<;>(try simp (disch:=omega) only [push_cast,seval,hc,hel,Abz]))
 | ((first|refine callD_of false ?_|refine Ajz false ?_);simp (disch:=omega) only [push_cast,seval,hc,hel,Abz])
 | ((first|((first|refine call0D (BCall.ofP (E3z _ _ _ _ _ ?_ ?_ ?_)) ?_|refine qcall0D (BCall.ofP (E3z _ _ _ _ _ ?_ ?_ ?_)) ⟨_,_,rfl,rfl⟩ ?_);(iterate 3 (exact sd));rintro _ _ ⟨rfl,rfl⟩)|((first|refine call0D (BCall.ofP (iCopyP_ok _ _ _ _ _ _ _ _ _ _ _ _ ?_ ?_ ?_ ?_ ?_ ?_)) ?_|refine qcall0D (BCall.ofP (iCopyP_ok _ _ _ _ _ _ _ _ _ _ _ _ ?_ ?_ ?_ ?_ ?_ ?_)) ⟨_,_,rfl,rfl⟩ ?_);(iterate 6 (exact sd));rintro _ _ ⟨rfl,rfl⟩)|((first|refine call0D (iWithNo_ok _ _ _ _ ?_ ?_) ?_|refine qcall0D (iWithNo_ok _ _ _ _ ?_ ?_) ⟨_,_,rfl,rfl⟩ ?_);(iterate 2 (exact sd));rintro _ _ ⟨rfl,rfl⟩))<;>(try simp (disch:=omega) only [push_cast,seval,hc,hel,Abz]))
 | (refine Aiz ⟨.inr rfl,[16000,16001],[(16000,1),(16001,5)],_,by decide,rfl,?_⟩;(try simp (disch:=omega) only [push_cast,seval,↓Anz,↓Amz,↓List.map_cons,↓List.map_nil,hc,hel,Abz]))))
    all_goals simp [OBf,mkE_nil]
  | true =>
    rw [hc,Bool.true_and] at hg
    have hc2:=hc
    rw [Bool.and_eq_true] at hc2
    obtain ⟨hv,hr⟩:=hc2
    cases hc':(vB cs es && opA es f) with
    | false =>
      (repeat' (first
 | (first|refine Akz ?_|refine Afz ?_)
 | ((first|refine Alz ?_|refine Asz (mid:=l18r3a) (post:=l18r3b) A9z (by decide) ?_|refine Aez ?_|refine Agz ?_|refine Ahz ?_);simp (disch:=omega) only [push_cast,seval,l18r0,l18r1,l18r2,l18r3a,l18r3b,l18r3,hc,hc',hel,Abz])
 | ((first|refine Aaz ?_ ?_|refine Adz ?_ ?_|refine Acz ?_ ?_)<;>intro h<;>(try simp only [h])<;>(try simp only [bitvec_to_nat] at h)<;>(try simp only [h])<;>(first|(exfalso;omega)|(exfalso;simp_all;done)|(simp (disch:=omega) only [push_cast,seval,hc,hc',hel,Abz])|skip))
 | ((first|((with_reducible refine B7z (f:=48) ?_);simp (disch:=omega) only [push_cast,seval,hc,hc',hel,Abz];(refine Huz (by intro _ _;first|rfl|((simp (disch:=omega) only [push_cast,seval,hc,hc',hel,Abz]);done)|((simp (disch:=omega) only [push_cast,seval,hc,hc',hel,Abz]);rfl)) (Fzz _ _ _ _ _ _ ?_ ?_ ?_ ?_) rfl (by (simp (disch:=omega) only [push_cast,seval,hc,hc',hel,Abz])<;>rfl) (by (simp (disch:=omega) only [push_cast,seval,hc,hc',hel,Abz]);done) (by omega) ?_;(iterate 4 (exact sd)))))<;>(try simp (disch:=omega) only [push_cast,seval,hc,hc',hel,Abz]))
 | ((first|refine callD_of false ?_|refine Ajz false ?_);simp (disch:=omega) only [push_cast,seval,hc,hc',hel,Abz])
 | ((first|((first|refine call0D (BCall.ofP (E3z _ _ _ _ _ ?_ ?_ ?_)) ?_|refine qcall0D (BCall.ofP (E3z _ _ _ _ _ ?_ ?_ ?_)) ⟨_,_,rfl,rfl⟩ ?_);(iterate 3 (exact sd));rintro _ _ ⟨rfl,rfl⟩)|((first|refine call0D (BCall.ofP (iCopyP_ok _ _ _ _ _ _ _ _ _ _ _ _ ?_ ?_ ?_ ?_ ?_ ?_)) ?_|refine qcall0D (BCall.ofP (iCopyP_ok _ _ _ _ _ _ _ _ _ _ _ _ ?_ ?_ ?_ ?_ ?_ ?_)) ⟨_,_,rfl,rfl⟩ ?_);(iterate 6 (exact sd));rintro _ _ ⟨rfl,rfl⟩)|((first|refine call0D (iWithNo_ok _ _ _ _ ?_ ?_) ?_|refine qcall0D (iWithNo_ok _ _ _ _ ?_ ?_) ⟨_,_,rfl,rfl⟩ ?_);(iterate 2 (exact sd));rintro _ _ ⟨rfl,rfl⟩))<;>(try simp (disch:=omega) only [push_cast,seval,hc,hc',hel,Abz]))
 | (refine Aiz ⟨.inr rfl,[16000,16001],[(16000,1),(16001,5)],_,by decide,rfl,?_⟩;(try simp (disch:=omega) only [push_cast,seval,↓Anz,↓Amz,↓List.map_cons,↓List.map_nil,hc,hc',hel,Abz]))))
      all_goals simp [OBf,mkE_nil]
    | true =>
      have hrf:opA es f=true:=by rw [hv,Bool.true_and] at hc';exact hc'
      rw [hrf,Bool.true_and] at hg
      obtain ⟨v1,v2,v3⟩:=vB_8 hv
      obtain ⟨q,p,b,x,y,rfl,hq,he,hvw⟩:=H8z hr
      obtain ⟨q',p',b',x',y',rfl,hq',he',hvw'⟩:=H8z hrf
      have hs:=H4z hv he
      have hs':=H4z hv he'
      have hbb:=Cfz hb3 he
      have hbb':=Cfz hb3 he'
      have hil:q * 5 + 5 ≤ es.length * 5:=by omega
      have hil':q' * 5 + 5 ≤ es.length * 5:=by omega
      have h3:=Eyz he
      have h3':=Eyz he'
      have htw:=Iqz hs hs'
      rw [hvw,hvw'] at hg
      rw [hg] at htw
      (repeat' (first
 | (first|refine Akz ?_|refine Afz ?_)
 | ((first|refine Alz ?_|refine Asz (mid:=l18r3a) (post:=l18r3b) A9z (by decide) ?_|refine Aez ?_|refine Agz ?_|refine Ahz ?_);simp (disch:=omega) only [push_cast,seval,l18r0,l18r1,l18r2,l18r3a,l18r3b,l18r3,hc,hc',htw,h3,h3',hil,hil',hel,Abz,MVL_false,IL,List.map_nil,List.length_nil])
 | ((first|refine Aaz ?_ ?_|refine Adz ?_ ?_|refine Acz ?_ ?_)<;>intro h<;>(try simp only [h])<;>(try simp only [bitvec_to_nat] at h)<;>(try simp only [h])<;>(first|(exfalso;omega)|(exfalso;simp_all;done)|(simp (disch:=omega) only [push_cast,seval,hc,hc',htw,h3,h3',hil,hil',hel,Abz,MVL_false,IL,List.map_nil,List.length_nil])|skip))
 | ((first|((with_reducible refine B7z (f:=48) ?_);simp (disch:=omega) only [push_cast,seval,hc,hc',htw,h3,h3',hil,hil',hel,Abz,MVL_false,IL,List.map_nil,List.length_nil];(refine Huz (by intro _ _;first|rfl|((simp (disch:=omega) only [push_cast,seval,hc,hc',htw,h3,h3',hil,hil',hel,Abz,MVL_false,IL,List.map_nil,List.length_nil]);done)|((simp (disch:=omega) only [push_cast,seval,hc,hc',htw,h3,h3',hil,hil',hel,Abz,MVL_false,IL,List.map_nil,List.length_nil]);rfl)) (Fzz _ _ _ _ _ _ ?_ ?_ ?_ ?_) rfl (by (simp (disch:=omega) only [push_cast,seval,hc,hc',htw,h3,h3',hil,hil',hel,Abz,MVL_false,IL,List.map_nil,List.length_nil])<;>rfl) (by (simp (disch:=omega) only [push_cast,seval,hc,hc',htw,h3,h3',hil,hil',hel,Abz,MVL_false,IL,List.map_nil,List.length_nil]);done) (by omega) ?_;(iterate 4 (exact sd)))))<;>(try simp (disch:=omega) only [push_cast,seval,hc,hc',htw,h3,h3',hil,hil',hel,Abz,MVL_false,IL,List.map_nil,List.length_nil]))
 | ((first|refine callD_of false ?_|refine Ajz false ?_);simp (disch:=omega) only [push_cast,seval,hc,hc',htw,h3,h3',hil,hil',hel,Abz,MVL_false,IL,List.map_nil,List.length_nil])
 | ((first|((first|refine call0D (BCall.ofP (E3z _ _ _ _ _ ?_ ?_ ?_)) ?_|refine qcall0D (BCall.ofP (E3z _ _ _ _ _ ?_ ?_ ?_)) ⟨_,_,rfl,rfl⟩ ?_);(iterate 3 (exact sd));rintro _ _ ⟨rfl,rfl⟩)|((first|refine call0D (BCall.ofP (iCopyP_ok _ _ _ _ _ _ _ _ _ _ _ _ ?_ ?_ ?_ ?_ ?_ ?_)) ?_|refine qcall0D (BCall.ofP (iCopyP_ok _ _ _ _ _ _ _ _ _ _ _ _ ?_ ?_ ?_ ?_ ?_ ?_)) ⟨_,_,rfl,rfl⟩ ?_);(iterate 6 (exact sd));rintro _ _ ⟨rfl,rfl⟩)|((first|refine call0D (iWithNo_ok _ _ _ _ ?_ ?_) ?_|refine qcall0D (iWithNo_ok _ _ _ _ ?_ ?_) ⟨_,_,rfl,rfl⟩ ?_);(iterate 2 (exact sd));rintro _ _ ⟨rfl,rfl⟩))<;>(try simp (disch:=omega) only [push_cast,seval,hc,hc',htw,h3,h3',hil,hil',hel,Abz,MVL_false,IL,List.map_nil,List.length_nil]))
 | (refine Aiz ⟨.inr rfl,[592,593],[],_,by decide,rfl,?_⟩;(try simp (disch:=omega) only [push_cast,seval,↓Anz,↓Amz,↓List.map_cons,↓List.map_nil,hc,hc',htw,h3,h3',hil,hil',hel,Abz,MVL_false,IL,List.map_nil,List.length_nil]))))
      all_goals simp [OBf,mkE_nil,EL]




set_option maxHeartbeats 8000000 in
theorem iCE_ok (cs:List Int) (es:List Ex) (m n:Nat) (t f:Int) (hm:cs.length=m) (hn:es.length=n) (hb:m ≤ 1048576 ∧ n ≤ 1048576 ∧ exB 1048576 es) :
    BCall Tryd.prog 18 [.agg [.rows false (IL cs) m,.rows false (EL false es) n],.int .i64 t,.int .i64 f] [] (OBf (xcG cs es t f) (ifB (xcG cs es t f) (xcC cs es t f)) (ifB (xcG cs es t f) es)):=by
  subst hm hn
  have hb0:=hb
  obtain ⟨hb1,hb2,hb3⟩:=hb
  have hq8:cs.length ≤ 1099511627776 ∧ es.length ≤ 1099511627776 ∧ exB 1099511627776 es:=⟨by omega,by omega,fun e he=>by have:=hb3 e he;omega⟩
  have hel:=Bbz false es
  cases hg:xcG cs es t f with
  | false=>exact iCEno_ok cs es _ _ t f rfl rfl hb0 hg
  | true =>
    refine A4z (pins:=[]) (pin:=0) l18_eq rfl rfl rfl ?_
    have hg2:=hg
    unfold xcG at hg2
    rw [Bool.and_eq_true,Bool.and_eq_true] at hg2
    obtain ⟨⟨hc,hrf⟩,hx⟩:=hg2
    have hc2:=hc
    rw [Bool.and_eq_true] at hc2
    obtain ⟨hv,hr⟩:=hc2
    have hc':(vB cs es && opA es f)=true:=by rw [hv,hrf];rfl
    obtain ⟨v1,v2,v3⟩:=vB_8 hv
    obtain ⟨q,p,b,x,y,rfl,hq,he,hvw⟩:=H8z hr
    obtain ⟨q',p',b',x',y',rfl,hq',he',hvw'⟩:=H8z hrf
    have hs:=H4z hv he
    have hs':=H4z hv he'
    have hbb:=Cfz hb3 he
    have hbb':=Cfz hb3 he'
    have hil:q * 5 + 5 ≤ es.length * 5:=by omega
    have hil':q' * 5 + 5 ≤ es.length * 5:=by omega
    have h3:=Eyz he
    have h3':=Eyz he'
    have htw:=Iqz hs hs'
    rw [hvw,hvw'] at hx
    rw [hx] at htw
    unfold xcC
    simp only [ifB_true,hvw,hvw']
    have hlen:(putL cs (offs b x y) (takesL cs (offs b' x' y'))).length=cs.length:=E8z ..
    generalize hZ:putL cs (offs b x y) (takesL cs (offs b' x' y'))=Z at *
    (repeat' (first
 | (first|refine Akz ?_|refine Afz ?_)
 | ((first|refine Alz ?_|refine Aez ?_|refine Agz ?_|refine Ahz ?_);simp (disch:=omega) only [push_cast,seval,l18r0,l18r1,l18r2,l18r3a,l18r3b,l18r3,hc,hc',h3,h3',htw,hZ,hil,hil',hel,Abz,MVL_true])
 | ((first|refine Aaz ?_ ?_|refine Adz ?_ ?_|refine Acz ?_ ?_)<;>intro h<;>(try simp only [h])<;>(try simp only [bitvec_to_nat] at h)<;>(try simp only [h])<;>(first|(exfalso;omega)|(exfalso;simp_all;done)|(simp (disch:=omega) only [push_cast,seval,hc,hc',h3,h3',htw,hZ,hil,hil',hel,Abz,MVL_true])|skip))
 | ((first|((with_reducible refine B7z (f:=48) ?_);simp (disch:=omega) only [push_cast,seval,hc,hc',h3,h3',htw,hZ,hil,hil',hel,Abz,MVL_true];(refine Huz (by intro _ _;first|rfl|((simp (disch:=omega) only [push_cast,seval,hc,hc',h3,h3',htw,hZ,hil,hil',hel,Abz,MVL_true]);done)|((simp (disch:=omega) only [push_cast,seval,hc,hc',h3,h3',htw,hZ,hil,hil',hel,Abz,MVL_true]);rfl)) (Fzz _ _ _ _ _ _ ?_ ?_ ?_ ?_) rfl (by (simp (disch:=omega) only [push_cast,seval,hc,hc',h3,h3',htw,hZ,hil,hil',hel,Abz,MVL_true])<;>rfl) (by (simp (disch:=omega) only [push_cast,seval,hc,hc',h3,h3',htw,hZ,hil,hil',hel,Abz,MVL_true]);done) (by omega) ?_;(iterate 4 (exact sd)))))<;>(try simp (disch:=omega) only [push_cast,seval,hc,hc',h3,h3',htw,hZ,hil,hil',hel,Abz,MVL_true]))
 | ((first|refine callD_of false ?_|refine Ajz false ?_);simp (disch:=omega) only [push_cast,seval,hc,hc',h3,h3',htw,hZ,hil,hil',hel,Abz,MVL_true])
 | ((first|((first|refine call0D (BCall.ofP (E3z _ _ _ _ _ ?_ ?_ ?_)) ?_|refine qcall0D (BCall.ofP (E3z _ _ _ _ _ ?_ ?_ ?_)) ⟨_,_,rfl,rfl⟩ ?_);(iterate 3 (exact sd));rintro _ _ ⟨rfl,rfl⟩)|((first|refine call0D (iCopy_ok _ _ _ _ _ _ _ _ _ _ _ _ ?_ ?_ ?_ ?_ ?_ ?_) ?_|refine qcall0D (iCopy_ok _ _ _ _ _ _ _ _ _ _ _ _ ?_ ?_ ?_ ?_ ?_ ?_) ⟨_,_,rfl,rfl⟩ ?_);(iterate 6 (exact sd));rintro _ _ ⟨rfl,rfl⟩)|((first|refine call0D (iWithNo_ok _ _ _ _ ?_ ?_) ?_|refine qcall0D (iWithNo_ok _ _ _ _ ?_ ?_) ⟨_,_,rfl,rfl⟩ ?_);(iterate 2 (exact sd));rintro _ _ ⟨rfl,rfl⟩))<;>(try simp (disch:=omega) only [push_cast,seval,hc,hc',h3,h3',htw,hZ,hil,hil',hel,Abz,MVL_true]))))
    refine awp_drawQ (a:=l18r3a.take 18) (nth l18r3a 18) (b:=l18r3a.drop 19) (post:=l18r3b) _ [] rfl A9z (by decide) (fun _ _ h=>h) (fun _ h=>by cases h) ?_
    simp (disch:=omega) only [push_cast,seval,l18r0,l18r1,l18r2,l18r3a,l18r3b,l18r3,List.take_succ_cons,List.take_zero,List.drop_succ_cons,List.drop_zero,nth]
    (repeat' (first
 | (first|refine Akz ?_|refine Afz ?_)
 | ((first|refine Alz ?_|refine Aez ?_|refine Agz ?_|refine Ahz ?_);simp (disch:=omega) only [push_cast,seval,l18r0,l18r1,l18r2,l18r3a,l18r3b,l18r3,hc,hc',h3,h3',htw,hZ,hil,hil',hel,Abz,MVL_true])
 | ((first|refine Aaz ?_ ?_|refine Adz ?_ ?_|refine Acz ?_ ?_)<;>intro h<;>(try simp only [h])<;>(try simp only [bitvec_to_nat] at h)<;>(try simp only [h])<;>(first|(exfalso;omega)|(exfalso;simp_all;done)|(simp (disch:=omega) only [push_cast,seval,hc,hc',h3,h3',htw,hZ,hil,hil',hel,Abz,MVL_true])|skip))
 | ((first|((with_reducible refine B7z (f:=48) ?_);simp (disch:=omega) only [push_cast,seval,hc,hc',h3,h3',htw,hZ,hil,hil',hel,Abz,MVL_true];(refine Huz (by intro _ _;first|rfl|((simp (disch:=omega) only [push_cast,seval,hc,hc',h3,h3',htw,hZ,hil,hil',hel,Abz,MVL_true]);done)|((simp (disch:=omega) only [push_cast,seval,hc,hc',h3,h3',htw,hZ,hil,hil',hel,Abz,MVL_true]);rfl)) (Fzz _ _ _ _ _ _ ?_ ?_ ?_ ?_) rfl (by (simp (disch:=omega) only [push_cast,seval,hc,hc',h3,h3',htw,hZ,hil,hil',hel,Abz,MVL_true])<;>rfl) (by (simp (disch:=omega) only [push_cast,seval,hc,hc',h3,h3',htw,hZ,hil,hil',hel,Abz,MVL_true]);done) (by omega) ?_;(iterate 4 (exact sd)))))<;>(try simp (disch:=omega) only [push_cast,seval,hc,hc',h3,h3',htw,hZ,hil,hil',hel,Abz,MVL_true]))
 | ((first|refine callD_of false ?_|refine Ajz false ?_);simp (disch:=omega) only [push_cast,seval,hc,hc',h3,h3',htw,hZ,hil,hil',hel,Abz,MVL_true])
 | ((first|((first|refine call0D (BCall.ofP (E3z _ _ _ _ _ ?_ ?_ ?_)) ?_|refine qcall0D (BCall.ofP (E3z _ _ _ _ _ ?_ ?_ ?_)) ⟨_,_,rfl,rfl⟩ ?_);(iterate 3 (exact sd));rintro _ _ ⟨rfl,rfl⟩)|((first|refine call0D (iCopy_ok _ _ _ _ _ _ _ _ _ _ _ _ ?_ ?_ ?_ ?_ ?_ ?_) ?_|refine qcall0D (iCopy_ok _ _ _ _ _ _ _ _ _ _ _ _ ?_ ?_ ?_ ?_ ?_ ?_) ⟨_,_,rfl,rfl⟩ ?_);(iterate 6 (exact sd));rintro _ _ ⟨rfl,rfl⟩)|((first|refine call0D (iWithNo_ok _ _ _ _ ?_ ?_) ?_|refine qcall0D (iWithNo_ok _ _ _ _ ?_ ?_) ⟨_,_,rfl,rfl⟩ ?_);(iterate 2 (exact sd));rintro _ _ ⟨rfl,rfl⟩))<;>(try simp (disch:=omega) only [push_cast,seval,hc,hc',h3,h3',htw,hZ,hil,hil',hel,Abz,MVL_true]))))
    refine ⟨Sees_of fun p hp=>?_,Aiz ⟨.inr rfl,ret_famW (id0:=544) (id1:=592) (d:=37) (F:=esF es) (cs:=Z) (bufT Z.length es.length true) rfl rfl (fun _ _ _ _ e0 e1=>ren_bufT e0 e1) rfl rfl (fun j hj=>?_) (by omega)⟩⟩
    · simp only [List.mem_cons,List.not_mem_nil,or_false] at hp
      rcases hp with rfl|rfl
      · show hk (_ :: _ :: (famD 37 (esF es) ++ _)) 96=_
        simp only [hk,if_false]
        rw [Ciz _ _ _ 96 (by omega)]
        rfl
      · show hk (_ :: _ :: (famD 37 (esF es) ++ _)) 48=_
        simp only [hk,if_false]
        rw [Ciz _ _ _ 48 (by omega)]
        rfl
    · simp only [hk,Avz _ _ 96 (by omega),Avz _ _ 544 (by omega),Avz _ _ 592 (by omega),if_false]
      exact Cbz 37 (esF es) _ j hj

end Go.Proofs.YtahdlohpncjdbaaDoor
set_option linter.unusedSimpArgs false
set_option linter.unusedVariables false
set_option maxRecDepth 4000
set_option maxHeartbeats 4000000
namespace Go.Proofs.YtahdlohpncjdbaaDoor
open VwM Vw Go
set_option linter.unusedSectionVars false
variable [SentA]

/-- The first cells,and zeros. -/
def rz (cs:List Int) (N i:Nat):List Int:=(List.range N).map fun j=>if j < i then cs.getD j 0 else 0
def zz (cs:List Int) (N:Nat):List Int:=(List.range N).map fun j=>cs.getD j 0
def rzG (cs:List Int) (es:List Ex) (s:Int):Bool:=(vB cs es && (decide (0 ≤ s) && decide (s ≤ 60))) && decide ((opensT es es.length).length=0)

end Go.Proofs.YtahdlohpncjdbaaDoor
set_option linter.unusedSimpArgs false
set_option linter.unusedVariables false
set_option maxRecDepth 4000
set_option maxHeartbeats 4000000
namespace Go.Proofs.YtahdlohpncjdbaaDoor
open VwM Vw Go
set_option linter.unusedSectionVars false
variable [SentA]

set_option maxHeartbeats 32000000 in
theorem lCE_ok (cs:List Int) (es:List Ex) (t f:Int) (hm:cs.length ≤ 9223372036854775807) (hn:es.length ≤ 9223372036854775807) (hb:exB 9223372036854775807 es):PCall Tryd.prog 5 [.agg [.rows false (IL cs) cs.length,.rows false (EL false es) es.length],.int .i64 t,.int .i64 f] (fun r=>r=.bool true):=by
  refine Awz l5_eq rfl ?_
  have hq:cs.length ≤ 9223372036854775807 ∧ es.length ≤ 9223372036854775807 ∧ exB 9223372036854775807 es:=⟨hm,hn,hb⟩
  (repeat' (first
 | (first|refine Akz ?_|refine Afz ?_)
 | ((first|refine Alz ?_|refine Asz (mid:=l5r10a) (post:=l5r10b) A9z (by decide) ?_|refine Aez ?_|refine Agz ?_|refine Ahz ?_);simp (disch:=omega) only [push_cast,seval,l5r0,l5r1,l5r2,l5r3,l5r4,l5r5,l5r6,l5r7,l5r8,l5r9,l5r10a,l5r10b,l5r10,l5r11,l5r12,l5r13,l5r14,l5r15,l5r16,l5r17,l5r18,l5r19,l5r20,l5r21,l5r22,l5r23,l5r24,l5r25,l5r26,l5r27,l5r28,l5r29,l5r30,l5r31,l5r32,l5r33,Abz])
 | ((first|refine Aaz ?_ ?_|refine Adz ?_ ?_|refine Acz ?_ ?_)<;>intro h<;>(try simp only [h])<;>(try simp only [bitvec_to_nat] at h)<;>(try simp only [h])<;>(first|(exfalso;omega)|(exfalso;simp_all;done)|(simp (disch:=omega) only [push_cast,seval,Abz])|skip))
 | ((first|((with_reducible refine callD_of (f:=10) false ?_);simp (disch:=omega) only [push_cast,seval,Abz];(refine Jjz (Gkz _ _ _ _ ?_ ?_ ?_) (by (simp (disch:=omega) only [push_cast,seval,Abz]);done) ?_;(iterate 3 (exact sd))))|((with_reducible refine callD_of (f:=18) false ?_);simp (disch:=omega) only [push_cast,seval,Abz];(refine callFNT (iCE_ok _ _ _ _ _ _ ?_ ?_ ?_) (by (simp (disch:=omega) only [push_cast,seval,Abz]);done) ?_;(iterate 3 (exact sd))))|((with_reducible refine B7z (f:=13) ?_);simp (disch:=omega) only [push_cast,seval,Abz];(refine callFMX (E2z _ _ _ _ _ ?_ ?_ ?_ ?_) (by (simp (disch:=omega) only [push_cast,seval,Abz])<;>rfl) (by (simp (disch:=omega) only [push_cast,seval,Abz])<;>rfl) (by first|((simp (disch:=omega) only [push_cast,seval,Abz]);done)|omega) (by first|((simp (disch:=omega) only [push_cast,seval,Abz]);done)|((simp (disch:=omega) only [push_cast,seval,Abz]);assumption)) (by rw [Dlz]<;>omega) (I7z _ _) ?_;(iterate 4 (exact sd)))))<;>(try simp (disch:=omega) only [push_cast,seval,Abz]))
 | ((first|refine callD_of false ?_|refine Ajz false ?_);simp (disch:=omega) only [push_cast,seval,Abz])
 | ((first|(refine call0D (BCall.ofP (G0z _ _ _ _ _ ?_ ?_ ?_ ?_)) ?_;(iterate 4 (exact sd));rintro _ _ ⟨⟨z3,hz3,rfl⟩,rfl⟩)|((first|refine call0D (BCall.ofP (toBufferP_ok _ _ _ _ ?_ ?_ ?_)) ?_|refine qcall0D (BCall.ofP (toBufferP_ok _ _ _ _ ?_ ?_ ?_)) ⟨_,_,rfl,rfl⟩ ?_);(iterate 3 (exact sd));rintro _ _ ⟨rfl,rfl⟩)|((first|refine call0D (sCE_ok _ _ _ _ _ _ ?_ ?_ ?_) ?_|refine qcall0D (sCE_ok _ _ _ _ _ _ ?_ ?_ ?_) ⟨_,_,rfl,rfl⟩ ?_);(iterate 3 (exact sd));rintro _ _ ⟨rfl,rfl⟩)|((first|refine call0D (BCall.ofP (eqBuffer_ok _ _ _ _ ?_ ?_ ?_)) ?_|refine qcall0D (BCall.ofP (eqBuffer_ok _ _ _ _ ?_ ?_ ?_)) ⟨_,_,rfl,rfl⟩ ?_);(iterate 3 (exact sd));rintro _ _ ⟨rfl,rfl⟩)|((first|refine call0D (BCall.ofP (heldBuffer_ok _ _ _ _ ?_ ?_ ?_)) ?_|refine qcall0D (BCall.ofP (heldBuffer_ok _ _ _ _ ?_ ?_ ?_)) ⟨_,_,rfl,rfl⟩ ?_);(iterate 3 (exact sd));rintro _ _ ⟨rfl,rfl⟩))<;>(try simp (disch:=omega) only [push_cast,seval,Abz]))
 | (refine Aiz ⟨.inr rfl,_,rfl,?_⟩;(try simp (disch:=omega) only [push_cast,seval,Abz]))))
  obtain ⟨hz5,hz6,hz7,hz8⟩:=hz3 (by assumption)
  have q1:cs.length ≤ 1048576 ∧ es.length ≤ 1048576 ∧ exB 1048576 es:=⟨hz6,hz7,hz8⟩
  have q2:cs.length ≤ 1099511627776 ∧ es.length ≤ 1099511627776 ∧ exB 1099511627776 es:=⟨by omega,by omega,fun e he=>by have:=hz8 e he;omega⟩
  have q3:cs.length ≤ 1048576 ∧ es.length ≤ 1048576 ∧ ∀ j,(exR es j).length ≤ 1048576:=⟨hz6,hz7,exR_b hz8⟩
  have hC:(xcC cs es t f).length=cs.length:=E8z ..
  have hE:exB 1048576 es:=hz8
  have c1:=ifB_le (xcG cs es t f) (xcC cs es t f)
  have c2:=ifB_le (xcG cs es t f) (es)
  have q5:(ifB (xcG cs es t f) (xcC cs es t f)).length ≤ 1048576 ∧ (ifB (xcG cs es t f) (es)).length ≤ 1048576 ∧ exB 1048576 (ifB (xcG cs es t f) (es)):=⟨by omega,by omega,exB_ifB _ hE⟩
  have q4:(ifB (xcG cs es t f) (xcC cs es t f)).length ≤ 1048576 ∧ (ifB (xcG cs es t f) (es)).length ≤ 1048576 ∧ ∀ j,(exR (ifB (xcG cs es t f) (es)) j).length ≤ 1048576:=⟨by omega,by omega,exR_b q5.2.2⟩
  generalize hW1:ifB (xcG cs es t f) (xcC cs es t f)=W1 at *
  generalize hW2:ifB (xcG cs es t f) (es)=W2 at *
  generalize hW3:xcG cs es t f=W3 at *
  have k1:=kA_le (k:=1 + (cs.length:Int)) q3.2.2 es.length
  have k2:=kA_le (k:=1 + (W1.length:Int)) q4.2.2 W2.length
  (repeat' (first
 | (first|refine Akz ?_|refine Afz ?_)
 | ((first|refine Alz ?_|refine Asz (mid:=l5r10a) (post:=l5r10b) A9z (by decide) ?_|refine Aez ?_|refine Agz ?_|refine Ahz ?_);simp (disch:=omega) only [push_cast,seval,l5r0,l5r1,l5r2,l5r3,l5r4,l5r5,l5r6,l5r7,l5r8,l5r9,l5r10a,l5r10b,l5r10,l5r11,l5r12,l5r13,l5r14,l5r15,l5r16,l5r17,l5r18,l5r19,l5r20,l5r21,l5r22,l5r23,l5r24,l5r25,l5r26,l5r27,l5r28,l5r29,l5r30,l5r31,l5r32,l5r33,Abz,decide_true,hW1,hW2,hW3,bne_self_eq_false,A1z])
 | ((first|refine Aaz ?_ ?_|refine Adz ?_ ?_|refine Acz ?_ ?_)<;>intro h<;>(try simp only [h])<;>(try simp only [bitvec_to_nat] at h)<;>(try simp only [h])<;>(first|(exfalso;omega)|(exfalso;simp_all;done)|(simp (disch:=omega) only [push_cast,seval,Abz,decide_true,hW1,hW2,hW3,bne_self_eq_false,A1z])|skip))
 | ((first|((with_reducible refine callD_of (f:=10) false ?_);simp (disch:=omega) only [push_cast,seval,Abz,decide_true,hW1,hW2,hW3,bne_self_eq_false,A1z];(refine Jjz (Gkz _ _ _ _ ?_ ?_ ?_) (by (simp (disch:=omega) only [push_cast,seval,Abz,decide_true,hW1,hW2,hW3,bne_self_eq_false,A1z]);done) ?_;(iterate 3 (exact sd))))|((with_reducible refine callD_of (f:=18) false ?_);simp (disch:=omega) only [push_cast,seval,Abz,decide_true,hW1,hW2,hW3,bne_self_eq_false,A1z];(refine callFNT (iCE_ok _ _ _ _ _ _ ?_ ?_ ?_) (by (simp (disch:=omega) only [push_cast,seval,Abz,decide_true,hW1,hW2,hW3,bne_self_eq_false,A1z]);done) ?_;(iterate 3 (exact sd))))|((with_reducible refine B7z (f:=13) ?_);simp (disch:=omega) only [push_cast,seval,Abz,decide_true,hW1,hW2,hW3,bne_self_eq_false,A1z];(refine callFMX (E2z _ _ _ _ _ ?_ ?_ ?_ ?_) (by (simp (disch:=omega) only [push_cast,seval,Abz,decide_true,hW1,hW2,hW3,bne_self_eq_false,A1z])<;>rfl) (by (simp (disch:=omega) only [push_cast,seval,Abz,decide_true,hW1,hW2,hW3,bne_self_eq_false,A1z])<;>rfl) (by first|((simp (disch:=omega) only [push_cast,seval,Abz,decide_true,hW1,hW2,hW3,bne_self_eq_false,A1z]);done)|omega) (by first|((simp (disch:=omega) only [push_cast,seval,Abz,decide_true,hW1,hW2,hW3,bne_self_eq_false,A1z]);done)|((simp (disch:=omega) only [push_cast,seval,Abz,decide_true,hW1,hW2,hW3,bne_self_eq_false,A1z]);assumption)) (by rw [Dlz]<;>omega) (I7z _ _) ?_;(iterate 4 (exact sd)))))<;>(try simp (disch:=omega) only [push_cast,seval,Abz,decide_true,hW1,hW2,hW3,bne_self_eq_false,A1z]))
 | ((first|refine callD_of false ?_|refine Ajz false ?_);simp (disch:=omega) only [push_cast,seval,Abz,decide_true,hW1,hW2,hW3,bne_self_eq_false,A1z])
 | ((first|(refine call0D (BCall.ofP (G0z _ _ _ _ _ ?_ ?_ ?_ ?_)) ?_;(iterate 4 (exact sd));rintro _ _ ⟨⟨z3,hz3,rfl⟩,rfl⟩)|((first|refine call0D (BCall.ofP (toBufferP_ok _ _ _ _ ?_ ?_ ?_)) ?_|refine qcall0D (BCall.ofP (toBufferP_ok _ _ _ _ ?_ ?_ ?_)) ⟨_,_,rfl,rfl⟩ ?_);(iterate 3 (exact sd));rintro _ _ ⟨rfl,rfl⟩)|((first|refine call0D (sCE_ok _ _ _ _ _ _ ?_ ?_ ?_) ?_|refine qcall0D (sCE_ok _ _ _ _ _ _ ?_ ?_ ?_) ⟨_,_,rfl,rfl⟩ ?_);(iterate 3 (exact sd));rintro _ _ ⟨rfl,rfl⟩)|((first|refine call0D (BCall.ofP (eqBuffer_ok _ _ _ _ ?_ ?_ ?_)) ?_|refine qcall0D (BCall.ofP (eqBuffer_ok _ _ _ _ ?_ ?_ ?_)) ⟨_,_,rfl,rfl⟩ ?_);(iterate 3 (exact sd));rintro _ _ ⟨rfl,rfl⟩)|((first|refine call0D (BCall.ofP (heldBuffer_ok _ _ _ _ ?_ ?_ ?_)) ?_|refine qcall0D (BCall.ofP (heldBuffer_ok _ _ _ _ ?_ ?_ ?_)) ⟨_,_,rfl,rfl⟩ ?_);(iterate 3 (exact sd));rintro _ _ ⟨rfl,rfl⟩))<;>(try simp (disch:=omega) only [push_cast,seval,Abz,decide_true,hW1,hW2,hW3,bne_self_eq_false,A1z]))
 | (refine Aiz ⟨.inr rfl,_,rfl,?_⟩;(try simp (disch:=omega) only [push_cast,seval,Abz,decide_true,hW1,hW2,hW3,bne_self_eq_false,A1z]))))
theorem lCE2_ok (x0:List Int) (x1:List ExT) (g:Vw.goodS Vw.goodI x0 ∧ Vw.goodS (fun p:ExT=>Vw.goodI p.1 ∧ (Vw.goodI p.2.1.1 ∧ Vw.goodS Vw.goodI p.2.1.2.1 ∧ Vw.goodS Vw.goodI p.2.1.2.2.1 ∧ True) ∧ True ∧ True) x1 ∧ True) (t f:Int) :
    PCall Tryd.prog 5 [.agg (Vw.enS Vw.enI x0 ++ (Vw.enS (fun p:ExT=>Vw.enI p.1 ++ ((Vw.enI p.2.1.1 ++ (Vw.enS Vw.enI p.2.1.2.1 ++ (Vw.enS Vw.enI p.2.1.2.2.1 ++ []))) ++ (Vw.enB p.2.2.1 ++ []))) x1 ++ [])),.int .i64 t,.int .i64 f] (fun r=>r=.bool true):=by
  have h:=lCE_ok x0 (x1.map exT) t f g.1.2 (by simpa using g.2.1.2) (exB_T g.2.1.1)
  rw [en_B]
  exact h

end Go.Proofs.YtahdlohpncjdbaaDoor
