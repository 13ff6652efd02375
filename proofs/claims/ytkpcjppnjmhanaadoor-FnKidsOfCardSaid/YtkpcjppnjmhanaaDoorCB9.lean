/- Texts of this verifier. -/
import Derived.Test.YtkpcjppnjmhanaaDoorCB8
import Derived.Test.YtkpcjppnjmhanaaDoorCM1
import Derived.Test.YtkpcjppnjmhanaaDoorCW3
set_option maxHeartbeats 4000000
set_option linter.unusedSimpArgs false
set_option linter.unusedSectionVars false
set_option linter.unusedVariables false
set_option maxRecDepth 4000
namespace Go.Proofs.YtkpcjppnjmhanaaDoor
open VwM Vw Go
variable [SentA]

def epO (es:List Ex) (id d f t w:Int) (hf ht:Bool):Bool:=sdOk (vwA es id).1 (vwA es id).2.1 (vwA es id).2.2 d f t w hf ht
def epG (cs:List Int) (es:List Ex) (id d f t w:Int) (hf ht:Bool):Bool:=((vB cs es && opA es id) && !decide (es.length=8)) && epO es id d f t w hf ht
def epV (es:List Ex) (id d f t w:Int) (hf ht:Bool):Vw3:=(cutB (vwA es id).1 (vwA es id).2.1 (vwA es id).2.2 d.toNat f t w hf ht,cutSh (vwA es id).2.1 d.toNat f t w hf ht,cutSt (vwA es id).2.1 (vwA es id).2.2 d.toNat f t w hf ht)
def epE (es:List Ex) (id d f t w:Int) (hf ht:Bool):List Ex:=es ++ [(id,epV es id d f t w hf ht,true)]
theorem cutSt_lenE (sh st:List Int) (j:Nat) (f t w:Int) (hf ht:Bool):(cutSt sh st j f t w hf ht).length ≤ max sh.length st.length:=by
  unfold cutSt;split<;>simp<;>omega
theorem EL_tak3 {es:List Ex} {q:Nat} {p b:Int} {x y:List Int} {o:Bool} (he:es[q]?=some (p,(b,x,y),o)):((EL false es).drop (q * 5 + 1)).take 3=[.int .i64 b,.rows false (IL x) x.length,.rows false (IL y) y.length]:=by
  have hd:=C9z false es q he
  simp only at hd
  have:=congrArg (fun l=>(l.drop 1).take 3) hd
  simpa [List.drop_take,List.drop_drop,List.take_take] using this
theorem cut_lens {sh st:List Int} {d:Nat} {f t w:Int} {hf ht:Bool} {k:Nat} (h1:sh.length ≤ k) (h2:st.length ≤ k):(cutSh sh d f t w hf ht).length ≤ k ∧ (cutSt sh st d f t w hf ht).length ≤ k:=by
  refine ⟨by rw [Cez];exact h1,?_⟩
  have:=cutSt_lenE sh st d f t w hf ht
  omega


set_option maxHeartbeats 8000000 in
theorem sEP_ok (cs:List Int) (es:List Ex) (m n:Nat) (id d f t w:Int) (hf ht:Bool) (hm:cs.length=m) (hn:es.length=n) (hb:m ≤ 1099511627776 ∧ n ≤ 1099511627776 ∧ exB 1099511627776 es) :
    BCall Tryd.prog 78 [.agg [.rows false (IL cs) m,.rows false (EL false es) n],.int .i64 id,.int .i64 d,slc f t w hf ht] [] (OBs (epG cs es id d f t w hf ht) (ifB (epG cs es id d f t w hf ht) cs) (ifB (epG cs es id d f t w hf ht) (epE es id d f t w hf ht))):=by
  subst hm hn
  have hb0:=hb
  obtain ⟨hb1,hb2,hb3⟩:=hb
  have hel:=A6z false es
  refine A5z (pins:=[]) (pin:=0) l78_eq rfl rfl rfl ?_
  unfold epG
  cases hv:vB cs es with
  | false =>
    simp only [Bool.false_and,Bnz]
    (repeat' (first
 | (first|refine Apz ?_|refine Aiz ?_)
 | ((first|refine Aqz ?_|refine A2z (mid:=l78r3a) (post:=l78r3b) [160,1000000010,2000000160] Axz (by decide) ?_|refine Ahz ?_|refine Ajz ?_|refine Akz ?_);simp (disch:=omega) only [push_cast,seval,l78r0,l78r1,l78r2,l78r3a,l78r3b,l78r3,l78r4,l78r5,l78r6,hv,hel,Aaz])
 | ((first|refine Acz ?_ ?_|refine Agz ?_ ?_|refine Afz ?_ ?_)<;>intro h<;>(try simp only [h])<;>(try simp only [bitvec_to_nat] at h)<;>(try simp only [h])<;>(first|(exfalso;omega)|(exfalso;simp_all;done)|(simp (disch:=omega) only [push_cast,seval,hv,hel,Aaz])|skip))
 | ((first|refine Arz false ?_|refine Anz false ?_);simp (disch:=omega) only [push_cast,seval,hv,hel,Aaz])
 | ((first|((first|refine Adz (Aez (A3z _ _ _ _ ?_ ?_ ?_)) ?_|refine Abz (Aez (A3z _ _ _ _ ?_ ?_ ?_)) ⟨_,_,rfl,rfl⟩ ?_);(iterate 3 (exact sd));rintro _ _ ⟨rfl,rfl⟩)|((first|refine Adz (Aez (Bez _ _ _ _ _ ?_ ?_ ?_)) ?_|refine Abz (Aez (Bez _ _ _ _ _ ?_ ?_ ?_)) ⟨_,_,rfl,rfl⟩ ?_);(iterate 3 (exact sd));rintro _ _ ⟨rfl,rfl⟩)|((first|refine Adz (B7z _ _ _ _ _ _ _ _ _ _ _ ?_ ?_ ?_) ?_|refine Abz (B7z _ _ _ _ _ _ _ _ _ _ _ ?_ ?_ ?_) ⟨_,_,rfl,rfl⟩ ?_);(iterate 3 (exact sd));rintro _ _ ⟨rfl,rfl⟩)|((first|refine Adz (Clz _ _ _ _ _ _ _ _ _ _ ?_ ?_ ?_ ?_ ?_) ?_|refine Abz (Clz _ _ _ _ _ _ _ _ _ _ ?_ ?_ ?_ ?_ ?_) ⟨_,_,rfl,rfl⟩ ?_);(iterate 5 (exact sd));rintro _ _ ⟨rfl,rfl⟩))<;>(try simp (disch:=omega) only [push_cast,seval,hv,hel,Aaz]))
 | (refine Amz ⟨.inr rfl,[16000,16001],[(16000,1),(16001,5)],_,by decide,rfl,?_⟩;(try simp (disch:=omega) only [push_cast,seval,↓Aoz,↓Alz,↓List.map_cons,↓List.map_nil,hv,hel,Aaz]))))
    all_goals simp [OBs,EL]
  | true =>
    obtain ⟨v1,v2,v3⟩:=vB_8 hv
    cases hr:opA es id with
    | false =>
      simp only [Bool.true_and,Bool.false_and,Bnz]
      (repeat' (first
 | (first|refine Apz ?_|refine Aiz ?_)
 | ((first|refine Aqz ?_|refine A2z (mid:=l78r3a) (post:=l78r3b) [160,1000000010,2000000160] Axz (by decide) ?_|refine Ahz ?_|refine Ajz ?_|refine Akz ?_);simp (disch:=omega) only [push_cast,seval,l78r0,l78r1,l78r2,l78r3a,l78r3b,l78r3,l78r4,l78r5,l78r6,hv,hr,hel,Aaz])
 | ((first|refine Acz ?_ ?_|refine Agz ?_ ?_|refine Afz ?_ ?_)<;>intro h<;>(try simp only [h])<;>(try simp only [bitvec_to_nat] at h)<;>(try simp only [h])<;>(first|(exfalso;omega)|(exfalso;simp_all;done)|(simp (disch:=omega) only [push_cast,seval,hv,hr,hel,Aaz])|skip))
 | ((first|refine Arz false ?_|refine Anz false ?_);simp (disch:=omega) only [push_cast,seval,hv,hr,hel,Aaz])
 | ((first|((first|refine Adz (Aez (A3z _ _ _ _ ?_ ?_ ?_)) ?_|refine Abz (Aez (A3z _ _ _ _ ?_ ?_ ?_)) ⟨_,_,rfl,rfl⟩ ?_);(iterate 3 (exact sd));rintro _ _ ⟨rfl,rfl⟩)|((first|refine Adz (Aez (Bez _ _ _ _ _ ?_ ?_ ?_)) ?_|refine Abz (Aez (Bez _ _ _ _ _ ?_ ?_ ?_)) ⟨_,_,rfl,rfl⟩ ?_);(iterate 3 (exact sd));rintro _ _ ⟨rfl,rfl⟩)|((first|refine Adz (B7z _ _ _ _ _ _ _ _ _ _ _ ?_ ?_ ?_) ?_|refine Abz (B7z _ _ _ _ _ _ _ _ _ _ _ ?_ ?_ ?_) ⟨_,_,rfl,rfl⟩ ?_);(iterate 3 (exact sd));rintro _ _ ⟨rfl,rfl⟩)|((first|refine Adz (Clz _ _ _ _ _ _ _ _ _ _ ?_ ?_ ?_ ?_ ?_) ?_|refine Abz (Clz _ _ _ _ _ _ _ _ _ _ ?_ ?_ ?_ ?_ ?_) ⟨_,_,rfl,rfl⟩ ?_);(iterate 5 (exact sd));rintro _ _ ⟨rfl,rfl⟩))<;>(try simp (disch:=omega) only [push_cast,seval,hv,hr,hel,Aaz]))
 | (refine Amz ⟨.inr rfl,[16000,16001],[(16000,1),(16001,5)],_,by decide,rfl,?_⟩;(try simp (disch:=omega) only [push_cast,seval,↓Aoz,↓Alz,↓List.map_cons,↓List.map_nil,hv,hr,hel,Aaz]))))
      all_goals simp [OBs,EL]
    | true =>
      simp only [Bool.true_and]
      by_cases h8:es.length=8
      · have hd:(!decide (es.length=8))=false:=by simp [h8]
        have h8i:(es.length:Int)=8:=by omega
        simp only [hd,Bool.false_and,Bnz]
        (repeat' (first
 | (first|refine Apz ?_|refine Aiz ?_)
 | ((first|refine Aqz ?_|refine A2z (mid:=l78r3a) (post:=l78r3b) [160,1000000010,2000000160] Axz (by decide) ?_|refine Ahz ?_|refine Ajz ?_|refine Akz ?_);simp (disch:=omega) only [push_cast,seval,l78r0,l78r1,l78r2,l78r3a,l78r3b,l78r3,l78r4,l78r5,l78r6,hv,hr,h8i,hel,Aaz])
 | ((first|refine Acz ?_ ?_|refine Agz ?_ ?_|refine Afz ?_ ?_)<;>intro h<;>(try simp only [h])<;>(try simp only [bitvec_to_nat] at h)<;>(try simp only [h])<;>(first|(exfalso;omega)|(exfalso;simp_all;done)|(simp (disch:=omega) only [push_cast,seval,hv,hr,h8i,hel,Aaz])|skip))
 | ((first|refine Arz false ?_|refine Anz false ?_);simp (disch:=omega) only [push_cast,seval,hv,hr,h8i,hel,Aaz])
 | ((first|((first|refine Adz (Aez (A3z _ _ _ _ ?_ ?_ ?_)) ?_|refine Abz (Aez (A3z _ _ _ _ ?_ ?_ ?_)) ⟨_,_,rfl,rfl⟩ ?_);(iterate 3 (exact sd));rintro _ _ ⟨rfl,rfl⟩)|((first|refine Adz (Aez (Bez _ _ _ _ _ ?_ ?_ ?_)) ?_|refine Abz (Aez (Bez _ _ _ _ _ ?_ ?_ ?_)) ⟨_,_,rfl,rfl⟩ ?_);(iterate 3 (exact sd));rintro _ _ ⟨rfl,rfl⟩)|((first|refine Adz (B7z _ _ _ _ _ _ _ _ _ _ _ ?_ ?_ ?_) ?_|refine Abz (B7z _ _ _ _ _ _ _ _ _ _ _ ?_ ?_ ?_) ⟨_,_,rfl,rfl⟩ ?_);(iterate 3 (exact sd));rintro _ _ ⟨rfl,rfl⟩)|((first|refine Adz (Clz _ _ _ _ _ _ _ _ _ _ ?_ ?_ ?_ ?_ ?_) ?_|refine Abz (Clz _ _ _ _ _ _ _ _ _ _ ?_ ?_ ?_ ?_ ?_) ⟨_,_,rfl,rfl⟩ ?_);(iterate 5 (exact sd));rintro _ _ ⟨rfl,rfl⟩))<;>(try simp (disch:=omega) only [push_cast,seval,hv,hr,h8i,hel,Aaz]))
 | (refine Amz ⟨.inr rfl,[16000,16001],[(16000,1),(16001,5)],_,by decide,rfl,?_⟩;(try simp (disch:=omega) only [push_cast,seval,↓Aoz,↓Alz,↓List.map_cons,↓List.map_nil,hv,hr,h8i,hel,Aaz]))))
        all_goals simp [OBs,EL]
      · have hd:(!decide (es.length=8))=true:=by simp [h8]
        have h8i:((es.length:Int)=8)=False:=eq_false (by omega)
        simp only [hd,Bool.true_and]
        obtain ⟨q,p,b,x,y,rfl,hq,he,hvw⟩:=H5z hr
        have hbb:=Gzz hb3 he
        have hil:q * 5 + 5 ≤ es.length * 5:=by omega
        have h3:=EL_tak3 he
        have hcl:=cut_lens (d:=d.toNat) (f:=f) (t:=t) (w:=w) (hf:=hf) (ht:=ht) hbb.1 hbb.2
        unfold epO epE epV
        simp only [hvw]
        generalize hcB:cutB b x y d.toNat f t w hf ht=cB at *
        generalize hcS:cutSh x d.toNat f t w hf ht=cS at *
        generalize hcT:cutSt x y d.toNat f t w hf ht=cT at *
        cases hx:sdOk b x y d f t w hf ht with
        | false =>
          simp only [Bnz]
          (repeat' (first
 | (first|refine Apz ?_|refine Aiz ?_)
 | ((first|refine Aqz ?_|refine A2z (mid:=l78r3a) (post:=l78r3b) [160,1000000010,2000000160] Axz (by decide) ?_|refine Ahz ?_|refine Ajz ?_|refine Akz ?_);simp (disch:=omega) only [push_cast,seval,l78r0,l78r1,l78r2,l78r3a,l78r3b,l78r3,l78r4,l78r5,l78r6,hv,hr,h8i,h3,hx,hil,hel,Aaz,F2z,MVL_false])
 | ((first|refine Acz ?_ ?_|refine Agz ?_ ?_|refine Afz ?_ ?_)<;>intro h<;>(try simp only [h])<;>(try simp only [bitvec_to_nat] at h)<;>(try simp only [h])<;>(first|(exfalso;omega)|(exfalso;simp_all;done)|(simp (disch:=omega) only [push_cast,seval,hv,hr,h8i,h3,hx,hil,hel,Aaz,F2z,MVL_false])|skip))
 | ((first|refine Arz false ?_|refine Anz false ?_);simp (disch:=omega) only [push_cast,seval,hv,hr,h8i,h3,hx,hil,hel,Aaz,F2z,MVL_false])
 | ((first|((first|refine Adz (Aez (A3z _ _ _ _ ?_ ?_ ?_)) ?_|refine Abz (Aez (A3z _ _ _ _ ?_ ?_ ?_)) ⟨_,_,rfl,rfl⟩ ?_);(iterate 3 (exact sd));rintro _ _ ⟨rfl,rfl⟩)|((first|refine Adz (Aez (Bez _ _ _ _ _ ?_ ?_ ?_)) ?_|refine Abz (Aez (Bez _ _ _ _ _ ?_ ?_ ?_)) ⟨_,_,rfl,rfl⟩ ?_);(iterate 3 (exact sd));rintro _ _ ⟨rfl,rfl⟩)|((first|refine Adz (B7z _ _ _ _ _ _ _ _ _ _ _ ?_ ?_ ?_) ?_|refine Abz (B7z _ _ _ _ _ _ _ _ _ _ _ ?_ ?_ ?_) ⟨_,_,rfl,rfl⟩ ?_);(iterate 3 (exact sd));rintro _ _ ⟨rfl,rfl⟩)|((first|refine Adz (Clz _ _ _ _ _ _ _ _ _ _ ?_ ?_ ?_ ?_ ?_) ?_|refine Abz (Clz _ _ _ _ _ _ _ _ _ _ ?_ ?_ ?_ ?_ ?_) ⟨_,_,rfl,rfl⟩ ?_);(iterate 5 (exact sd));rintro _ _ ⟨rfl,rfl⟩))<;>(try simp (disch:=omega) only [push_cast,seval,hv,hr,h8i,h3,hx,hil,hel,Aaz,F2z,MVL_false]))
 | (refine Amz ⟨.inr rfl,[16000,16001],[(16000,1),(16001,5)],_,by decide,rfl,?_⟩; (try simp (disch := omega) only [push_cast,seval,↓Aoz,↓Alz,↓List.map_cons,↓List.map_nil,hv,hr,h8i,h3,hx,hil,hel,Aaz,F2z,MVL_false]))))
          all_goals simp [OBs,EL]
        | true =>
          simp only [Fjz]
          have hadd:(cS.length ≤ 1099511627776 ∧ cT.length ≤ 1099511627776) ∧ cs.length ≤ 1099511627776 ∧ es.length ≤ 1000 ∧ exB 1099511627776 es:=⟨hcl,hb1,by omega,hb3⟩
          (repeat' (first
 | (first|refine Apz ?_|refine Aiz ?_)
 | ((first|refine Aqz ?_|refine A2z (mid:=l78r3a) (post:=l78r3b) [160,1000000010,2000000160] Axz (by decide) ?_|refine Ahz ?_|refine Ajz ?_|refine Akz ?_);simp (disch:=omega) only [push_cast,seval,l78r0,l78r1,l78r2,l78r3a,l78r3b,l78r3,l78r4,l78r5,l78r6,hv,hr,h8i,h3,hx,hil,hcB,hcS,hcT,hel,Aaz,Hqz,MVL_true])
 | ((first|refine Acz ?_ ?_|refine Agz ?_ ?_|refine Afz ?_ ?_)<;>intro h<;>(try simp only [h])<;>(try simp only [bitvec_to_nat] at h)<;>(try simp only [h])<;>(first|(exfalso;omega)|(exfalso;simp_all;done)|(simp (disch:=omega) only [push_cast,seval,hv,hr,h8i,h3,hx,hil,hcB,hcS,hcT,hel,Aaz,Hqz,MVL_true])|skip))
 | ((first|refine Arz false ?_|refine Anz false ?_);simp (disch:=omega) only [push_cast,seval,hv,hr,h8i,h3,hx,hil,hcB,hcS,hcT,hel,Aaz,Hqz,MVL_true])
 | ((first|((first|refine Adz (Aez (A3z _ _ _ _ ?_ ?_ ?_)) ?_|refine Abz (Aez (A3z _ _ _ _ ?_ ?_ ?_)) ⟨_,_,rfl,rfl⟩ ?_);(iterate 3 (exact sd));rintro _ _ ⟨rfl,rfl⟩)|((first|refine Adz (Aez (Bez _ _ _ _ _ ?_ ?_ ?_)) ?_|refine Abz (Aez (Bez _ _ _ _ _ ?_ ?_ ?_)) ⟨_,_,rfl,rfl⟩ ?_);(iterate 3 (exact sd));rintro _ _ ⟨rfl,rfl⟩)|((first|refine Adz (B7z _ _ _ _ _ _ _ _ _ _ _ ?_ ?_ ?_) ?_|refine Abz (B7z _ _ _ _ _ _ _ _ _ _ _ ?_ ?_ ?_) ⟨_,_,rfl,rfl⟩ ?_);(iterate 3 (exact sd));rintro _ _ ⟨rfl,rfl⟩)|((first|refine Adz (Clz _ _ _ _ _ _ _ _ _ _ ?_ ?_ ?_ ?_ ?_) ?_|refine Abz (Clz _ _ _ _ _ _ _ _ _ _ ?_ ?_ ?_ ?_ ?_) ⟨_,_,rfl,rfl⟩ ?_);(iterate 5 (exact sd));rintro _ _ ⟨rfl,rfl⟩))<;>(try simp (disch:=omega) only [push_cast,seval,hv,hr,h8i,h3,hx,hil,hcB,hcS,hcT,hel,Aaz,Hqz,MVL_true]))
 | (refine Amz ⟨.inr rfl,[736,737],[],_,by decide,rfl,?_⟩; (try simp (disch := omega) only [push_cast,seval,↓Aoz,↓Alz,↓List.map_cons,↓List.map_nil,hv,hr,h8i,h3,hx,hil,hcB,hcS,hcT,hel,Aaz,Hqz,MVL_true]))))
          all_goals simp [OBs]

end Go.Proofs.YtkpcjppnjmhanaaDoor
namespace Go.Proofs.YtkpcjppnjmhanaaDoor
open VwM Vw Go
variable [SentA]

def nbN (s:Int):Nat:=if 0 ≤ s ∧ s ≤ 60 then s.toNat else 0
theorem nbN_le (s:Int):nbN s ≤ 60:=by unfold nbN;split<;>omega


theorem Djz (s:Int):BCall Tryd.prog 58 [.int .i64 s] [] (fun r H'=>r=.agg [.own 0 (nbN s) 1,.own 1 0 5] ∧ H'=[IL (List.replicate (nbN s) 0),[]]):=by
  refine A5z (pins:=[]) (pin:=0) l58_eq rfl rfl rfl ?_
  by_cases h:0 ≤ s ∧ s ≤ 60
  · have hw:(decide (0 ≤ s) && decide (s ≤ 60))=true:=by rw [Bool.and_eq_true,decide_eq_true_eq,decide_eq_true_eq];exact h
    have hN:nbN s=s.toNat:=if_pos h
    rw [hN]
    obtain ⟨n,rfl⟩:∃ n:Nat,s=n:=⟨s.toNat,by omega⟩
    rw [Int.toNat_natCast]
    (repeat' (first
 | (first|refine Apz ?_|refine Aiz ?_)
 | ((first|refine Aqz ?_|refine Ahz ?_|refine Ajz ?_|refine Akz ?_);simp (disch:=omega) only [push_cast,seval,l58r0,l58r1,l58r2,l58r3,hw])
 | ((first|refine Acz ?_ ?_|refine Agz ?_ ?_|refine Afz ?_ ?_)<;>intro h<;>(try simp only [h])<;>(try simp only [bitvec_to_nat] at h)<;>(try simp only [h])<;>(first|(exfalso;omega)|(exfalso;simp_all;done)|(simp (disch:=omega) only [push_cast,seval,hw])|skip))
 | ((first|refine Arz false ?_|refine Anz false ?_);simp (disch:=omega) only [push_cast,seval,hw])
 | ((first|((first|refine Adz (Aez (Auz _ _ _)) ?_|refine Abz (Aez (Auz _ _ _)) ⟨_,_,rfl,rfl⟩ ?_);rintro _ _ ⟨rfl,rfl⟩))<;>(try simp (disch:=omega) only [push_cast,seval,hw]))
 | (refine Amz ⟨.inr rfl,[128,16000],[(16000,5)],_,by decide,rfl,?_⟩;(try simp (disch:=omega) only [push_cast,seval,↓Aoz,↓Alz,↓List.map_cons,↓List.map_nil,hw]))))
    all_goals (try simp)
  · have hw:(decide (0 ≤ s) && decide (s ≤ 60))=false:=by rw [Bool.and_eq_false_iff,decide_eq_false_iff_not,decide_eq_false_iff_not];omega
    have hN:nbN s=0:=if_neg h
    rw [hN]
    (repeat' (first
 | (first|refine Apz ?_|refine Aiz ?_)
 | ((first|refine Aqz ?_|refine Ahz ?_|refine Ajz ?_|refine Akz ?_);simp (disch:=omega) only [push_cast,seval,l58r0,l58r1,l58r2,l58r3,hw])
 | ((first|refine Acz ?_ ?_|refine Agz ?_ ?_|refine Afz ?_ ?_)<;>intro h<;>(try simp only [h])<;>(try simp only [bitvec_to_nat] at h)<;>(try simp only [h])<;>(first|(exfalso;omega)|(exfalso;simp_all;done)|(simp (disch:=omega) only [push_cast,seval,hw])|skip))
 | ((first|refine Arz false ?_|refine Anz false ?_);simp (disch:=omega) only [push_cast,seval,hw])
 | ((first|((first|refine Adz (Aez (Auz _ _ _)) ?_|refine Abz (Aez (Auz _ _ _)) ⟨_,_,rfl,rfl⟩ ?_);rintro _ _ ⟨rfl,rfl⟩))<;>(try simp (disch:=omega) only [push_cast,seval,hw]))
 | (refine Amz ⟨.inr rfl,[16000,16016],[(16000,1),(16016,5)],_,by decide,rfl,?_⟩;(try simp (disch:=omega) only [push_cast,seval,↓Aoz,↓Alz,↓List.map_cons,↓List.map_nil,hw]))))
    all_goals (try simp)

end Go.Proofs.YtkpcjppnjmhanaaDoor
namespace Go.Proofs.YtkpcjppnjmhanaaDoor
open VwM Vw Go
variable [SentA]

theorem Fmz {cs:List Int} {es:List Ex}:vB cs es=true ↔ vMem cs=true ∧ es.length ≤ 8 ∧ ∀ i e,es[i]?=some e → sxV cs.length es i e=true:=by
  unfold vB
  simp only [Bool.and_eq_true,decide_eq_true_eq,Dxz]
  constructor
  · rintro ⟨⟨h1,h2⟩,h3⟩
    exact ⟨h1,h2,fun i e he=>h3 i e (List.getElem?_eq_some_iff.1 he).1 he⟩
  · rintro ⟨h1,h2,h3⟩
    exact ⟨⟨h1,h2⟩,fun i e _ he=>h3 i e he⟩
theorem D6z {m:Int} {es:List Ex} {i:Nat} {e:Ex}:sxV m es i e=true ↔ ((-1 ≤ e.1 ∧ e.1 ≤ (i:Int) - 1) ∧ vV e.2.1.1 e.2.1.2.1 e.2.1.2.2=true) ∧ (e.2.2=true → allI (offs e.2.1.1 e.2.1.2.1 e.2.1.2.2) 0 (m - 1)=true ∧ (e.1 < 0 ∨ opE es e.1=true)):=by
  unfold sxV exV
  simp only [Bool.and_eq_true,Bool.or_eq_true,Bool.not_eq_true',decide_eq_true_eq]
  cases e.2.2<;>simp [and_assoc]
theorem vB_cells {cs cs':List Int} {es:List Ex} (h:vB cs es=true) (hl:cs'.length=cs.length) (hm:vMem cs'=true):vB cs' es=true:=by
  rw [Fmz] at h ⊢
  rw [hl]
  exact ⟨hm,h.2⟩
theorem vB_size {cs cs':List Int} {es:List Ex} (h:vB cs es=true) (ho:opensT es es.length=[]) (hm:vMem cs'=true):vB cs' es=true:=by
  rw [Fmz] at h ⊢
  refine ⟨hm,h.2.1,fun i e he=>?_⟩
  have h1:=D6z.1 (h.2.2 i e he)
  have h2:=F5z.1 ho i e (List.getElem?_eq_some_iff.1 he).1 he
  exact D6z.2 ⟨h1.1,fun h3=>absurd h3 h2⟩
theorem vB_rel {cs:List Int} {es:List Ex} {q:Nat} (h:vB cs es=true) (hk:kidsT es (q:Int) es.length=[]):vB cs (relE es q)=true:=by
  cases he:es[q]? with
  | none=>simp only [relE,he];exact h
  | some f =>
    rw [Fmz] at h ⊢
    have hq:q < es.length:=(List.getElem?_eq_some_iff.1 he).1
    rw [relE_at he]
    refine ⟨h.1,by simpa using h.2.1,fun i e hi=>?_⟩
    rw [List.getElem?_set] at hi
    by_cases e1:q=i
    · subst e1
      rw [if_pos rfl,if_pos hq] at hi
      injection hi with hi
      subst hi
      have h1:=D6z.1 (h.2.2 q f he)
      exact D6z.2 ⟨h1.1,fun h3=>by cases h3⟩
    · rw [if_neg e1] at hi
      have h1:=D6z.1 (h.2.2 i e hi)
      refine D6z.2 ⟨h1.1,fun h3=>⟨(h1.2 h3).1,?_⟩⟩
      rcases (h1.2 h3).2 with h4|h4
      · exact .inl h4
      · by_cases h5:e.1 < 0
        · exact .inl h5
        · refine .inr ?_
          have hne:q ≠ e.1.toNat:=fun e2=>by
            have:=Fiz.1 hk i e (List.getElem?_eq_some_iff.1 hi).1 hi
            exact this ⟨h3,by omega⟩
          unfold opE at h4 ⊢
          rw [List.getElem?_set,if_neg hne]
          exact h4
theorem vB_add {cs:List Int} {es:List Ex} {p b:Int} {x y:List Int} (h:vB cs es=true) (h8:es.length ≠ 8) (hv:vV b x y=true) (hf:allI (offs b x y) 0 ((cs.length:Int) - 1)=true) (hp:p=-1 ∨ (0 ≤ p ∧ p < es.length ∧ opE es p=true)):vB cs (es ++ [(p,(b,x,y),true)])=true:=by
  rw [Fmz] at h ⊢
  refine ⟨h.1,by rw [List.length_append,List.length_singleton];omega,fun i e hi=>?_⟩
  have hop:∀ r:Int,0 ≤ r → r < es.length → opE es r=true → opE (es ++ [(p,(b,x,y),true)]) r=true:=fun r h1 h2 h3=>by
    unfold opE at h3 ⊢
    rw [List.getElem?_append_left (by omega)]
    exact h3
  by_cases hl:i < es.length
  · rw [List.getElem?_append_left hl] at hi
    have h1:=D6z.1 (h.2.2 i e hi)
    refine D6z.2 ⟨h1.1,fun h3=>⟨(h1.2 h3).1,?_⟩⟩
    rcases (h1.2 h3).2 with h4|h4
    · exact .inl h4
    · by_cases h5:e.1 < 0
      · exact .inl h5
      · exact .inr (hop e.1 (by omega) (by omega) h4)
  · rw [List.getElem?_append_right (by omega)] at hi
    have hil:i=es.length:=by
      have:=(List.getElem?_eq_some_iff.1 hi).1
      simp at this
      omega
    subst hil
    rw [Nat.sub_self] at hi
    injection hi with hi
    subst hi
    refine D6z.2 ⟨⟨?_,hv⟩,fun _=>⟨hf,?_⟩⟩
    · simp only
      rcases hp with h1|h1<;>omega
    · rcases hp with h1|h1
      · exact .inl (by simp only;omega)
      · exact .inr (hop p h1.1 h1.2.1 h1.2.2)
theorem cut_sub {b:Int} {sh st:List Int} {j:Nat} {f t w:Int} {hf ht:Bool} (hv:vV b sh st=true) (hj:j < sh.length) (hs:vS f t w hf ht=true) {x:Int} (hx:x ∈ offs (cutB b sh st j f t w hf ht) (cutSh sh j f t w hf ht) (cutSt sh st j f t w hf ht)):x ∈ offs b sh st:=by
  have hg:=(Czz (Dfz.1 hv).1).1
  have hg2:=(Czz (Dfz.1 (vV_cut hv hj hs)).1).1
  by_cases hz:pr (cutSh sh j f t w hf ht)=0
  · have:=List.length_pos_of_mem hx
    rw [B9z,hz] at this
    exact absurd this (by decide)
  · rw [C6z hg2] at hx
    rw [C6z hg]
    obtain ⟨g,h1,h2⟩:=hx
    refine ⟨cutIx sh j f w hf g,cutIx_ix hv hj hs h1,?_⟩
    rw [← cut_dot hv hj hs hz h1]
    rw [Cez] at h2
    exact h2
theorem sdOk_facts {b:Int} {sh st:List Int} {d f t w:Int} {hf ht:Bool} (h:sdOk b sh st d f t w hf ht=true):vV b sh st=true ∧ d.toNat < sh.length ∧ vS f t w hf ht=true ∧ vV (cutB b sh st d.toNat f t w hf ht) (cutSh sh d.toNat f t w hf ht) (cutSt sh st d.toNat f t w hf ht)=true:=by
  unfold sdOk at h
  simp only [Bool.and_eq_true,decide_eq_true_eq] at h
  exact ⟨h.1.1.1,by omega,h.1.2,h.2⟩
theorem vB_ep {cs:List Int} {es:List Ex} {id d f t w:Int} {hf ht:Bool} (h:epG cs es id d f t w hf ht=true):vB cs (epE es id d f t w hf ht)=true:=by
  unfold epG at h
  simp only [Bool.and_eq_true,Bool.not_eq_true',decide_eq_false_iff_not] at h
  obtain ⟨⟨⟨hv,hr⟩,h8⟩,ho⟩:=h
  obtain ⟨q,p,b,x,y,rfl,hq,he,hvw⟩:=H5z hr
  unfold epO at ho
  unfold epE epV
  rw [hvw] at ho ⊢
  simp only at ho ⊢
  obtain ⟨g1,g2,g3,g4⟩:=sdOk_facts ho
  have hs:=vB_see hv he
  unfold seeB at hs
  simp only [Bool.and_eq_true] at hs
  refine vB_add hv h8 g4 ?_ (.inr ⟨by omega,by omega,?_⟩)
  · rw [Dez] at hs ⊢
    exact fun z hz=>hs.2 z (cut_sub g1 g2 g3 hz)
  · unfold opE
    rw [Int.toNat_natCast,he]
theorem vB_ev {cs:List Int} {es:List Ex} {b:Int} {x y:List Int} (h:evG cs es b x y=true):vB cs (es ++ [(-1,(b,x,y),true)])=true:=by
  unfold evG at h
  simp only [Bool.and_eq_true,Bool.not_eq_true',decide_eq_false_iff_not] at h
  obtain ⟨⟨hv,hf⟩,h8⟩:=h
  unfold fitB at hf
  simp only [Bool.and_eq_true] at hf
  exact vB_add hv h8 hf.1.1 hf.2 (.inl rfl)
theorem vB_relG {cs:List Int} {es:List Ex} {id:Int} (h:relG cs es id=true):vB cs (relE es id.toNat)=true:=by
  unfold relG at h
  simp only [Bool.and_eq_true,decide_eq_true_eq,List.length_eq_zero_iff] at h
  obtain ⟨q,_,_,_,_,rfl,_⟩:=H5z h.1.2
  rw [Int.toNat_natCast]
  exact vB_rel h.1.1 h.2
theorem getD_rng {mem:List Int} (hm:∀ x ∈ mem,0 ≤ x ∧ x ≤ 255) (j:Nat):0 ≤ mem.getD j 0 ∧ mem.getD j 0 ≤ 255:=by
  by_cases hl:j < mem.length
  · exact hm _ (C2z hl)
  · rw [List.getD,List.getElem?_eq_none (Nat.le_of_not_lt hl)];simp
theorem putK_rng {mem cells vals:List Int} (hm:∀ x ∈ mem,0 ≤ x ∧ x ≤ 255) (hv:∀ j,0 ≤ vals.getD j 0 ∧ vals.getD j 0 ≤ 255):∀ k,∀ x ∈ putK mem cells vals k,0 ≤ x ∧ x ≤ 255
  | 0,x,hx=>hm x hx
  | k + 1,x,hx=>by
    simp only [putK] at hx
    rcases List.mem_or_eq_of_mem_set hx with h1|h1
    · exact putK_rng hm hv k x h1
    · subst h1;exact hv k
theorem vMem_put {cs:List Int} (h:vMem cs=true) (os vs:List Int) (hvs:∀ x ∈ vs,0 ≤ x ∧ x ≤ 255):vMem (putL cs os vs)=true:=by
  rw [Dzz] at h ⊢
  exact ⟨by rw [Emz];exact h.1,putK_rng h.2 (getD_rng hvs) _⟩

end Go.Proofs.YtkpcjppnjmhanaaDoor
namespace Go.Proofs.YtkpcjppnjmhanaaDoor
open VwM Vw Go
variable [SentA]

theorem A8z (n:Int) (hn:0 ≤ n ∧ n < 10):PCall Tryd.prog 71 [.int .i64 n] (fun r=>∃ s:ByteArray,s.size ≤ 5 ∧ r=.str s):=by
  refine A4z l71_eq rfl ?_
  have h1:(n < 0)=False:=eq_false (by omega)
  have h2:n < 10:=by omega
  have hs:∀ (σ:List (Nat × AV)),lk σ 19=.int .i64 n → lk σ 21=.int .i64 (n + 1) → arun (mkS σ []) 0 22 (.sliceS (.const (.string { data:={ toList:=[48,49,50,51,52,53,54,55,56,57] } })) (some (.tmp 19)) (some (.tmp 21)))=some (.str (ByteArray.extract { data:={ toList:=[48,49,50,51,52,53,54,55,56,57] } } n.toNat (n + 1).toNat),none):=fun σ e1 e2 =>
    arun_sliceS2 rfl e1 e2 ⟨by omega,by show n + 1 ≤ 10;omega⟩
  (repeat' (first
 | (first|refine Apz ?_|refine Aiz ?_)
 | ((first|refine Aqz ?_|refine Ahz ?_|refine Ajz ?_|refine Akz ?_);simp (disch:=omega) only [push_cast,seval,l71r0,l71r1,l71r2,l71r3,l71r4,l71r5,l71r6,l71r7,h1,h2,decide_false])
 | ((first|refine Acz ?_ ?_|refine Agz ?_ ?_|refine Afz ?_ ?_)<;>intro h<;>(try simp only [h])<;>(try simp only [bitvec_to_nat] at h)<;>(try simp only [h])<;>(first|(exfalso;omega)|(exfalso;simp_all;done)|(simp (disch:=omega) only [push_cast,seval,h1,h2,decide_false])|skip))
 | ((first|refine Arz false ?_|refine Anz false ?_);simp (disch:=omega) only [push_cast,seval,h1,h2,decide_false])
 | ((first|((first|refine Adz (Aez (A8z _ ?_)) ?_|refine Abz (Aez (A8z _ ?_)) ⟨.str ByteArray.empty,[],⟨ByteArray.empty,Nat.zero_le _,rfl⟩,rfl⟩ ?_);(exact sd);rintro _ _ ⟨⟨sn,hsn,rfl⟩,rfl⟩))<;>(try simp (disch:=omega) only [push_cast,seval,h1,h2,decide_false]))
 | (refine Amz ⟨.inr rfl,_,rfl,?_⟩;(try simp (disch:=omega) only [push_cast,seval,h1,h2,decide_false]))))
  rw [hs _ rfl rfl]
  simp (disch:=omega) only [push_cast,seval]
  (repeat' (first
 | (first|refine Apz ?_|refine Aiz ?_)
 | ((first|refine Aqz ?_|refine Ahz ?_|refine Ajz ?_|refine Akz ?_);simp (disch:=omega) only [push_cast,seval,l71r0,l71r1,l71r2,l71r3,l71r4,l71r5,l71r6,l71r7,h1,h2,decide_false])
 | ((first|refine Acz ?_ ?_|refine Agz ?_ ?_|refine Afz ?_ ?_)<;>intro h<;>(try simp only [h])<;>(try simp only [bitvec_to_nat] at h)<;>(try simp only [h])<;>(first|(exfalso;omega)|(exfalso;simp_all;done)|(simp (disch:=omega) only [push_cast,seval,h1,h2,decide_false])|skip))
 | ((first|refine Arz false ?_|refine Anz false ?_);simp (disch:=omega) only [push_cast,seval,h1,h2,decide_false])
 | ((first|((first|refine Adz (Aez (A8z _ ?_)) ?_|refine Abz (Aez (A8z _ ?_)) ⟨.str ByteArray.empty,[],⟨ByteArray.empty,Nat.zero_le _,rfl⟩,rfl⟩ ?_);(exact sd);rintro _ _ ⟨⟨sn,hsn,rfl⟩,rfl⟩))<;>(try simp (disch:=omega) only [push_cast,seval,h1,h2,decide_false]))
 | (refine Amz ⟨.inr rfl,_,rfl,?_⟩;(try simp (disch:=omega) only [push_cast,seval,h1,h2,decide_false]))))
  exact ⟨_,by rw [ByteArray.size_extract];omega,rfl⟩


theorem Bdz (n:Int) (hn:0 ≤ n ∧ n < 100):PCall Tryd.prog 71 [.int .i64 n] (fun r=>∃ s:ByteArray,s.size ≤ 10 ∧ r=.str s):=by
  by_cases h:n < 10
  · exact (A8z n ⟨hn.1,h⟩).mono fun r ⟨s,h1,h2⟩=>⟨s,by omega,h2⟩
  refine A4z l71_eq rfl ?_
  have h1:(n < 0)=False:=eq_false (by omega)
  have h2:¬ n < 10:=by omega
  have q1:0 ≤ n.tdiv 10 ∧ n.tdiv 10 < 10:=by rw [Int.tdiv_eq_ediv_of_nonneg hn.1];omega
  have q2:=Ejz hn.1 (n:=10) (by omega)
  (repeat' (first
 | (first|refine Apz ?_|refine Aiz ?_)
 | ((first|refine Aqz ?_|refine Ahz ?_|refine Ajz ?_|refine Akz ?_);simp (disch:=omega) only [push_cast,seval,l71r0,l71r1,l71r2,l71r3,l71r4,l71r5,l71r6,l71r7,h1,h2,decide_false])
 | ((first|refine Acz ?_ ?_|refine Agz ?_ ?_|refine Afz ?_ ?_)<;>intro h<;>(try simp only [h])<;>(try simp only [bitvec_to_nat] at h)<;>(try simp only [h])<;>(first|(exfalso;omega)|(exfalso;simp_all;done)|(simp (disch:=omega) only [push_cast,seval,h1,h2,decide_false])|skip))
 | ((first|refine Arz false ?_|refine Anz false ?_);simp (disch:=omega) only [push_cast,seval,h1,h2,decide_false])
 | ((first|((first|refine Adz (Aez (A8z _ ?_)) ?_|refine Abz (Aez (A8z _ ?_)) ⟨.str ByteArray.empty,[],⟨ByteArray.empty,Nat.zero_le _,rfl⟩,rfl⟩ ?_);(exact sd);rintro _ _ ⟨⟨sn,hsn,rfl⟩,rfl⟩)|((first|refine Adz (Aez (Bdz _ ?_)) ?_|refine Abz (Aez (Bdz _ ?_)) ⟨.str ByteArray.empty,[],⟨ByteArray.empty,Nat.zero_le _,rfl⟩,rfl⟩ ?_);(exact sd);rintro _ _ ⟨⟨sn,hsn,rfl⟩,rfl⟩))<;>(try simp (disch:=omega) only [push_cast,seval,h1,h2,decide_false]))
 | (refine Amz ⟨.inr rfl,_,rfl,?_⟩;(try simp (disch:=omega) only [push_cast,seval,h1,h2,decide_false]))))
  exact ⟨_,by rw [ByteArray.size_append];omega,rfl⟩


theorem Bjz (n:Int) (hn:0 ≤ n ∧ n < 1000):PCall Tryd.prog 71 [.int .i64 n] (fun r=>∃ s:ByteArray,s.size ≤ 20 ∧ r=.str s):=by
  by_cases h:n < 100
  · exact (Bdz n ⟨hn.1,h⟩).mono fun r ⟨s,h1,h2⟩=>⟨s,by omega,h2⟩
  refine A4z l71_eq rfl ?_
  have h1:(n < 0)=False:=eq_false (by omega)
  have h2:¬ n < 10:=by omega
  have q1:0 ≤ n.tdiv 10 ∧ n.tdiv 10 < 100:=by rw [Int.tdiv_eq_ediv_of_nonneg hn.1];omega
  have q2:=Ejz hn.1 (n:=10) (by omega)
  (repeat' (first
 | (first|refine Apz ?_|refine Aiz ?_)
 | ((first|refine Aqz ?_|refine Ahz ?_|refine Ajz ?_|refine Akz ?_);simp (disch:=omega) only [push_cast,seval,l71r0,l71r1,l71r2,l71r3,l71r4,l71r5,l71r6,l71r7,h1,h2,decide_false])
 | ((first|refine Acz ?_ ?_|refine Agz ?_ ?_|refine Afz ?_ ?_)<;>intro h<;>(try simp only [h])<;>(try simp only [bitvec_to_nat] at h)<;>(try simp only [h])<;>(first|(exfalso;omega)|(exfalso;simp_all;done)|(simp (disch:=omega) only [push_cast,seval,h1,h2,decide_false])|skip))
 | ((first|refine Arz false ?_|refine Anz false ?_);simp (disch:=omega) only [push_cast,seval,h1,h2,decide_false])
 | ((first|((first|refine Adz (Aez (A8z _ ?_)) ?_|refine Abz (Aez (A8z _ ?_)) ⟨.str ByteArray.empty,[],⟨ByteArray.empty,Nat.zero_le _,rfl⟩,rfl⟩ ?_);(exact sd);rintro _ _ ⟨⟨sn,hsn,rfl⟩,rfl⟩)|((first|refine Adz (Aez (Bdz _ ?_)) ?_|refine Abz (Aez (Bdz _ ?_)) ⟨.str ByteArray.empty,[],⟨ByteArray.empty,Nat.zero_le _,rfl⟩,rfl⟩ ?_);(exact sd);rintro _ _ ⟨⟨sn,hsn,rfl⟩,rfl⟩)|((first|refine Adz (Aez (Bjz _ ?_)) ?_|refine Abz (Aez (Bjz _ ?_)) ⟨.str ByteArray.empty,[],⟨ByteArray.empty,Nat.zero_le _,rfl⟩,rfl⟩ ?_);(exact sd);rintro _ _ ⟨⟨sn,hsn,rfl⟩,rfl⟩))<;>(try simp (disch:=omega) only [push_cast,seval,h1,h2,decide_false]))
 | (refine Amz ⟨.inr rfl,_,rfl,?_⟩;(try simp (disch:=omega) only [push_cast,seval,h1,h2,decide_false]))))
  exact ⟨_,by rw [ByteArray.size_append];omega,rfl⟩


set_option maxHeartbeats 8000000 in
theorem D7z (xs:List Int) (n:Nat) (hn:xs.length=n) (hb:n ≤ 100 ∧ ∀ x ∈ xs,0 ≤ x ∧ x < 1000):PCall Tryd.prog 69 [.rows false (IL xs) n] (fun r=>∃ s:ByteArray,s.size ≤ 3000 ∧ r=.str s):=by
  subst hn
  obtain ⟨hb1,hb2⟩:=hb
  refine A4z l69_eq rfl ?_
  (repeat' (first
 | (first|refine Apz ?_|refine Aiz ?_)
 | ((first|refine Aqz ?_|refine Ahz ?_|refine Ajz ?_|refine Akz ?_);simp (disch:=omega) only [push_cast,seval,l69r0,l69r1,l69r2,l69r3,l69r4,l69r5,l69r6])
 | ((first|refine Acz ?_ ?_|refine Agz ?_ ?_|refine Afz ?_ ?_)<;>intro h<;>(try simp only [h])<;>(try simp only [bitvec_to_nat] at h)<;>(try simp only [h])<;>(first|(exfalso;omega)|(exfalso;simp_all;done)|(simp (disch:=omega) only [push_cast,seval])|skip))
 | ((first|refine Arz false ?_|refine Anz false ?_);simp (disch:=omega) only [push_cast,seval])
 | ((first|((first|refine Adz (Aez (A8z _ ?_)) ?_|refine Abz (Aez (A8z _ ?_)) ⟨.str ByteArray.empty,[],⟨ByteArray.empty,Nat.zero_le _,rfl⟩,rfl⟩ ?_);(exact sd);rintro _ _ ⟨⟨sn,hsn,rfl⟩,rfl⟩)|((first|refine Adz (Aez (Bdz _ ?_)) ?_|refine Abz (Aez (Bdz _ ?_)) ⟨.str ByteArray.empty,[],⟨ByteArray.empty,Nat.zero_le _,rfl⟩,rfl⟩ ?_);(exact sd);rintro _ _ ⟨⟨sn,hsn,rfl⟩,rfl⟩)|((first|refine Adz (Aez (Bjz _ ?_)) ?_|refine Abz (Aez (Bjz _ ?_)) ⟨.str ByteArray.empty,[],⟨ByteArray.empty,Nat.zero_le _,rfl⟩,rfl⟩ ?_);(exact sd);rintro _ _ ⟨⟨sn,hsn,rfl⟩,rfl⟩))<;>(try simp (disch:=omega) only [push_cast,seval]))
 | (refine Amz ⟨.inr rfl,_,rfl,?_⟩;(try simp (disch:=omega) only [push_cast,seval]))))
  refine Bqz (fun x:Nat × ByteArray=>mkS [(0,.rows false (IL xs) xs.length),(3,.str x.2),(4,.int .i64 x.1)] []) (fun x=>x.1 ≤ xs.length ∧ x.2.size ≤ x.1 * 25) (fun x=>xs.length - x.1) (0,{ data:={ toList:=[] } }) ⟨Nat.zero_le _,by simp [bsz]⟩ ?_ ?_
  · (refine Sub.of_lists ?_ ?_ ?_ ?_ ?_<;>simp [Vw.mkS,Vw.lk,Vw.hk,AV.inn,innL,Avz,Atz,Ayz,-List.map_set,-List.getD_eq_getElem?_getD])
  · rintro ⟨i,t⟩ ⟨hi,ht⟩
    simp only at hi ht ⊢
    by_cases hlt:i < xs.length
    · have hx:=hb2 _ (C2z hlt)
      have h32:({ data:={ toList:=[32] } }:ByteArray).size=1:=rfl
      have ht2:(t ++ ({ data:={ toList:=[32] } }:ByteArray)).size=t.size + 1:=by rw [ByteArray.size_append];rfl
      have hadd:=abin_addS t { data:={ toList:=[32] } } (by rw [h32];omega)
      (repeat' (first
 | (first|refine Apz ?_|refine Aiz ?_)
 | ((first|refine Aqz ?_|refine Ahz ?_|refine Ajz ?_|refine Akz ?_);simp (disch:=omega) only [push_cast,seval,l69r0,l69r1,l69r2,l69r3,l69r4,l69r5,l69r6,hlt,hadd])
 | ((first|refine Acz ?_ ?_|refine Agz ?_ ?_|refine Afz ?_ ?_)<;>intro h<;>(try simp only [h])<;>(try simp only [bitvec_to_nat] at h)<;>(try simp only [h])<;>(first|(exfalso;omega)|(exfalso;simp_all;done)|(simp (disch:=omega) only [push_cast,seval,hlt,hadd])|skip))
 | ((first|refine Arz false ?_|refine Anz false ?_);simp (disch:=omega) only [push_cast,seval,hlt,hadd])
 | ((first|((first|refine Adz (Aez (A8z _ ?_)) ?_|refine Abz (Aez (A8z _ ?_)) ⟨.str ByteArray.empty,[],⟨ByteArray.empty,Nat.zero_le _,rfl⟩,rfl⟩ ?_);(exact sd);rintro _ _ ⟨⟨sn,hsn,rfl⟩,rfl⟩)|((first|refine Adz (Aez (Bdz _ ?_)) ?_|refine Abz (Aez (Bdz _ ?_)) ⟨.str ByteArray.empty,[],⟨ByteArray.empty,Nat.zero_le _,rfl⟩,rfl⟩ ?_);(exact sd);rintro _ _ ⟨⟨sn,hsn,rfl⟩,rfl⟩)|((first|refine Adz (Aez (Bjz _ ?_)) ?_|refine Abz (Aez (Bjz _ ?_)) ⟨.str ByteArray.empty,[],⟨ByteArray.empty,Nat.zero_le _,rfl⟩,rfl⟩ ?_);(exact sd);rintro _ _ ⟨⟨sn,hsn,rfl⟩,rfl⟩))<;>(try simp (disch:=omega) only [push_cast,seval,hlt,hadd]))
 | (refine Amz ⟨.inr rfl,_,rfl,?_⟩;(try simp (disch:=omega) only [push_cast,seval,hlt,hadd]))))
      refine ⟨(i + 1,t ++ { data:={ toList:=[32] } } ++ sn),⟨by simp only;omega,by simp only [ByteArray.size_append,h32];omega⟩,by simp only;omega,?_⟩
      (refine Sub.of_lists ?_ ?_ ?_ ?_ ?_<;>simp [Vw.mkS,Vw.lk,Vw.hk,AV.inn,innL,Avz,Atz,Ayz,-List.map_set,-List.getD_eq_getElem?_getD])
    · have e:i=xs.length:=by omega
      subst e
      (repeat' (first
 | (first|refine Apz ?_|refine Aiz ?_)
 | ((first|refine Aqz ?_|refine Ahz ?_|refine Ajz ?_|refine Akz ?_);simp (disch:=omega) only [push_cast,seval,l69r0,l69r1,l69r2,l69r3,l69r4,l69r5,l69r6])
 | ((first|refine Acz ?_ ?_|refine Agz ?_ ?_|refine Afz ?_ ?_)<;>intro h<;>(try simp only [h])<;>(try simp only [bitvec_to_nat] at h)<;>(try simp only [h])<;>(first|(exfalso;omega)|(exfalso;simp_all;done)|(simp (disch:=omega) only [push_cast,seval])|skip))
 | ((first|refine Arz false ?_|refine Anz false ?_);simp (disch:=omega) only [push_cast,seval])
 | ((first|((first|refine Adz (Aez (A8z _ ?_)) ?_|refine Abz (Aez (A8z _ ?_)) ⟨.str ByteArray.empty,[],⟨ByteArray.empty,Nat.zero_le _,rfl⟩,rfl⟩ ?_);(exact sd);rintro _ _ ⟨⟨sn,hsn,rfl⟩,rfl⟩)|((first|refine Adz (Aez (Bdz _ ?_)) ?_|refine Abz (Aez (Bdz _ ?_)) ⟨.str ByteArray.empty,[],⟨ByteArray.empty,Nat.zero_le _,rfl⟩,rfl⟩ ?_);(exact sd);rintro _ _ ⟨⟨sn,hsn,rfl⟩,rfl⟩)|((first|refine Adz (Aez (Bjz _ ?_)) ?_|refine Abz (Aez (Bjz _ ?_)) ⟨.str ByteArray.empty,[],⟨ByteArray.empty,Nat.zero_le _,rfl⟩,rfl⟩ ?_);(exact sd);rintro _ _ ⟨⟨sn,hsn,rfl⟩,rfl⟩))<;>(try simp (disch:=omega) only [push_cast,seval]))
 | (refine Amz ⟨.inr rfl,_,rfl,?_⟩;(try simp (disch:=omega) only [push_cast,seval]))))
      exact ⟨_,by omega,rfl⟩

end Go.Proofs.YtkpcjppnjmhanaaDoor
