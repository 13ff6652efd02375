/- Texts of this verifier. -/
import Derived.Test.YtfccepgibbdfaaaDoorCB4
import Derived.Test.YtfccepgibbdfaaaDoorCM1
import Derived.Test.YtfccepgibbdfaaaDoorCW3
set_option maxHeartbeats 4000000
set_option linter.unusedSimpArgs false
set_option linter.unusedSectionVars false
set_option linter.unusedVariables false
set_option maxRecDepth 4000
namespace Go.Proofs.YtfccepgibbdfaaaDoor
open VwM Vw Go
variable [PowA]

def epO (es:List Ex) (id d f t w:Int) (hf ht:Bool):Bool:=sdOk (vwA es id).1 (vwA es id).2.1 (vwA es id).2.2 d f t w hf ht
def epG (cs:List Int) (es:List Ex) (id d f t w:Int) (hf ht:Bool):Bool:=((vB cs es && opA es id) && !decide (es.length=8)) && epO es id d f t w hf ht
def epV (es:List Ex) (id d f t w:Int) (hf ht:Bool):Vw3:=(cutB (vwA es id).1 (vwA es id).2.1 (vwA es id).2.2 d.toNat f t w hf ht,cutSh (vwA es id).2.1 d.toNat f t w hf ht,cutSt (vwA es id).2.1 (vwA es id).2.2 d.toNat f t w hf ht)
def epE (es:List Ex) (id d f t w:Int) (hf ht:Bool):List Ex:=es ++ [(id,epV es id d f t w hf ht,true)]
theorem cutSt_lenE (sh st:List Int) (j:Nat) (f t w:Int) (hf ht:Bool):(cutSt sh st j f t w hf ht).length ≤ max sh.length st.length:=by
  unfold cutSt;split<;>simp<;>omega
theorem EL_tak3 {es:List Ex} {q:Nat} {p b:Int} {x y:List Int} {o:Bool} (he:es[q]?=some (p,(b,x,y),o)):((EL false es).drop (q * 5 + 1)).take 3=[.int .i64 b,.rows false (IL x) x.length,.rows false (IL y) y.length]:=by
  have hd:=Crz false es q he
  simp only at hd
  have:=congrArg (fun l=>(l.drop 1).take 3) hd
  simpa [List.drop_take,List.drop_drop,List.take_take] using this
theorem cut_lens {sh st:List Int} {d:Nat} {f t w:Int} {hf ht:Bool} {k:Nat} (h1:sh.length ≤ k) (h2:st.length ≤ k):(cutSh sh d f t w hf ht).length ≤ k ∧ (cutSt sh st d f t w hf ht).length ≤ k:=by
  refine ⟨by rw [Bqz];exact h1,?_⟩
  have:=cutSt_lenE sh st d f t w hf ht
  omega


set_option maxHeartbeats 8000000 in
theorem sEP_ok (cs:List Int) (es:List Ex) (m n:Nat) (id d f t w:Int) (hf ht:Bool) (hm:cs.length=m) (hn:es.length=n) (hb:m ≤ 1099511627776 ∧ n ≤ 1099511627776 ∧ exB 1099511627776 es) :
    BCall Tryd.prog 43 [.agg [.rows false (IL cs) m,.rows false (EL false es) n],.int .i64 id,.int .i64 d,slc f t w hf ht] [] (OBs (epG cs es id d f t w hf ht) (ifB (epG cs es id d f t w hf ht) cs) (ifB (epG cs es id d f t w hf ht) (epE es id d f t w hf ht))):=by
  subst hm hn
  have hb0:=hb
  obtain ⟨hb1,hb2,hb3⟩:=hb
  have hel:=A0z false es
  refine Axz (pins:=[]) (pin:=0) l43_eq rfl rfl rfl ?_
  unfold epG
  cases hv:vB cs es with
  | false =>
    simp only [Bool.false_and,A8z]
    (repeat' (first
 | (first|refine Ahz ?_|refine Abz ?_)
 | ((first|refine Aiz ?_|refine Afz ?_);simp (disch:=omega) only [push_cast,seval,l43r0,l43r1,l43r2,l43r3a,l43r3b,l43r3,l43r4,l43r5,l43r6,hv,hel,Aaz])
 | ((first|refine Alz false ?_);simp (disch:=omega) only [push_cast,seval,hv,hel,Aaz])
 | ((first|((first|refine Akz (Ajz (Azz _ _ _ _ ?_ ?_ ?_)) ?_|refine Agz (Ajz (Azz _ _ _ _ ?_ ?_ ?_)) ⟨_,_,rfl,rfl⟩ ?_);(iterate 3 (exact sd));rintro _ _ ⟨rfl,rfl⟩))<;>(try simp (disch:=omega) only [push_cast,seval,hv,hel,Aaz]))
 | (refine Adz ⟨.inr rfl,[16000,16001],[(16000,1),(16001,5)],_,by decide,rfl,?_⟩;(try simp (disch:=omega) only [push_cast,seval,↓Aez,↓Acz,↓List.map_cons,↓List.map_nil,hv,hel,Aaz]))))
    all_goals simp [OBs,EL]
  | true =>
    obtain ⟨v1,v2,v3⟩:=vB_8 hv
    cases hr:opA es id with
    | false =>
      simp only [Bool.true_and,Bool.false_and,A8z]
      (repeat' (first
 | (first|refine Ahz ?_|refine Abz ?_)
 | ((first|refine Aiz ?_|refine Afz ?_);simp (disch:=omega) only [push_cast,seval,l43r0,l43r1,l43r2,l43r3a,l43r3b,l43r3,l43r4,l43r5,l43r6,hv,hr,hel,Aaz])
 | ((first|refine Alz false ?_);simp (disch:=omega) only [push_cast,seval,hv,hr,hel,Aaz])
 | ((first|((first|refine Akz (Ajz (Azz _ _ _ _ ?_ ?_ ?_)) ?_|refine Agz (Ajz (Azz _ _ _ _ ?_ ?_ ?_)) ⟨_,_,rfl,rfl⟩ ?_);(iterate 3 (exact sd));rintro _ _ ⟨rfl,rfl⟩)|((first|refine Akz (Ajz (Blz _ _ _ _ _ ?_ ?_ ?_)) ?_|refine Agz (Ajz (Blz _ _ _ _ _ ?_ ?_ ?_)) ⟨_,_,rfl,rfl⟩ ?_);(iterate 3 (exact sd));rintro _ _ ⟨rfl,rfl⟩))<;>(try simp (disch:=omega) only [push_cast,seval,hv,hr,hel,Aaz]))
 | (refine Adz ⟨.inr rfl,[16000,16001],[(16000,1),(16001,5)],_,by decide,rfl,?_⟩;(try simp (disch:=omega) only [push_cast,seval,↓Aez,↓Acz,↓List.map_cons,↓List.map_nil,hv,hr,hel,Aaz]))))
      all_goals simp [OBs,EL]
    | true =>
      simp only [Bool.true_and]
      by_cases h8:es.length=8
      · have hd:(!decide (es.length=8))=false:=by simp [h8]
        have h8i:(es.length:Int)=8:=by omega
        simp only [hd,Bool.false_and,A8z]
        (repeat' (first
 | (first|refine Ahz ?_|refine Abz ?_)
 | ((first|refine Aiz ?_|refine Afz ?_);simp (disch:=omega) only [push_cast,seval,l43r0,l43r1,l43r2,l43r3a,l43r3b,l43r3,l43r4,l43r5,l43r6,hv,hr,h8i,hel,Aaz])
 | ((first|refine Alz false ?_);simp (disch:=omega) only [push_cast,seval,hv,hr,h8i,hel,Aaz])
 | ((first|((first|refine Akz (Ajz (Azz _ _ _ _ ?_ ?_ ?_)) ?_|refine Agz (Ajz (Azz _ _ _ _ ?_ ?_ ?_)) ⟨_,_,rfl,rfl⟩ ?_);(iterate 3 (exact sd));rintro _ _ ⟨rfl,rfl⟩)|((first|refine Akz (Ajz (Blz _ _ _ _ _ ?_ ?_ ?_)) ?_|refine Agz (Ajz (Blz _ _ _ _ _ ?_ ?_ ?_)) ⟨_,_,rfl,rfl⟩ ?_);(iterate 3 (exact sd));rintro _ _ ⟨rfl,rfl⟩))<;>(try simp (disch:=omega) only [push_cast,seval,hv,hr,h8i,hel,Aaz]))
 | (refine Adz ⟨.inr rfl,[16000,16001],[(16000,1),(16001,5)],_,by decide,rfl,?_⟩;(try simp (disch:=omega) only [push_cast,seval,↓Aez,↓Acz,↓List.map_cons,↓List.map_nil,hv,hr,h8i,hel,Aaz]))))
        all_goals simp [OBs,EL]
      · have hd:(!decide (es.length=8))=true:=by simp [h8]
        have h8i:((es.length:Int)=8)=False:=eq_false (by omega)
        simp only [hd,Bool.true_and]
        obtain ⟨q,p,b,x,y,rfl,hq,he,hvw⟩:=Foz hr
        have hbb:=Fhz hb3 he
        have hil:q * 5 + 5 ≤ es.length * 5:=by omega
        have h3:=EL_tak3 he
        have hcl:=cut_lens (d:=d.toNat) (f:=f) (t:=t) (w:=w) (hf:=hf) (ht:=ht) hbb.1 hbb.2
        unfold epO epE epV
        simp only [hvw]
        generalize hcB:cutB b x y d.toNat f t w hf ht=cB at *
        generalize hcS:cutSh x d.toNat f t w hf ht=cS at *
        generalize hcT:cutSt x y d.toNat f t w hf ht=cT at *
        cases hx:sdOk b x y d f t w hf ht with
        | false =>
          simp only [A8z]
          (repeat' (first
 | (first|refine Ahz ?_|refine Abz ?_)
 | ((first|refine Aiz ?_|refine B7z (mid:=l43r3a) (post:=l43r3b) [160,1000000010,2000000160] Baz (by decide) ?_|refine Afz ?_|refine Aoz ?_);simp (disch:=omega) only [push_cast,seval,l43r0,l43r1,l43r2,l43r3a,l43r3b,l43r3,l43r4,l43r5,l43r6,hv,hr,h8i,h3,hx,hil,hel,Aaz,E9z,MVL_false])
 | ((first|refine Alz false ?_|refine Atz false ?_);simp (disch:=omega) only [push_cast,seval,hv,hr,h8i,h3,hx,hil,hel,Aaz,E9z,MVL_false])
 | ((first|((first|refine Akz (Ajz (Azz _ _ _ _ ?_ ?_ ?_)) ?_|refine Agz (Ajz (Azz _ _ _ _ ?_ ?_ ?_)) ⟨_,_,rfl,rfl⟩ ?_);(iterate 3 (exact sd));rintro _ _ ⟨rfl,rfl⟩)|((first|refine Akz (Ajz (Blz _ _ _ _ _ ?_ ?_ ?_)) ?_|refine Agz (Ajz (Blz _ _ _ _ _ ?_ ?_ ?_)) ⟨_,_,rfl,rfl⟩ ?_);(iterate 3 (exact sd));rintro _ _ ⟨rfl,rfl⟩)|((first|refine Akz (Csz _ _ _ _ _ _ _ _ _ _ _ ?_ ?_ ?_) ?_|refine Agz (Csz _ _ _ _ _ _ _ _ _ _ _ ?_ ?_ ?_) ⟨_,_,rfl,rfl⟩ ?_);(iterate 3 (exact sd));rintro _ _ ⟨rfl,rfl⟩))<;>(try simp (disch:=omega) only [push_cast,seval,hv,hr,h8i,h3,hx,hil,hel,Aaz,E9z,MVL_false]))
 | (refine Adz ⟨.inr rfl,[16000,16001],[(16000,1),(16001,5)],_,by decide,rfl,?_⟩; (try simp (disch := omega) only [push_cast,seval,↓Aez,↓Acz,↓List.map_cons,↓List.map_nil,hv,hr,h8i,h3,hx,hil,hel,Aaz,E9z,MVL_false]))))
          all_goals simp [OBs,EL]
        | true =>
          simp only [Dfz]
          have hadd:(cS.length ≤ 1099511627776 ∧ cT.length ≤ 1099511627776) ∧ cs.length ≤ 1099511627776 ∧ es.length ≤ 1000 ∧ exB 1099511627776 es:=⟨hcl,hb1,by omega,hb3⟩
          (repeat' (first
 | (first|refine Ahz ?_|refine Abz ?_)
 | ((first|refine Aiz ?_|refine B7z (mid:=l43r3a) (post:=l43r3b) [160,1000000010,2000000160] Baz (by decide) ?_|refine Afz ?_|refine Aoz ?_);simp (disch:=omega) only [push_cast,seval,l43r0,l43r1,l43r2,l43r3a,l43r3b,l43r3,l43r4,l43r5,l43r6,hv,hr,h8i,h3,hx,hil,hcB,hcS,hcT,hel,Aaz,F4z,MVL_true])
 | ((first|refine Alz false ?_|refine Atz false ?_);simp (disch:=omega) only [push_cast,seval,hv,hr,h8i,h3,hx,hil,hcB,hcS,hcT,hel,Aaz,F4z,MVL_true])
 | ((first|((first|refine Akz (Ajz (Azz _ _ _ _ ?_ ?_ ?_)) ?_|refine Agz (Ajz (Azz _ _ _ _ ?_ ?_ ?_)) ⟨_,_,rfl,rfl⟩ ?_);(iterate 3 (exact sd));rintro _ _ ⟨rfl,rfl⟩)|((first|refine Akz (Ajz (Blz _ _ _ _ _ ?_ ?_ ?_)) ?_|refine Agz (Ajz (Blz _ _ _ _ _ ?_ ?_ ?_)) ⟨_,_,rfl,rfl⟩ ?_);(iterate 3 (exact sd));rintro _ _ ⟨rfl,rfl⟩)|((first|refine Akz (Csz _ _ _ _ _ _ _ _ _ _ _ ?_ ?_ ?_) ?_|refine Agz (Csz _ _ _ _ _ _ _ _ _ _ _ ?_ ?_ ?_) ⟨_,_,rfl,rfl⟩ ?_);(iterate 3 (exact sd));rintro _ _ ⟨rfl,rfl⟩)|((first|refine Akz (Igz _ _ _ _ _ _ _ _ _ _ ?_ ?_ ?_ ?_ ?_) ?_|refine Agz (Igz _ _ _ _ _ _ _ _ _ _ ?_ ?_ ?_ ?_ ?_) ⟨_,_,rfl,rfl⟩ ?_);(iterate 5 (exact sd));rintro _ _ ⟨rfl,rfl⟩))<;>(try simp (disch:=omega) only [push_cast,seval,hv,hr,h8i,h3,hx,hil,hcB,hcS,hcT,hel,Aaz,F4z,MVL_true]))
 | (refine Adz ⟨.inr rfl,[736,737],[],_,by decide,rfl,?_⟩; (try simp (disch := omega) only [push_cast,seval,↓Aez,↓Acz,↓List.map_cons,↓List.map_nil,hv,hr,h8i,h3,hx,hil,hcB,hcS,hcT,hel,Aaz,F4z,MVL_true]))))
          all_goals simp [OBs]

end Go.Proofs.YtfccepgibbdfaaaDoor
namespace Go.Proofs.YtfccepgibbdfaaaDoor
open VwM Vw Go
variable [PowA]

def nbN (s:Int):Nat:=if 0 ≤ s ∧ s ≤ 60 then s.toNat else 0
theorem nbN_le (s:Int):nbN s ≤ 60:=by unfold nbN;split<;>omega


theorem Hiz (s:Int):BCall Tryd.prog 33 [.int .i64 s] [] (fun r H'=>r=.agg [.own 0 (nbN s) 1,.own 1 0 5] ∧ H'=[IL (List.replicate (nbN s) 0),[]]):=by
  refine Axz (pins:=[]) (pin:=0) l33_eq rfl rfl rfl ?_
  by_cases h:0 ≤ s ∧ s ≤ 60
  · have hw:(decide (0 ≤ s) && decide (s ≤ 60))=true:=by rw [Bool.and_eq_true,decide_eq_true_eq,decide_eq_true_eq];exact h
    have hN:nbN s=s.toNat:=if_pos h
    rw [hN]
    obtain ⟨n,rfl⟩:∃ n:Nat,s=n:=⟨s.toNat,by omega⟩
    rw [Int.toNat_natCast]
    (repeat' (first
 | (first|refine Ahz ?_|refine Abz ?_)
 | ((first|refine Aiz ?_|refine Afz ?_|refine Aoz ?_);simp (disch:=omega) only [push_cast,seval,l33r0,l33r1,l33r2,l33r3,hw])
 | ((first|refine Alz false ?_);simp (disch:=omega) only [push_cast,seval,hw])
 | ((first|((first|refine Akz (Ajz (Apz _ _ _)) ?_|refine Agz (Ajz (Apz _ _ _)) ⟨_,_,rfl,rfl⟩ ?_);rintro _ _ ⟨rfl,rfl⟩))<;>(try simp (disch:=omega) only [push_cast,seval,hw]))
 | (refine Adz ⟨.inr rfl,[128,16000],[(16000,5)],_,by decide,rfl,?_⟩;(try simp (disch:=omega) only [push_cast,seval,↓Aez,↓Acz,↓List.map_cons,↓List.map_nil,hw]))))
    all_goals (try simp)
  · have hw:(decide (0 ≤ s) && decide (s ≤ 60))=false:=by rw [Bool.and_eq_false_iff,decide_eq_false_iff_not,decide_eq_false_iff_not];omega
    have hN:nbN s=0:=if_neg h
    rw [hN]
    (repeat' (first
 | (first|refine Ahz ?_|refine Abz ?_)
 | ((first|refine Aiz ?_|refine Afz ?_);simp (disch:=omega) only [push_cast,seval,l33r0,l33r1,l33r2,l33r3,hw])
 | ((first|refine Alz false ?_);simp (disch:=omega) only [push_cast,seval,hw])
 | ((first|((first|refine Akz (Ajz (Apz _ _ _)) ?_|refine Agz (Ajz (Apz _ _ _)) ⟨_,_,rfl,rfl⟩ ?_);rintro _ _ ⟨rfl,rfl⟩))<;>(try simp (disch:=omega) only [push_cast,seval,hw]))
 | (refine Adz ⟨.inr rfl,[16000,16016],[(16000,1),(16016,5)],_,by decide,rfl,?_⟩;(try simp (disch:=omega) only [push_cast,seval,↓Aez,↓Acz,↓List.map_cons,↓List.map_nil,hw]))))
    all_goals (try simp)

end Go.Proofs.YtfccepgibbdfaaaDoor
