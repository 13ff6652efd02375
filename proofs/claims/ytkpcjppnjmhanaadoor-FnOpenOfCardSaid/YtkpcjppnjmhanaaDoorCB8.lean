/- Texts of this verifier. -/
import Derived.Test.YtkpcjppnjmhanaaDoorCB7
import Derived.Test.YtkpcjppnjmhanaaDoorCM1
import Derived.Test.YtkpcjppnjmhanaaDoorCW3
set_option maxHeartbeats 4000000
set_option linter.unusedSimpArgs false
set_option linter.unusedSectionVars false
set_option linter.unusedVariables false
set_option maxRecDepth 4000
namespace Go.Proofs.YtkpcjppnjmhanaaDoor
open VwM Vw Go
variable [SentA]

abbrev OBs (ok:Bool) (cs:List Int) (es:List Ex):AV → List (List AV) → Prop:=fun r H'=>r=.tup [.agg [.own 0 cs.length 1,.own 1 es.length 5],.bool ok] ∧ H'=[IL cs,EL true es]
abbrev OBf (ok:Bool) (cs:List Int) (es:List Ex):AV → List (List AV) → Prop:=fun r H'=>r=.tup [.agg [.own 0 cs.length 1,.own 1 es.length 5],.bool ok] ∧ H'=IL cs :: (esF es).cellsG (· + 2) :: (esF es).conts
theorem Jiz:(esF ([]:List Ex)).cellsG (· + 2)=[] ∧ (esF ([]:List Ex)).conts=[]:=⟨rfl,rfl⟩
/-- What comes of it if 'g' holds. -/
def ifB {α:Type} (g:Bool) (l:List α):List α:=if g=true then l else []
theorem Bjz {α:Type} (l:List α):ifB true l=l:=rfl
theorem Bgz {α:Type} (l:List α):ifB false l=[]:=rfl
def relG (cs:List Int) (es:List Ex) (id:Int):Bool:=(vB cs es && opA es id) && decide ((kidsT es id es.length).length=0)


set_option maxHeartbeats 8000000 in
theorem sRel_ok (cs:List Int) (es:List Ex) (m n:Nat) (id:Int) (hm:cs.length=m) (hn:es.length=n) (hb:m ≤ 1099511627776 ∧ n ≤ 1099511627776 ∧ exB 1099511627776 es) :
    BCall Tryd.prog 81 [.agg [.rows false (IL cs) m,.rows false (EL false es) n],.int .i64 id] [] (OBs (relG cs es id) (ifB (relG cs es id) cs) (ifB (relG cs es id) (relE es id.toNat))):=by
  subst hm hn
  have hb0:=hb
  obtain ⟨hb1,hb2,hb3⟩:=hb
  have hel:=A6z false es
  have helt:=A6z true es
  refine A3z (pins:=[]) (pin:=0) l81_eq rfl rfl rfl ?_
  unfold relG
  cases hv:vB cs es with
  | false =>
    simp only [Bool.false_and,Bgz]
    (repeat' (first
 | (first|refine Apz ?_|refine Aiz ?_)
 | ((first|refine Aqz ?_|refine Ahz ?_|refine Ajz ?_|refine Akz ?_);simp (disch:=omega) only [push_cast,seval,l81r0,l81r1,l81r2,l81r3,l81r4,l81r5,hv,hel,Aaz])
 | ((first|refine Acz ?_ ?_|refine Agz ?_ ?_|refine Afz ?_ ?_)<;>intro h<;>(try simp only [h])<;>(try simp only [bitvec_to_nat] at h)<;>(try simp only [h])<;>(first|(exfalso;omega)|(exfalso;simp_all;done)|(simp (disch:=omega) only [push_cast,seval,hv,hel,Aaz])|skip))
 | ((first|refine Arz false ?_|refine Amz false ?_);simp (disch:=omega) only [push_cast,seval,hv,hel,Aaz])
 | ((first|((first|refine Adz (Aez (A9z _ _ _ _ ?_ ?_ ?_)) ?_|refine Abz (Aez (A9z _ _ _ _ ?_ ?_ ?_)) ⟨_,_,rfl,rfl⟩ ?_);(iterate 3 (exact sd));rintro _ _ ⟨rfl,rfl⟩)|((first|refine Adz (Aez (Bmz _ _ _ _ _ ?_ ?_ ?_)) ?_|refine Abz (Aez (Bmz _ _ _ _ _ ?_ ?_ ?_)) ⟨_,_,rfl,rfl⟩ ?_);(iterate 3 (exact sd));rintro _ _ ⟨rfl,rfl⟩)|((first|refine Adz (Eqz _ _ _ _ _ ?_ ?_ ?_) ?_|refine Abz (Eqz _ _ _ _ _ ?_ ?_ ?_) ⟨_,_,rfl,rfl⟩ ?_);(iterate 3 (exact sd));rintro _ _ ⟨rfl,rfl⟩)|((first|refine Adz (Bzz _ _ _ _ ?_ ?_ ?_) ?_|refine Abz (Bzz _ _ _ _ ?_ ?_ ?_) ⟨_,_,rfl,rfl⟩ ?_);(iterate 3 (exact sd));rintro _ _ ⟨rfl,rfl⟩))<;>(try simp (disch:=omega) only [push_cast,seval,hv,hel,Aaz]))
 | (refine Anz ⟨.inr rfl,[16000,16001],[(16000,1),(16001,5)],_,by decide,rfl,?_⟩;(try simp (disch:=omega) only [push_cast,seval,↓Aoz,↓Alz,↓List.map_cons,↓List.map_nil,hv,hel,Aaz]))))
    all_goals simp [OBs,EL]
  | true =>
    obtain ⟨v1,v2,v3⟩:=vB_8 hv
    cases hr:opA es id with
    | false =>
      simp only [Bool.true_and,Bool.false_and,Bgz]
      (repeat' (first
 | (first|refine Apz ?_|refine Aiz ?_)
 | ((first|refine Aqz ?_|refine Ahz ?_|refine Ajz ?_|refine Akz ?_);simp (disch:=omega) only [push_cast,seval,l81r0,l81r1,l81r2,l81r3,l81r4,l81r5,hv,hr,hel,Aaz])
 | ((first|refine Acz ?_ ?_|refine Agz ?_ ?_|refine Afz ?_ ?_)<;>intro h<;>(try simp only [h])<;>(try simp only [bitvec_to_nat] at h)<;>(try simp only [h])<;>(first|(exfalso;omega)|(exfalso;simp_all;done)|(simp (disch:=omega) only [push_cast,seval,hv,hr,hel,Aaz])|skip))
 | ((first|refine Arz false ?_|refine Amz false ?_);simp (disch:=omega) only [push_cast,seval,hv,hr,hel,Aaz])
 | ((first|((first|refine Adz (Aez (A9z _ _ _ _ ?_ ?_ ?_)) ?_|refine Abz (Aez (A9z _ _ _ _ ?_ ?_ ?_)) ⟨_,_,rfl,rfl⟩ ?_);(iterate 3 (exact sd));rintro _ _ ⟨rfl,rfl⟩)|((first|refine Adz (Aez (Bmz _ _ _ _ _ ?_ ?_ ?_)) ?_|refine Abz (Aez (Bmz _ _ _ _ _ ?_ ?_ ?_)) ⟨_,_,rfl,rfl⟩ ?_);(iterate 3 (exact sd));rintro _ _ ⟨rfl,rfl⟩)|((first|refine Adz (Eqz _ _ _ _ _ ?_ ?_ ?_) ?_|refine Abz (Eqz _ _ _ _ _ ?_ ?_ ?_) ⟨_,_,rfl,rfl⟩ ?_);(iterate 3 (exact sd));rintro _ _ ⟨rfl,rfl⟩)|((first|refine Adz (Bzz _ _ _ _ ?_ ?_ ?_) ?_|refine Abz (Bzz _ _ _ _ ?_ ?_ ?_) ⟨_,_,rfl,rfl⟩ ?_);(iterate 3 (exact sd));rintro _ _ ⟨rfl,rfl⟩))<;>(try simp (disch:=omega) only [push_cast,seval,hv,hr,hel,Aaz]))
 | (refine Anz ⟨.inr rfl,[16000,16001],[(16000,1),(16001,5)],_,by decide,rfl,?_⟩;(try simp (disch:=omega) only [push_cast,seval,↓Aoz,↓Alz,↓List.map_cons,↓List.map_nil,hv,hr,hel,Aaz]))))
      all_goals simp [OBs,EL]
    | true =>
      obtain ⟨q,p,b,x,y,rfl,hq,he,hvw⟩:=Huz hr
      have hrel:=EL_rel (b:=true) he
      have hrl:=A4z es q
      have hil:q * 5 + 5 ≤ es.length * 5:=by omega
      simp only [Bool.true_and,Int.toNat_natCast]
      generalize hK:kidsT es (q:Int) es.length=K at *
      by_cases hk0:K.length=0
      · have hkd:decide (K.length=0)=true:=decide_eq_true hk0
        rw [hkd,Bjz,Bjz]
        (repeat' (first
 | (first|refine Apz ?_|refine Aiz ?_)
 | ((first|refine Aqz ?_|refine Ahz ?_|refine Ajz ?_|refine Akz ?_);simp (disch:=omega) only [push_cast,seval,l81r0,l81r1,l81r2,l81r3,l81r4,l81r5,hv,hr,hK,hk0,hil,hel,helt,hrel,Aaz])
 | ((first|refine Acz ?_ ?_|refine Agz ?_ ?_|refine Afz ?_ ?_)<;>intro h<;>(try simp only [h])<;>(try simp only [bitvec_to_nat] at h)<;>(try simp only [h])<;>(first|(exfalso;omega)|(exfalso;simp_all;done)|(simp (disch:=omega) only [push_cast,seval,hv,hr,hK,hk0,hil,hel,helt,hrel,Aaz])|skip))
 | ((first|refine Arz false ?_|refine Amz false ?_);simp (disch:=omega) only [push_cast,seval,hv,hr,hK,hk0,hil,hel,helt,hrel,Aaz])
 | ((first|((first|refine Adz (Aez (A9z _ _ _ _ ?_ ?_ ?_)) ?_|refine Abz (Aez (A9z _ _ _ _ ?_ ?_ ?_)) ⟨_,_,rfl,rfl⟩ ?_);(iterate 3 (exact sd));rintro _ _ ⟨rfl,rfl⟩)|((first|refine Adz (Aez (Bmz _ _ _ _ _ ?_ ?_ ?_)) ?_|refine Abz (Aez (Bmz _ _ _ _ _ ?_ ?_ ?_)) ⟨_,_,rfl,rfl⟩ ?_);(iterate 3 (exact sd));rintro _ _ ⟨rfl,rfl⟩)|((first|refine Adz (Eqz _ _ _ _ _ ?_ ?_ ?_) ?_|refine Abz (Eqz _ _ _ _ _ ?_ ?_ ?_) ⟨_,_,rfl,rfl⟩ ?_);(iterate 3 (exact sd));rintro _ _ ⟨rfl,rfl⟩)|((first|refine Adz (Bzz _ _ _ _ ?_ ?_ ?_) ?_|refine Abz (Bzz _ _ _ _ ?_ ?_ ?_) ⟨_,_,rfl,rfl⟩ ?_);(iterate 3 (exact sd));rintro _ _ ⟨rfl,rfl⟩))<;>(try simp (disch:=omega) only [push_cast,seval,hv,hr,hK,hk0,hil,hel,helt,hrel,Aaz]))
 | (refine Anz ⟨.inr rfl,[400,401],[],_,by decide,rfl,?_⟩;(try simp (disch:=omega) only [push_cast,seval,↓Aoz,↓Alz,↓List.map_cons,↓List.map_nil,hv,hr,hK,hk0,hil,hel,helt,hrel,Aaz]))))
        all_goals simp [OBs,hrl]
      · have hkd:decide (K.length=0)=false:=decide_eq_false hk0
        rw [hkd,Bgz,Bgz]
        (repeat' (first
 | (first|refine Apz ?_|refine Aiz ?_)
 | ((first|refine Aqz ?_|refine Ahz ?_|refine Ajz ?_|refine Akz ?_);simp (disch:=omega) only [push_cast,seval,l81r0,l81r1,l81r2,l81r3,l81r4,l81r5,hv,hr,hK,hk0,hil,hel,Aaz])
 | ((first|refine Acz ?_ ?_|refine Agz ?_ ?_|refine Afz ?_ ?_)<;>intro h<;>(try simp only [h])<;>(try simp only [bitvec_to_nat] at h)<;>(try simp only [h])<;>(first|(exfalso;omega)|(exfalso;simp_all;done)|(simp (disch:=omega) only [push_cast,seval,hv,hr,hK,hk0,hil,hel,Aaz])|skip))
 | ((first|refine Arz false ?_|refine Amz false ?_);simp (disch:=omega) only [push_cast,seval,hv,hr,hK,hk0,hil,hel,Aaz])
 | ((first|((first|refine Adz (Aez (A9z _ _ _ _ ?_ ?_ ?_)) ?_|refine Abz (Aez (A9z _ _ _ _ ?_ ?_ ?_)) ⟨_,_,rfl,rfl⟩ ?_);(iterate 3 (exact sd));rintro _ _ ⟨rfl,rfl⟩)|((first|refine Adz (Aez (Bmz _ _ _ _ _ ?_ ?_ ?_)) ?_|refine Abz (Aez (Bmz _ _ _ _ _ ?_ ?_ ?_)) ⟨_,_,rfl,rfl⟩ ?_);(iterate 3 (exact sd));rintro _ _ ⟨rfl,rfl⟩)|((first|refine Adz (Eqz _ _ _ _ _ ?_ ?_ ?_) ?_|refine Abz (Eqz _ _ _ _ _ ?_ ?_ ?_) ⟨_,_,rfl,rfl⟩ ?_);(iterate 3 (exact sd));rintro _ _ ⟨rfl,rfl⟩)|((first|refine Adz (Bzz _ _ _ _ ?_ ?_ ?_) ?_|refine Abz (Bzz _ _ _ _ ?_ ?_ ?_) ⟨_,_,rfl,rfl⟩ ?_);(iterate 3 (exact sd));rintro _ _ ⟨rfl,rfl⟩))<;>(try simp (disch:=omega) only [push_cast,seval,hv,hr,hK,hk0,hil,hel,Aaz]))
 | (refine Anz ⟨.inr rfl,[16000,16001],[(16000,1),(16001,5)],_,by decide,rfl,?_⟩;(try simp (disch:=omega) only [push_cast,seval,↓Aoz,↓Alz,↓List.map_cons,↓List.map_nil,hv,hr,hK,hk0,hil,hel,Aaz]))))
        all_goals simp [OBs,EL]




set_option maxHeartbeats 8000000 in
theorem Jpz (cs:List Int) (es:List Ex) (m n:Nat) (id:Int) (hm:cs.length=m) (hn:es.length=n) (hb:m ≤ 1048576 ∧ n ≤ 1048576 ∧ exB 1048576 es) :
    BCall Tryd.prog 19 [.agg [.rows false (IL cs) m,.rows false (EL false es) n],.int .i64 id] [] (OBf (relG cs es id) (ifB (relG cs es id) cs) (ifB (relG cs es id) (relE es id.toNat))):=by
  subst hm hn
  have hb0:=hb
  obtain ⟨hb1,hb2,hb3⟩:=hb
  have hq8:cs.length ≤ 1099511627776 ∧ es.length ≤ 1099511627776 ∧ exB 1099511627776 es:=⟨by omega,by omega,fun e he=>by have:=hb3 e he;omega⟩
  have hel:=A6z false es
  refine A3z (pins:=[]) (pin:=0) l19_eq rfl rfl rfl ?_
  unfold relG
  cases hc:(vB cs es && opA es id) with
  | false =>
    simp only [Bool.false_and,Bgz]
    (repeat' (first
 | (first|refine Apz ?_|refine Aiz ?_)
 | ((first|refine Aqz ?_|refine Asz (mid:=l19r1a) (post:=l19r1b) Axz (by decide) ?_|refine Ahz ?_|refine Ajz ?_|refine Akz ?_);simp (disch:=omega) only [push_cast,seval,l19r0,l19r1a,l19r1b,l19r1,l19r2,l19r3,l19r4,l19r5,hc,hel,Aaz])
 | ((first|refine Acz ?_ ?_|refine Agz ?_ ?_|refine Afz ?_ ?_)<;>intro h<;>(try simp only [h])<;>(try simp only [bitvec_to_nat] at h)<;>(try simp only [h])<;>(first|(exfalso;omega)|(exfalso;simp_all;done)|(simp (disch:=omega) only [push_cast,seval,hc,hel,Aaz])|skip))
 | ((first|((with_reducible refine Arz (f:=37) false ?_);simp (disch:=omega) only [push_cast,seval,hc,hel,Aaz];(refine J2z (Glz _ _ _ _ ?_ ?_ ?_) (by (simp (disch:=omega) only [push_cast,seval,hc,hel,Aaz]);done) ?_;(iterate 3 (exact sd)))))<;>(try simp (disch:=omega) only [push_cast,seval,hc,hel,Aaz]))
 | ((first|refine Arz false ?_|refine Amz false ?_);simp (disch:=omega) only [push_cast,seval,hc,hel,Aaz])
 | ((first|((first|refine Adz (Aez (Koz _ _ _ _ _ ?_ ?_ ?_)) ?_|refine Abz (Aez (Koz _ _ _ _ _ ?_ ?_ ?_)) ⟨_,_,rfl,rfl⟩ ?_);(iterate 3 (exact sd));rintro _ _ ⟨rfl,rfl⟩)|((first|refine Adz (Aez (Bez _ _ _ _ _ ?_ ?_ ?_ ?_ ?_)) ?_|refine Abz (Aez (Bez _ _ _ _ _ ?_ ?_ ?_ ?_ ?_)) ⟨_,_,rfl,rfl⟩ ?_);(iterate 5 (exact sd));rintro _ _ ⟨rfl,rfl⟩)|((first|refine Adz (Aez (Btz _ _ ?_ ?_)) ?_|refine Abz (Aez (Btz _ _ ?_ ?_)) ⟨_,_,rfl,rfl⟩ ?_);(iterate 2 (exact sd));rintro _ _ ⟨rfl,rfl⟩)|((first|refine Adz (Aez (A8z _)) ?_|refine Abz (Aez (A8z _)) ⟨_,_,rfl,rfl⟩ ?_);rintro _ _ ⟨rfl,rfl⟩))<;>(try simp (disch:=omega) only [push_cast,seval,hc,hel,Aaz]))
 | (refine Anz ⟨.inr rfl,[16000,16001],[(16000,1),(16001,5)],_,by decide,rfl,?_⟩;(try simp (disch:=omega) only [push_cast,seval,↓Aoz,↓Alz,↓List.map_cons,↓List.map_nil,hc,hel,Aaz]))))
    all_goals simp [OBf,Jiz]
  | true =>
    have hc2:=hc
    rw [Bool.and_eq_true] at hc2
    obtain ⟨hv,hr⟩:=hc2
    obtain ⟨v1,v2,v3⟩:=vB_8 hv
    obtain ⟨q,p,b,x,y,rfl,hq,he,hvw⟩:=Huz hr
    have hrl:=A4z es q
    have hil:q * 5 + 5 ≤ es.length * 5:=by omega
    have hrF:=relE_F he
    simp only [Bool.true_and,Int.toNat_natCast]
    have hid:-1 ≤ (q:Int) ∧ (q:Int) < es.length:=by omega
    have hkl:=Ekz es (q:Int) es.length
    generalize hK:kidsT es (q:Int) es.length=K at *
    by_cases hk0:K.length=0
    · have hkd:decide (K.length=0)=true:=decide_eq_true hk0
      rw [hkd,Bjz,Bjz]
      have hset:((esF es).cellsG (fim 21)).set (q * 5 + 4) (.bool false)=(esF (relE es q)).cellsG (fim 21):=by rw [hrF];exact eF_set4 ..
      (repeat' (first
 | (first|refine Apz ?_|refine Aiz ?_)
 | ((first|refine Aqz ?_|refine Asz (mid:=l19r1a) (post:=l19r1b) Axz (by decide) ?_|refine Ahz ?_|refine Ajz ?_|refine Akz ?_);simp (disch:=omega) only [push_cast,seval,l19r0,l19r1a,l19r1b,l19r1,l19r2,l19r3,l19r4,l19r5,hc,hK,hk0,hil,hel,hset,Aaz,B4z,Bdz,Nat.lt_irrefl,decide_false])
 | ((first|refine Acz ?_ ?_|refine Agz ?_ ?_|refine Afz ?_ ?_)<;>intro h<;>(try simp only [h])<;>(try simp only [bitvec_to_nat] at h)<;>(try simp only [h])<;>(first|(exfalso;omega)|(exfalso;simp_all;done)|(simp (disch:=omega) only [push_cast,seval,hc,hK,hk0,hil,hel,hset,Aaz,B4z,Bdz,Nat.lt_irrefl,decide_false])|skip))
 | ((first|((with_reducible refine Arz (f:=37) false ?_);simp (disch:=omega) only [push_cast,seval,hc,hK,hk0,hil,hel,hset,Aaz,B4z,Bdz,Nat.lt_irrefl,decide_false];(refine J2z (Glz _ _ _ _ ?_ ?_ ?_) (by (simp (disch:=omega) only [push_cast,seval,hc,hK,hk0,hil,hel,hset,Aaz,B4z,Bdz,Nat.lt_irrefl,decide_false]);done) ?_;(iterate 3 (exact sd)))))<;>(try simp (disch:=omega) only [push_cast,seval,hc,hK,hk0,hil,hel,hset,Aaz,B4z,Bdz,Nat.lt_irrefl,decide_false]))
 | ((first|refine Arz false ?_|refine Amz false ?_);simp (disch:=omega) only [push_cast,seval,hc,hK,hk0,hil,hel,hset,Aaz,B4z,Bdz,Nat.lt_irrefl,decide_false])
 | ((first|((first|refine Adz (Aez (Koz _ _ _ _ _ ?_ ?_ ?_)) ?_|refine Abz (Aez (Koz _ _ _ _ _ ?_ ?_ ?_)) ⟨_,_,rfl,rfl⟩ ?_);(iterate 3 (exact sd));rintro _ _ ⟨rfl,rfl⟩)|((first|refine Adz (Aez (Bez _ _ _ _ _ ?_ ?_ ?_ ?_ ?_)) ?_|refine Abz (Aez (Bez _ _ _ _ _ ?_ ?_ ?_ ?_ ?_)) ⟨_,_,rfl,rfl⟩ ?_);(iterate 5 (exact sd));rintro _ _ ⟨rfl,rfl⟩)|((first|refine Adz (Aez (Btz _ _ ?_ ?_)) ?_|refine Abz (Aez (Btz _ _ ?_ ?_)) ⟨_,_,rfl,rfl⟩ ?_);(iterate 2 (exact sd));rintro _ _ ⟨rfl,rfl⟩)|((first|refine Adz (Aez (A8z _)) ?_|refine Abz (Aez (A8z _)) ⟨_,_,rfl,rfl⟩ ?_);rintro _ _ ⟨rfl,rfl⟩))<;>(try simp (disch:=omega) only [push_cast,seval,hc,hK,hk0,hil,hel,hset,Aaz,B4z,Bdz,Nat.lt_irrefl,decide_false]))))
      refine Anz ⟨.inr rfl,?_⟩
      have hRw:(esF (relE es q)).rows=exR es:=by rw [hrF];rfl
      have hRR:(esF (relE es q)).R=es.length * 2:=by rw [hrF];rfl
      simp only [OBf,hrl]
      refine ret_famW (id0:=336) (id1:=337) (d:=21) (F:=esF (relE es q)) (cs:=cs) (bufT cs.length es.length true) rfl rfl (fun _ _ _ _ e0 e1=>Ldz e0 e1) ?_ rfl ?_ (by omega)
      · simp only [hk,if_false];rfl
      · intro j hj
        rw [hRR] at hj
        rw [hRw]
        simp only [hk,A1z _ _ 64 (by omega),A1z _ _ 96 (by omega),A1z _ _ 336 (by omega),A1z _ _ 337 (by omega),if_false]
        exact Dkz 21 (esF es) _ j hj
    · have hkd:decide (K.length=0)=false:=decide_eq_false hk0
      have hk1:0 < K.length:=by omega
      rw [hkd,Bgz,Bgz]
      (repeat' (first
 | (first|refine Apz ?_|refine Aiz ?_)
 | ((first|refine Aqz ?_|refine Asz (mid:=l19r1a) (post:=l19r1b) Axz (by decide) ?_|refine Ahz ?_|refine Ajz ?_|refine Akz ?_);simp (disch:=omega) only [push_cast,seval,l19r0,l19r1a,l19r1b,l19r1,l19r2,l19r3,l19r4,l19r5,hc,hK,hk1,hil,hel,Aaz,B4z,Bdz,decide_true])
 | ((first|refine Acz ?_ ?_|refine Agz ?_ ?_|refine Afz ?_ ?_)<;>intro h<;>(try simp only [h])<;>(try simp only [bitvec_to_nat] at h)<;>(try simp only [h])<;>(first|(exfalso;omega)|(exfalso;simp_all;done)|(simp (disch:=omega) only [push_cast,seval,hc,hK,hk1,hil,hel,Aaz,B4z,Bdz,decide_true])|skip))
 | ((first|((with_reducible refine Arz (f:=37) false ?_);simp (disch:=omega) only [push_cast,seval,hc,hK,hk1,hil,hel,Aaz,B4z,Bdz,decide_true];(refine J2z (Glz _ _ _ _ ?_ ?_ ?_) (by (simp (disch:=omega) only [push_cast,seval,hc,hK,hk1,hil,hel,Aaz,B4z,Bdz,decide_true]);done) ?_;(iterate 3 (exact sd)))))<;>(try simp (disch:=omega) only [push_cast,seval,hc,hK,hk1,hil,hel,Aaz,B4z,Bdz,decide_true]))
 | ((first|refine Arz false ?_|refine Amz false ?_);simp (disch:=omega) only [push_cast,seval,hc,hK,hk1,hil,hel,Aaz,B4z,Bdz,decide_true])
 | ((first|((first|refine Adz (Aez (Koz _ _ _ _ _ ?_ ?_ ?_)) ?_|refine Abz (Aez (Koz _ _ _ _ _ ?_ ?_ ?_)) ⟨_,_,rfl,rfl⟩ ?_);(iterate 3 (exact sd));rintro _ _ ⟨rfl,rfl⟩)|((first|refine Adz (Aez (Bez _ _ _ _ _ ?_ ?_ ?_ ?_ ?_)) ?_|refine Abz (Aez (Bez _ _ _ _ _ ?_ ?_ ?_ ?_ ?_)) ⟨_,_,rfl,rfl⟩ ?_);(iterate 5 (exact sd));rintro _ _ ⟨rfl,rfl⟩)|((first|refine Adz (Aez (Btz _ _ ?_ ?_)) ?_|refine Abz (Aez (Btz _ _ ?_ ?_)) ⟨_,_,rfl,rfl⟩ ?_);(iterate 2 (exact sd));rintro _ _ ⟨rfl,rfl⟩)|((first|refine Adz (Aez (A8z _)) ?_|refine Abz (Aez (A8z _)) ⟨_,_,rfl,rfl⟩ ?_);rintro _ _ ⟨rfl,rfl⟩))<;>(try simp (disch:=omega) only [push_cast,seval,hc,hK,hk1,hil,hel,Aaz,B4z,Bdz,decide_true]))
 | (refine Anz ⟨.inr rfl,[16000,16001],[(16000,1),(16001,5)],_,by decide,rfl,?_⟩;(try simp (disch:=omega) only [push_cast,seval,↓Aoz,↓Alz,↓List.map_cons,↓List.map_nil,hc,hK,hk1,hil,hel,Aaz,B4z,Bdz,decide_true]))))
      all_goals simp [OBf,Jiz]

end Go.Proofs.YtkpcjppnjmhanaaDoor
namespace Go.Proofs.YtkpcjppnjmhanaaDoor
open VwM Vw Go
variable [SentA]

end Go.Proofs.YtkpcjppnjmhanaaDoor
namespace Go.Proofs.YtkpcjppnjmhanaaDoor
open VwM Vw Go
variable [SentA]



set_option maxHeartbeats 8000000 in
theorem Cqz (cs:List Int) (es:List Ex) (m n:Nat) (p b:Int) (x y:List Int) (k l:Nat) (hm:cs.length=m) (hn:es.length=n) (hk:x.length=k) (hl:y.length=l) (hb:(k ≤ 1099511627776 ∧ l ≤ 1099511627776) ∧ m ≤ 1099511627776 ∧ n ≤ 1000 ∧ exB 1099511627776 es) :
    BCall Tryd.prog 85 [.agg [.rows false (IL cs) m,.rows false (EL false es) n],.int .i64 p,.agg [.int .i64 b,.rows false (IL x) k,.rows false (IL y) l]] [] (fun r H'=>r=.agg [.own 0 m 1,.own 1 (n + 1) 5] ∧ H'=[IL cs,EL true (es ++ [(p,(b,x,y),true)])]):=by
  subst hm hn hk hl
  obtain ⟨⟨hbx,hby⟩,hb1,hb2,hb3⟩:=hb
  have hq:cs.length ≤ 1099511627776 ∧ es.length ≤ 1099511627776 ∧ exB 1099511627776 es:=⟨hb1,by omega,hb3⟩
  have hel:=A6z true es
  have ha:=Iaz true es [(p,(b,x,y),true)]
  simp only [EL] at ha
  refine A3z (pins:=[]) (pin:=0) l85_eq rfl rfl rfl ?_
  (repeat' (first
 | (first|refine Apz ?_|refine Aiz ?_)
 | ((first|refine Aqz ?_|refine Asz (mid:=l85r2a) (post:=l85r2b) Axz (by decide) ?_|refine Ahz ?_|refine Ajz ?_|refine Akz ?_);simp (disch:=omega) only [push_cast,seval,l85r0,l85r1,l85r2a,l85r2b,l85r2,l85r3,hel,ha,Aaz,zcX,List.map_append,List.length_map])
 | ((first|refine Acz ?_ ?_|refine Agz ?_ ?_|refine Afz ?_ ?_)<;>intro h<;>(try simp only [h])<;>(try simp only [bitvec_to_nat] at h)<;>(try simp only [h])<;>(first|(exfalso;omega)|(exfalso;simp_all;done)|(simp (disch:=omega) only [push_cast,seval,hel,ha,Aaz,zcX,List.map_append,List.length_map])|skip))
 | ((first|refine Arz false ?_|refine Amz false ?_);simp (disch:=omega) only [push_cast,seval,hel,ha,Aaz,zcX,List.map_append,List.length_map])
 | ((first|((first|refine Adz (Bzz _ _ _ _ ?_ ?_ ?_) ?_|refine Abz (Bzz _ _ _ _ ?_ ?_ ?_) ⟨_,_,rfl,rfl⟩ ?_);(iterate 3 (exact sd));rintro _ _ ⟨rfl,rfl⟩)|((first|refine Adz (Bcz _ _ _ _ _ ?_ ?_ ?_) ?_|refine Abz (Bcz _ _ _ _ _ ?_ ?_ ?_) ⟨_,_,rfl,rfl⟩ ?_);(iterate 3 (exact sd));rintro _ _ ⟨rfl,rfl⟩))<;>(try simp (disch:=omega) only [push_cast,seval,hel,ha,Aaz,zcX,List.map_append,List.length_map]))
 | (refine Anz ⟨.inr rfl,[144,145],[],_,by decide,rfl,?_⟩;(try simp (disch:=omega) only [push_cast,seval,↓Aoz,↓Alz,↓List.map_cons,↓List.map_nil,hel,ha,Aaz,zcX,List.map_append,List.length_map]))))
  all_goals (try exact ⟨rfl,rfl⟩)
  all_goals (try rfl)


set_option maxHeartbeats 8000000 in
theorem Izz (cs:List Int) (es:List Ex) (xs:List Int) (m n k:Nat) (hm:cs.length=m) (hn:es.length=n) (hk:xs.length=k) (hb:m ≤ 1048576 ∧ n ≤ 1048576 ∧ exB 1048576 es) :
    BCall Tryd.prog 39 [.agg [.rows false (IL cs) m,.rows false (EL false es) n],.own 0 k 1,.bool true] [IL xs] (fun r H'=>r=.tup [.agg [.own 0 k 1,.own 1 n 5],.bool true] ∧ H'=IL xs :: (esF es).cellsG (· + 2) :: (esF es).conts):=by
  subst hm hn hk
  obtain ⟨hb1,hb2,hb3⟩:=hb
  have hel:=A6z false es
  refine A3z (pins:=[0]) (pin:=1) l39_eq rfl rfl rfl ?_
  (repeat' (first
 | (first|refine Apz ?_|refine Aiz ?_)
 | ((first|refine Aqz ?_|refine Ahz ?_|refine Ajz ?_|refine Akz ?_);simp (disch:=omega) only [push_cast,seval,l39r0,l39r1,l39r2,l39r3,l39r4,l39r5,hel,Aaz])
 | ((first|refine Acz ?_ ?_|refine Agz ?_ ?_|refine Afz ?_ ?_)<;>intro h<;>(try simp only [h])<;>(try simp only [bitvec_to_nat] at h)<;>(try simp only [h])<;>(first|(exfalso;omega)|(exfalso;simp_all;done)|(simp (disch:=omega) only [push_cast,seval,hel,Aaz])|skip))
 | ((first|((with_reducible refine Arz (f:=37) false ?_);simp (disch:=omega) only [push_cast,seval,hel,Aaz];(refine J2z (Glz _ _ _ _ ?_ ?_ ?_) (by (simp (disch:=omega) only [push_cast,seval,hel,Aaz]);done) ?_;(iterate 3 (exact sd)))))<;>(try simp (disch:=omega) only [push_cast,seval,hel,Aaz]))))
  refine Anz ⟨.inr rfl,ret_famP (id1:=209) (d:=13) (F:=esF es) (cs:=xs) (bufT xs.length es.length true) rfl rfl (fun _ _ _ _ e0 e1=>Ldz e0 e1) ?_ rfl ?_ (by omega)⟩
  · simp only [hk,if_false]
    rw [Hfz _ _ _ 0 (by omega)]
    rfl
  · intro j hj
    simp only [hk,A1z _ _ 96 (by omega),A1z _ _ 128 (by omega),A1z _ _ 208 (by omega),A1z _ _ 209 (by omega),if_false]
    exact Dkz 13 (esF es) _ j hj

end Go.Proofs.YtkpcjppnjmhanaaDoor
namespace Go.Proofs.YtkpcjppnjmhanaaDoor
open VwM Vw Go
variable [SentA]

def evG (cs:List Int) (es:List Ex) (b:Int) (x y:List Int):Bool:=(vB cs es && fitB b x y cs.length) && !decide (es.length=8)


set_option maxHeartbeats 8000000 in
theorem sEV_ok (cs:List Int) (es:List Ex) (m n:Nat) (b:Int) (x y:List Int) (k l:Nat) (hm:cs.length=m) (hn:es.length=n) (hk:x.length=k) (hl:y.length=l) (hb:(k ≤ 1099511627776 ∧ l ≤ 1099511627776) ∧ m ≤ 1099511627776 ∧ n ≤ 1099511627776 ∧ exB 1099511627776 es) :
    BCall Tryd.prog 77 [.agg [.rows false (IL cs) m,.rows false (EL false es) n],.agg [.int .i64 b,.rows false (IL x) k,.rows false (IL y) l]] [] (OBs (evG cs es b x y) (ifB (evG cs es b x y) cs) (ifB (evG cs es b x y) (es ++ [(-1,(b,x,y),true)]))):=by
  subst hm hn hk hl
  obtain ⟨⟨hbx,hby⟩,hb1,hb2,hb3⟩:=hb
  have hb0:cs.length ≤ 1099511627776 ∧ es.length ≤ 1099511627776 ∧ exB 1099511627776 es:=⟨hb1,hb2,hb3⟩
  have hel:=A6z false es
  refine A3z (pins:=[]) (pin:=0) l77_eq rfl rfl rfl ?_
  unfold evG
  cases hv:vB cs es with
  | false =>
    simp only [Bool.false_and,Bgz]
    (repeat' (first
 | (first|refine Apz ?_|refine Aiz ?_)
 | ((first|refine Aqz ?_|refine Ahz ?_|refine Ajz ?_|refine Akz ?_);simp (disch:=omega) only [push_cast,seval,l77r0,l77r1,l77r2,l77r3,hv,hel,Aaz])
 | ((first|refine Acz ?_ ?_|refine Agz ?_ ?_|refine Afz ?_ ?_)<;>intro h<;>(try simp only [h])<;>(try simp only [bitvec_to_nat] at h)<;>(try simp only [h])<;>(first|(exfalso;omega)|(exfalso;simp_all;done)|(simp (disch:=omega) only [push_cast,seval,hv,hel,Aaz])|skip))
 | ((first|refine Arz false ?_|refine Amz false ?_);simp (disch:=omega) only [push_cast,seval,hv,hel,Aaz])
 | ((first|((first|refine Adz (Aez (A9z _ _ _ _ ?_ ?_ ?_)) ?_|refine Abz (Aez (A9z _ _ _ _ ?_ ?_ ?_)) ⟨_,_,rfl,rfl⟩ ?_);(iterate 3 (exact sd));rintro _ _ ⟨rfl,rfl⟩)|((first|refine Adz (Aez (Avz _ _ _ _ _ ?_ ?_ ?_)) ?_|refine Abz (Aez (Avz _ _ _ _ _ ?_ ?_ ?_)) ⟨_,_,rfl,rfl⟩ ?_);(iterate 3 (exact sd));rintro _ _ ⟨rfl,rfl⟩)|((first|refine Adz (Aez (Buz _ _ _ _ _ _ ?_ ?_ ?_)) ?_|refine Abz (Aez (Buz _ _ _ _ _ _ ?_ ?_ ?_)) ⟨_,_,rfl,rfl⟩ ?_);(iterate 3 (exact sd));rintro _ _ ⟨rfl,rfl⟩)|((first|refine Adz (Cqz _ _ _ _ _ _ _ _ _ _ ?_ ?_ ?_ ?_ ?_) ?_|refine Abz (Cqz _ _ _ _ _ _ _ _ _ _ ?_ ?_ ?_ ?_ ?_) ⟨_,_,rfl,rfl⟩ ?_);(iterate 5 (exact sd));rintro _ _ ⟨rfl,rfl⟩))<;>(try simp (disch:=omega) only [push_cast,seval,hv,hel,Aaz]))
 | (refine Anz ⟨.inr rfl,[16000,16001],[(16000,1),(16001,5)],_,by decide,rfl,?_⟩;(try simp (disch:=omega) only [push_cast,seval,↓Aoz,↓Alz,↓List.map_cons,↓List.map_nil,hv,hel,Aaz]))))
    all_goals simp [OBs,EL]
  | true =>
    obtain ⟨v1,v2,v3⟩:=vB_8 hv
    cases hvv:vV b x y with
    | false =>
      have hf:fitB b x y cs.length=false:=by unfold fitB;rw [hvv];rfl
      simp only [hf,Bool.and_false,Bool.false_and,Bgz]
      (repeat' (first
 | (first|refine Apz ?_|refine Aiz ?_)
 | ((first|refine Aqz ?_|refine Ahz ?_|refine Ajz ?_|refine Akz ?_);simp (disch:=omega) only [push_cast,seval,l77r0,l77r1,l77r2,l77r3,hv,hvv,hel,Aaz])
 | ((first|refine Acz ?_ ?_|refine Agz ?_ ?_|refine Afz ?_ ?_)<;>intro h<;>(try simp only [h])<;>(try simp only [bitvec_to_nat] at h)<;>(try simp only [h])<;>(first|(exfalso;omega)|(exfalso;simp_all;done)|(simp (disch:=omega) only [push_cast,seval,hv,hvv,hel,Aaz])|skip))
 | ((first|refine Arz false ?_|refine Amz false ?_);simp (disch:=omega) only [push_cast,seval,hv,hvv,hel,Aaz])
 | ((first|((first|refine Adz (Aez (A9z _ _ _ _ ?_ ?_ ?_)) ?_|refine Abz (Aez (A9z _ _ _ _ ?_ ?_ ?_)) ⟨_,_,rfl,rfl⟩ ?_);(iterate 3 (exact sd));rintro _ _ ⟨rfl,rfl⟩)|((first|refine Adz (Aez (Avz _ _ _ _ _ ?_ ?_ ?_)) ?_|refine Abz (Aez (Avz _ _ _ _ _ ?_ ?_ ?_)) ⟨_,_,rfl,rfl⟩ ?_);(iterate 3 (exact sd));rintro _ _ ⟨rfl,rfl⟩)|((first|refine Adz (Aez (Buz _ _ _ _ _ _ ?_ ?_ ?_)) ?_|refine Abz (Aez (Buz _ _ _ _ _ _ ?_ ?_ ?_)) ⟨_,_,rfl,rfl⟩ ?_);(iterate 3 (exact sd));rintro _ _ ⟨rfl,rfl⟩)|((first|refine Adz (Cqz _ _ _ _ _ _ _ _ _ _ ?_ ?_ ?_ ?_ ?_) ?_|refine Abz (Cqz _ _ _ _ _ _ _ _ _ _ ?_ ?_ ?_ ?_ ?_) ⟨_,_,rfl,rfl⟩ ?_);(iterate 5 (exact sd));rintro _ _ ⟨rfl,rfl⟩))<;>(try simp (disch:=omega) only [push_cast,seval,hv,hvv,hel,Aaz]))
 | (refine Anz ⟨.inr rfl,[16000,16001],[(16000,1),(16001,5)],_,by decide,rfl,?_⟩;(try simp (disch:=omega) only [push_cast,seval,↓Aoz,↓Alz,↓List.map_cons,↓List.map_nil,hv,hvv,hel,Aaz]))))
      all_goals simp [OBs,EL]
    | true =>
      have hok:=(Ejz hvv).1
      have hf:fitB b x y cs.length=allI (offs b x y) 0 ((cs.length:Int) - 1):=by
        unfold fitB
        rw [hvv]
        have:(decide ((0:Int) ≤ cs.length) && decide ((cs.length:Int) ≤ 60))=true:=by rw [Bool.and_eq_true,decide_eq_true_eq,decide_eq_true_eq];omega
        rw [this];rfl
      rw [hf]
      cases ha:allI (offs b x y) 0 ((cs.length:Int) - 1) with
 | false =>
        simp only [Bool.and_false,Bool.false_and,Bgz]
        (repeat' (first
 | (first|refine Apz ?_|refine Aiz ?_)
 | ((first|refine Aqz ?_|refine Ahz ?_|refine Ajz ?_|refine Akz ?_);simp (disch:=omega) only [push_cast,seval,l77r0,l77r1,l77r2,l77r3,hv,hvv,ha,hel,Aaz])
 | ((first|refine Acz ?_ ?_|refine Agz ?_ ?_|refine Afz ?_ ?_)<;>intro h<;>(try simp only [h])<;>(try simp only [bitvec_to_nat] at h)<;>(try simp only [h])<;>(first|(exfalso;omega)|(exfalso;simp_all;done)|(simp (disch:=omega) only [push_cast,seval,hv,hvv,ha,hel,Aaz])|skip))
 | ((first|refine Arz false ?_|refine Amz false ?_);simp (disch:=omega) only [push_cast,seval,hv,hvv,ha,hel,Aaz])
 | ((first|((first|refine Adz (Aez (A9z _ _ _ _ ?_ ?_ ?_)) ?_|refine Abz (Aez (A9z _ _ _ _ ?_ ?_ ?_)) ⟨_,_,rfl,rfl⟩ ?_);(iterate 3 (exact sd));rintro _ _ ⟨rfl,rfl⟩)|((first|refine Adz (Aez (Avz _ _ _ _ _ ?_ ?_ ?_)) ?_|refine Abz (Aez (Avz _ _ _ _ _ ?_ ?_ ?_)) ⟨_,_,rfl,rfl⟩ ?_);(iterate 3 (exact sd));rintro _ _ ⟨rfl,rfl⟩)|((first|refine Adz (Aez (Buz _ _ _ _ _ _ ?_ ?_ ?_)) ?_|refine Abz (Aez (Buz _ _ _ _ _ _ ?_ ?_ ?_)) ⟨_,_,rfl,rfl⟩ ?_);(iterate 3 (exact sd));rintro _ _ ⟨rfl,rfl⟩)|((first|refine Adz (Cqz _ _ _ _ _ _ _ _ _ _ ?_ ?_ ?_ ?_ ?_) ?_|refine Abz (Cqz _ _ _ _ _ _ _ _ _ _ ?_ ?_ ?_ ?_ ?_) ⟨_,_,rfl,rfl⟩ ?_);(iterate 5 (exact sd));rintro _ _ ⟨rfl,rfl⟩))<;>(try simp (disch:=omega) only [push_cast,seval,hv,hvv,ha,hel,Aaz]))
 | (refine Anz ⟨.inr rfl,[16000,16001],[(16000,1),(16001,5)],_,by decide,rfl,?_⟩;(try simp (disch:=omega) only [push_cast,seval,↓Aoz,↓Alz,↓List.map_cons,↓List.map_nil,hv,hvv,ha,hel,Aaz]))))
        all_goals simp [OBs,EL]
 | true =>
        by_cases h8:es.length=8
        · have hd:(!decide (es.length=8))=false:=by simp [h8]
          have h8i:(es.length:Int)=8:=by omega
          simp only [hd,Bool.and_false,Bgz]
          (repeat' (first
 | (first|refine Apz ?_|refine Aiz ?_)
 | ((first|refine Aqz ?_|refine Ahz ?_|refine Ajz ?_|refine Akz ?_);simp (disch:=omega) only [push_cast,seval,l77r0,l77r1,l77r2,l77r3,hv,hvv,ha,h8i,hel,Aaz])
 | ((first|refine Acz ?_ ?_|refine Agz ?_ ?_|refine Afz ?_ ?_)<;>intro h<;>(try simp only [h])<;>(try simp only [bitvec_to_nat] at h)<;>(try simp only [h])<;>(first|(exfalso;omega)|(exfalso;simp_all;done)|(simp (disch:=omega) only [push_cast,seval,hv,hvv,ha,h8i,hel,Aaz])|skip))
 | ((first|refine Arz false ?_|refine Amz false ?_);simp (disch:=omega) only [push_cast,seval,hv,hvv,ha,h8i,hel,Aaz])
 | ((first|((first|refine Adz (Aez (A9z _ _ _ _ ?_ ?_ ?_)) ?_|refine Abz (Aez (A9z _ _ _ _ ?_ ?_ ?_)) ⟨_,_,rfl,rfl⟩ ?_);(iterate 3 (exact sd));rintro _ _ ⟨rfl,rfl⟩)|((first|refine Adz (Aez (Avz _ _ _ _ _ ?_ ?_ ?_)) ?_|refine Abz (Aez (Avz _ _ _ _ _ ?_ ?_ ?_)) ⟨_,_,rfl,rfl⟩ ?_);(iterate 3 (exact sd));rintro _ _ ⟨rfl,rfl⟩)|((first|refine Adz (Aez (Buz _ _ _ _ _ _ ?_ ?_ ?_)) ?_|refine Abz (Aez (Buz _ _ _ _ _ _ ?_ ?_ ?_)) ⟨_,_,rfl,rfl⟩ ?_);(iterate 3 (exact sd));rintro _ _ ⟨rfl,rfl⟩)|((first|refine Adz (Cqz _ _ _ _ _ _ _ _ _ _ ?_ ?_ ?_ ?_ ?_) ?_|refine Abz (Cqz _ _ _ _ _ _ _ _ _ _ ?_ ?_ ?_ ?_ ?_) ⟨_,_,rfl,rfl⟩ ?_);(iterate 5 (exact sd));rintro _ _ ⟨rfl,rfl⟩))<;>(try simp (disch:=omega) only [push_cast,seval,hv,hvv,ha,h8i,hel,Aaz]))
 | (refine Anz ⟨.inr rfl,[16000,16001],[(16000,1),(16001,5)],_,by decide,rfl,?_⟩; (try simp (disch := omega) only [push_cast,seval,↓Aoz,↓Alz,↓List.map_cons,↓List.map_nil,hv,hvv,ha,h8i,hel,Aaz]))))
          all_goals simp [OBs,EL]
        · have hd:(!decide (es.length=8))=true:=by simp [h8]
          have h8i:((es.length:Int)=8)=False:=eq_false (by omega)
          simp only [hd,Bool.and_true,Bjz]
          (repeat' (first
 | (first|refine Apz ?_|refine Aiz ?_)
 | ((first|refine Aqz ?_|refine Ahz ?_|refine Ajz ?_|refine Akz ?_);simp (disch:=omega) only [push_cast,seval,l77r0,l77r1,l77r2,l77r3,hv,hvv,ha,h8i,hel,Aaz])
 | ((first|refine Acz ?_ ?_|refine Agz ?_ ?_|refine Afz ?_ ?_)<;>intro h<;>(try simp only [h])<;>(try simp only [bitvec_to_nat] at h)<;>(try simp only [h])<;>(first|(exfalso;omega)|(exfalso;simp_all;done)|(simp (disch:=omega) only [push_cast,seval,hv,hvv,ha,h8i,hel,Aaz])|skip))
 | ((first|refine Arz false ?_|refine Amz false ?_);simp (disch:=omega) only [push_cast,seval,hv,hvv,ha,h8i,hel,Aaz])
 | ((first|((first|refine Adz (Aez (A9z _ _ _ _ ?_ ?_ ?_)) ?_|refine Abz (Aez (A9z _ _ _ _ ?_ ?_ ?_)) ⟨_,_,rfl,rfl⟩ ?_);(iterate 3 (exact sd));rintro _ _ ⟨rfl,rfl⟩)|((first|refine Adz (Aez (Avz _ _ _ _ _ ?_ ?_ ?_)) ?_|refine Abz (Aez (Avz _ _ _ _ _ ?_ ?_ ?_)) ⟨_,_,rfl,rfl⟩ ?_);(iterate 3 (exact sd));rintro _ _ ⟨rfl,rfl⟩)|((first|refine Adz (Aez (Buz _ _ _ _ _ _ ?_ ?_ ?_)) ?_|refine Abz (Aez (Buz _ _ _ _ _ _ ?_ ?_ ?_)) ⟨_,_,rfl,rfl⟩ ?_);(iterate 3 (exact sd));rintro _ _ ⟨rfl,rfl⟩)|((first|refine Adz (Cqz _ _ _ _ _ _ _ _ _ _ ?_ ?_ ?_ ?_ ?_) ?_|refine Abz (Cqz _ _ _ _ _ _ _ _ _ _ ?_ ?_ ?_ ?_ ?_) ⟨_,_,rfl,rfl⟩ ?_);(iterate 5 (exact sd));rintro _ _ ⟨rfl,rfl⟩))<;>(try simp (disch:=omega) only [push_cast,seval,hv,hvv,ha,h8i,hel,Aaz]))
 | (refine Anz ⟨.inr rfl,[496,497],[],_,by decide,rfl,?_⟩; (try simp (disch := omega) only [push_cast,seval,↓Aoz,↓Alz,↓List.map_cons,↓List.map_nil,hv,hvv,ha,h8i,hel,Aaz]))))
          all_goals simp [OBs]

end Go.Proofs.YtkpcjppnjmhanaaDoor
namespace Go.Proofs.YtkpcjppnjmhanaaDoor
open VwM Vw Go
variable [SentA]

def xfG (cs:List Int) (es:List Ex) (id v:Int):Bool:=(vB cs es && opA es id) && (decide (0 ≤ v) && decide (v ≤ 255))
def xfC (cs:List Int) (es:List Ex) (id v:Int):List Int:=filL cs (vwA es id).1 (vwA es id).2.1 (vwA es id).2.2 v
theorem Jwz (cs:List Int) (b:Int) (x y:List Int) (v:Int):(filL cs b x y v).length=cs.length:=Ehz ..


set_option maxHeartbeats 8000000 in
theorem sFE_ok (cs:List Int) (es:List Ex) (m n:Nat) (id v:Int) (hm:cs.length=m) (hn:es.length=n) (hb:m ≤ 1099511627776 ∧ n ≤ 1099511627776 ∧ exB 1099511627776 es) :
    BCall Tryd.prog 79 [.agg [.rows false (IL cs) m,.rows false (EL false es) n],.int .i64 id,.int .i64 v] [] (OBs (xfG cs es id v) (ifB (xfG cs es id v) (xfC cs es id v)) (ifB (xfG cs es id v) es)):=by
  subst hm hn
  have hb0:=hb
  obtain ⟨hb1,hb2,hb3⟩:=hb
  have hel:=A6z false es
  refine A3z (pins:=[]) (pin:=0) l79_eq rfl rfl rfl ?_
  unfold xfG
  cases hv:vB cs es with
  | false =>
    simp only [Bool.false_and,Bgz]
    (repeat' (first
 | (first|refine Apz ?_|refine Aiz ?_)
 | ((first|refine Aqz ?_|refine A5z (mid:=l79r4a) (post:=l79r4b) [128,1000000039] Axz (by decide) ?_|refine Ahz ?_|refine Ajz ?_|refine Akz ?_);simp (disch:=omega) only [push_cast,seval,l79r0,l79r1,l79r2,l79r3,l79r4a,l79r4b,l79r4,l79r5,hv,hel,Aaz])
 | ((first|refine Acz ?_ ?_|refine Agz ?_ ?_|refine Afz ?_ ?_)<;>intro h<;>(try simp only [h])<;>(try simp only [bitvec_to_nat] at h)<;>(try simp only [h])<;>(first|(exfalso;omega)|(exfalso;simp_all;done)|(simp (disch:=omega) only [push_cast,seval,hv,hel,Aaz])|skip))
 | ((first|refine Arz false ?_|refine Amz false ?_);simp (disch:=omega) only [push_cast,seval,hv,hel,Aaz])
 | ((first|((first|refine Adz (Aez (A9z _ _ _ _ ?_ ?_ ?_)) ?_|refine Abz (Aez (A9z _ _ _ _ ?_ ?_ ?_)) ⟨_,_,rfl,rfl⟩ ?_);(iterate 3 (exact sd));rintro _ _ ⟨rfl,rfl⟩)|((first|refine Adz (Aez (Bmz _ _ _ _ _ ?_ ?_ ?_)) ?_|refine Abz (Aez (Bmz _ _ _ _ _ ?_ ?_ ?_)) ⟨_,_,rfl,rfl⟩ ?_);(iterate 3 (exact sd));rintro _ _ ⟨rfl,rfl⟩)|((first|refine Adz (Aez (Auz _ _ _)) ?_|refine Abz (Aez (Auz _ _ _)) ⟨_,_,rfl,rfl⟩ ?_);rintro _ _ ⟨rfl,rfl⟩)|((first|refine Adz (Bzz _ _ _ _ ?_ ?_ ?_) ?_|refine Abz (Bzz _ _ _ _ ?_ ?_ ?_) ⟨_,_,rfl,rfl⟩ ?_);(iterate 3 (exact sd));rintro _ _ ⟨rfl,rfl⟩)|((first|refine Adz (Erz _ _ _ _ _ _ _ _ ?_ ?_ ?_ ?_) ?_|refine Abz (Erz _ _ _ _ _ _ _ _ ?_ ?_ ?_ ?_) ⟨_,_,rfl,rfl⟩ ?_);(iterate 4 (exact sd));rintro _ _ ⟨rfl,rfl⟩))<;>(try simp (disch:=omega) only [push_cast,seval,hv,hel,Aaz]))
 | (refine Anz ⟨.inr rfl,[16000,16001],[(16000,1),(16001,5)],_,by decide,rfl,?_⟩;(try simp (disch:=omega) only [push_cast,seval,↓Aoz,↓Alz,↓List.map_cons,↓List.map_nil,hv,hel,Aaz]))))
    all_goals simp [OBs,EL]
  | true =>
    obtain ⟨v1,v2,v3⟩:=vB_8 hv
    cases hr:opA es id with
    | false =>
      simp only [Bool.true_and,Bool.false_and,Bgz]
      (repeat' (first
 | (first|refine Apz ?_|refine Aiz ?_)
 | ((first|refine Aqz ?_|refine A5z (mid:=l79r4a) (post:=l79r4b) [128,1000000039] Axz (by decide) ?_|refine Ahz ?_|refine Ajz ?_|refine Akz ?_);simp (disch:=omega) only [push_cast,seval,l79r0,l79r1,l79r2,l79r3,l79r4a,l79r4b,l79r4,l79r5,hv,hr,hel,Aaz])
 | ((first|refine Acz ?_ ?_|refine Agz ?_ ?_|refine Afz ?_ ?_)<;>intro h<;>(try simp only [h])<;>(try simp only [bitvec_to_nat] at h)<;>(try simp only [h])<;>(first|(exfalso;omega)|(exfalso;simp_all;done)|(simp (disch:=omega) only [push_cast,seval,hv,hr,hel,Aaz])|skip))
 | ((first|refine Arz false ?_|refine Amz false ?_);simp (disch:=omega) only [push_cast,seval,hv,hr,hel,Aaz])
 | ((first|((first|refine Adz (Aez (A9z _ _ _ _ ?_ ?_ ?_)) ?_|refine Abz (Aez (A9z _ _ _ _ ?_ ?_ ?_)) ⟨_,_,rfl,rfl⟩ ?_);(iterate 3 (exact sd));rintro _ _ ⟨rfl,rfl⟩)|((first|refine Adz (Aez (Bmz _ _ _ _ _ ?_ ?_ ?_)) ?_|refine Abz (Aez (Bmz _ _ _ _ _ ?_ ?_ ?_)) ⟨_,_,rfl,rfl⟩ ?_);(iterate 3 (exact sd));rintro _ _ ⟨rfl,rfl⟩)|((first|refine Adz (Aez (Auz _ _ _)) ?_|refine Abz (Aez (Auz _ _ _)) ⟨_,_,rfl,rfl⟩ ?_);rintro _ _ ⟨rfl,rfl⟩)|((first|refine Adz (Bzz _ _ _ _ ?_ ?_ ?_) ?_|refine Abz (Bzz _ _ _ _ ?_ ?_ ?_) ⟨_,_,rfl,rfl⟩ ?_);(iterate 3 (exact sd));rintro _ _ ⟨rfl,rfl⟩)|((first|refine Adz (Erz _ _ _ _ _ _ _ _ ?_ ?_ ?_ ?_) ?_|refine Abz (Erz _ _ _ _ _ _ _ _ ?_ ?_ ?_ ?_) ⟨_,_,rfl,rfl⟩ ?_);(iterate 4 (exact sd));rintro _ _ ⟨rfl,rfl⟩))<;>(try simp (disch:=omega) only [push_cast,seval,hv,hr,hel,Aaz]))
 | (refine Anz ⟨.inr rfl,[16000,16001],[(16000,1),(16001,5)],_,by decide,rfl,?_⟩;(try simp (disch:=omega) only [push_cast,seval,↓Aoz,↓Alz,↓List.map_cons,↓List.map_nil,hv,hr,hel,Aaz]))))
      all_goals simp [OBs,EL]
    | true =>
      simp only [Bool.true_and]
      cases hx:(decide (0 ≤ v) && decide (v ≤ 255)) with
 | false =>
        simp only [Bgz]
        (repeat' (first
 | (first|refine Apz ?_|refine Aiz ?_)
 | ((first|refine Aqz ?_|refine A5z (mid:=l79r4a) (post:=l79r4b) [128,1000000039] Axz (by decide) ?_|refine Ahz ?_|refine Ajz ?_|refine Akz ?_);simp (disch:=omega) only [push_cast,seval,l79r0,l79r1,l79r2,l79r3,l79r4a,l79r4b,l79r4,l79r5,hv,hr,hx,hel,Aaz])
 | ((first|refine Acz ?_ ?_|refine Agz ?_ ?_|refine Afz ?_ ?_)<;>intro h<;>(try simp only [h])<;>(try simp only [bitvec_to_nat] at h)<;>(try simp only [h])<;>(first|(exfalso;omega)|(exfalso;simp_all;done)|(simp (disch:=omega) only [push_cast,seval,hv,hr,hx,hel,Aaz])|skip))
 | ((first|refine Arz false ?_|refine Amz false ?_);simp (disch:=omega) only [push_cast,seval,hv,hr,hx,hel,Aaz])
 | ((first|((first|refine Adz (Aez (A9z _ _ _ _ ?_ ?_ ?_)) ?_|refine Abz (Aez (A9z _ _ _ _ ?_ ?_ ?_)) ⟨_,_,rfl,rfl⟩ ?_);(iterate 3 (exact sd));rintro _ _ ⟨rfl,rfl⟩)|((first|refine Adz (Aez (Bmz _ _ _ _ _ ?_ ?_ ?_)) ?_|refine Abz (Aez (Bmz _ _ _ _ _ ?_ ?_ ?_)) ⟨_,_,rfl,rfl⟩ ?_);(iterate 3 (exact sd));rintro _ _ ⟨rfl,rfl⟩)|((first|refine Adz (Aez (Auz _ _ _)) ?_|refine Abz (Aez (Auz _ _ _)) ⟨_,_,rfl,rfl⟩ ?_);rintro _ _ ⟨rfl,rfl⟩)|((first|refine Adz (Bzz _ _ _ _ ?_ ?_ ?_) ?_|refine Abz (Bzz _ _ _ _ ?_ ?_ ?_) ⟨_,_,rfl,rfl⟩ ?_);(iterate 3 (exact sd));rintro _ _ ⟨rfl,rfl⟩)|((first|refine Adz (Erz _ _ _ _ _ _ _ _ ?_ ?_ ?_ ?_) ?_|refine Abz (Erz _ _ _ _ _ _ _ _ ?_ ?_ ?_ ?_) ⟨_,_,rfl,rfl⟩ ?_);(iterate 4 (exact sd));rintro _ _ ⟨rfl,rfl⟩))<;>(try simp (disch:=omega) only [push_cast,seval,hv,hr,hx,hel,Aaz]))
 | (refine Anz ⟨.inr rfl,[16000,16001],[(16000,1),(16001,5)],_,by decide,rfl,?_⟩;(try simp (disch:=omega) only [push_cast,seval,↓Aoz,↓Alz,↓List.map_cons,↓List.map_nil,hv,hr,hx,hel,Aaz]))))
        all_goals simp [OBs,EL]
 | true =>
        obtain ⟨q,p,b,x,y,rfl,hq,he,hvw⟩:=Huz hr
        have hs:=vB_see hv he
        have hbb:=Gez hb3 he
        have hd:=C7z false es q he
        simp only at hd
        have hil:q * 5 + 5 ≤ es.length * 5:=by omega
        have h3:((EL false es).drop (q * 5 + 1)).take 3=[.int .i64 b,.rows false (IL x) x.length,.rows false (IL y) y.length]:=by
          have:=congrArg (fun l=>(l.drop 1).take 3) hd
          simpa [List.drop_take,List.drop_drop,List.take_take] using this
        have hfb:filB cs b x y v=true:=by unfold filB;rw [hs,hx];rfl
        have hlen:=Jwz cs b x y v
        unfold xfC
        simp only [Bjz,hvw]
        generalize hZ:filL cs b x y v=Z at *
        (repeat' (first
 | (first|refine Apz ?_|refine Aiz ?_)
 | ((first|refine Aqz ?_|refine A5z (mid:=l79r4a) (post:=l79r4b) [128,1000000039] Axz (by decide) ?_|refine Ahz ?_|refine Ajz ?_|refine Akz ?_);simp (disch:=omega) only [push_cast,seval,l79r0,l79r1,l79r2,l79r3,l79r4a,l79r4b,l79r4,l79r5,hv,hr,hx,h3,hfb,hZ,hil,hel,Aaz,MVL_true])
 | ((first|refine Acz ?_ ?_|refine Agz ?_ ?_|refine Afz ?_ ?_)<;>intro h<;>(try simp only [h])<;>(try simp only [bitvec_to_nat] at h)<;>(try simp only [h])<;>(first|(exfalso;omega)|(exfalso;simp_all;done)|(simp (disch:=omega) only [push_cast,seval,hv,hr,hx,h3,hfb,hZ,hil,hel,Aaz,MVL_true])|skip))
 | ((first|refine Arz false ?_|refine Amz false ?_);simp (disch:=omega) only [push_cast,seval,hv,hr,hx,h3,hfb,hZ,hil,hel,Aaz,MVL_true])
 | ((first|((first|refine Adz (Aez (A9z _ _ _ _ ?_ ?_ ?_)) ?_|refine Abz (Aez (A9z _ _ _ _ ?_ ?_ ?_)) ⟨_,_,rfl,rfl⟩ ?_);(iterate 3 (exact sd));rintro _ _ ⟨rfl,rfl⟩)|((first|refine Adz (Aez (Bmz _ _ _ _ _ ?_ ?_ ?_)) ?_|refine Abz (Aez (Bmz _ _ _ _ _ ?_ ?_ ?_)) ⟨_,_,rfl,rfl⟩ ?_);(iterate 3 (exact sd));rintro _ _ ⟨rfl,rfl⟩)|((first|refine Adz (Aez (Auz _ _ _)) ?_|refine Abz (Aez (Auz _ _ _)) ⟨_,_,rfl,rfl⟩ ?_);rintro _ _ ⟨rfl,rfl⟩)|((first|refine Adz (Bzz _ _ _ _ ?_ ?_ ?_) ?_|refine Abz (Bzz _ _ _ _ ?_ ?_ ?_) ⟨_,_,rfl,rfl⟩ ?_);(iterate 3 (exact sd));rintro _ _ ⟨rfl,rfl⟩)|((first|refine Adz (Erz _ _ _ _ _ _ _ _ ?_ ?_ ?_ ?_) ?_|refine Abz (Erz _ _ _ _ _ _ _ _ ?_ ?_ ?_ ?_) ⟨_,_,rfl,rfl⟩ ?_);(iterate 4 (exact sd));rintro _ _ ⟨rfl,rfl⟩))<;>(try simp (disch:=omega) only [push_cast,seval,hv,hr,hx,h3,hfb,hZ,hil,hel,Aaz,MVL_true]))
 | (refine Anz ⟨.inr rfl,[576,401],[],_,by decide,rfl,?_⟩;(try simp (disch:=omega) only [push_cast,seval,↓Aoz,↓Alz,↓List.map_cons,↓List.map_nil,hv,hr,hx,h3,hfb,hZ,hil,hel,Aaz,MVL_true]))))
        all_goals simp [OBs]


theorem Djz (cs:List Int) (es:List Ex) (m n:Nat) (hm:cs.length=m) (hn:es.length=n) :
    BCall Tryd.prog 39 [.agg [.rows false (IL cs) m,.rows false (EL false es) n],.rows false [] 0,.bool false] [] (OBs false [] []):=by
  subst hm hn
  have hel:=A6z false es
  refine A3z (pins:=[]) (pin:=0) l39_eq rfl rfl rfl ?_
  (repeat' (first
 | (first|refine Apz ?_|refine Aiz ?_)
 | ((first|refine Aqz ?_|refine Ahz ?_|refine Ajz ?_|refine Akz ?_);simp (disch:=omega) only [push_cast,seval,l39r0,l39r1,l39r2,l39r3,l39r4,l39r5,hel,Aaz])
 | ((first|refine Acz ?_ ?_|refine Agz ?_ ?_|refine Afz ?_ ?_)<;>intro h<;>(try simp only [h])<;>(try simp only [bitvec_to_nat] at h)<;>(try simp only [h])<;>(first|(exfalso;omega)|(exfalso;simp_all;done)|(simp (disch:=omega) only [push_cast,seval,hel,Aaz])|skip))
 | ((first|((with_reducible refine Arz (f:=37) false ?_);simp (disch:=omega) only [push_cast,seval,hel,Aaz];(refine J2z (Glz _ _ _ _ ?_ ?_ ?_) (by (simp (disch:=omega) only [push_cast,seval,hel,Aaz]);done) ?_;(iterate 3 (exact sd)))))<;>(try simp (disch:=omega) only [push_cast,seval,hel,Aaz]))
 | (refine Anz ⟨.inr rfl,[16000,16001],[(16000,1),(16001,5)],_,by decide,rfl,?_⟩;(try simp (disch:=omega) only [push_cast,seval,↓Aoz,↓Alz,↓List.map_cons,↓List.map_nil,hel,Aaz]))))
  all_goals simp [OBs,EL]

end Go.Proofs.YtkpcjppnjmhanaaDoor
