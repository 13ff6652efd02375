/- Texts of this verifier. -/
import Derived.Test.YtkpcjppnjmhanaaDoorCB7
import Derived.Test.YtkpcjppnjmhanaaDoorCM1
import Derived.Test.YtkpcjppnjmhanaaDoorCW3
set_option maxHeartbeats 4000000
set_option linter.unusedSimpArgs false
set_option linter.unusedSectionVars false
set_option linter.unusedVariables false
set_option maxRecDepth 4000
namespace Go.Proofs.YtkpcjppnjmhanaaDoor
open VwM Vw Go
variable [SentA]

def evG (cs:List Int) (es:List Ex) (b:Int) (x y:List Int):Bool:=(vB cs es && fitB b x y cs.length) && !decide (es.length=8)


set_option maxHeartbeats 8000000 in
theorem sEV_ok (cs:List Int) (es:List Ex) (m n:Nat) (b:Int) (x y:List Int) (k l:Nat) (hm:cs.length=m) (hn:es.length=n) (hk:x.length=k) (hl:y.length=l) (hb:(k ≤ 1099511627776 ∧ l ≤ 1099511627776) ∧ m ≤ 1099511627776 ∧ n ≤ 1099511627776 ∧ exB 1099511627776 es) :
    BCall Tryd.prog 77 [.agg [.rows false (IL cs) m,.rows false (EL false es) n],.agg [.int .i64 b,.rows false (IL x) k,.rows false (IL y) l]] [] (OBs (evG cs es b x y) (ifB (evG cs es b x y) cs) (ifB (evG cs es b x y) (es ++ [(-1,(b,x,y),true)]))):=by
  subst hm hn hk hl
  obtain ⟨⟨hbx,hby⟩,hb1,hb2,hb3⟩:=hb
  have hb0:cs.length ≤ 1099511627776 ∧ es.length ≤ 1099511627776 ∧ exB 1099511627776 es:=⟨hb1,hb2,hb3⟩
  have hel:=A6z false es
  refine A5z (pins:=[]) (pin:=0) l77_eq rfl rfl rfl ?_
  unfold evG
  cases hv:vB cs es with
  | false =>
    simp only [Bool.false_and,Bnz]
    (repeat' (first
 | (first|refine Apz ?_|refine Aiz ?_)
 | ((first|refine Aqz ?_|refine Ahz ?_|refine Ajz ?_|refine Akz ?_);simp (disch:=omega) only [push_cast,seval,l77r0,l77r1,l77r2,l77r3,hv,hel,Aaz])
 | ((first|refine Acz ?_ ?_|refine Agz ?_ ?_|refine Afz ?_ ?_)<;>intro h<;>(try simp only [h])<;>(try simp only [bitvec_to_nat] at h)<;>(try simp only [h])<;>(first|(exfalso;omega)|(exfalso;simp_all;done)|(simp (disch:=omega) only [push_cast,seval,hv,hel,Aaz])|skip))
 | ((first|refine Arz false ?_|refine Anz false ?_);simp (disch:=omega) only [push_cast,seval,hv,hel,Aaz])
 | ((first|((first|refine Adz (Aez (A3z _ _ _ _ ?_ ?_ ?_)) ?_|refine Abz (Aez (A3z _ _ _ _ ?_ ?_ ?_)) ⟨_,_,rfl,rfl⟩ ?_);(iterate 3 (exact sd));rintro _ _ ⟨rfl,rfl⟩)|((first|refine Adz (Aez (Awz _ _ _ _ _ ?_ ?_ ?_)) ?_|refine Abz (Aez (Awz _ _ _ _ _ ?_ ?_ ?_)) ⟨_,_,rfl,rfl⟩ ?_);(iterate 3 (exact sd));rintro _ _ ⟨rfl,rfl⟩)|((first|refine Adz (Aez (Bmz _ _ _ _ _ _ ?_ ?_ ?_)) ?_|refine Abz (Aez (Bmz _ _ _ _ _ _ ?_ ?_ ?_)) ⟨_,_,rfl,rfl⟩ ?_);(iterate 3 (exact sd));rintro _ _ ⟨rfl,rfl⟩)|((first|refine Adz (Clz _ _ _ _ _ _ _ _ _ _ ?_ ?_ ?_ ?_ ?_) ?_|refine Abz (Clz _ _ _ _ _ _ _ _ _ _ ?_ ?_ ?_ ?_ ?_) ⟨_,_,rfl,rfl⟩ ?_);(iterate 5 (exact sd));rintro _ _ ⟨rfl,rfl⟩))<;>(try simp (disch:=omega) only [push_cast,seval,hv,hel,Aaz]))
 | (refine Amz ⟨.inr rfl,[16000,16001],[(16000,1),(16001,5)],_,by decide,rfl,?_⟩;(try simp (disch:=omega) only [push_cast,seval,↓Aoz,↓Alz,↓List.map_cons,↓List.map_nil,hv,hel,Aaz]))))
    all_goals simp [OBs,EL]
  | true =>
    obtain ⟨v1,v2,v3⟩:=vB_8 hv
    cases hvv:vV b x y with
    | false =>
      have hf:fitB b x y cs.length=false:=by unfold fitB;rw [hvv];rfl
      simp only [hf,Bool.and_false,Bool.false_and,Bnz]
      (repeat' (first
 | (first|refine Apz ?_|refine Aiz ?_)
 | ((first|refine Aqz ?_|refine Ahz ?_|refine Ajz ?_|refine Akz ?_);simp (disch:=omega) only [push_cast,seval,l77r0,l77r1,l77r2,l77r3,hv,hvv,hel,Aaz])
 | ((first|refine Acz ?_ ?_|refine Agz ?_ ?_|refine Afz ?_ ?_)<;>intro h<;>(try simp only [h])<;>(try simp only [bitvec_to_nat] at h)<;>(try simp only [h])<;>(first|(exfalso;omega)|(exfalso;simp_all;done)|(simp (disch:=omega) only [push_cast,seval,hv,hvv,hel,Aaz])|skip))
 | ((first|refine Arz false ?_|refine Anz false ?_);simp (disch:=omega) only [push_cast,seval,hv,hvv,hel,Aaz])
 | ((first|((first|refine Adz (Aez (A3z _ _ _ _ ?_ ?_ ?_)) ?_|refine Abz (Aez (A3z _ _ _ _ ?_ ?_ ?_)) ⟨_,_,rfl,rfl⟩ ?_);(iterate 3 (exact sd));rintro _ _ ⟨rfl,rfl⟩)|((first|refine Adz (Aez (Awz _ _ _ _ _ ?_ ?_ ?_)) ?_|refine Abz (Aez (Awz _ _ _ _ _ ?_ ?_ ?_)) ⟨_,_,rfl,rfl⟩ ?_);(iterate 3 (exact sd));rintro _ _ ⟨rfl,rfl⟩)|((first|refine Adz (Aez (Bmz _ _ _ _ _ _ ?_ ?_ ?_)) ?_|refine Abz (Aez (Bmz _ _ _ _ _ _ ?_ ?_ ?_)) ⟨_,_,rfl,rfl⟩ ?_);(iterate 3 (exact sd));rintro _ _ ⟨rfl,rfl⟩)|((first|refine Adz (Clz _ _ _ _ _ _ _ _ _ _ ?_ ?_ ?_ ?_ ?_) ?_|refine Abz (Clz _ _ _ _ _ _ _ _ _ _ ?_ ?_ ?_ ?_ ?_) ⟨_,_,rfl,rfl⟩ ?_);(iterate 5 (exact sd));rintro _ _ ⟨rfl,rfl⟩))<;>(try simp (disch:=omega) only [push_cast,seval,hv,hvv,hel,Aaz]))
 | (refine Amz ⟨.inr rfl,[16000,16001],[(16000,1),(16001,5)],_,by decide,rfl,?_⟩;(try simp (disch:=omega) only [push_cast,seval,↓Aoz,↓Alz,↓List.map_cons,↓List.map_nil,hv,hvv,hel,Aaz]))))
      all_goals simp [OBs,EL]
    | true =>
      have hok:=(Eoz hvv).1
      have hf:fitB b x y cs.length=allI (offs b x y) 0 ((cs.length:Int) - 1):=by
        unfold fitB
        rw [hvv]
        have:(decide ((0:Int) ≤ cs.length) && decide ((cs.length:Int) ≤ 60))=true:=by rw [Bool.and_eq_true,decide_eq_true_eq,decide_eq_true_eq];omega
        rw [this];rfl
      rw [hf]
      cases ha:allI (offs b x y) 0 ((cs.length:Int) - 1) with
 | false =>
        simp only [Bool.and_false,Bool.false_and,Bnz]
        (repeat' (first
 | (first|refine Apz ?_|refine Aiz ?_)
 | ((first|refine Aqz ?_|refine Ahz ?_|refine Ajz ?_|refine Akz ?_);simp (disch:=omega) only [push_cast,seval,l77r0,l77r1,l77r2,l77r3,hv,hvv,ha,hel,Aaz])
 | ((first|refine Acz ?_ ?_|refine Agz ?_ ?_|refine Afz ?_ ?_)<;>intro h<;>(try simp only [h])<;>(try simp only [bitvec_to_nat] at h)<;>(try simp only [h])<;>(first|(exfalso;omega)|(exfalso;simp_all;done)|(simp (disch:=omega) only [push_cast,seval,hv,hvv,ha,hel,Aaz])|skip))
 | ((first|refine Arz false ?_|refine Anz false ?_);simp (disch:=omega) only [push_cast,seval,hv,hvv,ha,hel,Aaz])
 | ((first|((first|refine Adz (Aez (A3z _ _ _ _ ?_ ?_ ?_)) ?_|refine Abz (Aez (A3z _ _ _ _ ?_ ?_ ?_)) ⟨_,_,rfl,rfl⟩ ?_);(iterate 3 (exact sd));rintro _ _ ⟨rfl,rfl⟩)|((first|refine Adz (Aez (Awz _ _ _ _ _ ?_ ?_ ?_)) ?_|refine Abz (Aez (Awz _ _ _ _ _ ?_ ?_ ?_)) ⟨_,_,rfl,rfl⟩ ?_);(iterate 3 (exact sd));rintro _ _ ⟨rfl,rfl⟩)|((first|refine Adz (Aez (Bmz _ _ _ _ _ _ ?_ ?_ ?_)) ?_|refine Abz (Aez (Bmz _ _ _ _ _ _ ?_ ?_ ?_)) ⟨_,_,rfl,rfl⟩ ?_);(iterate 3 (exact sd));rintro _ _ ⟨rfl,rfl⟩)|((first|refine Adz (Clz _ _ _ _ _ _ _ _ _ _ ?_ ?_ ?_ ?_ ?_) ?_|refine Abz (Clz _ _ _ _ _ _ _ _ _ _ ?_ ?_ ?_ ?_ ?_) ⟨_,_,rfl,rfl⟩ ?_);(iterate 5 (exact sd));rintro _ _ ⟨rfl,rfl⟩))<;>(try simp (disch:=omega) only [push_cast,seval,hv,hvv,ha,hel,Aaz]))
 | (refine Amz ⟨.inr rfl,[16000,16001],[(16000,1),(16001,5)],_,by decide,rfl,?_⟩;(try simp (disch:=omega) only [push_cast,seval,↓Aoz,↓Alz,↓List.map_cons,↓List.map_nil,hv,hvv,ha,hel,Aaz]))))
        all_goals simp [OBs,EL]
 | true =>
        by_cases h8:es.length=8
        · have hd:(!decide (es.length=8))=false:=by simp [h8]
          have h8i:(es.length:Int)=8:=by omega
          simp only [hd,Bool.and_false,Bnz]
          (repeat' (first
 | (first|refine Apz ?_|refine Aiz ?_)
 | ((first|refine Aqz ?_|refine Ahz ?_|refine Ajz ?_|refine Akz ?_);simp (disch:=omega) only [push_cast,seval,l77r0,l77r1,l77r2,l77r3,hv,hvv,ha,h8i,hel,Aaz])
 | ((first|refine Acz ?_ ?_|refine Agz ?_ ?_|refine Afz ?_ ?_)<;>intro h<;>(try simp only [h])<;>(try simp only [bitvec_to_nat] at h)<;>(try simp only [h])<;>(first|(exfalso;omega)|(exfalso;simp_all;done)|(simp (disch:=omega) only [push_cast,seval,hv,hvv,ha,h8i,hel,Aaz])|skip))
 | ((first|refine Arz false ?_|refine Anz false ?_);simp (disch:=omega) only [push_cast,seval,hv,hvv,ha,h8i,hel,Aaz])
 | ((first|((first|refine Adz (Aez (A3z _ _ _ _ ?_ ?_ ?_)) ?_|refine Abz (Aez (A3z _ _ _ _ ?_ ?_ ?_)) ⟨_,_,rfl,rfl⟩ ?_);(iterate 3 (exact sd));rintro _ _ ⟨rfl,rfl⟩)|((first|refine Adz (Aez (Awz _ _ _ _ _ ?_ ?_ ?_)) ?_|refine Abz (Aez (Awz _ _ _ _ _ ?_ ?_ ?_)) ⟨_,_,rfl,rfl⟩ ?_);(iterate 3 (exact sd));rintro _ _ ⟨rfl,rfl⟩)|((first|refine Adz (Aez (Bmz _ _ _ _ _ _ ?_ ?_ ?_)) ?_|refine Abz (Aez (Bmz _ _ _ _ _ _ ?_ ?_ ?_)) ⟨_,_,rfl,rfl⟩ ?_);(iterate 3 (exact sd));rintro _ _ ⟨rfl,rfl⟩)|((first|refine Adz (Clz _ _ _ _ _ _ _ _ _ _ ?_ ?_ ?_ ?_ ?_) ?_|refine Abz (Clz _ _ _ _ _ _ _ _ _ _ ?_ ?_ ?_ ?_ ?_) ⟨_,_,rfl,rfl⟩ ?_);(iterate 5 (exact sd));rintro _ _ ⟨rfl,rfl⟩))<;>(try simp (disch:=omega) only [push_cast,seval,hv,hvv,ha,h8i,hel,Aaz]))
 | (refine Amz ⟨.inr rfl,[16000,16001],[(16000,1),(16001,5)],_,by decide,rfl,?_⟩; (try simp (disch := omega) only [push_cast,seval,↓Aoz,↓Alz,↓List.map_cons,↓List.map_nil,hv,hvv,ha,h8i,hel,Aaz]))))
          all_goals simp [OBs,EL]
        · have hd:(!decide (es.length=8))=true:=by simp [h8]
          have h8i:((es.length:Int)=8)=False:=eq_false (by omega)
          simp only [hd,Bool.and_true,Fjz]
          (repeat' (first
 | (first|refine Apz ?_|refine Aiz ?_)
 | ((first|refine Aqz ?_|refine Ahz ?_|refine Ajz ?_|refine Akz ?_);simp (disch:=omega) only [push_cast,seval,l77r0,l77r1,l77r2,l77r3,hv,hvv,ha,h8i,hel,Aaz])
 | ((first|refine Acz ?_ ?_|refine Agz ?_ ?_|refine Afz ?_ ?_)<;>intro h<;>(try simp only [h])<;>(try simp only [bitvec_to_nat] at h)<;>(try simp only [h])<;>(first|(exfalso;omega)|(exfalso;simp_all;done)|(simp (disch:=omega) only [push_cast,seval,hv,hvv,ha,h8i,hel,Aaz])|skip))
 | ((first|refine Arz false ?_|refine Anz false ?_);simp (disch:=omega) only [push_cast,seval,hv,hvv,ha,h8i,hel,Aaz])
 | ((first|((first|refine Adz (Aez (A3z _ _ _ _ ?_ ?_ ?_)) ?_|refine Abz (Aez (A3z _ _ _ _ ?_ ?_ ?_)) ⟨_,_,rfl,rfl⟩ ?_);(iterate 3 (exact sd));rintro _ _ ⟨rfl,rfl⟩)|((first|refine Adz (Aez (Awz _ _ _ _ _ ?_ ?_ ?_)) ?_|refine Abz (Aez (Awz _ _ _ _ _ ?_ ?_ ?_)) ⟨_,_,rfl,rfl⟩ ?_);(iterate 3 (exact sd));rintro _ _ ⟨rfl,rfl⟩)|((first|refine Adz (Aez (Bmz _ _ _ _ _ _ ?_ ?_ ?_)) ?_|refine Abz (Aez (Bmz _ _ _ _ _ _ ?_ ?_ ?_)) ⟨_,_,rfl,rfl⟩ ?_);(iterate 3 (exact sd));rintro _ _ ⟨rfl,rfl⟩)|((first|refine Adz (Clz _ _ _ _ _ _ _ _ _ _ ?_ ?_ ?_ ?_ ?_) ?_|refine Abz (Clz _ _ _ _ _ _ _ _ _ _ ?_ ?_ ?_ ?_ ?_) ⟨_,_,rfl,rfl⟩ ?_);(iterate 5 (exact sd));rintro _ _ ⟨rfl,rfl⟩))<;>(try simp (disch:=omega) only [push_cast,seval,hv,hvv,ha,h8i,hel,Aaz]))
 | (refine Amz ⟨.inr rfl,[496,497],[],_,by decide,rfl,?_⟩; (try simp (disch := omega) only [push_cast,seval,↓Aoz,↓Alz,↓List.map_cons,↓List.map_nil,hv,hvv,ha,h8i,hel,Aaz]))))
          all_goals simp [OBs]

end Go.Proofs.YtkpcjppnjmhanaaDoor
namespace Go.Proofs.YtkpcjppnjmhanaaDoor
open VwM Vw Go
variable [SentA]

def xfG (cs:List Int) (es:List Ex) (id v:Int):Bool:=(vB cs es && opA es id) && (decide (0 ≤ v) && decide (v ≤ 255))
def xfC (cs:List Int) (es:List Ex) (id v:Int):List Int:=filL cs (vwA es id).1 (vwA es id).2.1 (vwA es id).2.2 v
theorem Jbz (cs:List Int) (b:Int) (x y:List Int) (v:Int):(filL cs b x y v).length=cs.length:=Emz ..


set_option maxHeartbeats 8000000 in
theorem sFE_ok (cs:List Int) (es:List Ex) (m n:Nat) (id v:Int) (hm:cs.length=m) (hn:es.length=n) (hb:m ≤ 1099511627776 ∧ n ≤ 1099511627776 ∧ exB 1099511627776 es) :
    BCall Tryd.prog 79 [.agg [.rows false (IL cs) m,.rows false (EL false es) n],.int .i64 id,.int .i64 v] [] (OBs (xfG cs es id v) (ifB (xfG cs es id v) (xfC cs es id v)) (ifB (xfG cs es id v) es)):=by
  subst hm hn
  have hb0:=hb
  obtain ⟨hb1,hb2,hb3⟩:=hb
  have hel:=A6z false es
  refine A5z (pins:=[]) (pin:=0) l79_eq rfl rfl rfl ?_
  unfold xfG
  cases hv:vB cs es with
  | false =>
    simp only [Bool.false_and,Bnz]
    (repeat' (first
 | (first|refine Apz ?_|refine Aiz ?_)
 | ((first|refine Aqz ?_|refine A2z (mid:=l79r4a) (post:=l79r4b) [128,1000000039] Axz (by decide) ?_|refine Ahz ?_|refine Ajz ?_|refine Akz ?_);simp (disch:=omega) only [push_cast,seval,l79r0,l79r1,l79r2,l79r3,l79r4a,l79r4b,l79r4,l79r5,hv,hel,Aaz])
 | ((first|refine Acz ?_ ?_|refine Agz ?_ ?_|refine Afz ?_ ?_)<;>intro h<;>(try simp only [h])<;>(try simp only [bitvec_to_nat] at h)<;>(try simp only [h])<;>(first|(exfalso;omega)|(exfalso;simp_all;done)|(simp (disch:=omega) only [push_cast,seval,hv,hel,Aaz])|skip))
 | ((first|refine Arz false ?_|refine Anz false ?_);simp (disch:=omega) only [push_cast,seval,hv,hel,Aaz])
 | ((first|((first|refine Adz (Aez (A3z _ _ _ _ ?_ ?_ ?_)) ?_|refine Abz (Aez (A3z _ _ _ _ ?_ ?_ ?_)) ⟨_,_,rfl,rfl⟩ ?_);(iterate 3 (exact sd));rintro _ _ ⟨rfl,rfl⟩)|((first|refine Adz (Aez (Bez _ _ _ _ _ ?_ ?_ ?_)) ?_|refine Abz (Aez (Bez _ _ _ _ _ ?_ ?_ ?_)) ⟨_,_,rfl,rfl⟩ ?_);(iterate 3 (exact sd));rintro _ _ ⟨rfl,rfl⟩)|((first|refine Adz (Aez (Auz _ _ _)) ?_|refine Abz (Aez (Auz _ _ _)) ⟨_,_,rfl,rfl⟩ ?_);rintro _ _ ⟨rfl,rfl⟩)|((first|refine Adz (Btz _ _ _ _ ?_ ?_ ?_) ?_|refine Abz (Btz _ _ _ _ ?_ ?_ ?_) ⟨_,_,rfl,rfl⟩ ?_);(iterate 3 (exact sd));rintro _ _ ⟨rfl,rfl⟩)|((first|refine Adz (Etz _ _ _ _ _ _ _ _ ?_ ?_ ?_ ?_) ?_|refine Abz (Etz _ _ _ _ _ _ _ _ ?_ ?_ ?_ ?_) ⟨_,_,rfl,rfl⟩ ?_);(iterate 4 (exact sd));rintro _ _ ⟨rfl,rfl⟩))<;>(try simp (disch:=omega) only [push_cast,seval,hv,hel,Aaz]))
 | (refine Amz ⟨.inr rfl,[16000,16001],[(16000,1),(16001,5)],_,by decide,rfl,?_⟩;(try simp (disch:=omega) only [push_cast,seval,↓Aoz,↓Alz,↓List.map_cons,↓List.map_nil,hv,hel,Aaz]))))
    all_goals simp [OBs,EL]
  | true =>
    obtain ⟨v1,v2,v3⟩:=vB_8 hv
    cases hr:opA es id with
    | false =>
      simp only [Bool.true_and,Bool.false_and,Bnz]
      (repeat' (first
 | (first|refine Apz ?_|refine Aiz ?_)
 | ((first|refine Aqz ?_|refine A2z (mid:=l79r4a) (post:=l79r4b) [128,1000000039] Axz (by decide) ?_|refine Ahz ?_|refine Ajz ?_|refine Akz ?_);simp (disch:=omega) only [push_cast,seval,l79r0,l79r1,l79r2,l79r3,l79r4a,l79r4b,l79r4,l79r5,hv,hr,hel,Aaz])
 | ((first|refine Acz ?_ ?_|refine Agz ?_ ?_|refine Afz ?_ ?_)<;>intro h<;>(try simp only [h])<;>(try simp only [bitvec_to_nat] at h)<;>(try simp only [h])<;>(first|(exfalso;omega)|(exfalso;simp_all;done)|(simp (disch:=omega) only [push_cast,seval,hv,hr,hel,Aaz])|skip))
 | ((first|refine Arz false ?_|refine Anz false ?_);simp (disch:=omega) only [push_cast,seval,hv,hr,hel,Aaz])
 | ((first|((first|refine Adz (Aez (A3z _ _ _ _ ?_ ?_ ?_)) ?_|refine Abz (Aez (A3z _ _ _ _ ?_ ?_ ?_)) ⟨_,_,rfl,rfl⟩ ?_);(iterate 3 (exact sd));rintro _ _ ⟨rfl,rfl⟩)|((first|refine Adz (Aez (Bez _ _ _ _ _ ?_ ?_ ?_)) ?_|refine Abz (Aez (Bez _ _ _ _ _ ?_ ?_ ?_)) ⟨_,_,rfl,rfl⟩ ?_);(iterate 3 (exact sd));rintro _ _ ⟨rfl,rfl⟩)|((first|refine Adz (Aez (Auz _ _ _)) ?_|refine Abz (Aez (Auz _ _ _)) ⟨_,_,rfl,rfl⟩ ?_);rintro _ _ ⟨rfl,rfl⟩)|((first|refine Adz (Btz _ _ _ _ ?_ ?_ ?_) ?_|refine Abz (Btz _ _ _ _ ?_ ?_ ?_) ⟨_,_,rfl,rfl⟩ ?_);(iterate 3 (exact sd));rintro _ _ ⟨rfl,rfl⟩)|((first|refine Adz (Etz _ _ _ _ _ _ _ _ ?_ ?_ ?_ ?_) ?_|refine Abz (Etz _ _ _ _ _ _ _ _ ?_ ?_ ?_ ?_) ⟨_,_,rfl,rfl⟩ ?_);(iterate 4 (exact sd));rintro _ _ ⟨rfl,rfl⟩))<;>(try simp (disch:=omega) only [push_cast,seval,hv,hr,hel,Aaz]))
 | (refine Amz ⟨.inr rfl,[16000,16001],[(16000,1),(16001,5)],_,by decide,rfl,?_⟩;(try simp (disch:=omega) only [push_cast,seval,↓Aoz,↓Alz,↓List.map_cons,↓List.map_nil,hv,hr,hel,Aaz]))))
      all_goals simp [OBs,EL]
    | true =>
      simp only [Bool.true_and]
      cases hx:(decide (0 ≤ v) && decide (v ≤ 255)) with
 | false =>
        simp only [Bnz]
        (repeat' (first
 | (first|refine Apz ?_|refine Aiz ?_)
 | ((first|refine Aqz ?_|refine A2z (mid:=l79r4a) (post:=l79r4b) [128,1000000039] Axz (by decide) ?_|refine Ahz ?_|refine Ajz ?_|refine Akz ?_);simp (disch:=omega) only [push_cast,seval,l79r0,l79r1,l79r2,l79r3,l79r4a,l79r4b,l79r4,l79r5,hv,hr,hx,hel,Aaz])
 | ((first|refine Acz ?_ ?_|refine Agz ?_ ?_|refine Afz ?_ ?_)<;>intro h<;>(try simp only [h])<;>(try simp only [bitvec_to_nat] at h)<;>(try simp only [h])<;>(first|(exfalso;omega)|(exfalso;simp_all;done)|(simp (disch:=omega) only [push_cast,seval,hv,hr,hx,hel,Aaz])|skip))
 | ((first|refine Arz false ?_|refine Anz false ?_);simp (disch:=omega) only [push_cast,seval,hv,hr,hx,hel,Aaz])
 | ((first|((first|refine Adz (Aez (A3z _ _ _ _ ?_ ?_ ?_)) ?_|refine Abz (Aez (A3z _ _ _ _ ?_ ?_ ?_)) ⟨_,_,rfl,rfl⟩ ?_);(iterate 3 (exact sd));rintro _ _ ⟨rfl,rfl⟩)|((first|refine Adz (Aez (Bez _ _ _ _ _ ?_ ?_ ?_)) ?_|refine Abz (Aez (Bez _ _ _ _ _ ?_ ?_ ?_)) ⟨_,_,rfl,rfl⟩ ?_);(iterate 3 (exact sd));rintro _ _ ⟨rfl,rfl⟩)|((first|refine Adz (Aez (Auz _ _ _)) ?_|refine Abz (Aez (Auz _ _ _)) ⟨_,_,rfl,rfl⟩ ?_);rintro _ _ ⟨rfl,rfl⟩)|((first|refine Adz (Btz _ _ _ _ ?_ ?_ ?_) ?_|refine Abz (Btz _ _ _ _ ?_ ?_ ?_) ⟨_,_,rfl,rfl⟩ ?_);(iterate 3 (exact sd));rintro _ _ ⟨rfl,rfl⟩)|((first|refine Adz (Etz _ _ _ _ _ _ _ _ ?_ ?_ ?_ ?_) ?_|refine Abz (Etz _ _ _ _ _ _ _ _ ?_ ?_ ?_ ?_) ⟨_,_,rfl,rfl⟩ ?_);(iterate 4 (exact sd));rintro _ _ ⟨rfl,rfl⟩))<;>(try simp (disch:=omega) only [push_cast,seval,hv,hr,hx,hel,Aaz]))
 | (refine Amz ⟨.inr rfl,[16000,16001],[(16000,1),(16001,5)],_,by decide,rfl,?_⟩;(try simp (disch:=omega) only [push_cast,seval,↓Aoz,↓Alz,↓List.map_cons,↓List.map_nil,hv,hr,hx,hel,Aaz]))))
        all_goals simp [OBs,EL]
 | true =>
        obtain ⟨q,p,b,x,y,rfl,hq,he,hvw⟩:=H5z hr
        have hs:=vB_see hv he
        have hbb:=Gzz hb3 he
        have hd:=C9z false es q he
        simp only at hd
        have hil:q * 5 + 5 ≤ es.length * 5:=by omega
        have h3:((EL false es).drop (q * 5 + 1)).take 3=[.int .i64 b,.rows false (IL x) x.length,.rows false (IL y) y.length]:=by
          have:=congrArg (fun l=>(l.drop 1).take 3) hd
          simpa [List.drop_take,List.drop_drop,List.take_take] using this
        have hfb:filB cs b x y v=true:=by unfold filB;rw [hs,hx];rfl
        have hlen:=Jbz cs b x y v
        unfold xfC
        simp only [Fjz,hvw]
        generalize hZ:filL cs b x y v=Z at *
        (repeat' (first
 | (first|refine Apz ?_|refine Aiz ?_)
 | ((first|refine Aqz ?_|refine A2z (mid:=l79r4a) (post:=l79r4b) [128,1000000039] Axz (by decide) ?_|refine Ahz ?_|refine Ajz ?_|refine Akz ?_);simp (disch:=omega) only [push_cast,seval,l79r0,l79r1,l79r2,l79r3,l79r4a,l79r4b,l79r4,l79r5,hv,hr,hx,h3,hfb,hZ,hil,hel,Aaz,MVL_true])
 | ((first|refine Acz ?_ ?_|refine Agz ?_ ?_|refine Afz ?_ ?_)<;>intro h<;>(try simp only [h])<;>(try simp only [bitvec_to_nat] at h)<;>(try simp only [h])<;>(first|(exfalso;omega)|(exfalso;simp_all;done)|(simp (disch:=omega) only [push_cast,seval,hv,hr,hx,h3,hfb,hZ,hil,hel,Aaz,MVL_true])|skip))
 | ((first|refine Arz false ?_|refine Anz false ?_);simp (disch:=omega) only [push_cast,seval,hv,hr,hx,h3,hfb,hZ,hil,hel,Aaz,MVL_true])
 | ((first|((first|refine Adz (Aez (A3z _ _ _ _ ?_ ?_ ?_)) ?_|refine Abz (Aez (A3z _ _ _ _ ?_ ?_ ?_)) ⟨_,_,rfl,rfl⟩ ?_);(iterate 3 (exact sd));rintro _ _ ⟨rfl,rfl⟩)|((first|refine Adz (Aez (Bez _ _ _ _ _ ?_ ?_ ?_)) ?_|refine Abz (Aez (Bez _ _ _ _ _ ?_ ?_ ?_)) ⟨_,_,rfl,rfl⟩ ?_);(iterate 3 (exact sd));rintro _ _ ⟨rfl,rfl⟩)|((first|refine Adz (Aez (Auz _ _ _)) ?_|refine Abz (Aez (Auz _ _ _)) ⟨_,_,rfl,rfl⟩ ?_);rintro _ _ ⟨rfl,rfl⟩)|((first|refine Adz (Btz _ _ _ _ ?_ ?_ ?_) ?_|refine Abz (Btz _ _ _ _ ?_ ?_ ?_) ⟨_,_,rfl,rfl⟩ ?_);(iterate 3 (exact sd));rintro _ _ ⟨rfl,rfl⟩)|((first|refine Adz (Etz _ _ _ _ _ _ _ _ ?_ ?_ ?_ ?_) ?_|refine Abz (Etz _ _ _ _ _ _ _ _ ?_ ?_ ?_ ?_) ⟨_,_,rfl,rfl⟩ ?_);(iterate 4 (exact sd));rintro _ _ ⟨rfl,rfl⟩))<;>(try simp (disch:=omega) only [push_cast,seval,hv,hr,hx,h3,hfb,hZ,hil,hel,Aaz,MVL_true]))
 | (refine Amz ⟨.inr rfl,[576,401],[],_,by decide,rfl,?_⟩;(try simp (disch:=omega) only [push_cast,seval,↓Aoz,↓Alz,↓List.map_cons,↓List.map_nil,hv,hr,hx,h3,hfb,hZ,hil,hel,Aaz,MVL_true]))))
        all_goals simp [OBs]

end Go.Proofs.YtkpcjppnjmhanaaDoor
namespace Go.Proofs.YtkpcjppnjmhanaaDoor
open VwM Vw Go
variable [SentA]

def xcG (cs:List Int) (es:List Ex) (t f:Int):Bool:=((vB cs es && opA es t) && opA es f) && decide ((vwA es t).2.1=(vwA es f).2.1)
def xcC (cs:List Int) (es:List Ex) (t f:Int):List Int:=putL cs (offs (vwA es t).1 (vwA es t).2.1 (vwA es t).2.2) (takesL cs (offs (vwA es f).1 (vwA es f).2.1 (vwA es f).2.2))
theorem twoB_see {mem:List Int} {b:Int} {sh st:List Int} {b':Int} {sh' st':List Int} (h:seeB mem b sh st=true) (h':seeB mem b' sh' st'=true):twoB mem b sh st b' sh' st'=decide (sh=sh'):=by
  unfold twoB;rw [h,h'];rfl
theorem Lgz {es:List Ex} {q:Nat} {p b:Int} {x y:List Int} {o:Bool} (he:es[q]?=some (p,(b,x,y),o)):((EL false es).drop (q * 5 + 1)).take 3=[.int .i64 b,.rows false (IL x) x.length,.rows false (IL y) y.length]:=by
  have hd:=C9z false es q he
  simp only at hd
  have:=congrArg (fun l=>(l.drop 1).take 3) hd
  simpa [List.drop_take,List.drop_drop,List.take_take] using this


set_option maxHeartbeats 8000000 in
theorem sCE_ok (cs:List Int) (es:List Ex) (m n:Nat) (t f:Int) (hm:cs.length=m) (hn:es.length=n) (hb:m ≤ 1099511627776 ∧ n ≤ 1099511627776 ∧ exB 1099511627776 es) :
    BCall Tryd.prog 80 [.agg [.rows false (IL cs) m,.rows false (EL false es) n],.int .i64 t,.int .i64 f] [] (OBs (xcG cs es t f) (ifB (xcG cs es t f) (xcC cs es t f)) (ifB (xcG cs es t f) es)):=by
  subst hm hn
  have hb0:=hb
  obtain ⟨hb1,hb2,hb3⟩:=hb
  have hel:=A6z false es
  refine A5z (pins:=[]) (pin:=0) l80_eq rfl rfl rfl ?_
  unfold xcG
  cases hv:vB cs es with
  | false =>
    simp only [Bool.false_and,Bnz]
    (repeat' (first
 | (first|refine Apz ?_|refine Aiz ?_)
 | ((first|refine Aqz ?_|refine Asz (mid:=l80r3a) (post:=l80r3b) Axz (by decide) ?_|refine Ahz ?_|refine Ajz ?_|refine Akz ?_);simp (disch:=omega) only [push_cast,seval,l80r0,l80r1,l80r2,l80r3a,l80r3b,l80r3,l80r4,l80r5,l80r6,l80r7,l80r8,hv,hel,Aaz])
 | ((first|refine Acz ?_ ?_|refine Agz ?_ ?_|refine Afz ?_ ?_)<;>intro h<;>(try simp only [h])<;>(try simp only [bitvec_to_nat] at h)<;>(try simp only [h])<;>(first|(exfalso;omega)|(exfalso;simp_all;done)|(simp (disch:=omega) only [push_cast,seval,hv,hel,Aaz])|skip))
 | ((first|refine Arz false ?_|refine Anz false ?_);simp (disch:=omega) only [push_cast,seval,hv,hel,Aaz])
 | ((first|((first|refine Adz (Aez (A3z _ _ _ _ ?_ ?_ ?_)) ?_|refine Abz (Aez (A3z _ _ _ _ ?_ ?_ ?_)) ⟨_,_,rfl,rfl⟩ ?_);(iterate 3 (exact sd));rintro _ _ ⟨rfl,rfl⟩)|((first|refine Adz (Aez (Bez _ _ _ _ _ ?_ ?_ ?_)) ?_|refine Abz (Aez (Bez _ _ _ _ _ ?_ ?_ ?_)) ⟨_,_,rfl,rfl⟩ ?_);(iterate 3 (exact sd));rintro _ _ ⟨rfl,rfl⟩)|((first|refine Adz (Dwz _ _ _ _ _ _ _ _ _ _ _ _ ?_ ?_ ?_ ?_ ?_ ?_) ?_|refine Abz (Dwz _ _ _ _ _ _ _ _ _ _ _ _ ?_ ?_ ?_ ?_ ?_ ?_) ⟨_,_,rfl,rfl⟩ ?_);(iterate 6 (exact sd));rintro _ _ ⟨rfl,rfl⟩)|((first|refine Adz (Btz _ _ _ _ ?_ ?_ ?_) ?_|refine Abz (Btz _ _ _ _ ?_ ?_ ?_) ⟨_,_,rfl,rfl⟩ ?_);(iterate 3 (exact sd));rintro _ _ ⟨rfl,rfl⟩))<;>(try simp (disch:=omega) only [push_cast,seval,hv,hel,Aaz]))
 | (refine Amz ⟨.inr rfl,[16000,16001],[(16000,1),(16001,5)],_,by decide,rfl,?_⟩;(try simp (disch:=omega) only [push_cast,seval,↓Aoz,↓Alz,↓List.map_cons,↓List.map_nil,hv,hel,Aaz]))))
    all_goals simp [OBs,EL]
  | true =>
    obtain ⟨v1,v2,v3⟩:=vB_8 hv
    cases hr:opA es t with
    | false =>
      simp only [Bool.true_and,Bool.false_and,Bnz]
      (repeat' (first
 | (first|refine Apz ?_|refine Aiz ?_)
 | ((first|refine Aqz ?_|refine Asz (mid:=l80r3a) (post:=l80r3b) Axz (by decide) ?_|refine Ahz ?_|refine Ajz ?_|refine Akz ?_);simp (disch:=omega) only [push_cast,seval,l80r0,l80r1,l80r2,l80r3a,l80r3b,l80r3,l80r4,l80r5,l80r6,l80r7,l80r8,hv,hr,hel,Aaz])
 | ((first|refine Acz ?_ ?_|refine Agz ?_ ?_|refine Afz ?_ ?_)<;>intro h<;>(try simp only [h])<;>(try simp only [bitvec_to_nat] at h)<;>(try simp only [h])<;>(first|(exfalso;omega)|(exfalso;simp_all;done)|(simp (disch:=omega) only [push_cast,seval,hv,hr,hel,Aaz])|skip))
 | ((first|refine Arz false ?_|refine Anz false ?_);simp (disch:=omega) only [push_cast,seval,hv,hr,hel,Aaz])
 | ((first|((first|refine Adz (Aez (A3z _ _ _ _ ?_ ?_ ?_)) ?_|refine Abz (Aez (A3z _ _ _ _ ?_ ?_ ?_)) ⟨_,_,rfl,rfl⟩ ?_);(iterate 3 (exact sd));rintro _ _ ⟨rfl,rfl⟩)|((first|refine Adz (Aez (Bez _ _ _ _ _ ?_ ?_ ?_)) ?_|refine Abz (Aez (Bez _ _ _ _ _ ?_ ?_ ?_)) ⟨_,_,rfl,rfl⟩ ?_);(iterate 3 (exact sd));rintro _ _ ⟨rfl,rfl⟩)|((first|refine Adz (Dwz _ _ _ _ _ _ _ _ _ _ _ _ ?_ ?_ ?_ ?_ ?_ ?_) ?_|refine Abz (Dwz _ _ _ _ _ _ _ _ _ _ _ _ ?_ ?_ ?_ ?_ ?_ ?_) ⟨_,_,rfl,rfl⟩ ?_);(iterate 6 (exact sd));rintro _ _ ⟨rfl,rfl⟩)|((first|refine Adz (Btz _ _ _ _ ?_ ?_ ?_) ?_|refine Abz (Btz _ _ _ _ ?_ ?_ ?_) ⟨_,_,rfl,rfl⟩ ?_);(iterate 3 (exact sd));rintro _ _ ⟨rfl,rfl⟩))<;>(try simp (disch:=omega) only [push_cast,seval,hv,hr,hel,Aaz]))
 | (refine Amz ⟨.inr rfl,[16000,16001],[(16000,1),(16001,5)],_,by decide,rfl,?_⟩;(try simp (disch:=omega) only [push_cast,seval,↓Aoz,↓Alz,↓List.map_cons,↓List.map_nil,hv,hr,hel,Aaz]))))
      all_goals simp [OBs,EL]
    | true =>
      cases hrf:opA es f with
 | false =>
        simp only [Bool.true_and,Bool.false_and,Bnz]
        (repeat' (first
 | (first|refine Apz ?_|refine Aiz ?_)
 | ((first|refine Aqz ?_|refine Asz (mid:=l80r3a) (post:=l80r3b) Axz (by decide) ?_|refine Ahz ?_|refine Ajz ?_|refine Akz ?_);simp (disch:=omega) only [push_cast,seval,l80r0,l80r1,l80r2,l80r3a,l80r3b,l80r3,l80r4,l80r5,l80r6,l80r7,l80r8,hv,hr,hrf,hel,Aaz])
 | ((first|refine Acz ?_ ?_|refine Agz ?_ ?_|refine Afz ?_ ?_)<;>intro h<;>(try simp only [h])<;>(try simp only [bitvec_to_nat] at h)<;>(try simp only [h])<;>(first|(exfalso;omega)|(exfalso;simp_all;done)|(simp (disch:=omega) only [push_cast,seval,hv,hr,hrf,hel,Aaz])|skip))
 | ((first|refine Arz false ?_|refine Anz false ?_);simp (disch:=omega) only [push_cast,seval,hv,hr,hrf,hel,Aaz])
 | ((first|((first|refine Adz (Aez (A3z _ _ _ _ ?_ ?_ ?_)) ?_|refine Abz (Aez (A3z _ _ _ _ ?_ ?_ ?_)) ⟨_,_,rfl,rfl⟩ ?_);(iterate 3 (exact sd));rintro _ _ ⟨rfl,rfl⟩)|((first|refine Adz (Aez (Bez _ _ _ _ _ ?_ ?_ ?_)) ?_|refine Abz (Aez (Bez _ _ _ _ _ ?_ ?_ ?_)) ⟨_,_,rfl,rfl⟩ ?_);(iterate 3 (exact sd));rintro _ _ ⟨rfl,rfl⟩)|((first|refine Adz (Dwz _ _ _ _ _ _ _ _ _ _ _ _ ?_ ?_ ?_ ?_ ?_ ?_) ?_|refine Abz (Dwz _ _ _ _ _ _ _ _ _ _ _ _ ?_ ?_ ?_ ?_ ?_ ?_) ⟨_,_,rfl,rfl⟩ ?_);(iterate 6 (exact sd));rintro _ _ ⟨rfl,rfl⟩)|((first|refine Adz (Btz _ _ _ _ ?_ ?_ ?_) ?_|refine Abz (Btz _ _ _ _ ?_ ?_ ?_) ⟨_,_,rfl,rfl⟩ ?_);(iterate 3 (exact sd));rintro _ _ ⟨rfl,rfl⟩))<;>(try simp (disch:=omega) only [push_cast,seval,hv,hr,hrf,hel,Aaz]))
 | (refine Amz ⟨.inr rfl,[16000,16001],[(16000,1),(16001,5)],_,by decide,rfl,?_⟩;(try simp (disch:=omega) only [push_cast,seval,↓Aoz,↓Alz,↓List.map_cons,↓List.map_nil,hv,hr,hrf,hel,Aaz]))))
        all_goals simp [OBs,EL]
 | true =>
        simp only [Bool.true_and]
        obtain ⟨q,p,b,x,y,rfl,hq,he,hvw⟩:=H5z hr
        obtain ⟨q',p',b',x',y',rfl,hq',he',hvw'⟩:=H5z hrf
        have hs:=vB_see hv he
        have hs':=vB_see hv he'
        have hbb:=Gzz hb3 he
        have hbb':=Gzz hb3 he'
        have hil:q * 5 + 5 ≤ es.length * 5:=by omega
        have hil':q' * 5 + 5 ≤ es.length * 5:=by omega
        have h3:=Lgz he
        have h3':=Lgz he'
        have htw:=twoB_see hs hs'
        unfold xcC
        simp only [hvw,hvw']
        have hlen:(putL cs (offs b x y) (takesL cs (offs b' x' y'))).length=cs.length:=Emz ..
        generalize hZ:putL cs (offs b x y) (takesL cs (offs b' x' y'))=Z at *
        cases hx:decide (x=x') with
        | false =>
          rw [hx] at htw
          simp only [Bnz]
          (repeat' (first
 | (first|refine Apz ?_|refine Aiz ?_)
 | ((first|refine Aqz ?_|refine Asz (mid:=l80r3a) (post:=l80r3b) Axz (by decide) ?_|refine Ahz ?_|refine Ajz ?_|refine Akz ?_);simp (disch:=omega) only [push_cast,seval,l80r0,l80r1,l80r2,l80r3a,l80r3b,l80r3,l80r4,l80r5,l80r6,l80r7,l80r8,hv,hr,hrf,htw,h3,h3',hZ,hil,hil',hel,Aaz,MVL_false])
 | ((first|refine Acz ?_ ?_|refine Agz ?_ ?_|refine Afz ?_ ?_)<;>intro h<;>(try simp only [h])<;>(try simp only [bitvec_to_nat] at h)<;>(try simp only [h])<;>(first|(exfalso;omega)|(exfalso;simp_all;done)|(simp (disch:=omega) only [push_cast,seval,hv,hr,hrf,htw,h3,h3',hZ,hil,hil',hel,Aaz,MVL_false])|skip))
 | ((first|refine Arz false ?_|refine Anz false ?_);simp (disch:=omega) only [push_cast,seval,hv,hr,hrf,htw,h3,h3',hZ,hil,hil',hel,Aaz,MVL_false])
 | ((first|((first|refine Adz (Aez (A3z _ _ _ _ ?_ ?_ ?_)) ?_|refine Abz (Aez (A3z _ _ _ _ ?_ ?_ ?_)) ⟨_,_,rfl,rfl⟩ ?_);(iterate 3 (exact sd));rintro _ _ ⟨rfl,rfl⟩)|((first|refine Adz (Aez (Bez _ _ _ _ _ ?_ ?_ ?_)) ?_|refine Abz (Aez (Bez _ _ _ _ _ ?_ ?_ ?_)) ⟨_,_,rfl,rfl⟩ ?_);(iterate 3 (exact sd));rintro _ _ ⟨rfl,rfl⟩)|((first|refine Adz (Dwz _ _ _ _ _ _ _ _ _ _ _ _ ?_ ?_ ?_ ?_ ?_ ?_) ?_|refine Abz (Dwz _ _ _ _ _ _ _ _ _ _ _ _ ?_ ?_ ?_ ?_ ?_ ?_) ⟨_,_,rfl,rfl⟩ ?_);(iterate 6 (exact sd));rintro _ _ ⟨rfl,rfl⟩)|((first|refine Adz (Btz _ _ _ _ ?_ ?_ ?_) ?_|refine Abz (Btz _ _ _ _ ?_ ?_ ?_) ⟨_,_,rfl,rfl⟩ ?_);(iterate 3 (exact sd));rintro _ _ ⟨rfl,rfl⟩))<;>(try simp (disch:=omega) only [push_cast,seval,hv,hr,hrf,htw,h3,h3',hZ,hil,hil',hel,Aaz,MVL_false]))
 | (refine Amz ⟨.inr rfl,[16000,16001],[(16000,1),(16001,5)],_,by decide,rfl,?_⟩; (try simp (disch := omega) only [push_cast,seval,↓Aoz,↓Alz,↓List.map_cons,↓List.map_nil,hv,hr,hrf,htw,h3,h3',hZ,hil,hil',hel,Aaz,MVL_false]))))
          all_goals simp [OBs,EL]
        | true =>
          rw [hx] at htw
          simp only [Fjz]
          (repeat' (first
 | (first|refine Apz ?_|refine Aiz ?_)
 | ((first|refine Aqz ?_|refine Asz (mid:=l80r3a) (post:=l80r3b) Axz (by decide) ?_|refine Ahz ?_|refine Ajz ?_|refine Akz ?_);simp (disch:=omega) only [push_cast,seval,l80r0,l80r1,l80r2,l80r3a,l80r3b,l80r3,l80r4,l80r5,l80r6,l80r7,l80r8,hv,hr,hrf,htw,h3,h3',hZ,hil,hil',hel,Aaz,MVL_true])
 | ((first|refine Acz ?_ ?_|refine Agz ?_ ?_|refine Afz ?_ ?_)<;>intro h<;>(try simp only [h])<;>(try simp only [bitvec_to_nat] at h)<;>(try simp only [h])<;>(first|(exfalso;omega)|(exfalso;simp_all;done)|(simp (disch:=omega) only [push_cast,seval,hv,hr,hrf,htw,h3,h3',hZ,hil,hil',hel,Aaz,MVL_true])|skip))
 | ((first|refine Arz false ?_|refine Anz false ?_);simp (disch:=omega) only [push_cast,seval,hv,hr,hrf,htw,h3,h3',hZ,hil,hil',hel,Aaz,MVL_true])
 | ((first|((first|refine Adz (Aez (A3z _ _ _ _ ?_ ?_ ?_)) ?_|refine Abz (Aez (A3z _ _ _ _ ?_ ?_ ?_)) ⟨_,_,rfl,rfl⟩ ?_);(iterate 3 (exact sd));rintro _ _ ⟨rfl,rfl⟩)|((first|refine Adz (Aez (Bez _ _ _ _ _ ?_ ?_ ?_)) ?_|refine Abz (Aez (Bez _ _ _ _ _ ?_ ?_ ?_)) ⟨_,_,rfl,rfl⟩ ?_);(iterate 3 (exact sd));rintro _ _ ⟨rfl,rfl⟩)|((first|refine Adz (Dwz _ _ _ _ _ _ _ _ _ _ _ _ ?_ ?_ ?_ ?_ ?_ ?_) ?_|refine Abz (Dwz _ _ _ _ _ _ _ _ _ _ _ _ ?_ ?_ ?_ ?_ ?_ ?_) ⟨_,_,rfl,rfl⟩ ?_);(iterate 6 (exact sd));rintro _ _ ⟨rfl,rfl⟩)|((first|refine Adz (Btz _ _ _ _ ?_ ?_ ?_) ?_|refine Abz (Btz _ _ _ _ ?_ ?_ ?_) ⟨_,_,rfl,rfl⟩ ?_);(iterate 3 (exact sd));rintro _ _ ⟨rfl,rfl⟩))<;>(try simp (disch:=omega) only [push_cast,seval,hv,hr,hrf,htw,h3,h3',hZ,hil,hil',hel,Aaz,MVL_true]))
 | (refine Amz ⟨.inr rfl,[672,785],[],_,by decide,rfl,?_⟩; (try simp (disch := omega) only [push_cast,seval,↓Aoz,↓Alz,↓List.map_cons,↓List.map_nil,hv,hr,hrf,htw,h3,h3',hZ,hil,hil',hel,Aaz,MVL_true]))))
          all_goals simp [OBs]

end Go.Proofs.YtkpcjppnjmhanaaDoor
namespace Go.Proofs.YtkpcjppnjmhanaaDoor
open VwM Vw Go
variable [SentA]

/-- The first cells,and zeros. -/
def rz (cs:List Int) (N i:Nat):List Int:=(List.range N).map fun j=>if j < i then cs.getD j 0 else 0
def zz (cs:List Int) (N:Nat):List Int:=(List.range N).map fun j=>cs.getD j 0
theorem rz_length (cs:List Int) (N i:Nat):(rz cs N i).length=N:=by simp [rz]
theorem zz_length (cs:List Int) (N:Nat):(zz cs N).length=N:=by simp [zz]
theorem rz_zero (cs:List Int) (N:Nat):rz cs N 0=List.replicate N 0:=by
  unfold rz
  apply List.ext_getElem?
  intro j
  rw [List.getElem?_map]
  by_cases h:j < N
  · rw [List.getElem?_range h,List.getElem?_replicate];simp [h]
  · rw [List.getElem?_eq_none (by simp;omega),List.getElem?_eq_none (by simp;omega)];rfl
theorem rz_set (cs:List Int) (N i:Nat):(rz cs N i).set i (cs.getD i 0)=rz cs N (i + 1):=by
  unfold rz
  apply List.ext_getElem?
  intro j
  rw [List.getElem?_set,List.getElem?_map,List.getElem?_map]
  by_cases h:j < N
  · rw [List.getElem?_range h]
    by_cases e:i=j
    · subst e;simp [h]
    · rw [if_neg e]
      simp only [Option.map_some]
      by_cases h2:j < i
      · rw [if_pos h2,if_pos (by omega)]
      · rw [if_neg h2,if_neg (by omega)]
  · rw [List.getElem?_eq_none (by simp;omega)]
    split
    · rename_i e;simp only [List.length_map,List.length_range];rw [if_neg (by omega)];first|done|rfl
    · rfl
theorem rz_done {cs:List Int} {N i:Nat} (h:N ≤ i ∨ cs.length ≤ i):rz cs N i=zz cs N:=by
  unfold rz zz
  refine List.map_congr_left fun j hj=>?_
  have hj:=List.mem_range.1 hj
  by_cases h2:j < i
  · rw [if_pos h2]
  · rw [if_neg h2,List.getD_eq_getElem?_getD,List.getElem?_eq_none (by omega)];rfl
theorem F5z {es:List Ex}:∀ {k:Nat},opensT es k=[] ↔ ∀ i e,i < k → es[i]?=some e → ¬ e.2.2=true
  | 0=>by simp [opensT]
  | k + 1=>by
    constructor
    · intro h i e hi he
      cases hk:es[k]? with
 | none =>
        by_cases hik:i=k
        · subst hik;rw [hk] at he;cases he
        · simp only [opensT,hk] at h
          exact F5z.1 h i e (by omega) he
 | some f =>
        by_cases hf:f.2.2=true
        · rw [Drz hk hf] at h;simp at h
        · rw [D2z hk hf] at h
          by_cases hik:i=k
          · subst hik;rw [hk] at he;injection he with he;subst he;exact hf
          · exact F5z.1 h i e (by omega) he
    · intro h
      have ih:opensT es k=[]:=F5z.2 fun i e hi he=>h i e (by omega) he
      cases hk:es[k]? with
 | none=>simp only [opensT,hk];exact ih
 | some f=>rw [D2z hk (h k f (by omega) hk)];exact ih
def rzG (cs:List Int) (es:List Ex) (s:Int):Bool:=(vB cs es && (decide (0 ≤ s) && decide (s ≤ 60))) && decide ((opensT es es.length).length=0)


set_option maxHeartbeats 8000000 in
theorem sRz_ok (cs:List Int) (es:List Ex) (m n:Nat) (s:Int) (hm:cs.length=m) (hn:es.length=n) (hb:m ≤ 1099511627776 ∧ n ≤ 1099511627776 ∧ exB 1099511627776 es) :
    BCall Tryd.prog 22 [.agg [.rows false (IL cs) m,.rows false (EL false es) n],.int .i64 s] [] (OBs (rzG cs es s) (ifB (rzG cs es s) (zz cs s.toNat)) (ifB (rzG cs es s) es)):=by
  subst hm hn
  have hb0:=hb
  obtain ⟨hb1,hb2,hb3⟩:=hb
  have hel:=A6z false es
  refine A5z (pins:=[]) (pin:=0) l22_eq rfl rfl rfl ?_
  unfold rzG
  cases hv:vB cs es with
  | false =>
    simp only [Bool.false_and,Bnz]
    (repeat' (first
 | (first|refine Apz ?_|refine Aiz ?_)
 | ((first|refine Aqz ?_|refine Asz (mid:=l22r7a) (post:=l22r7b) Axz (by decide) ?_|refine Ahz ?_|refine Ajz ?_|refine Akz ?_);simp (disch:=omega) only [push_cast,seval,l22r0,l22r1,l22r2,l22r3,l22r4,l22r5,l22r6,l22r7a,l22r7b,l22r7,l22r8,l22r9,hv,hel,Aaz])
 | ((first|refine Acz ?_ ?_|refine Agz ?_ ?_|refine Afz ?_ ?_)<;>intro h<;>(try simp only [h])<;>(try simp only [bitvec_to_nat] at h)<;>(try simp only [h])<;>(first|(exfalso;omega)|(exfalso;simp_all;done)|(simp (disch:=omega) only [push_cast,seval,hv,hel,Aaz])|skip))
 | ((first|refine Arz false ?_|refine Anz false ?_);simp (disch:=omega) only [push_cast,seval,hv,hel,Aaz])
 | ((first|((first|refine Adz (Aez (A3z _ _ _ _ ?_ ?_ ?_)) ?_|refine Abz (Aez (A3z _ _ _ _ ?_ ?_ ?_)) ⟨_,_,rfl,rfl⟩ ?_);(iterate 3 (exact sd));rintro _ _ ⟨rfl,rfl⟩)|((first|refine Adz (Aez (Auz _ _ _)) ?_|refine Abz (Aez (Auz _ _ _)) ⟨_,_,rfl,rfl⟩ ?_);rintro _ _ ⟨rfl,rfl⟩)|((first|refine Adz (C1z _ _ _ _ ?_ ?_ ?_) ?_|refine Abz (C1z _ _ _ _ ?_ ?_ ?_) ⟨_,_,rfl,rfl⟩ ?_);(iterate 3 (exact sd));rintro _ _ ⟨rfl,rfl⟩)|((first|refine Adz (Btz _ _ _ _ ?_ ?_ ?_) ?_|refine Abz (Btz _ _ _ _ ?_ ?_ ?_) ⟨_,_,rfl,rfl⟩ ?_);(iterate 3 (exact sd));rintro _ _ ⟨rfl,rfl⟩))<;>(try simp (disch:=omega) only [push_cast,seval,hv,hel,Aaz]))
 | (refine Amz ⟨.inr rfl,[16000,16001],[(16000,1),(16001,5)],_,by decide,rfl,?_⟩;(try simp (disch:=omega) only [push_cast,seval,↓Aoz,↓Alz,↓List.map_cons,↓List.map_nil,hv,hel,Aaz]))))
    all_goals simp [OBs,EL]
  | true =>
    obtain ⟨v1,v2,v3⟩:=vB_8 hv
    simp only [Bool.true_and]
    cases hr:(decide (0 ≤ s) && decide (s ≤ 60)) with
    | false =>
      simp only [Bool.false_and,Bnz]
      (repeat' (first
 | (first|refine Apz ?_|refine Aiz ?_)
 | ((first|refine Aqz ?_|refine Asz (mid:=l22r7a) (post:=l22r7b) Axz (by decide) ?_|refine Ahz ?_|refine Ajz ?_|refine Akz ?_);simp (disch:=omega) only [push_cast,seval,l22r0,l22r1,l22r2,l22r3,l22r4,l22r5,l22r6,l22r7a,l22r7b,l22r7,l22r8,l22r9,hv,hr,hel,Aaz])
 | ((first|refine Acz ?_ ?_|refine Agz ?_ ?_|refine Afz ?_ ?_)<;>intro h<;>(try simp only [h])<;>(try simp only [bitvec_to_nat] at h)<;>(try simp only [h])<;>(first|(exfalso;omega)|(exfalso;simp_all;done)|(simp (disch:=omega) only [push_cast,seval,hv,hr,hel,Aaz])|skip))
 | ((first|refine Arz false ?_|refine Anz false ?_);simp (disch:=omega) only [push_cast,seval,hv,hr,hel,Aaz])
 | ((first|((first|refine Adz (Aez (A3z _ _ _ _ ?_ ?_ ?_)) ?_|refine Abz (Aez (A3z _ _ _ _ ?_ ?_ ?_)) ⟨_,_,rfl,rfl⟩ ?_);(iterate 3 (exact sd));rintro _ _ ⟨rfl,rfl⟩)|((first|refine Adz (Aez (Auz _ _ _)) ?_|refine Abz (Aez (Auz _ _ _)) ⟨_,_,rfl,rfl⟩ ?_);rintro _ _ ⟨rfl,rfl⟩)|((first|refine Adz (C1z _ _ _ _ ?_ ?_ ?_) ?_|refine Abz (C1z _ _ _ _ ?_ ?_ ?_) ⟨_,_,rfl,rfl⟩ ?_);(iterate 3 (exact sd));rintro _ _ ⟨rfl,rfl⟩)|((first|refine Adz (Btz _ _ _ _ ?_ ?_ ?_) ?_|refine Abz (Btz _ _ _ _ ?_ ?_ ?_) ⟨_,_,rfl,rfl⟩ ?_);(iterate 3 (exact sd));rintro _ _ ⟨rfl,rfl⟩))<;>(try simp (disch:=omega) only [push_cast,seval,hv,hr,hel,Aaz]))
 | (refine Amz ⟨.inr rfl,[16000,16001],[(16000,1),(16001,5)],_,by decide,rfl,?_⟩;(try simp (disch:=omega) only [push_cast,seval,↓Aoz,↓Alz,↓List.map_cons,↓List.map_nil,hv,hr,hel,Aaz]))))
      all_goals simp [OBs,EL]
    | true =>
      simp only [Bool.true_and]
      have hr2:=hr
      rw [Bool.and_eq_true,decide_eq_true_eq,decide_eq_true_eq] at hr2
      have hop:opensA cs es=opensT es es.length:=by unfold opensA;rw [if_pos hv]
      generalize hK:opensT es es.length=K at *
      by_cases hk0:K.length=0
      · rw [decide_eq_true hk0]
        obtain ⟨N,rfl⟩:∃ N:Nat,s=N:=⟨s.toNat,by omega⟩
        simp only [Fjz,Int.toNat_natCast]
        (repeat' (first
 | (first|refine Apz ?_|refine Aiz ?_)
 | ((first|refine Aqz ?_|refine Asz (mid:=l22r7a) (post:=l22r7b) Axz (by decide) ?_|refine Ahz ?_|refine Ajz ?_|refine Akz ?_);simp (disch:=omega) only [push_cast,seval,l22r0,l22r1,l22r2,l22r3,l22r4,l22r5,l22r6,l22r7a,l22r7b,l22r7,l22r8,l22r9,hv,hr,hop,hk0,hel,Aaz])
 | ((first|refine Acz ?_ ?_|refine Agz ?_ ?_|refine Afz ?_ ?_)<;>intro h<;>(try simp only [h])<;>(try simp only [bitvec_to_nat] at h)<;>(try simp only [h])<;>(first|(exfalso;omega)|(exfalso;simp_all;done)|(simp (disch:=omega) only [push_cast,seval,hv,hr,hop,hk0,hel,Aaz])|skip))
 | ((first|refine Arz false ?_|refine Anz false ?_);simp (disch:=omega) only [push_cast,seval,hv,hr,hop,hk0,hel,Aaz])
 | ((first|((first|refine Adz (Aez (A3z _ _ _ _ ?_ ?_ ?_)) ?_|refine Abz (Aez (A3z _ _ _ _ ?_ ?_ ?_)) ⟨_,_,rfl,rfl⟩ ?_);(iterate 3 (exact sd));rintro _ _ ⟨rfl,rfl⟩)|((first|refine Adz (Aez (Auz _ _ _)) ?_|refine Abz (Aez (Auz _ _ _)) ⟨_,_,rfl,rfl⟩ ?_);rintro _ _ ⟨rfl,rfl⟩)|((first|refine Adz (C1z _ _ _ _ ?_ ?_ ?_) ?_|refine Abz (C1z _ _ _ _ ?_ ?_ ?_) ⟨_,_,rfl,rfl⟩ ?_);(iterate 3 (exact sd));rintro _ _ ⟨rfl,rfl⟩)|((first|refine Adz (Btz _ _ _ _ ?_ ?_ ?_) ?_|refine Abz (Btz _ _ _ _ ?_ ?_ ?_) ⟨_,_,rfl,rfl⟩ ?_);(iterate 3 (exact sd));rintro _ _ ⟨rfl,rfl⟩))<;>(try simp (disch:=omega) only [push_cast,seval,hv,hr,hop,hk0,hel,Aaz]))))
        refine Epz (fun i:Nat=>mkS [(1,.int .i64 N),(2,.ref 32 2 0),(4,.ref 64 2 0),(6,.ref 96 2 0),(7,.int .i64 i)] [(32,[.rows false (IL cs) cs.length,.rows false (EL false es) es.length]),(64,[.val (.slice none 0 0),.val (.slice none 0 0)]),(96,[.own 416 N 1,.own 385 es.length 5]),(385,EL true es),(416,IL (rz cs N i))]) (fun i=>i ≤ N ∧ i ≤ cs.length) (fun i=>N - i) 0 ⟨Nat.zero_le _,Nat.zero_le _⟩ ?_ ?_
        · refine SubW.of ?_
          rw [rz_zero]
          (refine Sub.of_lists ?_ ?_ ?_ ?_ ?_<;>simp [Vw.mkS,Vw.lk,Vw.hk,AV.inn,innL,Avz,Atz,Ayz,-List.map_set,-List.getD_eq_getElem?_getD,Aaz])
        · rintro i ⟨hi,hi2⟩
          have hrl:=rz_length cs N i
          by_cases hlt:i < N ∧ i < cs.length
          · have hrs:=rz_set cs N i
            have hrs2:(IL (rz cs N i)).set i (.int .i64 (cs.getD i 0))=IL (rz cs N (i + 1)):=by rw [← hrs];unfold IL;rw [List.map_set]
            obtain ⟨l1,l2⟩:=hlt
            (repeat' (first
 | (first|refine Apz ?_|refine Aiz ?_)
 | ((first|refine Aqz ?_|refine Asz (mid:=l22r7a) (post:=l22r7b) Axz (by decide) ?_|refine Ahz ?_|refine Ajz ?_|refine Akz ?_);simp (disch:=omega) only [push_cast,seval,l22r0,l22r1,l22r2,l22r3,l22r4,l22r5,l22r6,l22r7a,l22r7b,l22r7,l22r8,l22r9,hel,hrl,hrs2,Aaz])
 | ((first|refine Acz ?_ ?_|refine Agz ?_ ?_|refine Afz ?_ ?_)<;>intro h<;>(try simp only [h])<;>(try simp only [bitvec_to_nat] at h)<;>(try simp only [h])<;>(first|(exfalso;omega)|(exfalso;simp_all;done)|(simp (disch:=omega) only [push_cast,seval,hel,hrl,hrs2,Aaz])|skip))
 | ((first|refine Arz false ?_|refine Anz false ?_);simp (disch:=omega) only [push_cast,seval,hel,hrl,hrs2,Aaz])
 | ((first | ((first | refine Adz (Aez (A3z _ _ _ _ ?_ ?_ ?_)) ?_ | refine Abz (Aez (A3z _ _ _ _ ?_ ?_ ?_)) ⟨_,_,rfl,rfl⟩ ?_); (iterate 3 (exact sd)); rintro _ _ ⟨rfl,rfl⟩) | ((first | refine Adz (Aez (Auz _ _ _)) ?_ | refine Abz (Aez (Auz _ _ _)) ⟨_,_,rfl,rfl⟩ ?_); rintro _ _ ⟨rfl,rfl⟩) | ((first | refine Adz (C1z _ _ _ _ ?_ ?_ ?_) ?_ | refine Abz (C1z _ _ _ _ ?_ ?_ ?_) ⟨_,_,rfl,rfl⟩ ?_); (iterate 3 (exact sd)); rintro _ _ ⟨rfl,rfl⟩) | ((first | refine Adz (Btz _ _ _ _ ?_ ?_ ?_) ?_ | refine Abz (Btz _ _ _ _ ?_ ?_ ?_) ⟨_,_,rfl,rfl⟩ ?_); (iterate 3 (exact sd)); rintro _ _ ⟨rfl,rfl⟩)) <;> (try simp (disch := omega) only [push_cast,seval,hel,hrl,hrs2,Aaz]))))
            refine ⟨i + 1,⟨by omega,by omega⟩,by omega,SubW.of ?_⟩
            (refine Sub.of_lists ?_ ?_ ?_ ?_ ?_<;>simp [Vw.mkS,Vw.lk,Vw.hk,AV.inn,innL,Avz,Atz,Ayz,-List.map_set,-List.getD_eq_getElem?_getD,Aaz])
          · have hd:rz cs N i=zz cs N:=rz_done (by omega)
            (repeat' (first
 | (first|refine Apz ?_|refine Aiz ?_)
 | ((first|refine Aqz ?_|refine Asz (mid:=l22r7a) (post:=l22r7b) Axz (by decide) ?_|refine Ahz ?_|refine Ajz ?_|refine Akz ?_);simp (disch:=omega) only [push_cast,seval,l22r0,l22r1,l22r2,l22r3,l22r4,l22r5,l22r6,l22r7a,l22r7b,l22r7,l22r8,l22r9,hel,hd,Aaz])
 | ((first|refine Acz ?_ ?_|refine Agz ?_ ?_|refine Afz ?_ ?_)<;>intro h<;>(try simp only [h])<;>(try simp only [bitvec_to_nat] at h)<;>(try simp only [h])<;>(first|(exfalso;omega)|(exfalso;simp_all;done)|(simp (disch:=omega) only [push_cast,seval,hel,hd,Aaz])|skip))
 | ((first|refine Arz false ?_|refine Anz false ?_);simp (disch:=omega) only [push_cast,seval,hel,hd,Aaz])
 | ((first|((first|refine Adz (Aez (A3z _ _ _ _ ?_ ?_ ?_)) ?_|refine Abz (Aez (A3z _ _ _ _ ?_ ?_ ?_)) ⟨_,_,rfl,rfl⟩ ?_);(iterate 3 (exact sd));rintro _ _ ⟨rfl,rfl⟩)|((first|refine Adz (Aez (Auz _ _ _)) ?_|refine Abz (Aez (Auz _ _ _)) ⟨_,_,rfl,rfl⟩ ?_);rintro _ _ ⟨rfl,rfl⟩)|((first|refine Adz (C1z _ _ _ _ ?_ ?_ ?_) ?_|refine Abz (C1z _ _ _ _ ?_ ?_ ?_) ⟨_,_,rfl,rfl⟩ ?_);(iterate 3 (exact sd));rintro _ _ ⟨rfl,rfl⟩)|((first|refine Adz (Btz _ _ _ _ ?_ ?_ ?_) ?_|refine Abz (Btz _ _ _ _ ?_ ?_ ?_) ⟨_,_,rfl,rfl⟩ ?_);(iterate 3 (exact sd));rintro _ _ ⟨rfl,rfl⟩))<;>(try simp (disch:=omega) only [push_cast,seval,hel,hd,Aaz]))
 | (refine Amz ⟨.inr rfl,[416,385],[],_,by decide,rfl,?_⟩; (try simp (disch := omega) only [push_cast,seval,↓Aoz,↓Alz,↓List.map_cons,↓List.map_nil,hel,hd,Aaz]))))
            all_goals simp [OBs,zz_length]
      · rw [decide_eq_false hk0]
        simp only [Bnz]
        (repeat' (first
 | (first|refine Apz ?_|refine Aiz ?_)
 | ((first|refine Aqz ?_|refine Asz (mid:=l22r7a) (post:=l22r7b) Axz (by decide) ?_|refine Ahz ?_|refine Ajz ?_|refine Akz ?_);simp (disch:=omega) only [push_cast,seval,l22r0,l22r1,l22r2,l22r3,l22r4,l22r5,l22r6,l22r7a,l22r7b,l22r7,l22r8,l22r9,hv,hr,hop,hk0,hel,Aaz])
 | ((first|refine Acz ?_ ?_|refine Agz ?_ ?_|refine Afz ?_ ?_)<;>intro h<;>(try simp only [h])<;>(try simp only [bitvec_to_nat] at h)<;>(try simp only [h])<;>(first|(exfalso;omega)|(exfalso;simp_all;done)|(simp (disch:=omega) only [push_cast,seval,hv,hr,hop,hk0,hel,Aaz])|skip))
 | ((first|refine Arz false ?_|refine Anz false ?_);simp (disch:=omega) only [push_cast,seval,hv,hr,hop,hk0,hel,Aaz])
 | ((first|((first|refine Adz (Aez (A3z _ _ _ _ ?_ ?_ ?_)) ?_|refine Abz (Aez (A3z _ _ _ _ ?_ ?_ ?_)) ⟨_,_,rfl,rfl⟩ ?_);(iterate 3 (exact sd));rintro _ _ ⟨rfl,rfl⟩)|((first|refine Adz (Aez (Auz _ _ _)) ?_|refine Abz (Aez (Auz _ _ _)) ⟨_,_,rfl,rfl⟩ ?_);rintro _ _ ⟨rfl,rfl⟩)|((first|refine Adz (C1z _ _ _ _ ?_ ?_ ?_) ?_|refine Abz (C1z _ _ _ _ ?_ ?_ ?_) ⟨_,_,rfl,rfl⟩ ?_);(iterate 3 (exact sd));rintro _ _ ⟨rfl,rfl⟩)|((first|refine Adz (Btz _ _ _ _ ?_ ?_ ?_) ?_|refine Abz (Btz _ _ _ _ ?_ ?_ ?_) ⟨_,_,rfl,rfl⟩ ?_);(iterate 3 (exact sd));rintro _ _ ⟨rfl,rfl⟩))<;>(try simp (disch:=omega) only [push_cast,seval,hv,hr,hop,hk0,hel,Aaz]))
 | (refine Amz ⟨.inr rfl,[16000,16001],[(16000,1),(16001,5)],_,by decide,rfl,?_⟩;(try simp (disch:=omega) only [push_cast,seval,↓Aoz,↓Alz,↓List.map_cons,↓List.map_nil,hv,hr,hop,hk0,hel,Aaz]))))
        all_goals simp [OBs,EL]

end Go.Proofs.YtkpcjppnjmhanaaDoor
namespace Go.Proofs.YtkpcjppnjmhanaaDoor
open VwM Vw Go
variable [SentA]

end Go.Proofs.YtkpcjppnjmhanaaDoor
