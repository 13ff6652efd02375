import Derived.Test.YtbplegbgofnolaaCKq11
import Derived.Test.YtbplegbgofnolaaCM1
import Derived.Test.YtbplegbgofnolaaCW3
set_option linter.unusedSimpArgs false
set_option linter.unusedVariables false
set_option maxRecDepth 4000
set_option maxHeartbeats 4000000
namespace Go.Proofs.Ytbplegbgofnolaa
open VwM Vw Go

def ordB (order:List Int) (n:Nat):Bool:=decide (order.length=n) && allI order 0 ((n:Int) - 1) && decide order.Nodup
def ttT (t:Tn) (order:List Int):Tn:=if (vT t && ordB order t.1.length)=true then turnT t order else ([],[])
theorem ttT_no {t:Tn} {order:List Int} (h:(vT t && ordB order t.1.length)=false):ttT t order=([],[]):=by unfold ttT;rw [h];rfl
theorem ttT_yes {t:Tn} {order:List Int} (h1:vT t=true) (h2:ordB order t.1.length=true):ttT t order=turnT t order:=by unfold ttT;rw [h1,h2];rfl
set_option maxHeartbeats 16000000 in
theorem iTT_ok (a1 a2 order:List Int) (n1 n2 m:Nat) (h1:a1.length=n1) (h2:a2.length=n2) (hm:order.length=m) (hb:(n1 ≤ 1099511627776 ∧ n2 ≤ 1099511627776) ∧ m ≤ 1099511627776) :
    BCall Try.prog 26 [.agg [.rows false (IL a1) n1,.rows false (IL a2) n2],.rows false (IL order) m] [] (OT (ttT (a1,a2) order).1 (ttT (a1,a2) order).2):=by
  subst h1 h2 hm
  obtain ⟨⟨hb1,hb2⟩,hb3⟩:=hb
  refine A3z (pins:=[]) (pin:=0) l26_eq rfl rfl rfl ?_
  cases hv:vT (a1,a2) with
  | false =>
    rw [ttT_no (by rw [hv];rfl)]
    (repeat' (first
 | (first|refine Anz ?_|refine Agz ?_)
 | ((first|refine Aoz ?_|refine Afz ?_|refine Ahz ?_|refine Aiz ?_);simp (disch:=omega) only [push_cast,seval,l26r0,l26r1,l26r2,l26r3,l26r4,l26r5,hv])
 | ((first|refine Acz ?_ ?_|refine Aez ?_ ?_|refine Adz ?_ ?_)<;>intro h<;>(try simp only [h])<;>(try simp only [bitvec_to_nat] at h)<;>(try simp only [h])<;>(first|(exfalso;omega)|(exfalso;simp_all;done)|(simp (disch:=omega) only [push_cast,seval,hv])|skip))
 | ((first|refine Aqz false ?_|refine qcallD_of false ?_);simp (disch:=omega) only [push_cast,seval,hv])
 | ((first|((first|refine call0D (BCall.ofP (ivT_ok _ _ _ _ ?_ ?_ ?_)) ?_|refine qcall0D (BCall.ofP (ivT_ok _ _ _ _ ?_ ?_ ?_)) ⟨_,_,rfl,rfl⟩ ?_);(iterate 3 (exact sd));rintro _ _ ⟨rfl,rfl⟩)|((first|refine call0D (BCall.ofP (isOrder_ok _ _ _ ?_ ?_)) ?_|refine qcall0D (BCall.ofP (isOrder_ok _ _ _ ?_ ?_)) ⟨_,_,rfl,rfl⟩ ?_);(iterate 2 (exact sd));rintro _ _ ⟨rfl,rfl⟩)|((first|refine call0D (BCall.ofP (progression_ok _ _ _ ?_ ?_)) ?_|refine qcall0D (BCall.ofP (progression_ok _ _ _ ?_ ?_)) ⟨_,_,rfl,rfl⟩ ?_);(iterate 2 (exact sd));rintro _ _ ⟨rfl,rfl⟩)|((first|refine call0D (inumbers_ok _ _ _ ?_) ?_|refine qcall0D (inumbers_ok _ _ _ ?_) ⟨_,_,rfl,rfl⟩ ?_);(exact sd);rintro _ _ ⟨rfl,rfl⟩)|((first|refine call0D (inumU_ok _ ?_) ?_|refine qcall0D (inumU_ok _ ?_) ⟨_,_,rfl,rfl⟩ ?_);(exact sd);rintro _ _ ⟨rfl,rfl⟩)|((first|refine call0D (iCon1_ok _ _ _ _ _ _ _ _ ?_ ?_) ?_|refine qcall0D (iCon1_ok _ _ _ _ _ _ _ _ ?_ ?_) ⟨_,_,rfl,rfl⟩ ?_);(iterate 2 (exact sd));rintro _ _ ⟨rfl,rfl⟩))<;>(try simp (disch:=omega) only [push_cast,seval,hv]))
 | (refine Akz ⟨.inr rfl,[16000,16016],[(16000,1),(16016,1)],_,by decide,rfl,?_⟩;(try simp (disch:=omega) only [push_cast,seval,↓Alz,↓Ajz,↓List.map_cons,↓List.map_nil,hv]))))
    all_goals exact ⟨rfl,rfl⟩
  | true =>
    obtain ⟨hs,hlen,_⟩:=C2z.1 hv
    simp only at hs hlen
    have hg:=A7z hs
    have h4:a1.length ≤ 4:=hg.1.2
    have hq0:order.length ≤ 1099511627776 ∧ a1.length ≤ 1000:=by omega
    cases ho:(decide (order.length=a1.length) && allI order 0 ((a1.length:Int) - 1) && decide order.Nodup) with
    | false =>
      rw [ttT_no (by rw [hv];exact ho)]
      (repeat' (first
 | (first|refine Anz ?_|refine Agz ?_)
 | ((first|refine Aoz ?_|refine Afz ?_|refine Ahz ?_|refine Aiz ?_);simp (disch:=omega) only [push_cast,seval,l26r0,l26r1,l26r2,l26r3,l26r4,l26r5,hv,ho])
 | ((first|refine Acz ?_ ?_|refine Aez ?_ ?_|refine Adz ?_ ?_)<;>intro h<;>(try simp only [h])<;>(try simp only [bitvec_to_nat] at h)<;>(try simp only [h])<;>(first|(exfalso;omega)|(exfalso;simp_all;done)|(simp (disch:=omega) only [push_cast,seval,hv,ho])|skip))
 | ((first|refine Aqz false ?_|refine qcallD_of false ?_);simp (disch:=omega) only [push_cast,seval,hv,ho])
 | ((first|((first|refine call0D (BCall.ofP (ivT_ok _ _ _ _ ?_ ?_ ?_)) ?_|refine qcall0D (BCall.ofP (ivT_ok _ _ _ _ ?_ ?_ ?_)) ⟨_,_,rfl,rfl⟩ ?_);(iterate 3 (exact sd));rintro _ _ ⟨rfl,rfl⟩)|((first|refine call0D (BCall.ofP (isOrder_ok _ _ _ ?_ ?_)) ?_|refine qcall0D (BCall.ofP (isOrder_ok _ _ _ ?_ ?_)) ⟨_,_,rfl,rfl⟩ ?_);(iterate 2 (exact sd));rintro _ _ ⟨rfl,rfl⟩)|((first|refine call0D (BCall.ofP (progression_ok _ _ _ ?_ ?_)) ?_|refine qcall0D (BCall.ofP (progression_ok _ _ _ ?_ ?_)) ⟨_,_,rfl,rfl⟩ ?_);(iterate 2 (exact sd));rintro _ _ ⟨rfl,rfl⟩)|((first|refine call0D (inumbers_ok _ _ _ ?_) ?_|refine qcall0D (inumbers_ok _ _ _ ?_) ⟨_,_,rfl,rfl⟩ ?_);(exact sd);rintro _ _ ⟨rfl,rfl⟩)|((first|refine call0D (inumU_ok _ ?_) ?_|refine qcall0D (inumU_ok _ ?_) ⟨_,_,rfl,rfl⟩ ?_);(exact sd);rintro _ _ ⟨rfl,rfl⟩)|((first|refine call0D (iCon1_ok _ _ _ _ _ _ _ _ ?_ ?_) ?_|refine qcall0D (iCon1_ok _ _ _ _ _ _ _ _ ?_ ?_) ⟨_,_,rfl,rfl⟩ ?_);(iterate 2 (exact sd));rintro _ _ ⟨rfl,rfl⟩))<;>(try simp (disch:=omega) only [push_cast,seval,hv,ho]))
 | (refine Akz ⟨.inr rfl,[16000,16016],[(16000,1),(16016,1)],_,by decide,rfl,?_⟩;(try simp (disch:=omega) only [push_cast,seval,↓Alz,↓Ajz,↓List.map_cons,↓List.map_nil,hv,ho]))))
      all_goals exact ⟨rfl,rfl⟩
    | true =>
      have hO:=isOrd_of ho
      rw [ttT_yes hv ho]
      have hct:=turn_ct hv hO
      simp only at hct
      have hN:=nums_len 0 1 a1.length
      have ho1:=hO.1
      generalize turnT (a1,a2) order=T at *
      generalize hNN:nums 0 1 a1.length=N at *
      have hP:(1:Int) ≤ a1.length → -1000000 ≤ ((a1.length:Int) - 1) * 1 ∧ ((a1.length:Int) - 1) * 1 ≤ 1000000:=fun _=>by omega
      have q1:(-100000:Int) ≤ 0 ∧ (0:Int) ≤ 100000 ∧ (-100000:Int) ≤ 1 ∧ (1:Int) ≤ 100000 ∧ (-1000:Int) ≤ a1.length ∧ (a1.length:Int) ≤ 1000:=by omega
      (repeat' (first
 | (first|refine Anz ?_|refine Agz ?_)
 | ((first|refine Aoz ?_|refine Afz ?_|refine Ahz ?_|refine Aiz ?_);simp (disch:=omega) only [push_cast,seval,l26r0,l26r1,l26r2,l26r3,l26r4,l26r5,hv,ho,hNN,hN,hct,t0,Option.getD_some,Option.isSome_some])
 | ((first|refine Acz ?_ ?_|refine Aez ?_ ?_|refine Adz ?_ ?_)<;>intro h<;>(try simp only [h])<;>(try simp only [bitvec_to_nat] at h)<;>(try simp only [h])<;>(first|(exfalso;omega)|(exfalso;simp_all;done)|(simp (disch:=omega) only [push_cast,seval,hv,ho,hNN,hN,hct,t0,Option.getD_some,Option.isSome_some])|skip))
 | ((first|refine Aqz false ?_|refine qcallD_of false ?_);simp (disch:=omega) only [push_cast,seval,hv,ho,hNN,hN,hct,t0,Option.getD_some,Option.isSome_some])
 | ((first|((first|refine call0D (BCall.ofP (ivT_ok _ _ _ _ ?_ ?_ ?_)) ?_|refine qcall0D (BCall.ofP (ivT_ok _ _ _ _ ?_ ?_ ?_)) ⟨_,_,rfl,rfl⟩ ?_);(iterate 3 (exact sd));rintro _ _ ⟨rfl,rfl⟩)|((first|refine call0D (BCall.ofP (isOrder_ok _ _ _ ?_ ?_)) ?_|refine qcall0D (BCall.ofP (isOrder_ok _ _ _ ?_ ?_)) ⟨_,_,rfl,rfl⟩ ?_);(iterate 2 (exact sd));rintro _ _ ⟨rfl,rfl⟩)|((first|refine call0D (BCall.ofP (progression_ok _ _ _ ?_ ?_)) ?_|refine qcall0D (BCall.ofP (progression_ok _ _ _ ?_ ?_)) ⟨_,_,rfl,rfl⟩ ?_);(iterate 2 (exact sd));rintro _ _ ⟨rfl,rfl⟩)|((first|refine call0D (inumbers_ok _ _ _ ?_) ?_|refine qcall0D (inumbers_ok _ _ _ ?_) ⟨_,_,rfl,rfl⟩ ?_);(exact sd);rintro _ _ ⟨rfl,rfl⟩)|((first|refine call0D (inumU_ok _ ?_) ?_|refine qcall0D (inumU_ok _ ?_) ⟨_,_,rfl,rfl⟩ ?_);(exact sd);rintro _ _ ⟨rfl,rfl⟩)|((first|refine call0D (iCon1_ok _ _ _ _ _ _ _ _ ?_ ?_) ?_|refine qcall0D (iCon1_ok _ _ _ _ _ _ _ _ ?_ ?_) ⟨_,_,rfl,rfl⟩ ?_);(iterate 2 (exact sd));rintro _ _ ⟨rfl,rfl⟩))<;>(try simp (disch:=omega) only [push_cast,seval,hv,ho,hNN,hN,hct,t0,Option.getD_some,Option.isSome_some]))
 | (refine Akz ⟨.inr rfl,[496,497],[],_,by decide,rfl,?_⟩;(try simp (disch:=omega) only [push_cast,seval,↓Alz,↓Ajz,↓List.map_cons,↓List.map_nil,hv,ho,hNN,hN,hct,t0,Option.getD_some,Option.isSome_some]))))
      all_goals exact ⟨rfl,rfl⟩

end Go.Proofs.Ytbplegbgofnolaa
