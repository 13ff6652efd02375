/- Texts of this verifier. -/
import Derived.Test.YtbplegbgofnolaaCLow
import Derived.Test.YtbplegbgofnolaaCM1
set_option linter.unusedSimpArgs false
set_option linter.unusedVariables false
set_option maxRecDepth 4000
set_option maxHeartbeats 4000000
namespace Go.Proofs.Ytbplegbgofnolaa
open VwM Vw Go

theorem Awz:Try.prog.follows .mixedOrders=true:=by kernel_rfl


theorem inRange_ok (x l h:Int):PCall Try.prog 69 [.int .i64 x,.int .i64 l,.int .i64 h] (fun r=>r=.bool (decide (l ≤ x) && decide (x ≤ h))):=by
  refine A1z l69_eq rfl ?_
  (repeat' (first
 | (first|refine Alz ?_|refine Agz ?_)
 | ((first|refine Anz ?_|refine Afz ?_|refine Ahz ?_|refine Aiz ?_);simp (disch:=omega) only [push_cast,seval,l69r0,l69r1])
 | ((first|refine Acz ?_ ?_|refine Aez ?_ ?_|refine Adz ?_ ?_)<;>intro h<;>(try simp only [h])<;>(try simp only [bitvec_to_nat] at h)<;>(try simp only [h])<;>(first|(exfalso;omega)|(exfalso;simp_all;done)|(simp (disch:=omega) only [push_cast,seval])|skip))
 | (refine Ajz ⟨.inr rfl,_,rfl,?_⟩;(try simp (disch:=omega) only [push_cast,seval]))))
  all_goals (first|rfl|(simp_all;done)|(simp_all;omega)|(simp;omega)|(simp;grind)|(simp_all;grind)|skip)


theorem Ciz (xs:List Int) (n:Nat) (hn:xs.length=n) (hb:n ≤ 1099511627776):BCall Try.prog 83 [.rows false (IL xs) n] [] (OI xs):=by
  subst hn
  refine A6z (pins:=[]) (pin:=0) l83_eq rfl rfl rfl ?_
  (repeat' (first
 | (first|refine Alz ?_|refine Agz ?_)
 | ((first|refine Anz ?_|refine Afz ?_|refine Ahz ?_|refine Aiz ?_);simp (disch:=omega) only [push_cast,seval,l83r0,l83r1])
 | ((first|refine Acz ?_ ?_|refine Aez ?_ ?_|refine Adz ?_ ?_)<;>intro h<;>(try simp only [h])<;>(try simp only [bitvec_to_nat] at h)<;>(try simp only [h])<;>(first|(exfalso;omega)|(exfalso;simp_all;done)|(simp (disch:=omega) only [push_cast,seval])|skip))
 | (refine Ajz ⟨.inr rfl,[48],[],_,by decide,rfl,?_⟩;(try simp (disch:=omega) only [push_cast,seval,↓Apz,↓Amz,↓List.map_cons,↓List.map_nil]);(first|done|(show AV.own _ _ _=_ ∧ _)))
 | (refine Ajz ⟨.inr rfl,[80],[],_,by decide,rfl,?_⟩;(try simp (disch:=omega) only [push_cast,seval,↓Apz,↓Amz,↓List.map_cons,↓List.map_nil]);(first|done|(show AV.own _ _ _=_ ∧ _)))))
  all_goals simp [OI]

end Go.Proofs.Ytbplegbgofnolaa
set_option linter.unusedSimpArgs false
set_option linter.unusedVariables false
set_option maxRecDepth 4000
set_option maxHeartbeats 4000000
namespace Go.Proofs.Ytbplegbgofnolaa
open VwM Vw Go

theorem at_ok (a b c i:Int) (h1:-1000000 ≤ a ∧ a ≤ 1000000) (h2:-1000000000000 ≤ i * c ∧ i * c ≤ 1000000000000):PCall Try.prog 104 [rng a b c,.int .i64 i] (fun r=>r=.int .i64 (a + i * c)):=by
  refine A1z l104_eq rfl ?_
  (repeat' (first
 | (first|refine Alz ?_|refine Agz ?_)
 | ((first|refine Anz ?_|refine Afz ?_|refine Ahz ?_|refine Aiz ?_);simp (disch:=omega) only [push_cast,seval,l104r0,l104r1])
 | ((first|refine Acz ?_ ?_|refine Aez ?_ ?_|refine Adz ?_ ?_)<;>intro h<;>(try simp only [h])<;>(try simp only [bitvec_to_nat] at h)<;>(try simp only [h])<;>(first|(exfalso;omega)|(exfalso;simp_all;done)|(simp (disch:=omega) only [push_cast,seval])|skip))
 | (refine Ajz ⟨.inr rfl,_,rfl,?_⟩;(try simp (disch:=omega) only [push_cast,seval]))))


theorem F8z (a b c:Int) (hv:vR a b c=true):PCall Try.prog 103 [rng a b c] (fun r=>r=.int .i64 (cntI a b c)):=by
  obtain ⟨ha,hb,hc,h0⟩:=Fez.1 hv
  refine A1z l103_eq rfl ?_
  have hq1:c < 0 → ¬ (0 - (b - a) ≤ 0) → 0 ≤ (0 - (b - a) + (0 - c) - 1).tdiv (0 - c) ∧ (0 - (b - a) + (0 - c) - 1).tdiv (0 - c) ≤ 1000:=fun h1 h2=>by
    have:=Cfz (x:=0 - (b - a) + (0 - c) - 1) (y:=0 - c) (by omega) (by omega);omega
  have hq2:¬ c < 0 → ¬ (b - a ≤ 0) → 0 ≤ (b - a + c - 1).tdiv c ∧ (b - a + c - 1).tdiv c ≤ 1000:=fun h1 h2=>by
    have:=Cfz (x:=b - a + c - 1) (y:=c) (by omega) (by omega);omega
  unfold cntI
  by_cases h:c < 0
  · by_cases h1:0 - (b - a) ≤ 0
    · (repeat' (first
 | (first|refine Alz ?_|refine Agz ?_)
 | ((first|refine Anz ?_|refine Asz (mid:=l103r1a) (post:=l103r1b) Awz (by decide) ?_|refine Afz ?_|refine Ahz ?_|refine Aiz ?_);simp (disch:=omega) only [push_cast,seval,l103r0,l103r1a,l103r1b,l103r1,l103r2,l103r3,l103r4,l103r5,l103r6,h,h1])
 | ((first|refine Acz ?_ ?_|refine Aez ?_ ?_|refine Adz ?_ ?_)<;>intro h<;>(try simp only [h])<;>(try simp only [bitvec_to_nat] at h)<;>(try simp only [h])<;>(first|(exfalso;omega)|(exfalso;simp_all;done)|(simp (disch:=omega) only [push_cast,seval,h,h1])|skip))
 | (refine Ajz ⟨.inr rfl,_,rfl,?_⟩;(try simp (disch:=omega) only [push_cast,seval,h,h1]))))
    · have:=hq1 h h1
      (repeat' (first
 | (first|refine Alz ?_|refine Agz ?_)
 | ((first|refine Anz ?_|refine Asz (mid:=l103r1a) (post:=l103r1b) Awz (by decide) ?_|refine Afz ?_|refine Ahz ?_|refine Aiz ?_);simp (disch:=omega) only [push_cast,seval,l103r0,l103r1a,l103r1b,l103r1,l103r2,l103r3,l103r4,l103r5,l103r6,h,h1])
 | ((first|refine Acz ?_ ?_|refine Aez ?_ ?_|refine Adz ?_ ?_)<;>intro h<;>(try simp only [h])<;>(try simp only [bitvec_to_nat] at h)<;>(try simp only [h])<;>(first|(exfalso;omega)|(exfalso;simp_all;done)|(simp (disch:=omega) only [push_cast,seval,h,h1])|skip))
 | (refine Ajz ⟨.inr rfl,_,rfl,?_⟩;(try simp (disch:=omega) only [push_cast,seval,h,h1]))))
  · by_cases h1:b - a ≤ 0
    · (repeat' (first
 | (first|refine Alz ?_|refine Agz ?_)
 | ((first|refine Anz ?_|refine Asz (mid:=l103r1a) (post:=l103r1b) Awz (by decide) ?_|refine Afz ?_|refine Ahz ?_|refine Aiz ?_);simp (disch:=omega) only [push_cast,seval,l103r0,l103r1a,l103r1b,l103r1,l103r2,l103r3,l103r4,l103r5,l103r6,h,h1])
 | ((first|refine Acz ?_ ?_|refine Aez ?_ ?_|refine Adz ?_ ?_)<;>intro h<;>(try simp only [h])<;>(try simp only [bitvec_to_nat] at h)<;>(try simp only [h])<;>(first|(exfalso;omega)|(exfalso;simp_all;done)|(simp (disch:=omega) only [push_cast,seval,h,h1])|skip))
 | (refine Ajz ⟨.inr rfl,_,rfl,?_⟩;(try simp (disch:=omega) only [push_cast,seval,h,h1]))))
    · have:=hq2 h h1
      (repeat' (first
 | (first|refine Alz ?_|refine Agz ?_)
 | ((first|refine Anz ?_|refine Asz (mid:=l103r1a) (post:=l103r1b) Awz (by decide) ?_|refine Afz ?_|refine Ahz ?_|refine Aiz ?_);simp (disch:=omega) only [push_cast,seval,l103r0,l103r1a,l103r1b,l103r1,l103r2,l103r3,l103r4,l103r5,l103r6,h,h1])
 | ((first|refine Acz ?_ ?_|refine Aez ?_ ?_|refine Adz ?_ ?_)<;>intro h<;>(try simp only [h])<;>(try simp only [bitvec_to_nat] at h)<;>(try simp only [h])<;>(first|(exfalso;omega)|(exfalso;simp_all;done)|(simp (disch:=omega) only [push_cast,seval,h,h1])|skip))
 | (refine Ajz ⟨.inr rfl,_,rfl,?_⟩;(try simp (disch:=omega) only [push_cast,seval,h,h1]))))


theorem inumbers_ok (a b c:Int) (hv:vR a b c=true):BCall Try.prog 65 [rng a b c] [] (OI (nums a c (cntN a b c))):=by
  obtain ⟨ha,hb,hc,h0⟩:=Fez.1 hv
  have h2:=cntN_cast hv
  have h3:=cnt_bound hv
  have h4:(cntI a b c).toNat=cntN a b c:=rfl
  refine A6z (pins:=[]) (pin:=0) l65_eq rfl rfl rfl ?_
  (repeat' (first
 | (first|refine Alz ?_|refine Agz ?_)
 | ((first|refine Anz ?_|refine Afz ?_|refine Ahz ?_|refine Aiz ?_);simp (disch:=omega) only [push_cast,seval,l65r0,l65r1,l65r2,l65r3,l65r4,l65r5,l65r6,l65r7,h4])
 | ((first|refine Acz ?_ ?_|refine Aez ?_ ?_|refine Adz ?_ ?_)<;>intro h<;>(try simp only [h])<;>(try simp only [bitvec_to_nat] at h)<;>(try simp only [h])<;>(first|(exfalso;omega)|(exfalso;simp_all;done)|(simp (disch:=omega) only [push_cast,seval,h4])|skip))
 | ((first|refine Aqz false ?_|refine qcallD_of false ?_);simp (disch:=omega) only [push_cast,seval,h4])
 | ((first|((first|refine call0D (BCall.ofP (F8z _ _ _ ?_)) ?_|refine qcall0D (BCall.ofP (F8z _ _ _ ?_)) ⟨_,_,rfl,rfl⟩ ?_);(exact sd);rintro _ _ ⟨rfl,rfl⟩)|((first|refine call0D (BCall.ofP (at_ok _ _ _ _ ?_ ?_)) ?_|refine qcall0D (BCall.ofP (at_ok _ _ _ _ ?_ ?_)) ⟨_,_,rfl,rfl⟩ ?_);(iterate 2 (exact sd));rintro _ _ ⟨rfl,rfl⟩))<;>(try simp (disch:=omega) only [push_cast,seval,h4]))
 | (refine Ajz ⟨.inr rfl,[96],[],_,by decide,rfl,?_⟩;(try simp (disch:=omega) only [push_cast,seval,↓Apz,↓Amz,↓List.map_cons,↓List.map_nil,h4]);(first|done|(show AV.own _ _ _=_ ∧ _)))
 | (refine Ajz ⟨.inr rfl,[112],[],_,by decide,rfl,?_⟩;(try simp (disch:=omega) only [push_cast,seval,↓Apz,↓Amz,↓List.map_cons,↓List.map_nil,h4]);(first|done|(show AV.own _ _ _=_ ∧ _)))
 | (refine Ajz ⟨.inr rfl,[272],[],_,by decide,rfl,?_⟩;(try simp (disch:=omega) only [push_cast,seval,↓Apz,↓Amz,↓List.map_cons,↓List.map_nil,h4]);(first|done|(show AV.own _ _ _=_ ∧ _)))))
  refine A0z (fun k:Nat=>mkS [(1,.ref 16 3 0),(10,.int .i64 k),(9,.int .i64 (cntN a b c)),(3,.own 112 (cntN a b c) 1)] [(16,[.int .i64 a,.int .i64 b,.int .i64 c]),(112,IL (filled (fun i:Nat=>a + (i:Int) * c) (cntN a b c) k))])
    (fun k=>k ≤ cntN a b c) (fun k=>cntN a b c - k) 0 (Nat.zero_le _) ?_ ?_
  · (refine Sub.of_lists ?_ ?_ ?_ ?_ ?_<;>simp [Vw.mkS,Vw.lk,Vw.hk,AV.inn,innL,Arz,Akz,Atz,-List.map_set,-List.getD_eq_getElem?_getD,Eqz])
  · intro k hk
    have hb1:=next_bound hv hk
    (repeat' (first
 | (first|refine Alz ?_|refine Agz ?_)
 | ((first|refine Anz ?_|refine Afz ?_|refine Ahz ?_|refine Aiz ?_);simp (disch:=omega) only [push_cast,seval,l65r0,l65r1,l65r2,l65r3,l65r4,l65r5,l65r6,l65r7,h4])
 | ((first|refine Acz ?_ ?_|refine Aez ?_ ?_|refine Adz ?_ ?_)<;>intro h<;>(try simp only [h])<;>(try simp only [bitvec_to_nat] at h)<;>(try simp only [h])<;>(first|(exfalso;omega)|(exfalso;simp_all;done)|(simp (disch:=omega) only [push_cast,seval,h4])|skip))
 | ((first|refine Aqz false ?_|refine qcallD_of false ?_);simp (disch:=omega) only [push_cast,seval,h4])
 | ((first|((first|refine call0D (BCall.ofP (F8z _ _ _ ?_)) ?_|refine qcall0D (BCall.ofP (F8z _ _ _ ?_)) ⟨_,_,rfl,rfl⟩ ?_);(exact sd);rintro _ _ ⟨rfl,rfl⟩)|((first|refine call0D (BCall.ofP (at_ok _ _ _ _ ?_ ?_)) ?_|refine qcall0D (BCall.ofP (at_ok _ _ _ _ ?_ ?_)) ⟨_,_,rfl,rfl⟩ ?_);(iterate 2 (exact sd));rintro _ _ ⟨rfl,rfl⟩))<;>(try simp (disch:=omega) only [push_cast,seval,h4]))
 | (refine Ajz ⟨.inr rfl,[96],[],_,by decide,rfl,?_⟩;(try simp (disch:=omega) only [push_cast,seval,↓Apz,↓Amz,↓List.map_cons,↓List.map_nil,h4]);(first|done|(show AV.own _ _ _=_ ∧ _)))
 | (refine Ajz ⟨.inr rfl,[112],[],_,by decide,rfl,?_⟩;(try simp (disch:=omega) only [push_cast,seval,↓Apz,↓Amz,↓List.map_cons,↓List.map_nil,h4]);(first|done|(show AV.own _ _ _=_ ∧ _)))
 | (refine Ajz ⟨.inr rfl,[272],[],_,by decide,rfl,?_⟩;(try simp (disch:=omega) only [push_cast,seval,↓Apz,↓Amz,↓List.map_cons,↓List.map_nil,h4]);(first|done|(show AV.own _ _ _=_ ∧ _)))))
    · refine ⟨k + 1,by omega,by omega,?_⟩
      have e:=Eaz (fun i:Nat=>a + (i:Int) * c) (cntN a b c) k (by omega)
      (refine Sub.of_lists ?_ ?_ ?_ ?_ ?_<;>simp [Vw.mkS,Vw.lk,Vw.hk,AV.inn,innL,Arz,Akz,Atz,-List.map_set,-List.getD_eq_getElem?_getD,Bvz,e])
    · have e:k=cntN a b c:=by omega
      rw [e,Fnz]
      simp [nums]

end Go.Proofs.Ytbplegbgofnolaa
set_option linter.unusedSimpArgs false
set_option linter.unusedVariables false
set_option maxRecDepth 4000
set_option maxHeartbeats 4000000
namespace Go.Proofs.Ytbplegbgofnolaa
open VwM Vw Go

theorem progression_ok (a c k:Int) (h1:-100000 ≤ a ∧ a ≤ 100000 ∧ -100000 ≤ c ∧ c ≤ 100000 ∧ -1000 ≤ k ∧ k ≤ 1000) (h2:1 ≤ k → -1000000 ≤ (k - 1) * c ∧ (k - 1) * c ≤ 1000000):PCall Try.prog 64 [.int .i64 a,.int .i64 c,.int .i64 k] (fun r=>r=PR a c k):=by
  obtain ⟨h3,h4,h5,h6,h7,h8⟩:=h1
  refine A1z l64_eq rfl ?_
  by_cases g1:k < 1
  · (repeat' (first
 | (first|refine Alz ?_|refine Agz ?_)
 | ((first|refine Anz ?_|refine Afz ?_|refine Ahz ?_|refine Aiz ?_);simp (disch:=omega) only [push_cast,seval,l64r0,l64r1,l64r2,l64r3,l64r4,l64r5,l64r6,l64r7,l64r8,g1])
 | ((first|refine Acz ?_ ?_|refine Aez ?_ ?_|refine Adz ?_ ?_)<;>intro h<;>(try simp only [h])<;>(try simp only [bitvec_to_nat] at h)<;>(try simp only [h])<;>(first|(exfalso;omega)|(exfalso;simp_all;done)|(simp (disch:=omega) only [push_cast,seval,g1])|skip))
 | (refine Ajz ⟨.inr rfl,_,rfl,?_⟩;(try simp (disch:=omega) only [push_cast,seval,g1]))))
    all_goals (have:k ≤ 1:=by omega);simp [pS,pE,pC,g1,this]
  · have h2:=h2 (by omega)
    by_cases g2:k=1
    · subst g2
      (repeat' (first
 | (first|refine Alz ?_|refine Agz ?_)
 | ((first|refine Anz ?_|refine Afz ?_|refine Ahz ?_|refine Aiz ?_);simp (disch:=omega) only [push_cast,seval,l64r0,l64r1,l64r2,l64r3,l64r4,l64r5,l64r6,l64r7,l64r8])
 | ((first|refine Acz ?_ ?_|refine Aez ?_ ?_|refine Adz ?_ ?_)<;>intro h<;>(try simp only [h])<;>(try simp only [bitvec_to_nat] at h)<;>(try simp only [h])<;>(first|(exfalso;omega)|(exfalso;simp_all;done)|(simp (disch:=omega) only [push_cast,seval])|skip))
 | (refine Ajz ⟨.inr rfl,_,rfl,?_⟩;(try simp (disch:=omega) only [push_cast,seval]))))
      all_goals simp [pS,pE,pC]
    · have g3:¬ k ≤ 1:=by omega
      by_cases g4:c < 0
      · (repeat' (first
 | (first|refine Alz ?_|refine Agz ?_)
 | ((first|refine Anz ?_|refine Afz ?_|refine Ahz ?_|refine Aiz ?_);simp (disch:=omega) only [push_cast,seval,l64r0,l64r1,l64r2,l64r3,l64r4,l64r5,l64r6,l64r7,l64r8,g1,g2,g4])
 | ((first|refine Acz ?_ ?_|refine Aez ?_ ?_|refine Adz ?_ ?_)<;>intro h<;>(try simp only [h])<;>(try simp only [bitvec_to_nat] at h)<;>(try simp only [h])<;>(first|(exfalso;omega)|(exfalso;simp_all;done)|(simp (disch:=omega) only [push_cast,seval,g1,g2,g4])|skip))
 | (refine Ajz ⟨.inr rfl,_,rfl,?_⟩;(try simp (disch:=omega) only [push_cast,seval,g1,g2,g4]))))
        all_goals simp [pS,pE,pC,g1,g2,g3,g4]
      · (repeat' (first
 | (first|refine Alz ?_|refine Agz ?_)
 | ((first|refine Anz ?_|refine Afz ?_|refine Ahz ?_|refine Aiz ?_);simp (disch:=omega) only [push_cast,seval,l64r0,l64r1,l64r2,l64r3,l64r4,l64r5,l64r6,l64r7,l64r8,g1,g2,g4])
 | ((first|refine Acz ?_ ?_|refine Aez ?_ ?_|refine Adz ?_ ?_)<;>intro h<;>(try simp only [h])<;>(try simp only [bitvec_to_nat] at h)<;>(try simp only [h])<;>(first|(exfalso;omega)|(exfalso;simp_all;done)|(simp (disch:=omega) only [push_cast,seval,g1,g2,g4])|skip))
 | (refine Ajz ⟨.inr rfl,_,rfl,?_⟩;(try simp (disch:=omega) only [push_cast,seval,g1,g2,g4]))))
        all_goals simp [pS,pE,pC,g1,g2,g3,g4]

end Go.Proofs.Ytbplegbgofnolaa
set_option linter.unusedSimpArgs false
set_option linter.unusedVariables false
set_option maxRecDepth 4000
set_option maxHeartbeats 4000000
namespace Go.Proofs.Ytbplegbgofnolaa
open VwM Vw Go

theorem placeIn_ok (xs:List Int) (n:Nat) (x:Int) (hn:xs.length=n) (hb:n ≤ 1099511627776):PCall Try.prog 89 [.rows false (IL xs) n,.int .i64 x] (fun r=>r=.int .i64 (placeI xs x)):=by
  subst hn
  refine A1z l89_eq rfl ?_
  (repeat' (first
 | (first|refine Alz ?_|refine Agz ?_)
 | ((first|refine Anz ?_|refine Afz ?_|refine Ahz ?_|refine Aiz ?_);simp (disch:=omega) only [push_cast,seval,l89r0,l89r1,l89r2,l89r3,l89r4,l89r5,l89r6])
 | ((first|refine Acz ?_ ?_|refine Aez ?_ ?_|refine Adz ?_ ?_)<;>intro h<;>(try simp only [h])<;>(try simp only [bitvec_to_nat] at h)<;>(try simp only [h])<;>(first|(exfalso;omega)|(exfalso;simp_all;done)|(simp (disch:=omega) only [push_cast,seval])|skip))
 | (refine Ajz ⟨.inr rfl,_,rfl,?_⟩;(try simp (disch:=omega) only [push_cast,seval]))))
  refine A0z (fun k:Nat=>mkS [(0,RI xs),(1,.int .i64 x),(5,.int .i64 k)] []) (fun k=>k ≤ xs.length ∧ ∀ j:Nat,j < k → xs.getD j 0 ≠ x) (fun k=>xs.length - k) 0 ⟨Nat.zero_le _,fun j h=>absurd h (Nat.not_lt_zero _)⟩ ?_ ?_
  · (refine Sub.of_lists ?_ ?_ ?_ ?_ ?_<;>simp [Vw.mkS,Vw.lk,Vw.hk,AV.inn,innL,Arz,Akz,Atz,-List.map_set,-List.getD_eq_getElem?_getD])
  · rintro k ⟨hk,hj⟩
    (repeat' (first
 | (first|refine Alz ?_|refine Agz ?_)
 | ((first|refine Anz ?_|refine Afz ?_|refine Ahz ?_|refine Aiz ?_);simp (disch:=omega) only [push_cast,seval,l89r0,l89r1,l89r2,l89r3,l89r4,l89r5,l89r6])
 | ((first|refine Acz ?_ ?_|refine Aez ?_ ?_|refine Adz ?_ ?_)<;>intro h<;>(try simp only [h])<;>(try simp only [bitvec_to_nat] at h)<;>(try simp only [h])<;>(first|(exfalso;omega)|(exfalso;simp_all;done)|(simp (disch:=omega) only [push_cast,seval])|skip))
 | (refine Ajz ⟨.inr rfl,_,rfl,?_⟩;(try simp (disch:=omega) only [push_cast,seval]))))
    · rw [Gjz (j:=k) (by omega) (by assumption) hj]
    · refine ⟨k + 1,⟨by omega,fun j h=>?_⟩,by omega,?_⟩
      · by_cases hjk:j=k
        · subst hjk;assumption
        · exact hj j (by omega)
      · (refine Sub.of_lists ?_ ?_ ?_ ?_ ?_<;>simp [Vw.mkS,Vw.lk,Vw.hk,AV.inn,innL,Arz,Akz,Atz,-List.map_set,-List.getD_eq_getElem?_getD])
    · rw [Gkz fun j h=>hj j (by omega)]

end Go.Proofs.Ytbplegbgofnolaa
set_option linter.unusedSimpArgs false
set_option linter.unusedVariables false
set_option maxRecDepth 4000
set_option maxHeartbeats 4000000
namespace Go.Proofs.Ytbplegbgofnolaa
open VwM Vw Go

theorem upTo_ok (x l:Int):PCall Try.prog 66 [.int .i64 x,.int .i64 l] (fun r=>r=.bool (decide (0 ≤ x) && decide (x ≤ l))):=by
  refine A1z l66_eq rfl ?_
  (repeat' (first
 | (first|refine Alz ?_|refine Agz ?_)
 | ((first|refine Anz ?_|refine Afz ?_|refine Ahz ?_|refine Aiz ?_);simp (disch:=omega) only [push_cast,seval,l66r0,l66r1])
 | ((first|refine Acz ?_ ?_|refine Aez ?_ ?_|refine Adz ?_ ?_)<;>intro h<;>(try simp only [h])<;>(try simp only [bitvec_to_nat] at h)<;>(try simp only [h])<;>(first|(exfalso;omega)|(exfalso;simp_all;done)|(simp (disch:=omega) only [push_cast,seval])|skip))
 | (refine Ajz ⟨.inr rfl,_,rfl,?_⟩;(try simp (disch:=omega) only [push_cast,seval]))))
  all_goals (first|rfl|(simp_all;done)|(simp_all;omega)|(simp;omega)|(simp;grind)|(simp_all;grind)|skip)


theorem product_ok (xs:List Int) (n:Nat) (hn:xs.length=n) (hg:good4 xs):PCall Try.prog 85 [.rows false (IL xs) n] (fun r=>r=.int .i64 (pr xs)):=by
  subst hn
  have hl:=hg.2
  refine A1z l85_eq rfl ?_
  (repeat' (first
 | (first|refine Alz ?_|refine Agz ?_)
 | ((first|refine Anz ?_|refine Afz ?_|refine Ahz ?_|refine Aiz ?_);simp (disch:=omega) only [push_cast,seval,l85r0,l85r1,l85r2,l85r3,l85r4,l85r5,l85r6,l85r7])
 | ((first|refine Acz ?_ ?_|refine Aez ?_ ?_|refine Adz ?_ ?_)<;>intro h<;>(try simp only [h])<;>(try simp only [bitvec_to_nat] at h)<;>(try simp only [h])<;>(first|(exfalso;omega)|(exfalso;simp_all;done)|(simp (disch:=omega) only [push_cast,seval])|skip))
 | (refine Ajz ⟨.inr rfl,_,rfl,?_⟩;(try simp (disch:=omega) only [push_cast,seval]))))
  refine A0z (fun k:Nat=>mkS [(3,.int .i64 (pr (xs.take k))),(6,RI xs),(7,.int .i64 xs.length),(8,.int .i64 k)] [])
    (fun k=>k ≤ xs.length) (fun k=>xs.length - k) 0 (Nat.zero_le _) ?_ ?_
  · (refine Sub.of_lists ?_ ?_ ?_ ?_ ?_<;>simp [Vw.mkS,Vw.lk,Vw.hk,AV.inn,innL,Arz,Akz,Atz,-List.map_set,-List.getD_eq_getElem?_getD,Drz])
  · intro k hk
    by_cases hlt:k < xs.length
    · have h1:=Cpz (Flz hg (k + 1))
      have h2:=B2z xs k hlt
      (repeat' (first
 | (first|refine Alz ?_|refine Agz ?_)
 | ((first|refine Anz ?_|refine Afz ?_|refine Ahz ?_|refine Aiz ?_);simp (disch:=omega) only [push_cast,seval,l85r0,l85r1,l85r2,l85r3,l85r4,l85r5,l85r6,l85r7])
 | ((first|refine Acz ?_ ?_|refine Aez ?_ ?_|refine Adz ?_ ?_)<;>intro h<;>(try simp only [h])<;>(try simp only [bitvec_to_nat] at h)<;>(try simp only [h])<;>(first|(exfalso;omega)|(exfalso;simp_all;done)|(simp (disch:=omega) only [push_cast,seval])|skip))
 | (refine Ajz ⟨.inr rfl,_,rfl,?_⟩;(try simp (disch:=omega) only [push_cast,seval]))))
      refine ⟨k + 1,by omega,by omega,?_⟩
      (refine Sub.of_lists ?_ ?_ ?_ ?_ ?_<;>simp [Vw.mkS,Vw.lk,Vw.hk,AV.inn,innL,Arz,Akz,Atz,-List.map_set,-List.getD_eq_getElem?_getD,h2])
    · (repeat' (first
 | (first|refine Alz ?_|refine Agz ?_)
 | ((first|refine Anz ?_|refine Afz ?_|refine Ahz ?_|refine Aiz ?_);simp (disch:=omega) only [push_cast,seval,l85r0,l85r1,l85r2,l85r3,l85r4,l85r5,l85r6,l85r7])
 | ((first|refine Acz ?_ ?_|refine Aez ?_ ?_|refine Adz ?_ ?_)<;>intro h<;>(try simp only [h])<;>(try simp only [bitvec_to_nat] at h)<;>(try simp only [h])<;>(first|(exfalso;omega)|(exfalso;simp_all;done)|(simp (disch:=omega) only [push_cast,seval])|skip))
 | (refine Ajz ⟨.inr rfl,_,rfl,?_⟩;(try simp (disch:=omega) only [push_cast,seval]))))
      rw [List.take_of_length_le (by omega)]


theorem scount_ok (xs:List Int) (n:Nat) (hn:xs.length=n) (hg:good4 xs):PCall Try.prog 87 [.rows false (IL xs) n] (fun r=>r=.int .i64 (pr xs)):=by
  subst hn
  have hl:=hg.2
  refine A1z l87_eq rfl ?_
  (repeat' (first
 | (first|refine Alz ?_|refine Agz ?_)
 | ((first|refine Anz ?_|refine Afz ?_|refine Ahz ?_|refine Aiz ?_);simp (disch:=omega) only [push_cast,seval,l87r0,l87r1,l87r2,l87r3,l87r4,l87r5,l87r6])
 | ((first|refine Acz ?_ ?_|refine Aez ?_ ?_|refine Adz ?_ ?_)<;>intro h<;>(try simp only [h])<;>(try simp only [bitvec_to_nat] at h)<;>(try simp only [h])<;>(first|(exfalso;omega)|(exfalso;simp_all;done)|(simp (disch:=omega) only [push_cast,seval])|skip))
 | (refine Ajz ⟨.inr rfl,_,rfl,?_⟩;(try simp (disch:=omega) only [push_cast,seval]))))
  refine A0z (fun k:Nat=>mkS [(0,RI xs),(3,.int .i64 (pr (xs.take k))),(4,.int .i64 k)] [])
    (fun k=>k ≤ xs.length) (fun k=>xs.length - k) 0 (Nat.zero_le _) ?_ ?_
  · (refine Sub.of_lists ?_ ?_ ?_ ?_ ?_<;>simp [Vw.mkS,Vw.lk,Vw.hk,AV.inn,innL,Arz,Akz,Atz,-List.map_set,-List.getD_eq_getElem?_getD,Drz])
  · intro k hk
    by_cases hlt:k < xs.length
    · have h1:=Cpz (Flz hg (k + 1))
      have h2:=B2z xs k hlt
      (repeat' (first
 | (first|refine Alz ?_|refine Agz ?_)
 | ((first|refine Anz ?_|refine Afz ?_|refine Ahz ?_|refine Aiz ?_);simp (disch:=omega) only [push_cast,seval,l87r0,l87r1,l87r2,l87r3,l87r4,l87r5,l87r6])
 | ((first|refine Acz ?_ ?_|refine Aez ?_ ?_|refine Adz ?_ ?_)<;>intro h<;>(try simp only [h])<;>(try simp only [bitvec_to_nat] at h)<;>(try simp only [h])<;>(first|(exfalso;omega)|(exfalso;simp_all;done)|(simp (disch:=omega) only [push_cast,seval])|skip))
 | (refine Ajz ⟨.inr rfl,_,rfl,?_⟩;(try simp (disch:=omega) only [push_cast,seval]))))
      refine ⟨k + 1,by omega,by omega,?_⟩
      (refine Sub.of_lists ?_ ?_ ?_ ?_ ?_<;>simp [Vw.mkS,Vw.lk,Vw.hk,AV.inn,innL,Arz,Akz,Atz,-List.map_set,-List.getD_eq_getElem?_getD,h2])
    · (repeat' (first
 | (first|refine Alz ?_|refine Agz ?_)
 | ((first|refine Anz ?_|refine Afz ?_|refine Ahz ?_|refine Aiz ?_);simp (disch:=omega) only [push_cast,seval,l87r0,l87r1,l87r2,l87r3,l87r4,l87r5,l87r6])
 | ((first|refine Acz ?_ ?_|refine Aez ?_ ?_|refine Adz ?_ ?_)<;>intro h<;>(try simp only [h])<;>(try simp only [bitvec_to_nat] at h)<;>(try simp only [h])<;>(first|(exfalso;omega)|(exfalso;simp_all;done)|(simp (disch:=omega) only [push_cast,seval])|skip))
 | (refine Ajz ⟨.inr rfl,_,rfl,?_⟩;(try simp (disch:=omega) only [push_cast,seval]))))
      rw [List.take_of_length_le (by omega)]


theorem allIn_ok (xs:List Int) (n:Nat) (l h:Int) (hn:xs.length=n) (hb:n ≤ 1099511627776):PCall Try.prog 49 [.rows false (IL xs) n,.int .i64 l,.int .i64 h] (fun r=>r=.bool (allI xs l h)):=by
  subst hn
  refine A1z l49_eq rfl ?_
  (repeat' (first
 | (first|refine Alz ?_|refine Agz ?_)
 | ((first|refine Anz ?_|refine Afz ?_|refine Ahz ?_|refine Aiz ?_);simp (disch:=omega) only [push_cast,seval,l49r0,l49r1,l49r2,l49r3,l49r4,l49r5,l49r6])
 | ((first|refine Acz ?_ ?_|refine Aez ?_ ?_|refine Adz ?_ ?_)<;>intro h<;>(try simp only [h])<;>(try simp only [bitvec_to_nat] at h)<;>(try simp only [h])<;>(first|(exfalso;omega)|(exfalso;simp_all;done)|(simp (disch:=omega) only [push_cast,seval])|skip))
 | ((first|refine Aqz false ?_|refine qcallD_of false ?_);simp (disch:=omega) only [push_cast,seval])
 | ((first|((first|refine call0D (BCall.ofP (inRange_ok _ _ _)) ?_|refine qcall0D (BCall.ofP (inRange_ok _ _ _)) ⟨_,_,rfl,rfl⟩ ?_);rintro _ _ ⟨rfl,rfl⟩))<;>(try simp (disch:=omega) only [push_cast,seval]))
 | (refine Ajz ⟨.inr rfl,_,rfl,?_⟩;(try simp (disch:=omega) only [push_cast,seval]))))
  refine A0z (fun k:Nat=>mkS [(0,RI xs),(1,.int .i64 l),(2,.int .i64 h),(7,.int .i64 k)] []) (fun k=>k ≤ xs.length ∧ ∀ j:Nat,j < k → l ≤ xs.getD j 0 ∧ xs.getD j 0 ≤ h) (fun k=>xs.length - k) 0 ⟨Nat.zero_le _,fun j h=>absurd h (Nat.not_lt_zero _)⟩ ?_ ?_
  · (refine Sub.of_lists ?_ ?_ ?_ ?_ ?_<;>simp [Vw.mkS,Vw.lk,Vw.hk,AV.inn,innL,Arz,Akz,Atz,-List.map_set,-List.getD_eq_getElem?_getD])
  · rintro k ⟨hk,hj⟩
    (repeat' (first
 | (first|refine Alz ?_|refine Agz ?_)
 | ((first|refine Anz ?_|refine Afz ?_|refine Ahz ?_|refine Aiz ?_);simp (disch:=omega) only [push_cast,seval,l49r0,l49r1,l49r2,l49r3,l49r4,l49r5,l49r6])
 | ((first|refine Acz ?_ ?_|refine Aez ?_ ?_|refine Adz ?_ ?_)<;>intro h<;>(try simp only [h])<;>(try simp only [bitvec_to_nat] at h)<;>(try simp only [h])<;>(first|(exfalso;omega)|(exfalso;simp_all;done)|(simp (disch:=omega) only [push_cast,seval])|skip))
 | ((first|refine Aqz false ?_|refine qcallD_of false ?_);simp (disch:=omega) only [push_cast,seval])
 | ((first|((first|refine call0D (BCall.ofP (inRange_ok _ _ _)) ?_|refine qcall0D (BCall.ofP (inRange_ok _ _ _)) ⟨_,_,rfl,rfl⟩ ?_);rintro _ _ ⟨rfl,rfl⟩))<;>(try simp (disch:=omega) only [push_cast,seval]))
 | (refine Ajz ⟨.inr rfl,_,rfl,?_⟩;(try simp (disch:=omega) only [push_cast,seval]))))
    · rw [Edz (j:=k) (by omega) (by assumption)]
    · refine ⟨k + 1,⟨by omega,fun j h=>?_⟩,by omega,?_⟩
      · by_cases hjk:j=k
        · subst hjk;assumption
        · exact hj j (by omega)
      · (refine Sub.of_lists ?_ ?_ ?_ ?_ ?_<;>simp [Vw.mkS,Vw.lk,Vw.hk,AV.inn,innL,Arz,Akz,Atz,-List.map_set,-List.getD_eq_getElem?_getD])
    · rw [Fbz fun j h=>hj j (by omega)]


theorem iValidShape_ok (xs:List Int) (n:Nat) (hn:xs.length=n) (hb:n ≤ 1099511627776):PCall Try.prog 57 [.rows false (IL xs) n] (fun r=>r=.bool (vSh xs)):=by
  subst hn
  refine A1z l57_eq rfl ?_
  (repeat' (first
 | (first|refine Alz ?_|refine Agz ?_)
 | ((first|refine Anz ?_|refine Afz ?_|refine Ahz ?_|refine Aiz ?_);simp (disch:=omega) only [push_cast,seval,l57r0,l57r1,l57r2,l57r3,l57r4,l57r5,l57r6,l57r7,l57r8,l57r9])
 | ((first|refine Acz ?_ ?_|refine Aez ?_ ?_|refine Adz ?_ ?_)<;>intro h<;>(try simp only [h])<;>(try simp only [bitvec_to_nat] at h)<;>(try simp only [h])<;>(first|(exfalso;omega)|(exfalso;simp_all;done)|(simp (disch:=omega) only [push_cast,seval])|skip))
 | ((first|refine Aqz false ?_|refine qcallD_of false ?_);simp (disch:=omega) only [push_cast,seval])
 | ((first|((first|refine call0D (BCall.ofP (upTo_ok _ _)) ?_|refine qcall0D (BCall.ofP (upTo_ok _ _)) ⟨_,_,rfl,rfl⟩ ?_);rintro _ _ ⟨rfl,rfl⟩)|((first|refine call0D (BCall.ofP (product_ok _ _ ?_ ?_)) ?_|refine qcall0D (BCall.ofP (product_ok _ _ ?_ ?_)) ⟨_,_,rfl,rfl⟩ ?_);(iterate 2 (exact sd));rintro _ _ ⟨rfl,rfl⟩))<;>(try simp (disch:=omega) only [push_cast,seval]))
 | (refine Ajz ⟨.inr rfl,_,rfl,?_⟩;(try simp (disch:=omega) only [push_cast,seval]))))
  · have:¬ xs.length ≤ 4:=by omega
    simp [vSh,this]
  have h4:xs.length ≤ 4:=by omega
  refine A0z (fun k:Nat=>mkS [(0,RI xs),(8,RI xs),(9,.int .i64 xs.length),(10,.int .i64 k)] []) (fun k=>k ≤ xs.length ∧ ∀ j:Nat,j < k → 0 ≤ xs.getD j 0 ∧ xs.getD j 0 ≤ 60) (fun k=>xs.length - k) 0 ⟨Nat.zero_le _,fun j h=>absurd h (Nat.not_lt_zero _)⟩ ?_ ?_
  · (refine Sub.of_lists ?_ ?_ ?_ ?_ ?_<;>simp [Vw.mkS,Vw.lk,Vw.hk,AV.inn,innL,Arz,Akz,Atz,-List.map_set,-List.getD_eq_getElem?_getD])
  · rintro k ⟨hk,hj⟩
    by_cases hlt:k < xs.length
    · (repeat' (first
 | (first|refine Alz ?_|refine Agz ?_)
 | ((first|refine Anz ?_|refine Afz ?_|refine Ahz ?_|refine Aiz ?_);simp (disch:=omega) only [push_cast,seval,l57r0,l57r1,l57r2,l57r3,l57r4,l57r5,l57r6,l57r7,l57r8,l57r9])
 | ((first|refine Acz ?_ ?_|refine Aez ?_ ?_|refine Adz ?_ ?_)<;>intro h<;>(try simp only [h])<;>(try simp only [bitvec_to_nat] at h)<;>(try simp only [h])<;>(first|(exfalso;omega)|(exfalso;simp_all;done)|(simp (disch:=omega) only [push_cast,seval])|skip))
 | ((first|refine Aqz false ?_|refine qcallD_of false ?_);simp (disch:=omega) only [push_cast,seval])
 | ((first|((first|refine call0D (BCall.ofP (upTo_ok _ _)) ?_|refine qcall0D (BCall.ofP (upTo_ok _ _)) ⟨_,_,rfl,rfl⟩ ?_);rintro _ _ ⟨rfl,rfl⟩)|((first|refine call0D (BCall.ofP (product_ok _ _ ?_ ?_)) ?_|refine qcall0D (BCall.ofP (product_ok _ _ ?_ ?_)) ⟨_,_,rfl,rfl⟩ ?_);(iterate 2 (exact sd));rintro _ _ ⟨rfl,rfl⟩))<;>(try simp (disch:=omega) only [push_cast,seval]))
 | (refine Ajz ⟨.inr rfl,_,rfl,?_⟩;(try simp (disch:=omega) only [push_cast,seval]))))
      · have:allI xs 0 60=false:=Edz (j:=k) hlt (by assumption)
        simp [vSh,this]
      · refine ⟨k + 1,⟨by omega,fun j h=>?_⟩,by omega,?_⟩
        · by_cases hjk:j=k
          · subst hjk;assumption
          · exact hj j (by omega)
        · (refine Sub.of_lists ?_ ?_ ?_ ?_ ?_<;>simp [Vw.mkS,Vw.lk,Vw.hk,AV.inn,innL,Arz,Akz,Atz,-List.map_set,-List.getD_eq_getElem?_getD])
    · have ha:allI xs 0 60=true:=Fbz fun j h=>hj j (by omega)
      have hg:good4 xs:=⟨Bpz.1 ha,h4⟩
      (repeat' (first
 | (first|refine Alz ?_|refine Agz ?_)
 | ((first|refine Anz ?_|refine Afz ?_|refine Ahz ?_|refine Aiz ?_);simp (disch:=omega) only [push_cast,seval,l57r0,l57r1,l57r2,l57r3,l57r4,l57r5,l57r6,l57r7,l57r8,l57r9])
 | ((first|refine Acz ?_ ?_|refine Aez ?_ ?_|refine Adz ?_ ?_)<;>intro h<;>(try simp only [h])<;>(try simp only [bitvec_to_nat] at h)<;>(try simp only [h])<;>(first|(exfalso;omega)|(exfalso;simp_all;done)|(simp (disch:=omega) only [push_cast,seval])|skip))
 | ((first|refine Aqz false ?_|refine qcallD_of false ?_);simp (disch:=omega) only [push_cast,seval])
 | ((first|((first|refine call0D (BCall.ofP (upTo_ok _ _)) ?_|refine qcall0D (BCall.ofP (upTo_ok _ _)) ⟨_,_,rfl,rfl⟩ ?_);rintro _ _ ⟨rfl,rfl⟩)|((first|refine call0D (BCall.ofP (product_ok _ _ ?_ ?_)) ?_|refine qcall0D (BCall.ofP (product_ok _ _ ?_ ?_)) ⟨_,_,rfl,rfl⟩ ?_);(iterate 2 (exact sd));rintro _ _ ⟨rfl,rfl⟩))<;>(try simp (disch:=omega) only [push_cast,seval]))
 | (refine Ajz ⟨.inr rfl,_,rfl,?_⟩;(try simp (disch:=omega) only [push_cast,seval]))))
      simp [vSh,ha,h4]


theorem svalidShape_ok (xs:List Int) (n:Nat) (hn:xs.length=n) (hb:n ≤ 1099511627776):PCall Try.prog 106 [.rows false (IL xs) n] (fun r=>r=.bool (vSh xs)):=by
  subst hn
  refine A1z l106_eq rfl ?_
  by_cases h4:xs.length ≤ 4
  · cases ha:allI xs 0 60 with
    | false =>
      (repeat' (first
 | (first|refine Alz ?_|refine Agz ?_)
 | ((first|refine Anz ?_|refine Afz ?_|refine Ahz ?_|refine Aiz ?_);simp (disch:=omega) only [push_cast,seval,l106r0,l106r1,ha])
 | ((first|refine Acz ?_ ?_|refine Aez ?_ ?_|refine Adz ?_ ?_)<;>intro h<;>(try simp only [h])<;>(try simp only [bitvec_to_nat] at h)<;>(try simp only [h])<;>(first|(exfalso;omega)|(exfalso;simp_all;done)|(simp (disch:=omega) only [push_cast,seval,ha])|skip))
 | ((first|refine Aqz false ?_|refine qcallD_of false ?_);simp (disch:=omega) only [push_cast,seval,ha])
 | ((first|((first|refine call0D (BCall.ofP (allIn_ok _ _ _ _ ?_ ?_)) ?_|refine qcall0D (BCall.ofP (allIn_ok _ _ _ _ ?_ ?_)) ⟨_,_,rfl,rfl⟩ ?_);(iterate 2 (exact sd));rintro _ _ ⟨rfl,rfl⟩)|((first|refine call0D (BCall.ofP (scount_ok _ _ ?_ ?_)) ?_|refine qcall0D (BCall.ofP (scount_ok _ _ ?_ ?_)) ⟨_,_,rfl,rfl⟩ ?_);(iterate 2 (exact sd));rintro _ _ ⟨rfl,rfl⟩))<;>(try simp (disch:=omega) only [push_cast,seval,ha]))
 | (refine Ajz ⟨.inr rfl,_,rfl,?_⟩;(try simp (disch:=omega) only [push_cast,seval,ha]))))
      simp [vSh,ha]
    | true =>
      have hg:good4 xs:=⟨Bpz.1 ha,h4⟩
      (repeat' (first
 | (first|refine Alz ?_|refine Agz ?_)
 | ((first|refine Anz ?_|refine Afz ?_|refine Ahz ?_|refine Aiz ?_);simp (disch:=omega) only [push_cast,seval,l106r0,l106r1,ha])
 | ((first|refine Acz ?_ ?_|refine Aez ?_ ?_|refine Adz ?_ ?_)<;>intro h<;>(try simp only [h])<;>(try simp only [bitvec_to_nat] at h)<;>(try simp only [h])<;>(first|(exfalso;omega)|(exfalso;simp_all;done)|(simp (disch:=omega) only [push_cast,seval,ha])|skip))
 | ((first|refine Aqz false ?_|refine qcallD_of false ?_);simp (disch:=omega) only [push_cast,seval,ha])
 | ((first|((first|refine call0D (BCall.ofP (allIn_ok _ _ _ _ ?_ ?_)) ?_|refine qcall0D (BCall.ofP (allIn_ok _ _ _ _ ?_ ?_)) ⟨_,_,rfl,rfl⟩ ?_);(iterate 2 (exact sd));rintro _ _ ⟨rfl,rfl⟩)|((first|refine call0D (BCall.ofP (scount_ok _ _ ?_ ?_)) ?_|refine qcall0D (BCall.ofP (scount_ok _ _ ?_ ?_)) ⟨_,_,rfl,rfl⟩ ?_);(iterate 2 (exact sd));rintro _ _ ⟨rfl,rfl⟩))<;>(try simp (disch:=omega) only [push_cast,seval,ha]))
 | (refine Ajz ⟨.inr rfl,_,rfl,?_⟩;(try simp (disch:=omega) only [push_cast,seval,ha]))))
      simp [vSh,ha,h4]
  · (repeat' (first
 | (first|refine Alz ?_|refine Agz ?_)
 | ((first|refine Anz ?_|refine Afz ?_|refine Ahz ?_|refine Aiz ?_);simp (disch:=omega) only [push_cast,seval,l106r0,l106r1])
 | ((first|refine Acz ?_ ?_|refine Aez ?_ ?_|refine Adz ?_ ?_)<;>intro h<;>(try simp only [h])<;>(try simp only [bitvec_to_nat] at h)<;>(try simp only [h])<;>(first|(exfalso;omega)|(exfalso;simp_all;done)|(simp (disch:=omega) only [push_cast,seval])|skip))
 | ((first|refine Aqz false ?_|refine qcallD_of false ?_);simp (disch:=omega) only [push_cast,seval])
 | ((first|((first|refine call0D (BCall.ofP (allIn_ok _ _ _ _ ?_ ?_)) ?_|refine qcall0D (BCall.ofP (allIn_ok _ _ _ _ ?_ ?_)) ⟨_,_,rfl,rfl⟩ ?_);(iterate 2 (exact sd));rintro _ _ ⟨rfl,rfl⟩)|((first|refine call0D (BCall.ofP (scount_ok _ _ ?_ ?_)) ?_|refine qcall0D (BCall.ofP (scount_ok _ _ ?_ ?_)) ⟨_,_,rfl,rfl⟩ ?_);(iterate 2 (exact sd));rintro _ _ ⟨rfl,rfl⟩))<;>(try simp (disch:=omega) only [push_cast,seval]))
 | (refine Ajz ⟨.inr rfl,_,rfl,?_⟩;(try simp (disch:=omega) only [push_cast,seval]))))
    simp [vSh,h4]

end Go.Proofs.Ytbplegbgofnolaa
set_option linter.unusedSimpArgs false
set_option linter.unusedVariables false
set_option maxRecDepth 4000
set_option maxHeartbeats 4000000
namespace Go.Proofs.Ytbplegbgofnolaa
open VwM Vw Go

theorem iRowStrides_ok (xs:List Int) (n:Nat) (hn:xs.length=n) (hb:n ≤ 1099511627776):BCall Try.prog 110 [.rows false (IL xs) n] [] (OI (if vSh xs=true then rowS xs else [])):=by
  subst hn
  refine A6z (pins:=[]) (pin:=0) l110_eq rfl rfl rfl ?_
  cases hv:vSh xs with
  | false =>
    (repeat' (first
 | (first|refine Alz ?_|refine Agz ?_)
 | ((first|refine Anz ?_|refine Afz ?_|refine Ahz ?_|refine Aiz ?_);simp (disch:=omega) only [push_cast,seval,l110r0,l110r1,l110r2,l110r3,l110r4,l110r5,l110r6,l110r7,l110r8,l110r9,hv])
 | ((first|refine Acz ?_ ?_|refine Aez ?_ ?_|refine Adz ?_ ?_)<;>intro h<;>(try simp only [h])<;>(try simp only [bitvec_to_nat] at h)<;>(try simp only [h])<;>(first|(exfalso;omega)|(exfalso;simp_all;done)|(simp (disch:=omega) only [push_cast,seval,hv])|skip))
 | ((first|refine Aqz false ?_|refine qcallD_of false ?_);simp (disch:=omega) only [push_cast,seval,hv])
 | ((first|((first|refine call0D (BCall.ofP (iValidShape_ok _ _ ?_ ?_)) ?_|refine qcall0D (BCall.ofP (iValidShape_ok _ _ ?_ ?_)) ⟨_,_,rfl,rfl⟩ ?_);(iterate 2 (exact sd));rintro _ _ ⟨rfl,rfl⟩)|((first|refine call0D (BCall.ofP (product_ok _ _ ?_ ?_)) ?_|refine qcall0D (BCall.ofP (product_ok _ _ ?_ ?_)) ⟨_,_,rfl,rfl⟩ ?_);(iterate 2 (exact sd));rintro _ _ ⟨rfl,rfl⟩))<;>(try simp (disch:=omega) only [push_cast,seval,hv]))
 | (refine Ajz ⟨.inr rfl,[16000],[(16000,1)],_,by decide,rfl,?_⟩;(try simp (disch:=omega) only [push_cast,seval,↓Apz,↓Amz,↓List.map_cons,↓List.map_nil,hv]))))
    all_goals simp [OI]
  | true =>
    have hg:=(Baz hv).1
    have hl:=hg.2
    (repeat' (first
 | (first|refine Alz ?_|refine Agz ?_)
 | ((first|refine Anz ?_|refine Afz ?_|refine Ahz ?_|refine Aiz ?_);simp (disch:=omega) only [push_cast,seval,l110r0,l110r1,l110r2,l110r3,l110r4,l110r5,l110r6,l110r7,l110r8,l110r9,hv])
 | ((first|refine Acz ?_ ?_|refine Aez ?_ ?_|refine Adz ?_ ?_)<;>intro h<;>(try simp only [h])<;>(try simp only [bitvec_to_nat] at h)<;>(try simp only [h])<;>(first|(exfalso;omega)|(exfalso;simp_all;done)|(simp (disch:=omega) only [push_cast,seval,hv])|skip))
 | ((first|refine Aqz false ?_|refine qcallD_of false ?_);simp (disch:=omega) only [push_cast,seval,hv])
 | ((first|((first|refine call0D (BCall.ofP (iValidShape_ok _ _ ?_ ?_)) ?_|refine qcall0D (BCall.ofP (iValidShape_ok _ _ ?_ ?_)) ⟨_,_,rfl,rfl⟩ ?_);(iterate 2 (exact sd));rintro _ _ ⟨rfl,rfl⟩)|((first|refine call0D (BCall.ofP (product_ok _ _ ?_ ?_)) ?_|refine qcall0D (BCall.ofP (product_ok _ _ ?_ ?_)) ⟨_,_,rfl,rfl⟩ ?_);(iterate 2 (exact sd));rintro _ _ ⟨rfl,rfl⟩))<;>(try simp (disch:=omega) only [push_cast,seval,hv]))
 | (refine Ajz ⟨.inr rfl,[96],[],_,by decide,rfl,?_⟩;(try simp (disch:=omega) only [push_cast,seval,↓Apz,↓Amz,↓List.map_cons,↓List.map_nil,hv]);(first|done|(show AV.own _ _ _=_ ∧ _)))
 | (refine Ajz ⟨.inr rfl,[160],[],_,by decide,rfl,?_⟩;(try simp (disch:=omega) only [push_cast,seval,↓Apz,↓Amz,↓List.map_cons,↓List.map_nil,hv]);(first|done|(show AV.own _ _ _=_ ∧ _)))
 | (refine Ajz ⟨.inr rfl,[352],[],_,by decide,rfl,?_⟩;(try simp (disch:=omega) only [push_cast,seval,↓Apz,↓Amz,↓List.map_cons,↓List.map_nil,hv]);(first|done|(show AV.own _ _ _=_ ∧ _)))))
    refine A0z (fun k:Nat=>mkS [(0,RI xs),(13,.int .i64 k),(12,.int .i64 xs.length),(3,.own 160 xs.length 1)] [(160,IL (filled (fun i:Nat=>pr (xs.drop (i + 1))) xs.length k))])
      (fun k=>k ≤ xs.length) (fun k=>xs.length - k) 0 (Nat.zero_le _) ?_ ?_
    · (refine Sub.of_lists ?_ ?_ ?_ ?_ ?_<;>simp [Vw.mkS,Vw.lk,Vw.hk,AV.inn,innL,Arz,Akz,Atz,-List.map_set,-List.getD_eq_getElem?_getD,Eqz])
    · intro k hk
      have hgk:=Huz hg (k + 1)
      have e1:(xs.drop (k + 1)).length=xs.length - (k + 1):=by simp
      (repeat' (first
 | (first|refine Alz ?_|refine Agz ?_)
 | ((first|refine Anz ?_|refine Afz ?_|refine Ahz ?_|refine Aiz ?_);simp (disch:=omega) only [push_cast,seval,l110r0,l110r1,l110r2,l110r3,l110r4,l110r5,l110r6,l110r7,l110r8,l110r9,hv])
 | ((first|refine Acz ?_ ?_|refine Aez ?_ ?_|refine Adz ?_ ?_)<;>intro h<;>(try simp only [h])<;>(try simp only [bitvec_to_nat] at h)<;>(try simp only [h])<;>(first|(exfalso;omega)|(exfalso;simp_all;done)|(simp (disch:=omega) only [push_cast,seval,hv])|skip))
 | ((first|refine Aqz false ?_|refine qcallD_of false ?_);simp (disch:=omega) only [push_cast,seval,hv])
 | ((first|((first|refine call0D (BCall.ofP (iValidShape_ok _ _ ?_ ?_)) ?_|refine qcall0D (BCall.ofP (iValidShape_ok _ _ ?_ ?_)) ⟨_,_,rfl,rfl⟩ ?_);(iterate 2 (exact sd));rintro _ _ ⟨rfl,rfl⟩)|((first|refine call0D (BCall.ofP (product_ok _ _ ?_ ?_)) ?_|refine qcall0D (BCall.ofP (product_ok _ _ ?_ ?_)) ⟨_,_,rfl,rfl⟩ ?_);(iterate 2 (exact sd));rintro _ _ ⟨rfl,rfl⟩))<;>(try simp (disch:=omega) only [push_cast,seval,hv]))
 | (refine Ajz ⟨.inr rfl,[96],[],_,by decide,rfl,?_⟩;(try simp (disch:=omega) only [push_cast,seval,↓Apz,↓Amz,↓List.map_cons,↓List.map_nil,hv]);(first|done|(show AV.own _ _ _=_ ∧ _)))
 | (refine Ajz ⟨.inr rfl,[160],[],_,by decide,rfl,?_⟩;(try simp (disch:=omega) only [push_cast,seval,↓Apz,↓Amz,↓List.map_cons,↓List.map_nil,hv]);(first|done|(show AV.own _ _ _=_ ∧ _)))
 | (refine Ajz ⟨.inr rfl,[352],[],_,by decide,rfl,?_⟩;(try simp (disch:=omega) only [push_cast,seval,↓Apz,↓Amz,↓List.map_cons,↓List.map_nil,hv]);(first|done|(show AV.own _ _ _=_ ∧ _)))))
      · refine ⟨k + 1,by omega,by omega,?_⟩
        have e:=Eaz (fun i:Nat=>pr (xs.drop (i + 1))) xs.length k (by omega)
        (refine Sub.of_lists ?_ ?_ ?_ ?_ ?_<;>simp [Vw.mkS,Vw.lk,Vw.hk,AV.inn,innL,Arz,Akz,Atz,-List.map_set,-List.getD_eq_getElem?_getD,Bvz,e])
      · have e:k=xs.length:=by omega
        rw [e,Fnz]
        simp [OI,rowS]


end Go.Proofs.Ytbplegbgofnolaa
set_option linter.unusedSimpArgs false
set_option linter.unusedVariables false
set_option maxRecDepth 4000
set_option maxHeartbeats 4000000
namespace Go.Proofs.Ytbplegbgofnolaa
open VwM Vw Go

theorem srank_ok (sh idx:List Int) (n m:Nat) (hn:sh.length=n) (hm:idx.length=m) (hb:good4 sh ∧ vIx sh idx=true):PCall Try.prog 115 [.rows false (IL sh) n,.rows false (IL idx) m] (fun r=>r=.int .i64 (dot (fun i=>idx.getD i 0) (rowS sh) sh.length)):=by
  subst hn hm
  obtain ⟨hg,hv⟩:=hb
  have hl:=hg.2
  have hlen:=(Daz.1 hv).1
  rw [← hor_all]
  refine A1z l115_eq rfl ?_
  (repeat' (first
 | (first|refine Alz ?_|refine Agz ?_)
 | ((first|refine Anz ?_|refine Asz (mid:=l115r4a) (post:=l115r4b) Awz (by decide) ?_|refine Afz ?_|refine Ahz ?_|refine Aiz ?_);simp (disch:=omega) only [push_cast,seval,l115r0,l115r1,l115r2,l115r3,l115r4a,l115r4b,l115r4,l115r5,l115r6])
 | ((first|refine Acz ?_ ?_|refine Aez ?_ ?_|refine Adz ?_ ?_)<;>intro h<;>(try simp only [h])<;>(try simp only [bitvec_to_nat] at h)<;>(try simp only [h])<;>(first|(exfalso;omega)|(exfalso;simp_all;done)|(simp (disch:=omega) only [push_cast,seval])|skip))
 | (refine Ajz ⟨.inr rfl,_,rfl,?_⟩;(try simp (disch:=omega) only [push_cast,seval]))))
  refine A0z (fun k:Nat=>mkS [(0,RI sh),(1,RI idx),(5,.int .i64 (hor sh idx k)),(6,.int .i64 k)] []) (fun k=>k ≤ sh.length) (fun k=>sh.length - k) 0 (Nat.zero_le _) ?_ ?_
  · (refine Sub.of_lists ?_ ?_ ?_ ?_ ?_<;>simp [Vw.mkS,Vw.lk,Vw.hk,AV.inn,innL,Arz,Akz,Atz,-List.map_set,-List.getD_eq_getElem?_getD,hor])
  · intro k hk
    by_cases hlt:k < sh.length
    · have h1:=Gvz hg hv (k + 1) hlt
      have h2:=Cpz (Flz hg (k + 1))
      have h3:=Gvz hg hv k hk
      have h4:=F6z hg hlt
      have h5:=(Daz.1 hv).2 k (by omega)
      have h6:0 ≤ hor sh idx k * sh.getD k 0:=Int.mul_nonneg h3.1 h4.1
      simp only [hor] at h1
      (repeat' (first
 | (first|refine Alz ?_|refine Agz ?_)
 | ((first|refine Anz ?_|refine Asz (mid:=l115r4a) (post:=l115r4b) Awz (by decide) ?_|refine Afz ?_|refine Ahz ?_|refine Aiz ?_);simp (disch:=omega) only [push_cast,seval,l115r0,l115r1,l115r2,l115r3,l115r4a,l115r4b,l115r4,l115r5,l115r6])
 | ((first|refine Acz ?_ ?_|refine Aez ?_ ?_|refine Adz ?_ ?_)<;>intro h<;>(try simp only [h])<;>(try simp only [bitvec_to_nat] at h)<;>(try simp only [h])<;>(first|(exfalso;omega)|(exfalso;simp_all;done)|(simp (disch:=omega) only [push_cast,seval])|skip))
 | (refine Ajz ⟨.inr rfl,_,rfl,?_⟩;(try simp (disch:=omega) only [push_cast,seval]))))
      refine ⟨k + 1,by omega,by omega,?_⟩
      (refine Sub.of_lists ?_ ?_ ?_ ?_ ?_<;>simp [Vw.mkS,Vw.lk,Vw.hk,AV.inn,innL,Arz,Akz,Atz,-List.map_set,-List.getD_eq_getElem?_getD,hor])
    · (repeat' (first
 | (first|refine Alz ?_|refine Agz ?_)
 | ((first|refine Anz ?_|refine Asz (mid:=l115r4a) (post:=l115r4b) Awz (by decide) ?_|refine Afz ?_|refine Ahz ?_|refine Aiz ?_);simp (disch:=omega) only [push_cast,seval,l115r0,l115r1,l115r2,l115r3,l115r4a,l115r4b,l115r4,l115r5,l115r6])
 | ((first|refine Acz ?_ ?_|refine Aez ?_ ?_|refine Adz ?_ ?_)<;>intro h<;>(try simp only [h])<;>(try simp only [bitvec_to_nat] at h)<;>(try simp only [h])<;>(first|(exfalso;omega)|(exfalso;simp_all;done)|(simp (disch:=omega) only [push_cast,seval])|skip))
 | (refine Ajz ⟨.inr rfl,_,rfl,?_⟩;(try simp (disch:=omega) only [push_cast,seval]))))
      rw [show k=sh.length by omega]

end Go.Proofs.Ytbplegbgofnolaa
set_option linter.unusedSimpArgs false
set_option linter.unusedVariables false
set_option maxRecDepth 4000
set_option maxHeartbeats 4000000
namespace Go.Proofs.Ytbplegbgofnolaa
open VwM Vw Go

/-- What keeps a view's cells from overflowing. -/
def okV (b:Int) (sh st:List Int):Prop:=(good4 sh ∧ pr sh ≤ 60) ∧ (-1000000 ≤ b ∧ b ≤ 1000000) ∧ sh.length ≤ st.length ∧ ∀ i,i < sh.length → -12960000 ≤ st.getD i 0 ∧ st.getD i 0 ≤ 12960000
def offsT (b:Int) (sh st:List Int) (j:Nat):List Int:=(List.range j).map fun k:Nat=>cellK b sh st k
end Go.Proofs.Ytbplegbgofnolaa
set_option linter.unusedSimpArgs false
set_option linter.unusedVariables false
set_option maxRecDepth 4000
set_option maxHeartbeats 4000000
namespace Go.Proofs.Ytbplegbgofnolaa
open VwM Vw Go

/-- What OffsetAt answers. -/
def oaV (b:Int) (sh st idx:List Int):Int:=if vV b sh st=true ∧ vIx sh idx=true then b + dot (fun i=>idx.getD i 0) st sh.length else 0
def oaB (b:Int) (sh st idx:List Int):Bool:=vV b sh st && vIx sh idx
def boL (b:Int) (sh st:List Int):Int:=if vV b sh st=true then bdL b sh st else -1
def boH (b:Int) (sh st:List Int):Int:=if vV b sh st=true then bdH b sh st else -1


def fitB (b:Int) (sh st:List Int) (s:Int):Bool:=vV b sh st && (decide (0 ≤ s) && decide (s ≤ 60)) && allI (offs b sh st) 0 (s - 1)

end Go.Proofs.Ytbplegbgofnolaa
set_option linter.unusedSimpArgs false
set_option linter.unusedVariables false
set_option maxRecDepth 4000
set_option maxHeartbeats 4000000
namespace Go.Proofs.Ytbplegbgofnolaa
open VwM Vw Go

theorem sdifferent_ok (xs:List Int) (n:Nat) (hn:xs.length=n) (hb:n ≤ 1099511627776):PCall Try.prog 107 [.rows false (IL xs) n] (fun r=>r=.bool (decide xs.Nodup)):=by
  subst hn
  refine A1z l107_eq rfl ?_
  (repeat' (first
 | (first|refine Alz ?_|refine Agz ?_)
 | ((first|refine Anz ?_|refine Asz (mid:=l107r3a) (post:=l107r3b) Awz (by decide) ?_|refine Afz ?_|refine Ahz ?_|refine Aiz ?_);simp (disch:=omega) only [push_cast,seval,l107r0,l107r1,l107r2,l107r3a,l107r3b,l107r3,l107r4,l107r5,l107r6])
 | ((first|refine Acz ?_ ?_|refine Aez ?_ ?_|refine Adz ?_ ?_)<;>intro h<;>(try simp only [h])<;>(try simp only [bitvec_to_nat] at h)<;>(try simp only [h])<;>(first|(exfalso;omega)|(exfalso;simp_all;done)|(simp (disch:=omega) only [push_cast,seval])|skip))
 | ((first|refine Aqz false ?_|refine qcallD_of false ?_);simp (disch:=omega) only [push_cast,seval])
 | ((first|((first|refine call0D (BCall.ofP (placeIn_ok _ _ _ ?_ ?_)) ?_|refine qcall0D (BCall.ofP (placeIn_ok _ _ _ ?_ ?_)) ⟨_,_,rfl,rfl⟩ ?_);(iterate 2 (exact sd));rintro _ _ ⟨rfl,rfl⟩))<;>(try simp (disch:=omega) only [push_cast,seval]))
 | (refine Ajz ⟨.inr rfl,_,rfl,?_⟩;(try simp (disch:=omega) only [push_cast,seval]))))
  refine A0z (fun k:Nat=>mkS [(0,RI xs),(3,.int .i64 k)] []) (fun k=>k ≤ xs.length ∧ ∀ j,j < k → xs.getD j 0 ∉ xs.take j) (fun k=>xs.length - k) 0 ⟨Nat.zero_le _,fun j h=>absurd h (Nat.not_lt_zero _)⟩ ?_ ?_
  · (refine Sub.of_lists ?_ ?_ ?_ ?_ ?_<;>simp [Vw.mkS,Vw.lk,Vw.hk,AV.inn,innL,Arz,Akz,Atz,-List.map_set,-List.getD_eq_getElem?_getD])
  · rintro k ⟨hk,hj⟩
    by_cases hlt:k < xs.length
    · have hl:(xs.take k).length=k:=by simp;omega
      by_cases hm:xs.getD k 0 ∈ xs.take k
      · have hp:0 ≤ placeI (xs.take k) (xs.getD k 0):=by
          have:=mt (@D4z (xs.take k) (xs.getD k 0)).1 (fun h=>h hm)
          omega
        have hno:¬ xs.Nodup:=not_nodup hlt hm
        (repeat' (first
 | (first|refine Alz ?_|refine Agz ?_)
 | ((first|refine Anz ?_|refine Asz (mid:=l107r3a) (post:=l107r3b) Awz (by decide) ?_|refine Afz ?_|refine Ahz ?_|refine Aiz ?_);simp (disch:=omega) only [push_cast,seval,l107r0,l107r1,l107r2,l107r3a,l107r3b,l107r3,l107r4,l107r5,l107r6,hp,Cjz,Nat.sub_zero])
 | ((first|refine Acz ?_ ?_|refine Aez ?_ ?_|refine Adz ?_ ?_)<;>intro h<;>(try simp only [h])<;>(try simp only [bitvec_to_nat] at h)<;>(try simp only [h])<;>(first|(exfalso;omega)|(exfalso;simp_all;done)|(simp (disch:=omega) only [push_cast,seval,hp,Cjz,Nat.sub_zero])|skip))
 | ((first|refine Aqz false ?_|refine qcallD_of false ?_);simp (disch:=omega) only [push_cast,seval,hp,Cjz,Nat.sub_zero])
 | ((first|((first|refine call0D (BCall.ofP (placeIn_ok _ _ _ ?_ ?_)) ?_|refine qcall0D (BCall.ofP (placeIn_ok _ _ _ ?_ ?_)) ⟨_,_,rfl,rfl⟩ ?_);(iterate 2 (exact sd));rintro _ _ ⟨rfl,rfl⟩))<;>(try simp (disch:=omega) only [push_cast,seval,hp,Cjz,Nat.sub_zero]))
 | (refine Ajz ⟨.inr rfl,_,rfl,?_⟩;(try simp (disch:=omega) only [push_cast,seval,hp,Cjz,Nat.sub_zero]))))
        simp [hno]
      · have hp:¬ 0 ≤ placeI (xs.take k) (xs.getD k 0):=by have:=(@D4z (xs.take k) (xs.getD k 0)).2 hm;omega
        (repeat' (first
 | (first|refine Alz ?_|refine Agz ?_)
 | ((first|refine Anz ?_|refine Asz (mid:=l107r3a) (post:=l107r3b) Awz (by decide) ?_|refine Afz ?_|refine Ahz ?_|refine Aiz ?_);simp (disch:=omega) only [push_cast,seval,l107r0,l107r1,l107r2,l107r3a,l107r3b,l107r3,l107r4,l107r5,l107r6,hp,Cjz,Nat.sub_zero])
 | ((first|refine Acz ?_ ?_|refine Aez ?_ ?_|refine Adz ?_ ?_)<;>intro h<;>(try simp only [h])<;>(try simp only [bitvec_to_nat] at h)<;>(try simp only [h])<;>(first|(exfalso;omega)|(exfalso;simp_all;done)|(simp (disch:=omega) only [push_cast,seval,hp,Cjz,Nat.sub_zero])|skip))
 | ((first|refine Aqz false ?_|refine qcallD_of false ?_);simp (disch:=omega) only [push_cast,seval,hp,Cjz,Nat.sub_zero])
 | ((first|((first|refine call0D (BCall.ofP (placeIn_ok _ _ _ ?_ ?_)) ?_|refine qcall0D (BCall.ofP (placeIn_ok _ _ _ ?_ ?_)) ⟨_,_,rfl,rfl⟩ ?_);(iterate 2 (exact sd));rintro _ _ ⟨rfl,rfl⟩))<;>(try simp (disch:=omega) only [push_cast,seval,hp,Cjz,Nat.sub_zero]))
 | (refine Ajz ⟨.inr rfl,_,rfl,?_⟩;(try simp (disch:=omega) only [push_cast,seval,hp,Cjz,Nat.sub_zero]))))
        refine ⟨k + 1,⟨by omega,fun j h=>?_⟩,by omega,?_⟩
        · by_cases hjk:j=k
          · subst hjk;assumption
          · exact hj j (by omega)
        · (refine Sub.of_lists ?_ ?_ ?_ ?_ ?_<;>simp [Vw.mkS,Vw.lk,Vw.hk,AV.inn,innL,Arz,Akz,Atz,-List.map_set,-List.getD_eq_getElem?_getD])
    · have hn:xs.Nodup:=nodup_iff.2 fun j h=>hj j (by omega)
      (repeat' (first
 | (first|refine Alz ?_|refine Agz ?_)
 | ((first|refine Anz ?_|refine Asz (mid:=l107r3a) (post:=l107r3b) Awz (by decide) ?_|refine Afz ?_|refine Ahz ?_|refine Aiz ?_);simp (disch:=omega) only [push_cast,seval,l107r0,l107r1,l107r2,l107r3a,l107r3b,l107r3,l107r4,l107r5,l107r6])
 | ((first|refine Acz ?_ ?_|refine Aez ?_ ?_|refine Adz ?_ ?_)<;>intro h<;>(try simp only [h])<;>(try simp only [bitvec_to_nat] at h)<;>(try simp only [h])<;>(first|(exfalso;omega)|(exfalso;simp_all;done)|(simp (disch:=omega) only [push_cast,seval])|skip))
 | ((first|refine Aqz false ?_|refine qcallD_of false ?_);simp (disch:=omega) only [push_cast,seval])
 | ((first|((first|refine call0D (BCall.ofP (placeIn_ok _ _ _ ?_ ?_)) ?_|refine qcall0D (BCall.ofP (placeIn_ok _ _ _ ?_ ?_)) ⟨_,_,rfl,rfl⟩ ?_);(iterate 2 (exact sd));rintro _ _ ⟨rfl,rfl⟩))<;>(try simp (disch:=omega) only [push_cast,seval]))
 | (refine Ajz ⟨.inr rfl,_,rfl,?_⟩;(try simp (disch:=omega) only [push_cast,seval]))))
      simp [hn]


def sameB (b:Int) (sh st:List Int) (b':Int) (sh' st':List Int):Bool:=vV b sh st && vV b' sh' st' && decide (sh=sh') && decide (offs b sh st=offs b' sh' st')

end Go.Proofs.Ytbplegbgofnolaa
