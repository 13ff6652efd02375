/- Texts of this verifier. -/
import Derived.Test.YtfgohhkcmgiddaaCLow
import Derived.Test.YtfgohhkcmgiddaaCM1
set_option linter.unusedSimpArgs false
set_option linter.unusedVariables false
set_option maxRecDepth 4000
set_option maxHeartbeats 4000000
namespace Go.Proofs.Ytfgohhkcmgiddaa
open VwM Vw Go

theorem Axz:Try.prog.follows .mixedOrders=true:=by kernel_rfl


theorem inRange_ok (x l h:Int):PCall Try.prog 50 [.int .i64 x,.int .i64 l,.int .i64 h] (fun r=>r=.bool (decide (l ≤ x) && decide (x ≤ h))):=by
  refine A1z l50_eq rfl ?_
  (repeat' (first
 | (first|refine Akz ?_|refine Aez ?_)
 | ((first|refine Alz ?_|refine Adz ?_|refine Agz ?_|refine Ahz ?_);simp (disch:=omega) only [push_cast,seval,l50r0,l50r1])
 | ((first|refine Aaz ?_ ?_|refine Acz ?_ ?_|refine Abz ?_ ?_)<;>intro h<;>(try simp only [h])<;>(try simp only [bitvec_to_nat] at h)<;>(try simp only [h])<;>(first|(exfalso;omega)|(exfalso;simp_all;done)|(simp (disch:=omega) only [push_cast,seval])|skip))
 | (refine Aiz ⟨.inr rfl,_,rfl,?_⟩;(try simp (disch:=omega) only [push_cast,seval]))))
  all_goals (first|rfl|(simp_all;done)|(simp_all;omega)|(simp;omega)|(simp;grind)|(simp_all;grind)|skip)


theorem Caz (xs:List Int) (n:Nat) (hn:xs.length=n) (hb:n ≤ 1099511627776):BCall Try.prog 46 [.rows false (IL xs) n] [] (OI xs):=by
  subst hn
  refine A7z (pins:=[]) (pin:=0) l46_eq rfl rfl rfl ?_
  (repeat' (first
 | (first|refine Akz ?_|refine Aez ?_)
 | ((first|refine Alz ?_|refine Adz ?_|refine Agz ?_|refine Ahz ?_);simp (disch:=omega) only [push_cast,seval,l46r0,l46r1])
 | ((first|refine Aaz ?_ ?_|refine Acz ?_ ?_|refine Abz ?_ ?_)<;>intro h<;>(try simp only [h])<;>(try simp only [bitvec_to_nat] at h)<;>(try simp only [h])<;>(first|(exfalso;omega)|(exfalso;simp_all;done)|(simp (disch:=omega) only [push_cast,seval])|skip))
 | (refine Aiz ⟨.inr rfl,[48],[],_,by decide,rfl,?_⟩;(try simp (disch:=omega) only [push_cast,seval,↓Aqz,↓Amz,↓List.map_cons,↓List.map_nil]);(first|done|(show AV.own _ _ _=_ ∧ _)))
 | (refine Aiz ⟨.inr rfl,[80],[],_,by decide,rfl,?_⟩;(try simp (disch:=omega) only [push_cast,seval,↓Aqz,↓Amz,↓List.map_cons,↓List.map_nil]);(first|done|(show AV.own _ _ _=_ ∧ _)))))
  all_goals simp [OI]

end Go.Proofs.Ytfgohhkcmgiddaa
set_option linter.unusedSimpArgs false
set_option linter.unusedVariables false
set_option maxRecDepth 4000
set_option maxHeartbeats 4000000
namespace Go.Proofs.Ytfgohhkcmgiddaa
open VwM Vw Go

theorem at_ok (a b c i:Int) (h1:-1000000 ≤ a ∧ a ≤ 1000000) (h2:-1000000000000 ≤ i * c ∧ i * c ≤ 1000000000000):PCall Try.prog 36 [rng a b c,.int .i64 i] (fun r=>r=.int .i64 (a + i * c)):=by
  refine A1z l36_eq rfl ?_
  (repeat' (first
 | (first|refine Akz ?_|refine Aez ?_)
 | ((first|refine Alz ?_|refine Adz ?_|refine Agz ?_|refine Ahz ?_);simp (disch:=omega) only [push_cast,seval,l36r0,l36r1])
 | ((first|refine Aaz ?_ ?_|refine Acz ?_ ?_|refine Abz ?_ ?_)<;>intro h<;>(try simp only [h])<;>(try simp only [bitvec_to_nat] at h)<;>(try simp only [h])<;>(first|(exfalso;omega)|(exfalso;simp_all;done)|(simp (disch:=omega) only [push_cast,seval])|skip))
 | (refine Aiz ⟨.inr rfl,_,rfl,?_⟩;(try simp (disch:=omega) only [push_cast,seval]))))


theorem Grz (a b c:Int) (hv:vR a b c=true):PCall Try.prog 35 [rng a b c] (fun r=>r=.int .i64 (cntI a b c)):=by
  obtain ⟨ha,hb,hc,h0⟩:=Fsz.1 hv
  refine A1z l35_eq rfl ?_
  have hq1:c < 0 → ¬ (0 - (b - a) ≤ 0) → 0 ≤ (0 - (b - a) + (0 - c) - 1).tdiv (0 - c) ∧ (0 - (b - a) + (0 - c) - 1).tdiv (0 - c) ≤ 1000:=fun h1 h2=>by
    have:=B6z (x:=0 - (b - a) + (0 - c) - 1) (y:=0 - c) (by omega) (by omega);omega
  have hq2:¬ c < 0 → ¬ (b - a ≤ 0) → 0 ≤ (b - a + c - 1).tdiv c ∧ (b - a + c - 1).tdiv c ≤ 1000:=fun h1 h2=>by
    have:=B6z (x:=b - a + c - 1) (y:=c) (by omega) (by omega);omega
  unfold cntI
  by_cases h:c < 0
  · by_cases h1:0 - (b - a) ≤ 0
    · (repeat' (first
 | (first|refine Akz ?_|refine Aez ?_)
 | ((first|refine Alz ?_|refine Asz (mid:=l35r1a) (post:=l35r1b) Axz (by decide) ?_|refine Adz ?_|refine Agz ?_|refine Ahz ?_);simp (disch:=omega) only [push_cast,seval,l35r0,l35r1a,l35r1b,l35r1,l35r2,l35r3,l35r4,l35r5,l35r6,h,h1])
 | ((first|refine Aaz ?_ ?_|refine Acz ?_ ?_|refine Abz ?_ ?_)<;>intro h<;>(try simp only [h])<;>(try simp only [bitvec_to_nat] at h)<;>(try simp only [h])<;>(first|(exfalso;omega)|(exfalso;simp_all;done)|(simp (disch:=omega) only [push_cast,seval,h,h1])|skip))
 | (refine Aiz ⟨.inr rfl,_,rfl,?_⟩;(try simp (disch:=omega) only [push_cast,seval,h,h1]))))
    · have:=hq1 h h1
      (repeat' (first
 | (first|refine Akz ?_|refine Aez ?_)
 | ((first|refine Alz ?_|refine Asz (mid:=l35r1a) (post:=l35r1b) Axz (by decide) ?_|refine Adz ?_|refine Agz ?_|refine Ahz ?_);simp (disch:=omega) only [push_cast,seval,l35r0,l35r1a,l35r1b,l35r1,l35r2,l35r3,l35r4,l35r5,l35r6,h,h1])
 | ((first|refine Aaz ?_ ?_|refine Acz ?_ ?_|refine Abz ?_ ?_)<;>intro h<;>(try simp only [h])<;>(try simp only [bitvec_to_nat] at h)<;>(try simp only [h])<;>(first|(exfalso;omega)|(exfalso;simp_all;done)|(simp (disch:=omega) only [push_cast,seval,h,h1])|skip))
 | (refine Aiz ⟨.inr rfl,_,rfl,?_⟩;(try simp (disch:=omega) only [push_cast,seval,h,h1]))))
  · by_cases h1:b - a ≤ 0
    · (repeat' (first
 | (first|refine Akz ?_|refine Aez ?_)
 | ((first|refine Alz ?_|refine Asz (mid:=l35r1a) (post:=l35r1b) Axz (by decide) ?_|refine Adz ?_|refine Agz ?_|refine Ahz ?_);simp (disch:=omega) only [push_cast,seval,l35r0,l35r1a,l35r1b,l35r1,l35r2,l35r3,l35r4,l35r5,l35r6,h,h1])
 | ((first|refine Aaz ?_ ?_|refine Acz ?_ ?_|refine Abz ?_ ?_)<;>intro h<;>(try simp only [h])<;>(try simp only [bitvec_to_nat] at h)<;>(try simp only [h])<;>(first|(exfalso;omega)|(exfalso;simp_all;done)|(simp (disch:=omega) only [push_cast,seval,h,h1])|skip))
 | (refine Aiz ⟨.inr rfl,_,rfl,?_⟩;(try simp (disch:=omega) only [push_cast,seval,h,h1]))))
    · have:=hq2 h h1
      (repeat' (first
 | (first|refine Akz ?_|refine Aez ?_)
 | ((first|refine Alz ?_|refine Asz (mid:=l35r1a) (post:=l35r1b) Axz (by decide) ?_|refine Adz ?_|refine Agz ?_|refine Ahz ?_);simp (disch:=omega) only [push_cast,seval,l35r0,l35r1a,l35r1b,l35r1,l35r2,l35r3,l35r4,l35r5,l35r6,h,h1])
 | ((first|refine Aaz ?_ ?_|refine Acz ?_ ?_|refine Abz ?_ ?_)<;>intro h<;>(try simp only [h])<;>(try simp only [bitvec_to_nat] at h)<;>(try simp only [h])<;>(first|(exfalso;omega)|(exfalso;simp_all;done)|(simp (disch:=omega) only [push_cast,seval,h,h1])|skip))
 | (refine Aiz ⟨.inr rfl,_,rfl,?_⟩;(try simp (disch:=omega) only [push_cast,seval,h,h1]))))


theorem inumbers_ok (a b c:Int) (hv:vR a b c=true):BCall Try.prog 19 [rng a b c] [] (OI (nums a c (cntN a b c))):=by
  obtain ⟨ha,hb,hc,h0⟩:=Fsz.1 hv
  have h2:=cntN_cast hv
  have h3:=cnt_bound hv
  have h4:(cntI a b c).toNat=cntN a b c:=rfl
  refine A7z (pins:=[]) (pin:=0) l19_eq rfl rfl rfl ?_
  (repeat' (first
 | (first|refine Akz ?_|refine Aez ?_)
 | ((first|refine Alz ?_|refine Adz ?_|refine Agz ?_|refine Ahz ?_);simp (disch:=omega) only [push_cast,seval,l19r0,l19r1,l19r2,l19r3,l19r4,l19r5,l19r6,l19r7,h4])
 | ((first|refine Aaz ?_ ?_|refine Acz ?_ ?_|refine Abz ?_ ?_)<;>intro h<;>(try simp only [h])<;>(try simp only [bitvec_to_nat] at h)<;>(try simp only [h])<;>(first|(exfalso;omega)|(exfalso;simp_all;done)|(simp (disch:=omega) only [push_cast,seval,h4])|skip))
 | ((first|refine Apz false ?_|refine qcallD_of false ?_);simp (disch:=omega) only [push_cast,seval,h4])
 | ((first|((first|refine call0D (BCall.ofP (Grz _ _ _ ?_)) ?_|refine qcall0D (BCall.ofP (Grz _ _ _ ?_)) ⟨_,_,rfl,rfl⟩ ?_);(exact sd);rintro _ _ ⟨rfl,rfl⟩)|((first|refine call0D (BCall.ofP (at_ok _ _ _ _ ?_ ?_)) ?_|refine qcall0D (BCall.ofP (at_ok _ _ _ _ ?_ ?_)) ⟨_,_,rfl,rfl⟩ ?_);(iterate 2 (exact sd));rintro _ _ ⟨rfl,rfl⟩))<;>(try simp (disch:=omega) only [push_cast,seval,h4]))
 | (refine Aiz ⟨.inr rfl,[96],[],_,by decide,rfl,?_⟩;(try simp (disch:=omega) only [push_cast,seval,↓Aqz,↓Amz,↓List.map_cons,↓List.map_nil,h4]);(first|done|(show AV.own _ _ _=_ ∧ _)))
 | (refine Aiz ⟨.inr rfl,[112],[],_,by decide,rfl,?_⟩;(try simp (disch:=omega) only [push_cast,seval,↓Aqz,↓Amz,↓List.map_cons,↓List.map_nil,h4]);(first|done|(show AV.own _ _ _=_ ∧ _)))
 | (refine Aiz ⟨.inr rfl,[272],[],_,by decide,rfl,?_⟩;(try simp (disch:=omega) only [push_cast,seval,↓Aqz,↓Amz,↓List.map_cons,↓List.map_nil,h4]);(first|done|(show AV.own _ _ _=_ ∧ _)))))
  refine A2z (fun k:Nat=>mkS [(1,.ref 16 3 0),(10,.int .i64 k),(9,.int .i64 (cntN a b c)),(3,.own 112 (cntN a b c) 1)] [(16,[.int .i64 a,.int .i64 b,.int .i64 c]),(112,IL (filled (fun i:Nat=>a + (i:Int) * c) (cntN a b c) k))])
    (fun k=>k ≤ cntN a b c) (fun k=>cntN a b c - k) 0 (Nat.zero_le _) ?_ ?_
  · (refine Sub.of_lists ?_ ?_ ?_ ?_ ?_<;>simp [Vw.mkS,Vw.lk,Vw.hk,AV.inn,innL,Arz,Aoz,Atz,-List.map_set,-List.getD_eq_getElem?_getD,E0z])
  · intro k hk
    have hb1:=next_bound hv hk
    (repeat' (first
 | (first|refine Akz ?_|refine Aez ?_)
 | ((first|refine Alz ?_|refine Adz ?_|refine Agz ?_|refine Ahz ?_);simp (disch:=omega) only [push_cast,seval,l19r0,l19r1,l19r2,l19r3,l19r4,l19r5,l19r6,l19r7,h4])
 | ((first|refine Aaz ?_ ?_|refine Acz ?_ ?_|refine Abz ?_ ?_)<;>intro h<;>(try simp only [h])<;>(try simp only [bitvec_to_nat] at h)<;>(try simp only [h])<;>(first|(exfalso;omega)|(exfalso;simp_all;done)|(simp (disch:=omega) only [push_cast,seval,h4])|skip))
 | ((first|refine Apz false ?_|refine qcallD_of false ?_);simp (disch:=omega) only [push_cast,seval,h4])
 | ((first|((first|refine call0D (BCall.ofP (Grz _ _ _ ?_)) ?_|refine qcall0D (BCall.ofP (Grz _ _ _ ?_)) ⟨_,_,rfl,rfl⟩ ?_);(exact sd);rintro _ _ ⟨rfl,rfl⟩)|((first|refine call0D (BCall.ofP (at_ok _ _ _ _ ?_ ?_)) ?_|refine qcall0D (BCall.ofP (at_ok _ _ _ _ ?_ ?_)) ⟨_,_,rfl,rfl⟩ ?_);(iterate 2 (exact sd));rintro _ _ ⟨rfl,rfl⟩))<;>(try simp (disch:=omega) only [push_cast,seval,h4]))
 | (refine Aiz ⟨.inr rfl,[96],[],_,by decide,rfl,?_⟩;(try simp (disch:=omega) only [push_cast,seval,↓Aqz,↓Amz,↓List.map_cons,↓List.map_nil,h4]);(first|done|(show AV.own _ _ _=_ ∧ _)))
 | (refine Aiz ⟨.inr rfl,[112],[],_,by decide,rfl,?_⟩;(try simp (disch:=omega) only [push_cast,seval,↓Aqz,↓Amz,↓List.map_cons,↓List.map_nil,h4]);(first|done|(show AV.own _ _ _=_ ∧ _)))
 | (refine Aiz ⟨.inr rfl,[272],[],_,by decide,rfl,?_⟩;(try simp (disch:=omega) only [push_cast,seval,↓Aqz,↓Amz,↓List.map_cons,↓List.map_nil,h4]);(first|done|(show AV.own _ _ _=_ ∧ _)))))
    · refine ⟨k + 1,by omega,by omega,?_⟩
      have e:=Egz (fun i:Nat=>a + (i:Int) * c) (cntN a b c) k (by omega)
      (refine Sub.of_lists ?_ ?_ ?_ ?_ ?_<;>simp [Vw.mkS,Vw.lk,Vw.hk,AV.inn,innL,Arz,Aoz,Atz,-List.map_set,-List.getD_eq_getElem?_getD,Bmz,e])
    · have e:k=cntN a b c:=by omega
      rw [e,F3z]
      simp [nums]

end Go.Proofs.Ytfgohhkcmgiddaa
set_option linter.unusedSimpArgs false
set_option linter.unusedVariables false
set_option maxRecDepth 4000
set_option maxHeartbeats 4000000
namespace Go.Proofs.Ytfgohhkcmgiddaa
open VwM Vw Go

theorem progression_ok (a c k:Int) (h1:-100000 ≤ a ∧ a ≤ 100000 ∧ -100000 ≤ c ∧ c ≤ 100000 ∧ -1000 ≤ k ∧ k ≤ 1000) (h2:1 ≤ k → -1000000 ≤ (k - 1) * c ∧ (k - 1) * c ≤ 1000000):PCall Try.prog 18 [.int .i64 a,.int .i64 c,.int .i64 k] (fun r=>r=PR a c k):=by
  obtain ⟨h3,h4,h5,h6,h7,h8⟩:=h1
  refine A1z l18_eq rfl ?_
  by_cases g1:k < 1
  · (repeat' (first
 | (first|refine Akz ?_|refine Aez ?_)
 | ((first|refine Alz ?_|refine Adz ?_|refine Agz ?_|refine Ahz ?_);simp (disch:=omega) only [push_cast,seval,l18r0,l18r1,l18r2,l18r3,l18r4,l18r5,l18r6,l18r7,l18r8,g1])
 | ((first|refine Aaz ?_ ?_|refine Acz ?_ ?_|refine Abz ?_ ?_)<;>intro h<;>(try simp only [h])<;>(try simp only [bitvec_to_nat] at h)<;>(try simp only [h])<;>(first|(exfalso;omega)|(exfalso;simp_all;done)|(simp (disch:=omega) only [push_cast,seval,g1])|skip))
 | (refine Aiz ⟨.inr rfl,_,rfl,?_⟩;(try simp (disch:=omega) only [push_cast,seval,g1]))))
    all_goals (have:k ≤ 1:=by omega);simp [pS,pE,pC,g1,this]
  · have h2:=h2 (by omega)
    by_cases g2:k=1
    · subst g2
      (repeat' (first
 | (first|refine Akz ?_|refine Aez ?_)
 | ((first|refine Alz ?_|refine Adz ?_|refine Agz ?_|refine Ahz ?_);simp (disch:=omega) only [push_cast,seval,l18r0,l18r1,l18r2,l18r3,l18r4,l18r5,l18r6,l18r7,l18r8])
 | ((first|refine Aaz ?_ ?_|refine Acz ?_ ?_|refine Abz ?_ ?_)<;>intro h<;>(try simp only [h])<;>(try simp only [bitvec_to_nat] at h)<;>(try simp only [h])<;>(first|(exfalso;omega)|(exfalso;simp_all;done)|(simp (disch:=omega) only [push_cast,seval])|skip))
 | (refine Aiz ⟨.inr rfl,_,rfl,?_⟩;(try simp (disch:=omega) only [push_cast,seval]))))
      all_goals simp [pS,pE,pC]
    · have g3:¬ k ≤ 1:=by omega
      by_cases g4:c < 0
      · (repeat' (first
 | (first|refine Akz ?_|refine Aez ?_)
 | ((first|refine Alz ?_|refine Adz ?_|refine Agz ?_|refine Ahz ?_);simp (disch:=omega) only [push_cast,seval,l18r0,l18r1,l18r2,l18r3,l18r4,l18r5,l18r6,l18r7,l18r8,g1,g2,g4])
 | ((first|refine Aaz ?_ ?_|refine Acz ?_ ?_|refine Abz ?_ ?_)<;>intro h<;>(try simp only [h])<;>(try simp only [bitvec_to_nat] at h)<;>(try simp only [h])<;>(first|(exfalso;omega)|(exfalso;simp_all;done)|(simp (disch:=omega) only [push_cast,seval,g1,g2,g4])|skip))
 | (refine Aiz ⟨.inr rfl,_,rfl,?_⟩;(try simp (disch:=omega) only [push_cast,seval,g1,g2,g4]))))
        all_goals simp [pS,pE,pC,g1,g2,g3,g4]
      · (repeat' (first
 | (first|refine Akz ?_|refine Aez ?_)
 | ((first|refine Alz ?_|refine Adz ?_|refine Agz ?_|refine Ahz ?_);simp (disch:=omega) only [push_cast,seval,l18r0,l18r1,l18r2,l18r3,l18r4,l18r5,l18r6,l18r7,l18r8,g1,g2,g4])
 | ((first|refine Aaz ?_ ?_|refine Acz ?_ ?_|refine Abz ?_ ?_)<;>intro h<;>(try simp only [h])<;>(try simp only [bitvec_to_nat] at h)<;>(try simp only [h])<;>(first|(exfalso;omega)|(exfalso;simp_all;done)|(simp (disch:=omega) only [push_cast,seval,g1,g2,g4])|skip))
 | (refine Aiz ⟨.inr rfl,_,rfl,?_⟩;(try simp (disch:=omega) only [push_cast,seval,g1,g2,g4]))))
        all_goals simp [pS,pE,pC,g1,g2,g3,g4]

end Go.Proofs.Ytfgohhkcmgiddaa
set_option linter.unusedSimpArgs false
set_option linter.unusedVariables false
set_option maxRecDepth 4000
set_option maxHeartbeats 4000000
namespace Go.Proofs.Ytfgohhkcmgiddaa
open VwM Vw Go

theorem Bzz (xs:List Int) (n:Nat) (x:Int) (hn:xs.length=n) (hb:n ≤ 1099511627776):PCall Try.prog 67 [.rows false (IL xs) n,.int .i64 x] (fun r=>r=.int .i64 (placeI xs x)):=by
  subst hn
  refine A1z l67_eq rfl ?_
  (repeat' (first
 | (first|refine Akz ?_|refine Aez ?_)
 | ((first|refine Alz ?_|refine Adz ?_|refine Agz ?_|refine Ahz ?_);simp (disch:=omega) only [push_cast,seval,l67r0,l67r1,l67r2,l67r3,l67r4,l67r5,l67r6])
 | ((first|refine Aaz ?_ ?_|refine Acz ?_ ?_|refine Abz ?_ ?_)<;>intro h<;>(try simp only [h])<;>(try simp only [bitvec_to_nat] at h)<;>(try simp only [h])<;>(first|(exfalso;omega)|(exfalso;simp_all;done)|(simp (disch:=omega) only [push_cast,seval])|skip))
 | (refine Aiz ⟨.inr rfl,_,rfl,?_⟩;(try simp (disch:=omega) only [push_cast,seval]))))
  refine A2z (fun k:Nat=>mkS [(0,RI xs),(1,.int .i64 x),(5,.int .i64 k)] []) (fun k=>k ≤ xs.length ∧ ∀ j:Nat,j < k → xs.getD j 0 ≠ x) (fun k=>xs.length - k) 0 ⟨Nat.zero_le _,fun j h=>absurd h (Nat.not_lt_zero _)⟩ ?_ ?_
  · (refine Sub.of_lists ?_ ?_ ?_ ?_ ?_<;>simp [Vw.mkS,Vw.lk,Vw.hk,AV.inn,innL,Arz,Aoz,Atz,-List.map_set,-List.getD_eq_getElem?_getD])
  · rintro k ⟨hk,hj⟩
    (repeat' (first
 | (first|refine Akz ?_|refine Aez ?_)
 | ((first|refine Alz ?_|refine Adz ?_|refine Agz ?_|refine Ahz ?_);simp (disch:=omega) only [push_cast,seval,l67r0,l67r1,l67r2,l67r3,l67r4,l67r5,l67r6])
 | ((first|refine Aaz ?_ ?_|refine Acz ?_ ?_|refine Abz ?_ ?_)<;>intro h<;>(try simp only [h])<;>(try simp only [bitvec_to_nat] at h)<;>(try simp only [h])<;>(first|(exfalso;omega)|(exfalso;simp_all;done)|(simp (disch:=omega) only [push_cast,seval])|skip))
 | (refine Aiz ⟨.inr rfl,_,rfl,?_⟩;(try simp (disch:=omega) only [push_cast,seval]))))
    · rw [G3z (j:=k) (by omega) (by assumption) hj]
    · refine ⟨k + 1,⟨by omega,fun j h=>?_⟩,by omega,?_⟩
      · by_cases hjk:j=k
        · subst hjk;assumption
        · exact hj j (by omega)
      · (refine Sub.of_lists ?_ ?_ ?_ ?_ ?_<;>simp [Vw.mkS,Vw.lk,Vw.hk,AV.inn,innL,Arz,Aoz,Atz,-List.map_set,-List.getD_eq_getElem?_getD])
    · rw [G4z fun j h=>hj j (by omega)]

end Go.Proofs.Ytfgohhkcmgiddaa
set_option linter.unusedSimpArgs false
set_option linter.unusedVariables false
set_option maxRecDepth 4000
set_option maxHeartbeats 4000000
namespace Go.Proofs.Ytfgohhkcmgiddaa
open VwM Vw Go

theorem B2z (x l:Int):PCall Try.prog 40 [.int .i64 x,.int .i64 l] (fun r=>r=.bool (decide (0 ≤ x) && decide (x ≤ l))):=by
  refine A1z l40_eq rfl ?_
  (repeat' (first
 | (first|refine Akz ?_|refine Aez ?_)
 | ((first|refine Alz ?_|refine Adz ?_|refine Agz ?_|refine Ahz ?_);simp (disch:=omega) only [push_cast,seval,l40r0,l40r1])
 | ((first|refine Aaz ?_ ?_|refine Acz ?_ ?_|refine Abz ?_ ?_)<;>intro h<;>(try simp only [h])<;>(try simp only [bitvec_to_nat] at h)<;>(try simp only [h])<;>(first|(exfalso;omega)|(exfalso;simp_all;done)|(simp (disch:=omega) only [push_cast,seval])|skip))
 | (refine Aiz ⟨.inr rfl,_,rfl,?_⟩;(try simp (disch:=omega) only [push_cast,seval]))))
  all_goals (first|rfl|(simp_all;done)|(simp_all;omega)|(simp;omega)|(simp;grind)|(simp_all;grind)|skip)


theorem product_ok (xs:List Int) (n:Nat) (hn:xs.length=n) (hg:good4 xs):PCall Try.prog 32 [.rows false (IL xs) n] (fun r=>r=.int .i64 (pr xs)):=by
  subst hn
  have hl:=hg.2
  refine A1z l32_eq rfl ?_
  (repeat' (first
 | (first|refine Akz ?_|refine Aez ?_)
 | ((first|refine Alz ?_|refine Adz ?_|refine Agz ?_|refine Ahz ?_);simp (disch:=omega) only [push_cast,seval,l32r0,l32r1,l32r2,l32r3,l32r4,l32r5,l32r6,l32r7])
 | ((first|refine Aaz ?_ ?_|refine Acz ?_ ?_|refine Abz ?_ ?_)<;>intro h<;>(try simp only [h])<;>(try simp only [bitvec_to_nat] at h)<;>(try simp only [h])<;>(first|(exfalso;omega)|(exfalso;simp_all;done)|(simp (disch:=omega) only [push_cast,seval])|skip))
 | (refine Aiz ⟨.inr rfl,_,rfl,?_⟩;(try simp (disch:=omega) only [push_cast,seval]))))
  refine A2z (fun k:Nat=>mkS [(3,.int .i64 (pr (xs.take k))),(6,RI xs),(7,.int .i64 xs.length),(8,.int .i64 k)] [])
    (fun k=>k ≤ xs.length) (fun k=>xs.length - k) 0 (Nat.zero_le _) ?_ ?_
  · (refine Sub.of_lists ?_ ?_ ?_ ?_ ?_<;>simp [Vw.mkS,Vw.lk,Vw.hk,AV.inn,innL,Arz,Aoz,Atz,-List.map_set,-List.getD_eq_getElem?_getD,Dvz])
  · intro k hk
    by_cases hlt:k < xs.length
    · have h1:=Cxz (F1z hg (k + 1))
      have h2:=Bqz xs k hlt
      (repeat' (first
 | (first|refine Akz ?_|refine Aez ?_)
 | ((first|refine Alz ?_|refine Adz ?_|refine Agz ?_|refine Ahz ?_);simp (disch:=omega) only [push_cast,seval,l32r0,l32r1,l32r2,l32r3,l32r4,l32r5,l32r6,l32r7])
 | ((first|refine Aaz ?_ ?_|refine Acz ?_ ?_|refine Abz ?_ ?_)<;>intro h<;>(try simp only [h])<;>(try simp only [bitvec_to_nat] at h)<;>(try simp only [h])<;>(first|(exfalso;omega)|(exfalso;simp_all;done)|(simp (disch:=omega) only [push_cast,seval])|skip))
 | (refine Aiz ⟨.inr rfl,_,rfl,?_⟩;(try simp (disch:=omega) only [push_cast,seval]))))
      refine ⟨k + 1,by omega,by omega,?_⟩
      (refine Sub.of_lists ?_ ?_ ?_ ?_ ?_<;>simp [Vw.mkS,Vw.lk,Vw.hk,AV.inn,innL,Arz,Aoz,Atz,-List.map_set,-List.getD_eq_getElem?_getD,h2])
    · (repeat' (first
 | (first|refine Akz ?_|refine Aez ?_)
 | ((first|refine Alz ?_|refine Adz ?_|refine Agz ?_|refine Ahz ?_);simp (disch:=omega) only [push_cast,seval,l32r0,l32r1,l32r2,l32r3,l32r4,l32r5,l32r6,l32r7])
 | ((first|refine Aaz ?_ ?_|refine Acz ?_ ?_|refine Abz ?_ ?_)<;>intro h<;>(try simp only [h])<;>(try simp only [bitvec_to_nat] at h)<;>(try simp only [h])<;>(first|(exfalso;omega)|(exfalso;simp_all;done)|(simp (disch:=omega) only [push_cast,seval])|skip))
 | (refine Aiz ⟨.inr rfl,_,rfl,?_⟩;(try simp (disch:=omega) only [push_cast,seval]))))
      rw [List.take_of_length_le (by omega)]


theorem scount_ok (xs:List Int) (n:Nat) (hn:xs.length=n) (hg:good4 xs):PCall Try.prog 47 [.rows false (IL xs) n] (fun r=>r=.int .i64 (pr xs)):=by
  subst hn
  have hl:=hg.2
  refine A1z l47_eq rfl ?_
  (repeat' (first
 | (first|refine Akz ?_|refine Aez ?_)
 | ((first|refine Alz ?_|refine Adz ?_|refine Agz ?_|refine Ahz ?_);simp (disch:=omega) only [push_cast,seval,l47r0,l47r1,l47r2,l47r3,l47r4,l47r5,l47r6])
 | ((first|refine Aaz ?_ ?_|refine Acz ?_ ?_|refine Abz ?_ ?_)<;>intro h<;>(try simp only [h])<;>(try simp only [bitvec_to_nat] at h)<;>(try simp only [h])<;>(first|(exfalso;omega)|(exfalso;simp_all;done)|(simp (disch:=omega) only [push_cast,seval])|skip))
 | (refine Aiz ⟨.inr rfl,_,rfl,?_⟩;(try simp (disch:=omega) only [push_cast,seval]))))
  refine A2z (fun k:Nat=>mkS [(0,RI xs),(3,.int .i64 (pr (xs.take k))),(4,.int .i64 k)] [])
    (fun k=>k ≤ xs.length) (fun k=>xs.length - k) 0 (Nat.zero_le _) ?_ ?_
  · (refine Sub.of_lists ?_ ?_ ?_ ?_ ?_<;>simp [Vw.mkS,Vw.lk,Vw.hk,AV.inn,innL,Arz,Aoz,Atz,-List.map_set,-List.getD_eq_getElem?_getD,Dvz])
  · intro k hk
    by_cases hlt:k < xs.length
    · have h1:=Cxz (F1z hg (k + 1))
      have h2:=Bqz xs k hlt
      (repeat' (first
 | (first|refine Akz ?_|refine Aez ?_)
 | ((first|refine Alz ?_|refine Adz ?_|refine Agz ?_|refine Ahz ?_);simp (disch:=omega) only [push_cast,seval,l47r0,l47r1,l47r2,l47r3,l47r4,l47r5,l47r6])
 | ((first|refine Aaz ?_ ?_|refine Acz ?_ ?_|refine Abz ?_ ?_)<;>intro h<;>(try simp only [h])<;>(try simp only [bitvec_to_nat] at h)<;>(try simp only [h])<;>(first|(exfalso;omega)|(exfalso;simp_all;done)|(simp (disch:=omega) only [push_cast,seval])|skip))
 | (refine Aiz ⟨.inr rfl,_,rfl,?_⟩;(try simp (disch:=omega) only [push_cast,seval]))))
      refine ⟨k + 1,by omega,by omega,?_⟩
      (refine Sub.of_lists ?_ ?_ ?_ ?_ ?_<;>simp [Vw.mkS,Vw.lk,Vw.hk,AV.inn,innL,Arz,Aoz,Atz,-List.map_set,-List.getD_eq_getElem?_getD,h2])
    · (repeat' (first
 | (first|refine Akz ?_|refine Aez ?_)
 | ((first|refine Alz ?_|refine Adz ?_|refine Agz ?_|refine Ahz ?_);simp (disch:=omega) only [push_cast,seval,l47r0,l47r1,l47r2,l47r3,l47r4,l47r5,l47r6])
 | ((first|refine Aaz ?_ ?_|refine Acz ?_ ?_|refine Abz ?_ ?_)<;>intro h<;>(try simp only [h])<;>(try simp only [bitvec_to_nat] at h)<;>(try simp only [h])<;>(first|(exfalso;omega)|(exfalso;simp_all;done)|(simp (disch:=omega) only [push_cast,seval])|skip))
 | (refine Aiz ⟨.inr rfl,_,rfl,?_⟩;(try simp (disch:=omega) only [push_cast,seval]))))
      rw [List.take_of_length_le (by omega)]


theorem allIn_ok (xs:List Int) (n:Nat) (l h:Int) (hn:xs.length=n) (hb:n ≤ 1099511627776):PCall Try.prog 61 [.rows false (IL xs) n,.int .i64 l,.int .i64 h] (fun r=>r=.bool (allI xs l h)):=by
  subst hn
  refine A1z l61_eq rfl ?_
  (repeat' (first
 | (first|refine Akz ?_|refine Aez ?_)
 | ((first|refine Alz ?_|refine Adz ?_|refine Agz ?_|refine Ahz ?_);simp (disch:=omega) only [push_cast,seval,l61r0,l61r1,l61r2,l61r3,l61r4,l61r5,l61r6])
 | ((first|refine Aaz ?_ ?_|refine Acz ?_ ?_|refine Abz ?_ ?_)<;>intro h<;>(try simp only [h])<;>(try simp only [bitvec_to_nat] at h)<;>(try simp only [h])<;>(first|(exfalso;omega)|(exfalso;simp_all;done)|(simp (disch:=omega) only [push_cast,seval])|skip))
 | ((first|refine Apz false ?_|refine qcallD_of false ?_);simp (disch:=omega) only [push_cast,seval])
 | ((first|((first|refine call0D (BCall.ofP (inRange_ok _ _ _)) ?_|refine qcall0D (BCall.ofP (inRange_ok _ _ _)) ⟨_,_,rfl,rfl⟩ ?_);rintro _ _ ⟨rfl,rfl⟩))<;>(try simp (disch:=omega) only [push_cast,seval]))
 | (refine Aiz ⟨.inr rfl,_,rfl,?_⟩;(try simp (disch:=omega) only [push_cast,seval]))))
  refine A2z (fun k:Nat=>mkS [(0,RI xs),(1,.int .i64 l),(2,.int .i64 h),(7,.int .i64 k)] []) (fun k=>k ≤ xs.length ∧ ∀ j:Nat,j < k → l ≤ xs.getD j 0 ∧ xs.getD j 0 ≤ h) (fun k=>xs.length - k) 0 ⟨Nat.zero_le _,fun j h=>absurd h (Nat.not_lt_zero _)⟩ ?_ ?_
  · (refine Sub.of_lists ?_ ?_ ?_ ?_ ?_<;>simp [Vw.mkS,Vw.lk,Vw.hk,AV.inn,innL,Arz,Aoz,Atz,-List.map_set,-List.getD_eq_getElem?_getD])
  · rintro k ⟨hk,hj⟩
    (repeat' (first
 | (first|refine Akz ?_|refine Aez ?_)
 | ((first|refine Alz ?_|refine Adz ?_|refine Agz ?_|refine Ahz ?_);simp (disch:=omega) only [push_cast,seval,l61r0,l61r1,l61r2,l61r3,l61r4,l61r5,l61r6])
 | ((first|refine Aaz ?_ ?_|refine Acz ?_ ?_|refine Abz ?_ ?_)<;>intro h<;>(try simp only [h])<;>(try simp only [bitvec_to_nat] at h)<;>(try simp only [h])<;>(first|(exfalso;omega)|(exfalso;simp_all;done)|(simp (disch:=omega) only [push_cast,seval])|skip))
 | ((first|refine Apz false ?_|refine qcallD_of false ?_);simp (disch:=omega) only [push_cast,seval])
 | ((first|((first|refine call0D (BCall.ofP (inRange_ok _ _ _)) ?_|refine qcall0D (BCall.ofP (inRange_ok _ _ _)) ⟨_,_,rfl,rfl⟩ ?_);rintro _ _ ⟨rfl,rfl⟩))<;>(try simp (disch:=omega) only [push_cast,seval]))
 | (refine Aiz ⟨.inr rfl,_,rfl,?_⟩;(try simp (disch:=omega) only [push_cast,seval]))))
    · rw [Ejz (j:=k) (by omega) (by assumption)]
    · refine ⟨k + 1,⟨by omega,fun j h=>?_⟩,by omega,?_⟩
      · by_cases hjk:j=k
        · subst hjk;assumption
        · exact hj j (by omega)
      · (refine Sub.of_lists ?_ ?_ ?_ ?_ ?_<;>simp [Vw.mkS,Vw.lk,Vw.hk,AV.inn,innL,Arz,Aoz,Atz,-List.map_set,-List.getD_eq_getElem?_getD])
    · rw [Fpz fun j h=>hj j (by omega)]


theorem iValidShape_ok (xs:List Int) (n:Nat) (hn:xs.length=n) (hb:n ≤ 1099511627776):PCall Try.prog 24 [.rows false (IL xs) n] (fun r=>r=.bool (vSh xs)):=by
  subst hn
  refine A1z l24_eq rfl ?_
  (repeat' (first
 | (first|refine Akz ?_|refine Aez ?_)
 | ((first|refine Alz ?_|refine Adz ?_|refine Agz ?_|refine Ahz ?_);simp (disch:=omega) only [push_cast,seval,l24r0,l24r1,l24r2,l24r3,l24r4,l24r5,l24r6,l24r7,l24r8,l24r9])
 | ((first|refine Aaz ?_ ?_|refine Acz ?_ ?_|refine Abz ?_ ?_)<;>intro h<;>(try simp only [h])<;>(try simp only [bitvec_to_nat] at h)<;>(try simp only [h])<;>(first|(exfalso;omega)|(exfalso;simp_all;done)|(simp (disch:=omega) only [push_cast,seval])|skip))
 | ((first|refine Apz false ?_|refine qcallD_of false ?_);simp (disch:=omega) only [push_cast,seval])
 | ((first|((first|refine call0D (BCall.ofP (B2z _ _)) ?_|refine qcall0D (BCall.ofP (B2z _ _)) ⟨_,_,rfl,rfl⟩ ?_);rintro _ _ ⟨rfl,rfl⟩)|((first|refine call0D (BCall.ofP (product_ok _ _ ?_ ?_)) ?_|refine qcall0D (BCall.ofP (product_ok _ _ ?_ ?_)) ⟨_,_,rfl,rfl⟩ ?_);(iterate 2 (exact sd));rintro _ _ ⟨rfl,rfl⟩))<;>(try simp (disch:=omega) only [push_cast,seval]))
 | (refine Aiz ⟨.inr rfl,_,rfl,?_⟩;(try simp (disch:=omega) only [push_cast,seval]))))
  · have:¬ xs.length ≤ 4:=by omega
    simp [vSh,this]
  have h4:xs.length ≤ 4:=by omega
  refine A2z (fun k:Nat=>mkS [(0,RI xs),(8,RI xs),(9,.int .i64 xs.length),(10,.int .i64 k)] []) (fun k=>k ≤ xs.length ∧ ∀ j:Nat,j < k → 0 ≤ xs.getD j 0 ∧ xs.getD j 0 ≤ 60) (fun k=>xs.length - k) 0 ⟨Nat.zero_le _,fun j h=>absurd h (Nat.not_lt_zero _)⟩ ?_ ?_
  · (refine Sub.of_lists ?_ ?_ ?_ ?_ ?_<;>simp [Vw.mkS,Vw.lk,Vw.hk,AV.inn,innL,Arz,Aoz,Atz,-List.map_set,-List.getD_eq_getElem?_getD])
  · rintro k ⟨hk,hj⟩
    by_cases hlt:k < xs.length
    · (repeat' (first
 | (first|refine Akz ?_|refine Aez ?_)
 | ((first|refine Alz ?_|refine Adz ?_|refine Agz ?_|refine Ahz ?_);simp (disch:=omega) only [push_cast,seval,l24r0,l24r1,l24r2,l24r3,l24r4,l24r5,l24r6,l24r7,l24r8,l24r9])
 | ((first|refine Aaz ?_ ?_|refine Acz ?_ ?_|refine Abz ?_ ?_)<;>intro h<;>(try simp only [h])<;>(try simp only [bitvec_to_nat] at h)<;>(try simp only [h])<;>(first|(exfalso;omega)|(exfalso;simp_all;done)|(simp (disch:=omega) only [push_cast,seval])|skip))
 | ((first|refine Apz false ?_|refine qcallD_of false ?_);simp (disch:=omega) only [push_cast,seval])
 | ((first|((first|refine call0D (BCall.ofP (B2z _ _)) ?_|refine qcall0D (BCall.ofP (B2z _ _)) ⟨_,_,rfl,rfl⟩ ?_);rintro _ _ ⟨rfl,rfl⟩)|((first|refine call0D (BCall.ofP (product_ok _ _ ?_ ?_)) ?_|refine qcall0D (BCall.ofP (product_ok _ _ ?_ ?_)) ⟨_,_,rfl,rfl⟩ ?_);(iterate 2 (exact sd));rintro _ _ ⟨rfl,rfl⟩))<;>(try simp (disch:=omega) only [push_cast,seval]))
 | (refine Aiz ⟨.inr rfl,_,rfl,?_⟩;(try simp (disch:=omega) only [push_cast,seval]))))
      · have:allI xs 0 60=false:=Ejz (j:=k) hlt (by assumption)
        simp [vSh,this]
      · refine ⟨k + 1,⟨by omega,fun j h=>?_⟩,by omega,?_⟩
        · by_cases hjk:j=k
          · subst hjk;assumption
          · exact hj j (by omega)
        · (refine Sub.of_lists ?_ ?_ ?_ ?_ ?_<;>simp [Vw.mkS,Vw.lk,Vw.hk,AV.inn,innL,Arz,Aoz,Atz,-List.map_set,-List.getD_eq_getElem?_getD])
    · have ha:allI xs 0 60=true:=Fpz fun j h=>hj j (by omega)
      have hg:good4 xs:=⟨Bdz.1 ha,h4⟩
      (repeat' (first
 | (first|refine Akz ?_|refine Aez ?_)
 | ((first|refine Alz ?_|refine Adz ?_|refine Agz ?_|refine Ahz ?_);simp (disch:=omega) only [push_cast,seval,l24r0,l24r1,l24r2,l24r3,l24r4,l24r5,l24r6,l24r7,l24r8,l24r9])
 | ((first|refine Aaz ?_ ?_|refine Acz ?_ ?_|refine Abz ?_ ?_)<;>intro h<;>(try simp only [h])<;>(try simp only [bitvec_to_nat] at h)<;>(try simp only [h])<;>(first|(exfalso;omega)|(exfalso;simp_all;done)|(simp (disch:=omega) only [push_cast,seval])|skip))
 | ((first|refine Apz false ?_|refine qcallD_of false ?_);simp (disch:=omega) only [push_cast,seval])
 | ((first|((first|refine call0D (BCall.ofP (B2z _ _)) ?_|refine qcall0D (BCall.ofP (B2z _ _)) ⟨_,_,rfl,rfl⟩ ?_);rintro _ _ ⟨rfl,rfl⟩)|((first|refine call0D (BCall.ofP (product_ok _ _ ?_ ?_)) ?_|refine qcall0D (BCall.ofP (product_ok _ _ ?_ ?_)) ⟨_,_,rfl,rfl⟩ ?_);(iterate 2 (exact sd));rintro _ _ ⟨rfl,rfl⟩))<;>(try simp (disch:=omega) only [push_cast,seval]))
 | (refine Aiz ⟨.inr rfl,_,rfl,?_⟩;(try simp (disch:=omega) only [push_cast,seval]))))
      simp [vSh,ha,h4]


theorem svalidShape_ok (xs:List Int) (n:Nat) (hn:xs.length=n) (hb:n ≤ 1099511627776):PCall Try.prog 60 [.rows false (IL xs) n] (fun r=>r=.bool (vSh xs)):=by
  subst hn
  refine A1z l60_eq rfl ?_
  by_cases h4:xs.length ≤ 4
  · cases ha:allI xs 0 60 with
    | false =>
      (repeat' (first
 | (first|refine Akz ?_|refine Aez ?_)
 | ((first|refine Alz ?_|refine Adz ?_|refine Agz ?_|refine Ahz ?_);simp (disch:=omega) only [push_cast,seval,l60r0,l60r1,ha])
 | ((first|refine Aaz ?_ ?_|refine Acz ?_ ?_|refine Abz ?_ ?_)<;>intro h<;>(try simp only [h])<;>(try simp only [bitvec_to_nat] at h)<;>(try simp only [h])<;>(first|(exfalso;omega)|(exfalso;simp_all;done)|(simp (disch:=omega) only [push_cast,seval,ha])|skip))
 | ((first|refine Apz false ?_|refine qcallD_of false ?_);simp (disch:=omega) only [push_cast,seval,ha])
 | ((first|((first|refine call0D (BCall.ofP (allIn_ok _ _ _ _ ?_ ?_)) ?_|refine qcall0D (BCall.ofP (allIn_ok _ _ _ _ ?_ ?_)) ⟨_,_,rfl,rfl⟩ ?_);(iterate 2 (exact sd));rintro _ _ ⟨rfl,rfl⟩)|((first|refine call0D (BCall.ofP (scount_ok _ _ ?_ ?_)) ?_|refine qcall0D (BCall.ofP (scount_ok _ _ ?_ ?_)) ⟨_,_,rfl,rfl⟩ ?_);(iterate 2 (exact sd));rintro _ _ ⟨rfl,rfl⟩))<;>(try simp (disch:=omega) only [push_cast,seval,ha]))
 | (refine Aiz ⟨.inr rfl,_,rfl,?_⟩;(try simp (disch:=omega) only [push_cast,seval,ha]))))
      simp [vSh,ha]
    | true =>
      have hg:good4 xs:=⟨Bdz.1 ha,h4⟩
      (repeat' (first
 | (first|refine Akz ?_|refine Aez ?_)
 | ((first|refine Alz ?_|refine Adz ?_|refine Agz ?_|refine Ahz ?_);simp (disch:=omega) only [push_cast,seval,l60r0,l60r1,ha])
 | ((first|refine Aaz ?_ ?_|refine Acz ?_ ?_|refine Abz ?_ ?_)<;>intro h<;>(try simp only [h])<;>(try simp only [bitvec_to_nat] at h)<;>(try simp only [h])<;>(first|(exfalso;omega)|(exfalso;simp_all;done)|(simp (disch:=omega) only [push_cast,seval,ha])|skip))
 | ((first|refine Apz false ?_|refine qcallD_of false ?_);simp (disch:=omega) only [push_cast,seval,ha])
 | ((first|((first|refine call0D (BCall.ofP (allIn_ok _ _ _ _ ?_ ?_)) ?_|refine qcall0D (BCall.ofP (allIn_ok _ _ _ _ ?_ ?_)) ⟨_,_,rfl,rfl⟩ ?_);(iterate 2 (exact sd));rintro _ _ ⟨rfl,rfl⟩)|((first|refine call0D (BCall.ofP (scount_ok _ _ ?_ ?_)) ?_|refine qcall0D (BCall.ofP (scount_ok _ _ ?_ ?_)) ⟨_,_,rfl,rfl⟩ ?_);(iterate 2 (exact sd));rintro _ _ ⟨rfl,rfl⟩))<;>(try simp (disch:=omega) only [push_cast,seval,ha]))
 | (refine Aiz ⟨.inr rfl,_,rfl,?_⟩;(try simp (disch:=omega) only [push_cast,seval,ha]))))
      simp [vSh,ha,h4]
  · (repeat' (first
 | (first|refine Akz ?_|refine Aez ?_)
 | ((first|refine Alz ?_|refine Adz ?_|refine Agz ?_|refine Ahz ?_);simp (disch:=omega) only [push_cast,seval,l60r0,l60r1])
 | ((first|refine Aaz ?_ ?_|refine Acz ?_ ?_|refine Abz ?_ ?_)<;>intro h<;>(try simp only [h])<;>(try simp only [bitvec_to_nat] at h)<;>(try simp only [h])<;>(first|(exfalso;omega)|(exfalso;simp_all;done)|(simp (disch:=omega) only [push_cast,seval])|skip))
 | ((first|refine Apz false ?_|refine qcallD_of false ?_);simp (disch:=omega) only [push_cast,seval])
 | ((first|((first|refine call0D (BCall.ofP (allIn_ok _ _ _ _ ?_ ?_)) ?_|refine qcall0D (BCall.ofP (allIn_ok _ _ _ _ ?_ ?_)) ⟨_,_,rfl,rfl⟩ ?_);(iterate 2 (exact sd));rintro _ _ ⟨rfl,rfl⟩)|((first|refine call0D (BCall.ofP (scount_ok _ _ ?_ ?_)) ?_|refine qcall0D (BCall.ofP (scount_ok _ _ ?_ ?_)) ⟨_,_,rfl,rfl⟩ ?_);(iterate 2 (exact sd));rintro _ _ ⟨rfl,rfl⟩))<;>(try simp (disch:=omega) only [push_cast,seval]))
 | (refine Aiz ⟨.inr rfl,_,rfl,?_⟩;(try simp (disch:=omega) only [push_cast,seval]))))
    simp [vSh,h4]

end Go.Proofs.Ytfgohhkcmgiddaa
set_option linter.unusedSimpArgs false
set_option linter.unusedVariables false
set_option maxRecDepth 4000
set_option maxHeartbeats 4000000
namespace Go.Proofs.Ytfgohhkcmgiddaa
open VwM Vw Go

theorem iRowStrides_ok (xs:List Int) (n:Nat) (hn:xs.length=n) (hb:n ≤ 1099511627776):BCall Try.prog 56 [.rows false (IL xs) n] [] (OI (if vSh xs=true then rowS xs else [])):=by
  subst hn
  refine A7z (pins:=[]) (pin:=0) l56_eq rfl rfl rfl ?_
  cases hv:vSh xs with
  | false =>
    (repeat' (first
 | (first|refine Akz ?_|refine Aez ?_)
 | ((first|refine Alz ?_|refine Adz ?_|refine Agz ?_|refine Ahz ?_);simp (disch:=omega) only [push_cast,seval,l56r0,l56r1,l56r2,l56r3,l56r4,l56r5,l56r6,l56r7,l56r8,l56r9,hv])
 | ((first|refine Aaz ?_ ?_|refine Acz ?_ ?_|refine Abz ?_ ?_)<;>intro h<;>(try simp only [h])<;>(try simp only [bitvec_to_nat] at h)<;>(try simp only [h])<;>(first|(exfalso;omega)|(exfalso;simp_all;done)|(simp (disch:=omega) only [push_cast,seval,hv])|skip))
 | ((first|refine Apz false ?_|refine qcallD_of false ?_);simp (disch:=omega) only [push_cast,seval,hv])
 | ((first|((first|refine call0D (BCall.ofP (iValidShape_ok _ _ ?_ ?_)) ?_|refine qcall0D (BCall.ofP (iValidShape_ok _ _ ?_ ?_)) ⟨_,_,rfl,rfl⟩ ?_);(iterate 2 (exact sd));rintro _ _ ⟨rfl,rfl⟩)|((first|refine call0D (BCall.ofP (product_ok _ _ ?_ ?_)) ?_|refine qcall0D (BCall.ofP (product_ok _ _ ?_ ?_)) ⟨_,_,rfl,rfl⟩ ?_);(iterate 2 (exact sd));rintro _ _ ⟨rfl,rfl⟩))<;>(try simp (disch:=omega) only [push_cast,seval,hv]))
 | (refine Aiz ⟨.inr rfl,[16000],[(16000,1)],_,by decide,rfl,?_⟩;(try simp (disch:=omega) only [push_cast,seval,↓Aqz,↓Amz,↓List.map_cons,↓List.map_nil,hv]))))
    all_goals simp [OI]
  | true =>
    have hg:=(A9z hv).1
    have hl:=hg.2
    (repeat' (first
 | (first|refine Akz ?_|refine Aez ?_)
 | ((first|refine Alz ?_|refine Adz ?_|refine Agz ?_|refine Ahz ?_);simp (disch:=omega) only [push_cast,seval,l56r0,l56r1,l56r2,l56r3,l56r4,l56r5,l56r6,l56r7,l56r8,l56r9,hv])
 | ((first|refine Aaz ?_ ?_|refine Acz ?_ ?_|refine Abz ?_ ?_)<;>intro h<;>(try simp only [h])<;>(try simp only [bitvec_to_nat] at h)<;>(try simp only [h])<;>(first|(exfalso;omega)|(exfalso;simp_all;done)|(simp (disch:=omega) only [push_cast,seval,hv])|skip))
 | ((first|refine Apz false ?_|refine qcallD_of false ?_);simp (disch:=omega) only [push_cast,seval,hv])
 | ((first|((first|refine call0D (BCall.ofP (iValidShape_ok _ _ ?_ ?_)) ?_|refine qcall0D (BCall.ofP (iValidShape_ok _ _ ?_ ?_)) ⟨_,_,rfl,rfl⟩ ?_);(iterate 2 (exact sd));rintro _ _ ⟨rfl,rfl⟩)|((first|refine call0D (BCall.ofP (product_ok _ _ ?_ ?_)) ?_|refine qcall0D (BCall.ofP (product_ok _ _ ?_ ?_)) ⟨_,_,rfl,rfl⟩ ?_);(iterate 2 (exact sd));rintro _ _ ⟨rfl,rfl⟩))<;>(try simp (disch:=omega) only [push_cast,seval,hv]))
 | (refine Aiz ⟨.inr rfl,[96],[],_,by decide,rfl,?_⟩;(try simp (disch:=omega) only [push_cast,seval,↓Aqz,↓Amz,↓List.map_cons,↓List.map_nil,hv]);(first|done|(show AV.own _ _ _=_ ∧ _)))
 | (refine Aiz ⟨.inr rfl,[160],[],_,by decide,rfl,?_⟩;(try simp (disch:=omega) only [push_cast,seval,↓Aqz,↓Amz,↓List.map_cons,↓List.map_nil,hv]);(first|done|(show AV.own _ _ _=_ ∧ _)))
 | (refine Aiz ⟨.inr rfl,[352],[],_,by decide,rfl,?_⟩;(try simp (disch:=omega) only [push_cast,seval,↓Aqz,↓Amz,↓List.map_cons,↓List.map_nil,hv]);(first|done|(show AV.own _ _ _=_ ∧ _)))))
    refine A2z (fun k:Nat=>mkS [(0,RI xs),(13,.int .i64 k),(12,.int .i64 xs.length),(3,.own 160 xs.length 1)] [(160,IL (filled (fun i:Nat=>pr (xs.drop (i + 1))) xs.length k))])
      (fun k=>k ≤ xs.length) (fun k=>xs.length - k) 0 (Nat.zero_le _) ?_ ?_
    · (refine Sub.of_lists ?_ ?_ ?_ ?_ ?_<;>simp [Vw.mkS,Vw.lk,Vw.hk,AV.inn,innL,Arz,Aoz,Atz,-List.map_set,-List.getD_eq_getElem?_getD,E0z])
    · intro k hk
      have hgk:=Igz hg (k + 1)
      have e1:(xs.drop (k + 1)).length=xs.length - (k + 1):=by simp
      (repeat' (first
 | (first|refine Akz ?_|refine Aez ?_)
 | ((first|refine Alz ?_|refine Adz ?_|refine Agz ?_|refine Ahz ?_);simp (disch:=omega) only [push_cast,seval,l56r0,l56r1,l56r2,l56r3,l56r4,l56r5,l56r6,l56r7,l56r8,l56r9,hv])
 | ((first|refine Aaz ?_ ?_|refine Acz ?_ ?_|refine Abz ?_ ?_)<;>intro h<;>(try simp only [h])<;>(try simp only [bitvec_to_nat] at h)<;>(try simp only [h])<;>(first|(exfalso;omega)|(exfalso;simp_all;done)|(simp (disch:=omega) only [push_cast,seval,hv])|skip))
 | ((first|refine Apz false ?_|refine qcallD_of false ?_);simp (disch:=omega) only [push_cast,seval,hv])
 | ((first|((first|refine call0D (BCall.ofP (iValidShape_ok _ _ ?_ ?_)) ?_|refine qcall0D (BCall.ofP (iValidShape_ok _ _ ?_ ?_)) ⟨_,_,rfl,rfl⟩ ?_);(iterate 2 (exact sd));rintro _ _ ⟨rfl,rfl⟩)|((first|refine call0D (BCall.ofP (product_ok _ _ ?_ ?_)) ?_|refine qcall0D (BCall.ofP (product_ok _ _ ?_ ?_)) ⟨_,_,rfl,rfl⟩ ?_);(iterate 2 (exact sd));rintro _ _ ⟨rfl,rfl⟩))<;>(try simp (disch:=omega) only [push_cast,seval,hv]))
 | (refine Aiz ⟨.inr rfl,[96],[],_,by decide,rfl,?_⟩;(try simp (disch:=omega) only [push_cast,seval,↓Aqz,↓Amz,↓List.map_cons,↓List.map_nil,hv]);(first|done|(show AV.own _ _ _=_ ∧ _)))
 | (refine Aiz ⟨.inr rfl,[160],[],_,by decide,rfl,?_⟩;(try simp (disch:=omega) only [push_cast,seval,↓Aqz,↓Amz,↓List.map_cons,↓List.map_nil,hv]);(first|done|(show AV.own _ _ _=_ ∧ _)))
 | (refine Aiz ⟨.inr rfl,[352],[],_,by decide,rfl,?_⟩;(try simp (disch:=omega) only [push_cast,seval,↓Aqz,↓Amz,↓List.map_cons,↓List.map_nil,hv]);(first|done|(show AV.own _ _ _=_ ∧ _)))))
      · refine ⟨k + 1,by omega,by omega,?_⟩
        have e:=Egz (fun i:Nat=>pr (xs.drop (i + 1))) xs.length k (by omega)
        (refine Sub.of_lists ?_ ?_ ?_ ?_ ?_<;>simp [Vw.mkS,Vw.lk,Vw.hk,AV.inn,innL,Arz,Aoz,Atz,-List.map_set,-List.getD_eq_getElem?_getD,Bmz,e])
      · have e:k=xs.length:=by omega
        rw [e,F3z]
        simp [OI,rowS]


end Go.Proofs.Ytfgohhkcmgiddaa
set_option linter.unusedSimpArgs false
set_option linter.unusedVariables false
set_option maxRecDepth 4000
set_option maxHeartbeats 4000000
namespace Go.Proofs.Ytfgohhkcmgiddaa
open VwM Vw Go

theorem srank_ok (sh idx:List Int) (n m:Nat) (hn:sh.length=n) (hm:idx.length=m) (hb:good4 sh ∧ vIx sh idx=true):PCall Try.prog 65 [.rows false (IL sh) n,.rows false (IL idx) m] (fun r=>r=.int .i64 (dot (fun i=>idx.getD i 0) (rowS sh) sh.length)):=by
  subst hn hm
  obtain ⟨hg,hv⟩:=hb
  have hl:=hg.2
  have hlen:=(Dbz.1 hv).1
  rw [← hor_all]
  refine A1z l65_eq rfl ?_
  (repeat' (first
 | (first|refine Akz ?_|refine Aez ?_)
 | ((first|refine Alz ?_|refine Asz (mid:=l65r4a) (post:=l65r4b) Axz (by decide) ?_|refine Adz ?_|refine Agz ?_|refine Ahz ?_);simp (disch:=omega) only [push_cast,seval,l65r0,l65r1,l65r2,l65r3,l65r4a,l65r4b,l65r4,l65r5,l65r6])
 | ((first|refine Aaz ?_ ?_|refine Acz ?_ ?_|refine Abz ?_ ?_)<;>intro h<;>(try simp only [h])<;>(try simp only [bitvec_to_nat] at h)<;>(try simp only [h])<;>(first|(exfalso;omega)|(exfalso;simp_all;done)|(simp (disch:=omega) only [push_cast,seval])|skip))
 | (refine Aiz ⟨.inr rfl,_,rfl,?_⟩;(try simp (disch:=omega) only [push_cast,seval]))))
  refine A2z (fun k:Nat=>mkS [(0,RI sh),(1,RI idx),(5,.int .i64 (hor sh idx k)),(6,.int .i64 k)] []) (fun k=>k ≤ sh.length) (fun k=>sh.length - k) 0 (Nat.zero_le _) ?_ ?_
  · (refine Sub.of_lists ?_ ?_ ?_ ?_ ?_<;>simp [Vw.mkS,Vw.lk,Vw.hk,AV.inn,innL,Arz,Aoz,Atz,-List.map_set,-List.getD_eq_getElem?_getD,hor])
  · intro k hk
    by_cases hlt:k < sh.length
    · have h1:=Hhz hg hv (k + 1) hlt
      have h2:=Cxz (F1z hg (k + 1))
      have h3:=Hhz hg hv k hk
      have h4:=Gnz hg hlt
      have h5:=(Dbz.1 hv).2 k (by omega)
      have h6:0 ≤ hor sh idx k * sh.getD k 0:=Int.mul_nonneg h3.1 h4.1
      simp only [hor] at h1
      (repeat' (first
 | (first|refine Akz ?_|refine Aez ?_)
 | ((first|refine Alz ?_|refine Asz (mid:=l65r4a) (post:=l65r4b) Axz (by decide) ?_|refine Adz ?_|refine Agz ?_|refine Ahz ?_);simp (disch:=omega) only [push_cast,seval,l65r0,l65r1,l65r2,l65r3,l65r4a,l65r4b,l65r4,l65r5,l65r6])
 | ((first|refine Aaz ?_ ?_|refine Acz ?_ ?_|refine Abz ?_ ?_)<;>intro h<;>(try simp only [h])<;>(try simp only [bitvec_to_nat] at h)<;>(try simp only [h])<;>(first|(exfalso;omega)|(exfalso;simp_all;done)|(simp (disch:=omega) only [push_cast,seval])|skip))
 | (refine Aiz ⟨.inr rfl,_,rfl,?_⟩;(try simp (disch:=omega) only [push_cast,seval]))))
      refine ⟨k + 1,by omega,by omega,?_⟩
      (refine Sub.of_lists ?_ ?_ ?_ ?_ ?_<;>simp [Vw.mkS,Vw.lk,Vw.hk,AV.inn,innL,Arz,Aoz,Atz,-List.map_set,-List.getD_eq_getElem?_getD,hor])
    · (repeat' (first
 | (first|refine Akz ?_|refine Aez ?_)
 | ((first|refine Alz ?_|refine Asz (mid:=l65r4a) (post:=l65r4b) Axz (by decide) ?_|refine Adz ?_|refine Agz ?_|refine Ahz ?_);simp (disch:=omega) only [push_cast,seval,l65r0,l65r1,l65r2,l65r3,l65r4a,l65r4b,l65r4,l65r5,l65r6])
 | ((first|refine Aaz ?_ ?_|refine Acz ?_ ?_|refine Abz ?_ ?_)<;>intro h<;>(try simp only [h])<;>(try simp only [bitvec_to_nat] at h)<;>(try simp only [h])<;>(first|(exfalso;omega)|(exfalso;simp_all;done)|(simp (disch:=omega) only [push_cast,seval])|skip))
 | (refine Aiz ⟨.inr rfl,_,rfl,?_⟩;(try simp (disch:=omega) only [push_cast,seval]))))
      rw [show k=sh.length by omega]

end Go.Proofs.Ytfgohhkcmgiddaa
set_option linter.unusedSimpArgs false
set_option linter.unusedVariables false
set_option maxRecDepth 4000
set_option maxHeartbeats 4000000
namespace Go.Proofs.Ytfgohhkcmgiddaa
open VwM Vw Go

/-- What keeps a view's cells from overflowing. -/
def okV (b:Int) (sh st:List Int):Prop:=(good4 sh ∧ pr sh ≤ 60) ∧ (-1000000 ≤ b ∧ b ≤ 1000000) ∧ sh.length ≤ st.length ∧ ∀ i,i < sh.length → -12960000 ≤ st.getD i 0 ∧ st.getD i 0 ≤ 12960000
def offsT (b:Int) (sh st:List Int) (j:Nat):List Int:=(List.range j).map fun k:Nat=>cellK b sh st k
end Go.Proofs.Ytfgohhkcmgiddaa
set_option linter.unusedSimpArgs false
set_option linter.unusedVariables false
set_option maxRecDepth 4000
set_option maxHeartbeats 4000000
namespace Go.Proofs.Ytfgohhkcmgiddaa
open VwM Vw Go

/-- What OffsetAt answers. -/
def oaV (b:Int) (sh st idx:List Int):Int:=if vV b sh st=true ∧ vIx sh idx=true then b + dot (fun i=>idx.getD i 0) st sh.length else 0
def oaB (b:Int) (sh st idx:List Int):Bool:=vV b sh st && vIx sh idx
def boL (b:Int) (sh st:List Int):Int:=if vV b sh st=true then bdL b sh st else -1
def boH (b:Int) (sh st:List Int):Int:=if vV b sh st=true then bdH b sh st else -1


def fitB (b:Int) (sh st:List Int) (s:Int):Bool:=vV b sh st && (decide (0 ≤ s) && decide (s ≤ 60)) && allI (offs b sh st) 0 (s - 1)

end Go.Proofs.Ytfgohhkcmgiddaa
set_option linter.unusedSimpArgs false
set_option linter.unusedVariables false
set_option maxRecDepth 4000
set_option maxHeartbeats 4000000
namespace Go.Proofs.Ytfgohhkcmgiddaa
open VwM Vw Go

theorem sdifferent_ok (xs:List Int) (n:Nat) (hn:xs.length=n) (hb:n ≤ 1099511627776):PCall Try.prog 62 [.rows false (IL xs) n] (fun r=>r=.bool (decide xs.Nodup)):=by
  subst hn
  refine A1z l62_eq rfl ?_
  (repeat' (first
 | (first|refine Akz ?_|refine Aez ?_)
 | ((first|refine Alz ?_|refine Asz (mid:=l62r3a) (post:=l62r3b) Axz (by decide) ?_|refine Adz ?_|refine Agz ?_|refine Ahz ?_);simp (disch:=omega) only [push_cast,seval,l62r0,l62r1,l62r2,l62r3a,l62r3b,l62r3,l62r4,l62r5,l62r6])
 | ((first|refine Aaz ?_ ?_|refine Acz ?_ ?_|refine Abz ?_ ?_)<;>intro h<;>(try simp only [h])<;>(try simp only [bitvec_to_nat] at h)<;>(try simp only [h])<;>(first|(exfalso;omega)|(exfalso;simp_all;done)|(simp (disch:=omega) only [push_cast,seval])|skip))
 | ((first|refine Apz false ?_|refine qcallD_of false ?_);simp (disch:=omega) only [push_cast,seval])
 | ((first|((first|refine call0D (BCall.ofP (Bzz _ _ _ ?_ ?_)) ?_|refine qcall0D (BCall.ofP (Bzz _ _ _ ?_ ?_)) ⟨_,_,rfl,rfl⟩ ?_);(iterate 2 (exact sd));rintro _ _ ⟨rfl,rfl⟩))<;>(try simp (disch:=omega) only [push_cast,seval]))
 | (refine Aiz ⟨.inr rfl,_,rfl,?_⟩;(try simp (disch:=omega) only [push_cast,seval]))))
  refine A2z (fun k:Nat=>mkS [(0,RI xs),(3,.int .i64 k)] []) (fun k=>k ≤ xs.length ∧ ∀ j,j < k → xs.getD j 0 ∉ xs.take j) (fun k=>xs.length - k) 0 ⟨Nat.zero_le _,fun j h=>absurd h (Nat.not_lt_zero _)⟩ ?_ ?_
  · (refine Sub.of_lists ?_ ?_ ?_ ?_ ?_<;>simp [Vw.mkS,Vw.lk,Vw.hk,AV.inn,innL,Arz,Aoz,Atz,-List.map_set,-List.getD_eq_getElem?_getD])
  · rintro k ⟨hk,hj⟩
    by_cases hlt:k < xs.length
    · have hl:(xs.take k).length=k:=by simp;omega
      by_cases hm:xs.getD k 0 ∈ xs.take k
      · have hp:0 ≤ placeI (xs.take k) (xs.getD k 0):=by
          have:=mt (@Ebz (xs.take k) (xs.getD k 0)).1 (fun h=>h hm)
          omega
        have hno:¬ xs.Nodup:=not_nodup hlt hm
        (repeat' (first
 | (first|refine Akz ?_|refine Aez ?_)
 | ((first|refine Alz ?_|refine Asz (mid:=l62r3a) (post:=l62r3b) Axz (by decide) ?_|refine Adz ?_|refine Agz ?_|refine Ahz ?_);simp (disch:=omega) only [push_cast,seval,l62r0,l62r1,l62r2,l62r3a,l62r3b,l62r3,l62r4,l62r5,l62r6,hp,C2z,Nat.sub_zero])
 | ((first|refine Aaz ?_ ?_|refine Acz ?_ ?_|refine Abz ?_ ?_)<;>intro h<;>(try simp only [h])<;>(try simp only [bitvec_to_nat] at h)<;>(try simp only [h])<;>(first|(exfalso;omega)|(exfalso;simp_all;done)|(simp (disch:=omega) only [push_cast,seval,hp,C2z,Nat.sub_zero])|skip))
 | ((first|refine Apz false ?_|refine qcallD_of false ?_);simp (disch:=omega) only [push_cast,seval,hp,C2z,Nat.sub_zero])
 | ((first|((first|refine call0D (BCall.ofP (Bzz _ _ _ ?_ ?_)) ?_|refine qcall0D (BCall.ofP (Bzz _ _ _ ?_ ?_)) ⟨_,_,rfl,rfl⟩ ?_);(iterate 2 (exact sd));rintro _ _ ⟨rfl,rfl⟩))<;>(try simp (disch:=omega) only [push_cast,seval,hp,C2z,Nat.sub_zero]))
 | (refine Aiz ⟨.inr rfl,_,rfl,?_⟩;(try simp (disch:=omega) only [push_cast,seval,hp,C2z,Nat.sub_zero]))))
        simp [hno]
      · have hp:¬ 0 ≤ placeI (xs.take k) (xs.getD k 0):=by have:=(@Ebz (xs.take k) (xs.getD k 0)).2 hm;omega
        (repeat' (first
 | (first|refine Akz ?_|refine Aez ?_)
 | ((first|refine Alz ?_|refine Asz (mid:=l62r3a) (post:=l62r3b) Axz (by decide) ?_|refine Adz ?_|refine Agz ?_|refine Ahz ?_);simp (disch:=omega) only [push_cast,seval,l62r0,l62r1,l62r2,l62r3a,l62r3b,l62r3,l62r4,l62r5,l62r6,hp,C2z,Nat.sub_zero])
 | ((first|refine Aaz ?_ ?_|refine Acz ?_ ?_|refine Abz ?_ ?_)<;>intro h<;>(try simp only [h])<;>(try simp only [bitvec_to_nat] at h)<;>(try simp only [h])<;>(first|(exfalso;omega)|(exfalso;simp_all;done)|(simp (disch:=omega) only [push_cast,seval,hp,C2z,Nat.sub_zero])|skip))
 | ((first|refine Apz false ?_|refine qcallD_of false ?_);simp (disch:=omega) only [push_cast,seval,hp,C2z,Nat.sub_zero])
 | ((first|((first|refine call0D (BCall.ofP (Bzz _ _ _ ?_ ?_)) ?_|refine qcall0D (BCall.ofP (Bzz _ _ _ ?_ ?_)) ⟨_,_,rfl,rfl⟩ ?_);(iterate 2 (exact sd));rintro _ _ ⟨rfl,rfl⟩))<;>(try simp (disch:=omega) only [push_cast,seval,hp,C2z,Nat.sub_zero]))
 | (refine Aiz ⟨.inr rfl,_,rfl,?_⟩;(try simp (disch:=omega) only [push_cast,seval,hp,C2z,Nat.sub_zero]))))
        refine ⟨k + 1,⟨by omega,fun j h=>?_⟩,by omega,?_⟩
        · by_cases hjk:j=k
          · subst hjk;assumption
          · exact hj j (by omega)
        · (refine Sub.of_lists ?_ ?_ ?_ ?_ ?_<;>simp [Vw.mkS,Vw.lk,Vw.hk,AV.inn,innL,Arz,Aoz,Atz,-List.map_set,-List.getD_eq_getElem?_getD])
    · have hn:xs.Nodup:=nodup_iff.2 fun j h=>hj j (by omega)
      (repeat' (first
 | (first|refine Akz ?_|refine Aez ?_)
 | ((first|refine Alz ?_|refine Asz (mid:=l62r3a) (post:=l62r3b) Axz (by decide) ?_|refine Adz ?_|refine Agz ?_|refine Ahz ?_);simp (disch:=omega) only [push_cast,seval,l62r0,l62r1,l62r2,l62r3a,l62r3b,l62r3,l62r4,l62r5,l62r6])
 | ((first|refine Aaz ?_ ?_|refine Acz ?_ ?_|refine Abz ?_ ?_)<;>intro h<;>(try simp only [h])<;>(try simp only [bitvec_to_nat] at h)<;>(try simp only [h])<;>(first|(exfalso;omega)|(exfalso;simp_all;done)|(simp (disch:=omega) only [push_cast,seval])|skip))
 | ((first|refine Apz false ?_|refine qcallD_of false ?_);simp (disch:=omega) only [push_cast,seval])
 | ((first|((first|refine call0D (BCall.ofP (Bzz _ _ _ ?_ ?_)) ?_|refine qcall0D (BCall.ofP (Bzz _ _ _ ?_ ?_)) ⟨_,_,rfl,rfl⟩ ?_);(iterate 2 (exact sd));rintro _ _ ⟨rfl,rfl⟩))<;>(try simp (disch:=omega) only [push_cast,seval]))
 | (refine Aiz ⟨.inr rfl,_,rfl,?_⟩;(try simp (disch:=omega) only [push_cast,seval]))))
      simp [hn]


def sameB (b:Int) (sh st:List Int) (b':Int) (sh' st':List Int):Bool:=vV b sh st && vV b' sh' st' && decide (sh=sh') && decide (offs b sh st=offs b' sh' st')

end Go.Proofs.Ytfgohhkcmgiddaa
