import Derived.Test.YtbplegbgofnolaaCKa
import Derived.Test.YtbplegbgofnolaaCM1

set_option linter.unusedSimpArgs false
set_option linter.unusedVariables false
set_option maxRecDepth 4000
set_option maxHeartbeats 4000000
namespace Go.Proofs.Ytbplegbgofnolaa
open VwM Vw Go

theorem at_ok (a b c i:Int) (h1:-1000000 ≤ a ∧ a ≤ 1000000) (h2:-1000000000000 ≤ i * c ∧ i * c ≤ 1000000000000):PCall Try.prog 104 [rng a b c,.int .i64 i] (fun r=>r=.int .i64 (a + i * c)):=by
  refine A2z l104_eq rfl ?_
  (repeat' (first
 | (first|refine Anz ?_|refine Agz ?_)
 | ((first|refine Aoz ?_|refine Afz ?_|refine Ahz ?_|refine Aiz ?_);simp (disch:=omega) only [push_cast,seval,l104r0,l104r1])
 | ((first|refine Acz ?_ ?_|refine Aez ?_ ?_|refine Adz ?_ ?_)<;>intro h<;>(try simp only [h])<;>(try simp only [bitvec_to_nat] at h)<;>(try simp only [h])<;>(first|(exfalso;omega)|(exfalso;simp_all;done)|(simp (disch:=omega) only [push_cast,seval])|skip))
 | (refine Akz ⟨.inr rfl,_,rfl,?_⟩;(try simp (disch:=omega) only [push_cast,seval]))))


theorem Ggz (a b c:Int) (hv:vR a b c=true):PCall Try.prog 103 [rng a b c] (fun r=>r=.int .i64 (cntI a b c)):=by
  obtain ⟨ha,hb,hc,h0⟩:=Fnz.1 hv
  refine A2z l103_eq rfl ?_
  have hq1:c < 0 → ¬ (0 - (b - a) ≤ 0) → 0 ≤ (0 - (b - a) + (0 - c) - 1).tdiv (0 - c) ∧ (0 - (b - a) + (0 - c) - 1).tdiv (0 - c) ≤ 1000:=fun h1 h2=>by
    have:=Chz (x:=0 - (b - a) + (0 - c) - 1) (y:=0 - c) (by omega) (by omega);omega
  have hq2:¬ c < 0 → ¬ (b - a ≤ 0) → 0 ≤ (b - a + c - 1).tdiv c ∧ (b - a + c - 1).tdiv c ≤ 1000:=fun h1 h2=>by
    have:=Chz (x:=b - a + c - 1) (y:=c) (by omega) (by omega);omega
  unfold cntI
  by_cases h:c < 0
  · by_cases h1:0 - (b - a) ≤ 0
    · (repeat' (first
 | (first|refine Anz ?_|refine Agz ?_)
 | ((first|refine Aoz ?_|refine Asz (mid:=l103r1a) (post:=l103r1b) Awz (by decide) ?_|refine Afz ?_|refine Ahz ?_|refine Aiz ?_);simp (disch:=omega) only [push_cast,seval,l103r0,l103r1a,l103r1b,l103r1,l103r2,l103r3,l103r4,l103r5,l103r6,h,h1])
 | ((first|refine Acz ?_ ?_|refine Aez ?_ ?_|refine Adz ?_ ?_)<;>intro h<;>(try simp only [h])<;>(try simp only [bitvec_to_nat] at h)<;>(try simp only [h])<;>(first|(exfalso;omega)|(exfalso;simp_all;done)|(simp (disch:=omega) only [push_cast,seval,h,h1])|skip))
 | (refine Akz ⟨.inr rfl,_,rfl,?_⟩;(try simp (disch:=omega) only [push_cast,seval,h,h1]))))
    · have:=hq1 h h1
      (repeat' (first
 | (first|refine Anz ?_|refine Agz ?_)
 | ((first|refine Aoz ?_|refine Asz (mid:=l103r1a) (post:=l103r1b) Awz (by decide) ?_|refine Afz ?_|refine Ahz ?_|refine Aiz ?_);simp (disch:=omega) only [push_cast,seval,l103r0,l103r1a,l103r1b,l103r1,l103r2,l103r3,l103r4,l103r5,l103r6,h,h1])
 | ((first|refine Acz ?_ ?_|refine Aez ?_ ?_|refine Adz ?_ ?_)<;>intro h<;>(try simp only [h])<;>(try simp only [bitvec_to_nat] at h)<;>(try simp only [h])<;>(first|(exfalso;omega)|(exfalso;simp_all;done)|(simp (disch:=omega) only [push_cast,seval,h,h1])|skip))
 | (refine Akz ⟨.inr rfl,_,rfl,?_⟩;(try simp (disch:=omega) only [push_cast,seval,h,h1]))))
  · by_cases h1:b - a ≤ 0
    · (repeat' (first
 | (first|refine Anz ?_|refine Agz ?_)
 | ((first|refine Aoz ?_|refine Asz (mid:=l103r1a) (post:=l103r1b) Awz (by decide) ?_|refine Afz ?_|refine Ahz ?_|refine Aiz ?_);simp (disch:=omega) only [push_cast,seval,l103r0,l103r1a,l103r1b,l103r1,l103r2,l103r3,l103r4,l103r5,l103r6,h,h1])
 | ((first|refine Acz ?_ ?_|refine Aez ?_ ?_|refine Adz ?_ ?_)<;>intro h<;>(try simp only [h])<;>(try simp only [bitvec_to_nat] at h)<;>(try simp only [h])<;>(first|(exfalso;omega)|(exfalso;simp_all;done)|(simp (disch:=omega) only [push_cast,seval,h,h1])|skip))
 | (refine Akz ⟨.inr rfl,_,rfl,?_⟩;(try simp (disch:=omega) only [push_cast,seval,h,h1]))))
    · have:=hq2 h h1
      (repeat' (first
 | (first|refine Anz ?_|refine Agz ?_)
 | ((first|refine Aoz ?_|refine Asz (mid:=l103r1a) (post:=l103r1b) Awz (by decide) ?_|refine Afz ?_|refine Ahz ?_|refine Aiz ?_);simp (disch:=omega) only [push_cast,seval,l103r0,l103r1a,l103r1b,l103r1,l103r2,l103r3,l103r4,l103r5,l103r6,h,h1])
 | ((first|refine Acz ?_ ?_|refine Aez ?_ ?_|refine Adz ?_ ?_)<;>intro h<;>(try simp only [h])<;>(try simp only [bitvec_to_nat] at h)<;>(try simp only [h])<;>(first|(exfalso;omega)|(exfalso;simp_all;done)|(simp (disch:=omega) only [push_cast,seval,h,h1])|skip))
 | (refine Akz ⟨.inr rfl,_,rfl,?_⟩;(try simp (disch:=omega) only [push_cast,seval,h,h1]))))


theorem inumbers_ok (a b c:Int) (hv:vR a b c=true):BCall Try.prog 65 [rng a b c] [] (OI (nums a c (cntN a b c))):=by
  obtain ⟨ha,hb,hc,h0⟩:=Fnz.1 hv
  have h2:=cntN_cast hv
  have h3:=cnt_bound hv
  have h4:(cntI a b c).toNat=cntN a b c:=rfl
  refine A3z (pins:=[]) (pin:=0) l65_eq rfl rfl rfl ?_
  (repeat' (first
 | (first|refine Anz ?_|refine Agz ?_)
 | ((first|refine Aoz ?_|refine Afz ?_|refine Ahz ?_|refine Aiz ?_);simp (disch:=omega) only [push_cast,seval,l65r0,l65r1,l65r2,l65r3,l65r4,l65r5,l65r6,l65r7,h4])
 | ((first|refine Acz ?_ ?_|refine Aez ?_ ?_|refine Adz ?_ ?_)<;>intro h<;>(try simp only [h])<;>(try simp only [bitvec_to_nat] at h)<;>(try simp only [h])<;>(first|(exfalso;omega)|(exfalso;simp_all;done)|(simp (disch:=omega) only [push_cast,seval,h4])|skip))
 | ((first|refine Aqz false ?_|refine qcallD_of false ?_);simp (disch:=omega) only [push_cast,seval,h4])
 | ((first|((first|refine call0D (BCall.ofP (Ggz _ _ _ ?_)) ?_|refine qcall0D (BCall.ofP (Ggz _ _ _ ?_)) ⟨_,_,rfl,rfl⟩ ?_);(exact sd);rintro _ _ ⟨rfl,rfl⟩)|((first|refine call0D (BCall.ofP (at_ok _ _ _ _ ?_ ?_)) ?_|refine qcall0D (BCall.ofP (at_ok _ _ _ _ ?_ ?_)) ⟨_,_,rfl,rfl⟩ ?_);(iterate 2 (exact sd));rintro _ _ ⟨rfl,rfl⟩))<;>(try simp (disch:=omega) only [push_cast,seval,h4]))
 | (refine Akz ⟨.inr rfl,[96],[],_,by decide,rfl,?_⟩;(try simp (disch:=omega) only [push_cast,seval,↓Alz,↓Ajz,↓List.map_cons,↓List.map_nil,h4]);(first|done|(show AV.own _ _ _=_ ∧ _)))
 | (refine Akz ⟨.inr rfl,[112],[],_,by decide,rfl,?_⟩;(try simp (disch:=omega) only [push_cast,seval,↓Alz,↓Ajz,↓List.map_cons,↓List.map_nil,h4]);(first|done|(show AV.own _ _ _=_ ∧ _)))
 | (refine Akz ⟨.inr rfl,[272],[],_,by decide,rfl,?_⟩;(try simp (disch:=omega) only [push_cast,seval,↓Alz,↓Ajz,↓List.map_cons,↓List.map_nil,h4]);(first|done|(show AV.own _ _ _=_ ∧ _)))))
  refine Azz (fun k:Nat=>mkS [(1,.ref 16 3 0),(10,.int .i64 k),(9,.int .i64 (cntN a b c)),(3,.own 112 (cntN a b c) 1)] [(16,[.int .i64 a,.int .i64 b,.int .i64 c]),(112,IL (filled (fun i:Nat=>a + (i:Int) * c) (cntN a b c) k))])
    (fun k=>k ≤ cntN a b c) (fun k=>cntN a b c - k) 0 (Nat.zero_le _) ?_ ?_
  · (refine Sub.of_lists ?_ ?_ ?_ ?_ ?_<;>simp [Vw.mkS,Vw.lk,Vw.hk,AV.inn,innL,Arz,Amz,Atz,-List.map_set,-List.getD_eq_getElem?_getD,Ewz])
  · intro k hk
    have hb1:=next_bound hv hk
    (repeat' (first
 | (first|refine Anz ?_|refine Agz ?_)
 | ((first|refine Aoz ?_|refine Afz ?_|refine Ahz ?_|refine Aiz ?_);simp (disch:=omega) only [push_cast,seval,l65r0,l65r1,l65r2,l65r3,l65r4,l65r5,l65r6,l65r7,h4])
 | ((first|refine Acz ?_ ?_|refine Aez ?_ ?_|refine Adz ?_ ?_)<;>intro h<;>(try simp only [h])<;>(try simp only [bitvec_to_nat] at h)<;>(try simp only [h])<;>(first|(exfalso;omega)|(exfalso;simp_all;done)|(simp (disch:=omega) only [push_cast,seval,h4])|skip))
 | ((first|refine Aqz false ?_|refine qcallD_of false ?_);simp (disch:=omega) only [push_cast,seval,h4])
 | ((first|((first|refine call0D (BCall.ofP (Ggz _ _ _ ?_)) ?_|refine qcall0D (BCall.ofP (Ggz _ _ _ ?_)) ⟨_,_,rfl,rfl⟩ ?_);(exact sd);rintro _ _ ⟨rfl,rfl⟩)|((first|refine call0D (BCall.ofP (at_ok _ _ _ _ ?_ ?_)) ?_|refine qcall0D (BCall.ofP (at_ok _ _ _ _ ?_ ?_)) ⟨_,_,rfl,rfl⟩ ?_);(iterate 2 (exact sd));rintro _ _ ⟨rfl,rfl⟩))<;>(try simp (disch:=omega) only [push_cast,seval,h4]))
 | (refine Akz ⟨.inr rfl,[96],[],_,by decide,rfl,?_⟩;(try simp (disch:=omega) only [push_cast,seval,↓Alz,↓Ajz,↓List.map_cons,↓List.map_nil,h4]);(first|done|(show AV.own _ _ _=_ ∧ _)))
 | (refine Akz ⟨.inr rfl,[112],[],_,by decide,rfl,?_⟩;(try simp (disch:=omega) only [push_cast,seval,↓Alz,↓Ajz,↓List.map_cons,↓List.map_nil,h4]);(first|done|(show AV.own _ _ _=_ ∧ _)))
 | (refine Akz ⟨.inr rfl,[272],[],_,by decide,rfl,?_⟩;(try simp (disch:=omega) only [push_cast,seval,↓Alz,↓Ajz,↓List.map_cons,↓List.map_nil,h4]);(first|done|(show AV.own _ _ _=_ ∧ _)))))
    · refine ⟨k + 1,by omega,by omega,?_⟩
      have e:=Eez (fun i:Nat=>a + (i:Int) * c) (cntN a b c) k (by omega)
      (refine Sub.of_lists ?_ ?_ ?_ ?_ ?_<;>simp [Vw.mkS,Vw.lk,Vw.hk,AV.inn,innL,Arz,Amz,Atz,-List.map_set,-List.getD_eq_getElem?_getD,Bxz,e])
    · have e:k=cntN a b c:=by omega
      rw [e,Fyz]
      simp [nums]

end Go.Proofs.Ytbplegbgofnolaa
