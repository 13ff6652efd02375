/- Texts of this verifier. -/
import Derived.Test.YtkpcjppnjmhanaaDoorCLow
import Derived.Test.YtkpcjppnjmhanaaDoorCM1
set_option maxHeartbeats 4000000
set_option linter.unusedSimpArgs false
set_option linter.unusedSectionVars false
set_option linter.unusedVariables false
set_option maxRecDepth 4000
namespace Go.Proofs.YtkpcjppnjmhanaaDoor
open VwM Vw Go
variable [SentA]

theorem Axz:Tryd.prog.follows .mixedOrders=true:=by kernel_rfl


theorem Dyz (x l:Int) (h0:0 ≤ l) (h1:l ≤ 1000):PCall Tryd.prog 73 [.int .i64 x,.int .i64 l] (fun r=>r=.bool (decide (-l ≤ x) && decide (x ≤ l))):=by
  refine A4z l73_eq rfl ?_
  (repeat' (first
 | (first|refine Apz ?_|refine Aiz ?_)
 | ((first|refine Aqz ?_|refine Ahz ?_|refine Ajz ?_|refine Akz ?_);simp (disch:=omega) only [push_cast,seval,l73r0,l73r1])
 | ((first|refine Acz ?_ ?_|refine Agz ?_ ?_|refine Afz ?_ ?_)<;>intro h<;>(try simp only [h])<;>(try simp only [bitvec_to_nat] at h)<;>(try simp only [h])<;>(first|(exfalso;omega)|(exfalso;simp_all;done)|(simp (disch:=omega) only [push_cast,seval])|skip))
 | (refine Amz ⟨.inr rfl,_,rfl,?_⟩;(try simp (disch:=omega) only [push_cast,seval]))))
  all_goals (first|rfl|(simp_all;done)|(simp_all;omega)|(simp;omega)|(simp;grind)|(simp_all;grind)|skip)


theorem Auz (x l h:Int):PCall Tryd.prog 33 [.int .i64 x,.int .i64 l,.int .i64 h] (fun r=>r=.bool (decide (l ≤ x) && decide (x ≤ h))):=by
  refine A4z l33_eq rfl ?_
  (repeat' (first
 | (first|refine Apz ?_|refine Aiz ?_)
 | ((first|refine Aqz ?_|refine Ahz ?_|refine Ajz ?_|refine Akz ?_);simp (disch:=omega) only [push_cast,seval,l33r0,l33r1])
 | ((first|refine Acz ?_ ?_|refine Agz ?_ ?_|refine Afz ?_ ?_)<;>intro h<;>(try simp only [h])<;>(try simp only [bitvec_to_nat] at h)<;>(try simp only [h])<;>(first|(exfalso;omega)|(exfalso;simp_all;done)|(simp (disch:=omega) only [push_cast,seval])|skip))
 | (refine Amz ⟨.inr rfl,_,rfl,?_⟩;(try simp (disch:=omega) only [push_cast,seval]))))
  all_goals (first|rfl|(simp_all;done)|(simp_all;omega)|(simp;omega)|(simp;grind)|(simp_all;grind)|skip)


theorem B6z (f t b:Int) (hf ht:Bool):PCall Tryd.prog 90 [slc f t b hf ht] (fun r=>r=.bool (vS f t b hf ht)):=by
  refine A4z l90_eq rfl ?_
  (repeat' (first
 | (first|refine Apz ?_|refine Aiz ?_)
 | ((first|refine Aqz ?_|refine Ahz ?_|refine Ajz ?_|refine Akz ?_);simp (disch:=omega) only [push_cast,seval,l90r0,l90r1])
 | ((first|refine Acz ?_ ?_|refine Agz ?_ ?_|refine Afz ?_ ?_)<;>intro h<;>(try simp only [h])<;>(try simp only [bitvec_to_nat] at h)<;>(try simp only [h])<;>(first|(exfalso;omega)|(exfalso;simp_all;done)|(simp (disch:=omega) only [push_cast,seval])|skip))
 | ((first|refine Arz false ?_|refine Anz false ?_);simp (disch:=omega) only [push_cast,seval])
 | ((first|((first|refine Adz (Aez (Auz _ _ _)) ?_|refine Abz (Aez (Auz _ _ _)) ⟨_,_,rfl,rfl⟩ ?_);rintro _ _ ⟨rfl,rfl⟩))<;>(try simp (disch:=omega) only [push_cast,seval]))
 | (refine Amz ⟨.inr rfl,_,rfl,?_⟩;(try simp (disch:=omega) only [push_cast,seval]))))
  all_goals (first|rfl|(simp_all [vS];done)|(simp_all [vS];omega)|(simp [vS];omega)|(simp [vS];grind)|(simp_all [vS];grind)|skip)


theorem Egz (n:Int):PCall Tryd.prog 38 [.int .i64 n] (fun r=>r=.bool (decide (0 ≤ n) && decide (n ≤ 60))):=by
  refine A4z l38_eq rfl ?_
  (repeat' (first
 | (first|refine Apz ?_|refine Aiz ?_)
 | ((first|refine Aqz ?_|refine Ahz ?_|refine Ajz ?_|refine Akz ?_);simp (disch:=omega) only [push_cast,seval,l38r0,l38r1])
 | ((first|refine Acz ?_ ?_|refine Agz ?_ ?_|refine Afz ?_ ?_)<;>intro h<;>(try simp only [h])<;>(try simp only [bitvec_to_nat] at h)<;>(try simp only [h])<;>(first|(exfalso;omega)|(exfalso;simp_all;done)|(simp (disch:=omega) only [push_cast,seval])|skip))
 | (refine Amz ⟨.inr rfl,_,rfl,?_⟩;(try simp (disch:=omega) only [push_cast,seval]))))
  all_goals (first|rfl|(simp_all;done)|(simp_all;omega)|(simp;omega)|(simp;grind)|(simp_all;grind)|skip)


theorem A7z (xs:List Int) (n:Nat) (hn:xs.length=n) (hb:n ≤ 1099511627776):BCall Tryd.prog 56 [.rows false (IL xs) n] [] (OI xs):=by
  subst hn
  refine A5z (pins:=[]) (pin:=0) l56_eq rfl rfl rfl ?_
  (repeat' (first
 | (first|refine Apz ?_|refine Aiz ?_)
 | ((first|refine Aqz ?_|refine Ahz ?_|refine Ajz ?_|refine Akz ?_);simp (disch:=omega) only [push_cast,seval,l56r0,l56r1])
 | ((first|refine Acz ?_ ?_|refine Agz ?_ ?_|refine Afz ?_ ?_)<;>intro h<;>(try simp only [h])<;>(try simp only [bitvec_to_nat] at h)<;>(try simp only [h])<;>(first|(exfalso;omega)|(exfalso;simp_all;done)|(simp (disch:=omega) only [push_cast,seval])|skip))
 | (refine Amz ⟨.inr rfl,[48],[],_,by decide,rfl,?_⟩;(try simp (disch:=omega) only [push_cast,seval,↓Aoz,↓Alz,↓List.map_cons,↓List.map_nil]);(first|done|(show AV.own _ _ _=_ ∧ _)))
 | (refine Amz ⟨.inr rfl,[80],[],_,by decide,rfl,?_⟩;(try simp (disch:=omega) only [push_cast,seval,↓Aoz,↓Alz,↓List.map_cons,↓List.map_nil]);(first|done|(show AV.own _ _ _=_ ∧ _)))))
  all_goals simp [OI]

end Go.Proofs.YtkpcjppnjmhanaaDoor
namespace Go.Proofs.YtkpcjppnjmhanaaDoor
open VwM Vw Go
variable [SentA]

theorem Cfz (a b c:Int) (hv:vR a b c=true):BCall Tryd.prog 98 [rng a b c] [] (OI (nums a c (cntN a b c))):=by
  obtain ⟨ha,hb,hc,h0⟩:=Foz.1 hv
  refine A5z (pins:=[]) (pin:=0) l98_eq rfl rfl rfl ?_
  (repeat' (first
 | (first|refine Apz ?_|refine Aiz ?_)
 | ((first|refine Aqz ?_|refine Ahz ?_|refine Ajz ?_|refine Akz ?_);simp (disch:=omega) only [push_cast,seval,l98r0,l98r1,l98r2,l98r3,l98r4,l98r5,l98r6])
 | ((first|refine Acz ?_ ?_|refine Agz ?_ ?_|refine Afz ?_ ?_)<;>intro h<;>(try simp only [h])<;>(try simp only [bitvec_to_nat] at h)<;>(try simp only [h])<;>(first|(exfalso;omega)|(exfalso;simp_all;done)|(simp (disch:=omega) only [push_cast,seval])|skip))
 | (refine Amz ⟨.inr rfl,[80],[],_,by decide,rfl,?_⟩;(try simp (disch:=omega) only [push_cast,seval,↓Aoz,↓Alz,↓List.map_cons,↓List.map_nil]);(first|done|(show AV.own _ _ _=_ ∧ _)))
 | (refine Amz ⟨.inr rfl,[544],[],_,by decide,rfl,?_⟩;(try simp (disch:=omega) only [push_cast,seval,↓Aoz,↓Alz,↓List.map_cons,↓List.map_nil]);(first|done|(show AV.own _ _ _=_ ∧ _)))
 | (refine Amz ⟨.inr rfl,[560],[],_,by decide,rfl,?_⟩;(try simp (disch:=omega) only [push_cast,seval,↓Aoz,↓Alz,↓List.map_cons,↓List.map_nil]);(first|done|(show AV.own _ _ _=_ ∧ _)))))
  refine Bqz (fun k:Nat=>mkS [(1,.ref 16 3 0),(4,.int .i64 (a + (k:Int) * c)),(3,.own 80 k 1)] [(16,[.int .i64 a,.int .i64 b,.int .i64 c]),(80,IL (nums a c k))])
    (fun k=>k ≤ cntN a b c) (fun k=>cntN a b c - k) 0 (Nat.zero_le _) ?_ ?_
  · (refine Sub.of_lists ?_ ?_ ?_ ?_ ?_<;>simp [Vw.mkS,Vw.lk,Vw.hk,AV.inn,innL,Avz,Atz,Ayz,-List.map_set,-List.getD_eq_getElem?_getD,nums])
  · intro k hk
    have hb1:=next_bound hv hk
    have hb3:(cntN a b c:Int) ≤ 500:=by rw [cntN_cast hv];exact (cnt_bound hv).2
    have hiff:=cntN_lt hv k
    by_cases hlt:k < cntN a b c
    · have hb2:=num_bound hv hlt
      rcases hiff.1 hlt with ⟨hp,ht⟩|⟨hp,ht⟩
      · (repeat' (first
 | (first|refine Apz ?_|refine Aiz ?_)
 | ((first|refine Aqz ?_|refine Ahz ?_|refine Ajz ?_|refine Akz ?_);simp (disch:=omega) only [push_cast,seval,l98r0,l98r1,l98r2,l98r3,l98r4,l98r5,l98r6,hp,ht])
 | ((first|refine Acz ?_ ?_|refine Agz ?_ ?_|refine Afz ?_ ?_)<;>intro h<;>(try simp only [h])<;>(try simp only [bitvec_to_nat] at h)<;>(try simp only [h])<;>(first|(exfalso;omega)|(exfalso;simp_all;done)|(simp (disch:=omega) only [push_cast,seval,hp,ht])|skip))
 | (refine Amz ⟨.inr rfl,[80],[],_,by decide,rfl,?_⟩;(try simp (disch:=omega) only [push_cast,seval,↓Aoz,↓Alz,↓List.map_cons,↓List.map_nil,hp,ht]);(first|done|(show AV.own _ _ _=_ ∧ _)))
 | (refine Amz ⟨.inr rfl,[544],[],_,by decide,rfl,?_⟩;(try simp (disch:=omega) only [push_cast,seval,↓Aoz,↓Alz,↓List.map_cons,↓List.map_nil,hp,ht]);(first|done|(show AV.own _ _ _=_ ∧ _)))
 | (refine Amz ⟨.inr rfl,[560],[],_,by decide,rfl,?_⟩;(try simp (disch:=omega) only [push_cast,seval,↓Aoz,↓Alz,↓List.map_cons,↓List.map_nil,hp,ht]);(first|done|(show AV.own _ _ _=_ ∧ _)))))
        refine ⟨k + 1,by omega,by omega,?_⟩
        (refine Sub.of_lists ?_ ?_ ?_ ?_ ?_<;>simp [Vw.mkS,Vw.lk,Vw.hk,AV.inn,innL,Avz,Atz,Ayz,-List.map_set,-List.getD_eq_getElem?_getD,nums_succ,Int.add_mul,Int.add_assoc])
      · have hn:¬ 0 < c:=by omega
        (repeat' (first
 | (first|refine Apz ?_|refine Aiz ?_)
 | ((first|refine Aqz ?_|refine Ahz ?_|refine Ajz ?_|refine Akz ?_);simp (disch:=omega) only [push_cast,seval,l98r0,l98r1,l98r2,l98r3,l98r4,l98r5,l98r6,hp,hn,ht])
 | ((first|refine Acz ?_ ?_|refine Agz ?_ ?_|refine Afz ?_ ?_)<;>intro h<;>(try simp only [h])<;>(try simp only [bitvec_to_nat] at h)<;>(try simp only [h])<;>(first|(exfalso;omega)|(exfalso;simp_all;done)|(simp (disch:=omega) only [push_cast,seval,hp,hn,ht])|skip))
 | (refine Amz ⟨.inr rfl,[80],[],_,by decide,rfl,?_⟩;(try simp (disch:=omega) only [push_cast,seval,↓Aoz,↓Alz,↓List.map_cons,↓List.map_nil,hp,hn,ht]);(first|done|(show AV.own _ _ _=_ ∧ _)))
 | (refine Amz ⟨.inr rfl,[544],[],_,by decide,rfl,?_⟩;(try simp (disch:=omega) only [push_cast,seval,↓Aoz,↓Alz,↓List.map_cons,↓List.map_nil,hp,hn,ht]);(first|done|(show AV.own _ _ _=_ ∧ _)))
 | (refine Amz ⟨.inr rfl,[560],[],_,by decide,rfl,?_⟩;(try simp (disch:=omega) only [push_cast,seval,↓Aoz,↓Alz,↓List.map_cons,↓List.map_nil,hp,hn,ht]);(first|done|(show AV.own _ _ _=_ ∧ _)))))
        refine ⟨k + 1,by omega,by omega,?_⟩
        (refine Sub.of_lists ?_ ?_ ?_ ?_ ?_<;>simp [Vw.mkS,Vw.lk,Vw.hk,AV.inn,innL,Avz,Atz,Ayz,-List.map_set,-List.getD_eq_getElem?_getD,nums_succ,Int.add_mul,Int.add_assoc])
    · have hk':k=cntN a b c:=by omega
      have hno:=fun h=>hlt (hiff.2 h)
      by_cases hp:0 < c
      · have hn:¬ c < 0:=by omega
        have ht:¬ a + (k:Int) * c < b:=fun h=>hno (.inl ⟨hp,h⟩)
        (repeat' (first
 | (first|refine Apz ?_|refine Aiz ?_)
 | ((first|refine Aqz ?_|refine Ahz ?_|refine Ajz ?_|refine Akz ?_);simp (disch:=omega) only [push_cast,seval,l98r0,l98r1,l98r2,l98r3,l98r4,l98r5,l98r6,hp,hn,ht])
 | ((first|refine Acz ?_ ?_|refine Agz ?_ ?_|refine Afz ?_ ?_)<;>intro h<;>(try simp only [h])<;>(try simp only [bitvec_to_nat] at h)<;>(try simp only [h])<;>(first|(exfalso;omega)|(exfalso;simp_all;done)|(simp (disch:=omega) only [push_cast,seval,hp,hn,ht])|skip))
 | (refine Amz ⟨.inr rfl,[80],[],_,by decide,rfl,?_⟩;(try simp (disch:=omega) only [push_cast,seval,↓Aoz,↓Alz,↓List.map_cons,↓List.map_nil,hp,hn,ht]);(first|done|(show AV.own _ _ _=_ ∧ _)))
 | (refine Amz ⟨.inr rfl,[544],[],_,by decide,rfl,?_⟩;(try simp (disch:=omega) only [push_cast,seval,↓Aoz,↓Alz,↓List.map_cons,↓List.map_nil,hp,hn,ht]);(first|done|(show AV.own _ _ _=_ ∧ _)))
 | (refine Amz ⟨.inr rfl,[560],[],_,by decide,rfl,?_⟩;(try simp (disch:=omega) only [push_cast,seval,↓Aoz,↓Alz,↓List.map_cons,↓List.map_nil,hp,hn,ht]);(first|done|(show AV.own _ _ _=_ ∧ _)))))
        all_goals simp [← hk']
      · have hn:c < 0:=by omega
        have ht:¬ b < a + (k:Int) * c:=fun h=>hno (.inr ⟨hn,h⟩)
        (repeat' (first
 | (first|refine Apz ?_|refine Aiz ?_)
 | ((first|refine Aqz ?_|refine Ahz ?_|refine Ajz ?_|refine Akz ?_);simp (disch:=omega) only [push_cast,seval,l98r0,l98r1,l98r2,l98r3,l98r4,l98r5,l98r6,hp,hn,ht])
 | ((first|refine Acz ?_ ?_|refine Agz ?_ ?_|refine Afz ?_ ?_)<;>intro h<;>(try simp only [h])<;>(try simp only [bitvec_to_nat] at h)<;>(try simp only [h])<;>(first|(exfalso;omega)|(exfalso;simp_all;done)|(simp (disch:=omega) only [push_cast,seval,hp,hn,ht])|skip))
 | (refine Amz ⟨.inr rfl,[80],[],_,by decide,rfl,?_⟩;(try simp (disch:=omega) only [push_cast,seval,↓Aoz,↓Alz,↓List.map_cons,↓List.map_nil,hp,hn,ht]);(first|done|(show AV.own _ _ _=_ ∧ _)))
 | (refine Amz ⟨.inr rfl,[544],[],_,by decide,rfl,?_⟩;(try simp (disch:=omega) only [push_cast,seval,↓Aoz,↓Alz,↓List.map_cons,↓List.map_nil,hp,hn,ht]);(first|done|(show AV.own _ _ _=_ ∧ _)))
 | (refine Amz ⟨.inr rfl,[560],[],_,by decide,rfl,?_⟩;(try simp (disch:=omega) only [push_cast,seval,↓Aoz,↓Alz,↓List.map_cons,↓List.map_nil,hp,hn,ht]);(first|done|(show AV.own _ _ _=_ ∧ _)))))
        all_goals simp [← hk']

end Go.Proofs.YtkpcjppnjmhanaaDoor
namespace Go.Proofs.YtkpcjppnjmhanaaDoor
open VwM Vw Go
variable [SentA]

theorem sbound_ok (n x b:Int) (hn:0 ≤ n ∧ n ≤ 60) (hx:-100 ≤ x ∧ x ≤ 100):PCall Tryd.prog 101 [.int .i64 n,.int .i64 x,.int .i64 b] (fun r=>r=.int .i64 (endI x n b)):=by
  refine A4z l101_eq rfl ?_
  unfold endI
  by_cases h:b < 0
  · by_cases h1:x < 0
    · (repeat' (first
 | (first|refine Apz ?_|refine Aiz ?_)
 | ((first|refine Aqz ?_|refine Ahz ?_|refine Ajz ?_|refine Akz ?_);simp (disch:=omega) only [push_cast,seval,l101r0,l101r1,l101r2,l101r3,l101r4,l101r5,l101r6,l101r7,l101r8,h,h1])
 | ((first|refine Acz ?_ ?_|refine Agz ?_ ?_|refine Afz ?_ ?_)<;>intro h<;>(try simp only [h])<;>(try simp only [bitvec_to_nat] at h)<;>(try simp only [h])<;>(first|(exfalso;omega)|(exfalso;simp_all;done)|(simp (disch:=omega) only [push_cast,seval,h,h1])|skip))
 | (refine Amz ⟨.inr rfl,_,rfl,?_⟩;(try simp (disch:=omega) only [push_cast,seval,h,h1]))))
      all_goals (refine congrArg (AV.int _) ?_;omega)
    · (repeat' (first
 | (first|refine Apz ?_|refine Aiz ?_)
 | ((first|refine Aqz ?_|refine Ahz ?_|refine Ajz ?_|refine Akz ?_);simp (disch:=omega) only [push_cast,seval,l101r0,l101r1,l101r2,l101r3,l101r4,l101r5,l101r6,l101r7,l101r8,h,h1])
 | ((first|refine Acz ?_ ?_|refine Agz ?_ ?_|refine Afz ?_ ?_)<;>intro h<;>(try simp only [h])<;>(try simp only [bitvec_to_nat] at h)<;>(try simp only [h])<;>(first|(exfalso;omega)|(exfalso;simp_all;done)|(simp (disch:=omega) only [push_cast,seval,h,h1])|skip))
 | (refine Amz ⟨.inr rfl,_,rfl,?_⟩;(try simp (disch:=omega) only [push_cast,seval,h,h1]))))
      all_goals (refine congrArg (AV.int _) ?_;omega)
  · by_cases h1:x < 0
    · (repeat' (first
 | (first|refine Apz ?_|refine Aiz ?_)
 | ((first|refine Aqz ?_|refine Ahz ?_|refine Ajz ?_|refine Akz ?_);simp (disch:=omega) only [push_cast,seval,l101r0,l101r1,l101r2,l101r3,l101r4,l101r5,l101r6,l101r7,l101r8,h,h1])
 | ((first|refine Acz ?_ ?_|refine Agz ?_ ?_|refine Afz ?_ ?_)<;>intro h<;>(try simp only [h])<;>(try simp only [bitvec_to_nat] at h)<;>(try simp only [h])<;>(first|(exfalso;omega)|(exfalso;simp_all;done)|(simp (disch:=omega) only [push_cast,seval,h,h1])|skip))
 | (refine Amz ⟨.inr rfl,_,rfl,?_⟩;(try simp (disch:=omega) only [push_cast,seval,h,h1]))))
      all_goals (refine congrArg (AV.int _) ?_;omega)
    · (repeat' (first
 | (first|refine Apz ?_|refine Aiz ?_)
 | ((first|refine Aqz ?_|refine Ahz ?_|refine Ajz ?_|refine Akz ?_);simp (disch:=omega) only [push_cast,seval,l101r0,l101r1,l101r2,l101r3,l101r4,l101r5,l101r6,l101r7,l101r8,h,h1])
 | ((first|refine Acz ?_ ?_|refine Agz ?_ ?_|refine Afz ?_ ?_)<;>intro h<;>(try simp only [h])<;>(try simp only [bitvec_to_nat] at h)<;>(try simp only [h])<;>(first|(exfalso;omega)|(exfalso;simp_all;done)|(simp (disch:=omega) only [push_cast,seval,h,h1])|skip))
 | (refine Amz ⟨.inr rfl,_,rfl,?_⟩;(try simp (disch:=omega) only [push_cast,seval,h,h1]))))
      all_goals (refine congrArg (AV.int _) ?_;omega)


theorem C4z (n f t b:Int) (hf ht:Bool) (hn:0 ≤ n ∧ n ≤ 60) (hs:vS f t b hf ht=true):BCall Tryd.prog 97 [.int .i64 n,slc f t b hf ht] [] (OI (nums (sFrom f n b hf) b (cntN (sFrom f n b hf) (sTo t n b ht) b))):=by
  obtain ⟨h1,h2,h3,h4,-,-⟩:=Kgz.1 hs
  have hv:=Jwz hn hs
  refine A5z (pins:=[]) (pin:=0) l97_eq rfl rfl rfl ?_
  by_cases h:b < 0<;>cases hf<;>cases ht<;>simp only [sFrom,sTo,h,if_true,if_false,Bool.false_eq_true,reduceIte] at hv ⊢
  all_goals (repeat' (first
 | (first|refine Apz ?_|refine Aiz ?_)
 | ((first|refine Aqz ?_|refine Ahz ?_|refine Ajz ?_|refine Akz ?_);simp (disch:=omega) only [push_cast,seval,l97r0,l97r1,l97r2,l97r3,l97r4,l97r5,l97r6,l97r7,l97r8,l97r9,l97r10,h])
 | ((first|refine Acz ?_ ?_|refine Agz ?_ ?_|refine Afz ?_ ?_)<;>intro h<;>(try simp only [h])<;>(try simp only [bitvec_to_nat] at h)<;>(try simp only [h])<;>(first|(exfalso;omega)|(exfalso;simp_all;done)|(simp (disch:=omega) only [push_cast,seval,h])|skip))
 | ((first|refine Arz false ?_|refine Anz false ?_);simp (disch:=omega) only [push_cast,seval,h])
 | ((first|((first|refine Adz (Aez (sbound_ok _ _ _ ?_ ?_)) ?_|refine Abz (Aez (sbound_ok _ _ _ ?_ ?_)) ⟨_,_,rfl,rfl⟩ ?_);(iterate 2 (exact sd));rintro _ _ ⟨rfl,rfl⟩)|((first|refine Adz (Cfz _ _ _ ?_) ?_|refine Abz (Cfz _ _ _ ?_) ⟨_,_,rfl,rfl⟩ ?_);(exact sd);rintro _ _ ⟨rfl,rfl⟩))<;>(try simp (disch:=omega) only [push_cast,seval,h]))
 | (refine Amz ⟨.inr rfl,[320],[],_,by decide,rfl,?_⟩;(try simp (disch:=omega) only [push_cast,seval,↓Aoz,↓Alz,↓List.map_cons,↓List.map_nil,h]);(first|done|(show AV.own _ _ _=_ ∧ _)))
 | (refine Amz ⟨.inr rfl,[448],[],_,by decide,rfl,?_⟩;(try simp (disch:=omega) only [push_cast,seval,↓Aoz,↓Alz,↓List.map_cons,↓List.map_nil,h]);(first|done|(show AV.own _ _ _=_ ∧ _)))
 | (refine Amz ⟨.inr rfl,[544],[],_,by decide,rfl,?_⟩;(try simp (disch:=omega) only [push_cast,seval,↓Aoz,↓Alz,↓List.map_cons,↓List.map_nil,h]);(first|done|(show AV.own _ _ _=_ ∧ _)))))
  all_goals simp [OI]

end Go.Proofs.YtkpcjppnjmhanaaDoor
namespace Go.Proofs.YtkpcjppnjmhanaaDoor
open VwM Vw Go
variable [SentA]

theorem Bxz (a c:Int) (n:Nat) (hn:n ≤ 1000) (hb:∀ i:Nat,i < n → -1000 ≤ a + (i:Int) * c ∧ a + (i:Int) * c ≤ 1000):PCall Tryd.prog 96 [.rows false (IL (nums a c n)) n] (fun r=>r=PR a c n):=by
  refine A4z l96_eq rfl ?_
  by_cases hz:n=0
  · subst hz
    (repeat' (first
 | (first|refine Apz ?_|refine Aiz ?_)
 | ((first|refine Aqz ?_|refine Asz (mid:=l96r5a) (post:=l96r5b) Axz (by decide) ?_|refine Asz (mid:=l96r6a) (post:=l96r6b) Axz (by decide) ?_|refine Ahz ?_|refine Ajz ?_|refine Akz ?_);simp (disch:=omega) only [push_cast,seval,l96r0,l96r1,l96r2,l96r3,l96r4,l96r5a,l96r5b,l96r5,l96r6a,l96r6b,l96r6,l96r7,l96r8,l96r9,l96r10,Ivz])
 | ((first|refine Acz ?_ ?_|refine Agz ?_ ?_|refine Afz ?_ ?_)<;>intro h<;>(try simp only [h])<;>(try simp only [bitvec_to_nat] at h)<;>(try simp only [h])<;>(first|(exfalso;omega)|(exfalso;simp_all;done)|(simp (disch:=omega) only [push_cast,seval,Ivz])|skip))
 | (refine Amz ⟨.inr rfl,_,rfl,?_⟩;(try simp (disch:=omega) only [push_cast,seval,Ivz]))))
    all_goals simp [pS,pE,pC]
  have b0:=hb 0 (by omega)
  simp only [Int.natCast_zero,Int.zero_mul,Int.add_zero] at b0
  have g0:(nums a c n).getD 0 0=a:=by rw [Iwz a c n 0 (by omega)];simp
  by_cases ho:n=1
  · subst ho
    (repeat' (first
 | (first|refine Apz ?_|refine Aiz ?_)
 | ((first|refine Aqz ?_|refine Asz (mid:=l96r5a) (post:=l96r5b) Axz (by decide) ?_|refine Asz (mid:=l96r6a) (post:=l96r6b) Axz (by decide) ?_|refine Ahz ?_|refine Ajz ?_|refine Akz ?_);simp (disch:=omega) only [push_cast,seval,l96r0,l96r1,l96r2,l96r3,l96r4,l96r5a,l96r5b,l96r5,l96r6a,l96r6b,l96r6,l96r7,l96r8,l96r9,l96r10,g0])
 | ((first|refine Acz ?_ ?_|refine Agz ?_ ?_|refine Afz ?_ ?_)<;>intro h<;>(try simp only [h])<;>(try simp only [bitvec_to_nat] at h)<;>(try simp only [h])<;>(first|(exfalso;omega)|(exfalso;simp_all;done)|(simp (disch:=omega) only [push_cast,seval,g0])|skip))
 | (refine Amz ⟨.inr rfl,_,rfl,?_⟩;(try simp (disch:=omega) only [push_cast,seval,g0]))))
    all_goals simp [pS,pE,pC]
  have b1:=hb 1 (by omega)
  simp only [Int.natCast_one,Int.one_mul] at b1
  have bl:=hb (n - 1) (by omega)
  rw [show (((n - 1:Nat):Nat):Int)=(n:Int) - 1 by omega] at bl
  have ho':¬ (n:Int)=1:=by omega
  have hz':¬ (n:Int)=0:=by omega
  have g1:(nums a c n).getD 1 0=a + c:=by rw [Iwz a c n 1 (by omega)];simp
  have gl:(nums a c n).getD ((n:Int) - 1).toNat 0=a + ((n:Int) - 1) * c:=by
    rw [Iwz a c n _ (by omega)]
    rw [show ((((n:Int) - 1).toNat:Nat):Int)=(n:Int) - 1 by omega]
  have hlen:0 < n ∧ 1 < n:=by omega
  have e:a + c - a=c:=by omega
  have p1:¬ (n:Int) < 1:=by omega
  have p2:¬ (n:Int) ≤ 1:=by omega
  by_cases hc:c < 0
  · (repeat' (first
 | (first|refine Apz ?_|refine Aiz ?_)
 | ((first|refine Aqz ?_|refine Asz (mid:=l96r5a) (post:=l96r5b) Axz (by decide) ?_|refine Asz (mid:=l96r6a) (post:=l96r6b) Axz (by decide) ?_|refine Ahz ?_|refine Ajz ?_|refine Akz ?_);simp (disch:=omega) only [push_cast,seval,l96r0,l96r1,l96r2,l96r3,l96r4,l96r5a,l96r5b,l96r5,l96r6a,l96r6b,l96r6,l96r7,l96r8,l96r9,l96r10,g0,g1,gl,hlen,e,hz',ho',hc])
 | ((first|refine Acz ?_ ?_|refine Agz ?_ ?_|refine Afz ?_ ?_)<;>intro h<;>(try simp only [h])<;>(try simp only [bitvec_to_nat] at h)<;>(try simp only [h])<;>(first|(exfalso;omega)|(exfalso;simp_all;done)|(simp (disch:=omega) only [push_cast,seval,g0,g1,gl,hlen,e,hz',ho',hc])|skip))
 | (refine Amz ⟨.inr rfl,_,rfl,?_⟩;(try simp (disch:=omega) only [push_cast,seval,g0,g1,gl,hlen,e,hz',ho',hc]))))
    all_goals simp [pS,pE,pC,p1,p2,ho',hc]
  · (repeat' (first
 | (first|refine Apz ?_|refine Aiz ?_)
 | ((first|refine Aqz ?_|refine Asz (mid:=l96r5a) (post:=l96r5b) Axz (by decide) ?_|refine Asz (mid:=l96r6a) (post:=l96r6b) Axz (by decide) ?_|refine Ahz ?_|refine Ajz ?_|refine Akz ?_);simp (disch:=omega) only [push_cast,seval,l96r0,l96r1,l96r2,l96r3,l96r4,l96r5a,l96r5b,l96r5,l96r6a,l96r6b,l96r6,l96r7,l96r8,l96r9,l96r10,g0,g1,gl,hlen,e,hz',ho',hc])
 | ((first|refine Acz ?_ ?_|refine Agz ?_ ?_|refine Afz ?_ ?_)<;>intro h<;>(try simp only [h])<;>(try simp only [bitvec_to_nat] at h)<;>(try simp only [h])<;>(first|(exfalso;omega)|(exfalso;simp_all;done)|(simp (disch:=omega) only [push_cast,seval,g0,g1,gl,hlen,e,hz',ho',hc])|skip))
 | (refine Amz ⟨.inr rfl,_,rfl,?_⟩;(try simp (disch:=omega) only [push_cast,seval,g0,g1,gl,hlen,e,hz',ho',hc]))))
    all_goals simp [pS,pE,pC,p1,p2,ho',hc]

end Go.Proofs.YtkpcjppnjmhanaaDoor
namespace Go.Proofs.YtkpcjppnjmhanaaDoor
open VwM Vw Go
variable [SentA]

theorem C3z (xs:List Int) (n:Nat) (hn:xs.length=n) (h1:n ≤ 1000000) (hb:∀ x ∈ xs,-1000 ≤ x ∧ x ≤ 1000):PCall Tryd.prog 96 [.rows false (IL xs) n] (fun r=>r=nrmA xs):=by
  subst hn
  refine A4z l96_eq rfl ?_
  unfold nrmA
  by_cases hz:xs.length=0
  · have hz':(xs.length:Int)=0:=by omega
    (repeat' (first
 | (first|refine Apz ?_|refine Aiz ?_)
 | ((first|refine Aqz ?_|refine Asz (mid:=l96r5a) (post:=l96r5b) Axz (by decide) ?_|refine Asz (mid:=l96r6a) (post:=l96r6b) Axz (by decide) ?_|refine Ahz ?_|refine Ajz ?_|refine Akz ?_);simp (disch:=omega) only [push_cast,seval,l96r0,l96r1,l96r2,l96r3,l96r4,l96r5a,l96r5b,l96r5,l96r6a,l96r6b,l96r6,l96r7,l96r8,l96r9,l96r10,hz'])
 | ((first|refine Acz ?_ ?_|refine Agz ?_ ?_|refine Afz ?_ ?_)<;>intro h<;>(try simp only [h])<;>(try simp only [bitvec_to_nat] at h)<;>(try simp only [h])<;>(first|(exfalso;omega)|(exfalso;simp_all;done)|(simp (disch:=omega) only [push_cast,seval,hz'])|skip))
 | (refine Amz ⟨.inr rfl,_,rfl,?_⟩;(try simp (disch:=omega) only [push_cast,seval,hz']))))
    all_goals simp [hz]
  have b0:=hb _ (C2z (xs:=xs) (j:=0) (by omega))
  have hz':¬ (xs.length:Int)=0:=by omega
  by_cases ho:xs.length=1
  · have ho':(xs.length:Int)=1:=by omega
    have h0:0 < xs.length:=by omega
    (repeat' (first
 | (first|refine Apz ?_|refine Aiz ?_)
 | ((first|refine Aqz ?_|refine Asz (mid:=l96r5a) (post:=l96r5b) Axz (by decide) ?_|refine Asz (mid:=l96r6a) (post:=l96r6b) Axz (by decide) ?_|refine Ahz ?_|refine Ajz ?_|refine Akz ?_);simp (disch:=omega) only [push_cast,seval,l96r0,l96r1,l96r2,l96r3,l96r4,l96r5a,l96r5b,l96r5,l96r6a,l96r6b,l96r6,l96r7,l96r8,l96r9,l96r10,hz',ho',h0])
 | ((first|refine Acz ?_ ?_|refine Agz ?_ ?_|refine Afz ?_ ?_)<;>intro h<;>(try simp only [h])<;>(try simp only [bitvec_to_nat] at h)<;>(try simp only [h])<;>(first|(exfalso;omega)|(exfalso;simp_all;done)|(simp (disch:=omega) only [push_cast,seval,hz',ho',h0])|skip))
 | (refine Amz ⟨.inr rfl,_,rfl,?_⟩;(try simp (disch:=omega) only [push_cast,seval,hz',ho',h0]))))
    all_goals simp [ho,hz]
  have b1:=hb _ (C2z (xs:=xs) (j:=1) (by omega))
  have bl:=hb _ (C2z (xs:=xs) (j:=xs.length - 1) (by omega))
  have ho':¬ (xs.length:Int)=1:=by omega
  have hlen:0 < xs.length ∧ 1 < xs.length:=by omega
  have e1:((xs.length:Int) - 1).toNat=xs.length - 1:=by omega
  by_cases hc:xs.getD 1 0 - xs.getD 0 0 < 0
  · (repeat' (first
 | (first|refine Apz ?_|refine Aiz ?_)
 | ((first|refine Aqz ?_|refine Asz (mid:=l96r5a) (post:=l96r5b) Axz (by decide) ?_|refine Asz (mid:=l96r6a) (post:=l96r6b) Axz (by decide) ?_|refine Ahz ?_|refine Ajz ?_|refine Akz ?_);simp (disch:=omega) only [push_cast,seval,l96r0,l96r1,l96r2,l96r3,l96r4,l96r5a,l96r5b,l96r5,l96r6a,l96r6b,l96r6,l96r7,l96r8,l96r9,l96r10,hlen,hz',ho',hc,e1])
 | ((first|refine Acz ?_ ?_|refine Agz ?_ ?_|refine Afz ?_ ?_)<;>intro h<;>(try simp only [h])<;>(try simp only [bitvec_to_nat] at h)<;>(try simp only [h])<;>(first|(exfalso;omega)|(exfalso;simp_all;done)|(simp (disch:=omega) only [push_cast,seval,hlen,hz',ho',hc,e1])|skip))
 | (refine Amz ⟨.inr rfl,_,rfl,?_⟩;(try simp (disch:=omega) only [push_cast,seval,hlen,hz',ho',hc,e1]))))
    all_goals (simp only [hz,ho,hc,if_true,if_false])
  · (repeat' (first
 | (first|refine Apz ?_|refine Aiz ?_)
 | ((first|refine Aqz ?_|refine Asz (mid:=l96r5a) (post:=l96r5b) Axz (by decide) ?_|refine Asz (mid:=l96r6a) (post:=l96r6b) Axz (by decide) ?_|refine Ahz ?_|refine Ajz ?_|refine Akz ?_);simp (disch:=omega) only [push_cast,seval,l96r0,l96r1,l96r2,l96r3,l96r4,l96r5a,l96r5b,l96r5,l96r6a,l96r6b,l96r6,l96r7,l96r8,l96r9,l96r10,hlen,hz',ho',hc,e1])
 | ((first|refine Acz ?_ ?_|refine Agz ?_ ?_|refine Afz ?_ ?_)<;>intro h<;>(try simp only [h])<;>(try simp only [bitvec_to_nat] at h)<;>(try simp only [h])<;>(first|(exfalso;omega)|(exfalso;simp_all;done)|(simp (disch:=omega) only [push_cast,seval,hlen,hz',ho',hc,e1])|skip))
 | (refine Amz ⟨.inr rfl,_,rfl,?_⟩;(try simp (disch:=omega) only [push_cast,seval,hlen,hz',ho',hc,e1]))))
    all_goals (simp only [hz,ho,hc,if_true,if_false])

end Go.Proofs.YtkpcjppnjmhanaaDoor
namespace Go.Proofs.YtkpcjppnjmhanaaDoor
open VwM Vw Go
variable [SentA]

theorem Bzz (x l:Int):PCall Tryd.prog 53 [.int .i64 x,.int .i64 l] (fun r=>r=.bool (decide (0 ≤ x) && decide (x ≤ l))):=by
  refine A4z l53_eq rfl ?_
  (repeat' (first
 | (first|refine Apz ?_|refine Aiz ?_)
 | ((first|refine Aqz ?_|refine Ahz ?_|refine Ajz ?_|refine Akz ?_);simp (disch:=omega) only [push_cast,seval,l53r0,l53r1])
 | ((first|refine Acz ?_ ?_|refine Agz ?_ ?_|refine Afz ?_ ?_)<;>intro h<;>(try simp only [h])<;>(try simp only [bitvec_to_nat] at h)<;>(try simp only [h])<;>(first|(exfalso;omega)|(exfalso;simp_all;done)|(simp (disch:=omega) only [push_cast,seval])|skip))
 | (refine Amz ⟨.inr rfl,_,rfl,?_⟩;(try simp (disch:=omega) only [push_cast,seval]))))
  all_goals (first|rfl|(simp_all;done)|(simp_all;omega)|(simp;omega)|(simp;grind)|(simp_all;grind)|skip)


theorem Dkz (xs:List Int) (n:Nat) (hn:xs.length=n) (hg:good4 xs):PCall Tryd.prog 72 [.rows false (IL xs) n] (fun r=>r=.int .i64 (pr xs)):=by
  subst hn
  have hl:=hg.2
  refine A4z l72_eq rfl ?_
  (repeat' (first
 | (first|refine Apz ?_|refine Aiz ?_)
 | ((first|refine Aqz ?_|refine Ahz ?_|refine Ajz ?_|refine Akz ?_);simp (disch:=omega) only [push_cast,seval,l72r0,l72r1,l72r2,l72r3,l72r4,l72r5,l72r6,l72r7])
 | ((first|refine Acz ?_ ?_|refine Agz ?_ ?_|refine Afz ?_ ?_)<;>intro h<;>(try simp only [h])<;>(try simp only [bitvec_to_nat] at h)<;>(try simp only [h])<;>(first|(exfalso;omega)|(exfalso;simp_all;done)|(simp (disch:=omega) only [push_cast,seval])|skip))
 | (refine Amz ⟨.inr rfl,_,rfl,?_⟩;(try simp (disch:=omega) only [push_cast,seval]))))
  refine Bqz (fun k:Nat=>mkS [(3,.int .i64 (pr (xs.take k))),(6,RI xs),(7,.int .i64 xs.length),(8,.int .i64 k)] [])
    (fun k=>k ≤ xs.length) (fun k=>xs.length - k) 0 (Nat.zero_le _) ?_ ?_
  · (refine Sub.of_lists ?_ ?_ ?_ ?_ ?_<;>simp [Vw.mkS,Vw.lk,Vw.hk,AV.inn,innL,Avz,Atz,Ayz,-List.map_set,-List.getD_eq_getElem?_getD,pr_nil])
  · intro k hk
    by_cases hlt:k < xs.length
    · have h1:=Fgz (J6z hg (k + 1))
      have h2:=Fsz xs k hlt
      (repeat' (first
 | (first|refine Apz ?_|refine Aiz ?_)
 | ((first|refine Aqz ?_|refine Ahz ?_|refine Ajz ?_|refine Akz ?_);simp (disch:=omega) only [push_cast,seval,l72r0,l72r1,l72r2,l72r3,l72r4,l72r5,l72r6,l72r7])
 | ((first|refine Acz ?_ ?_|refine Agz ?_ ?_|refine Afz ?_ ?_)<;>intro h<;>(try simp only [h])<;>(try simp only [bitvec_to_nat] at h)<;>(try simp only [h])<;>(first|(exfalso;omega)|(exfalso;simp_all;done)|(simp (disch:=omega) only [push_cast,seval])|skip))
 | (refine Amz ⟨.inr rfl,_,rfl,?_⟩;(try simp (disch:=omega) only [push_cast,seval]))))
      refine ⟨k + 1,by omega,by omega,?_⟩
      (refine Sub.of_lists ?_ ?_ ?_ ?_ ?_<;>simp [Vw.mkS,Vw.lk,Vw.hk,AV.inn,innL,Avz,Atz,Ayz,-List.map_set,-List.getD_eq_getElem?_getD,h2])
    · (repeat' (first
 | (first|refine Apz ?_|refine Aiz ?_)
 | ((first|refine Aqz ?_|refine Ahz ?_|refine Ajz ?_|refine Akz ?_);simp (disch:=omega) only [push_cast,seval,l72r0,l72r1,l72r2,l72r3,l72r4,l72r5,l72r6,l72r7])
 | ((first|refine Acz ?_ ?_|refine Agz ?_ ?_|refine Afz ?_ ?_)<;>intro h<;>(try simp only [h])<;>(try simp only [bitvec_to_nat] at h)<;>(try simp only [h])<;>(first|(exfalso;omega)|(exfalso;simp_all;done)|(simp (disch:=omega) only [push_cast,seval])|skip))
 | (refine Amz ⟨.inr rfl,_,rfl,?_⟩;(try simp (disch:=omega) only [push_cast,seval]))))
      rw [List.take_of_length_le (by omega)]


theorem Bbz (xs:List Int) (n:Nat) (hn:xs.length=n) (hg:good4 xs):PCall Tryd.prog 75 [.rows false (IL xs) n] (fun r=>r=.int .i64 (pr xs)):=by
  subst hn
  have hl:=hg.2
  refine A4z l75_eq rfl ?_
  (repeat' (first
 | (first|refine Apz ?_|refine Aiz ?_)
 | ((first|refine Aqz ?_|refine Ahz ?_|refine Ajz ?_|refine Akz ?_);simp (disch:=omega) only [push_cast,seval,l75r0,l75r1,l75r2,l75r3,l75r4,l75r5,l75r6])
 | ((first|refine Acz ?_ ?_|refine Agz ?_ ?_|refine Afz ?_ ?_)<;>intro h<;>(try simp only [h])<;>(try simp only [bitvec_to_nat] at h)<;>(try simp only [h])<;>(first|(exfalso;omega)|(exfalso;simp_all;done)|(simp (disch:=omega) only [push_cast,seval])|skip))
 | (refine Amz ⟨.inr rfl,_,rfl,?_⟩;(try simp (disch:=omega) only [push_cast,seval]))))
  refine Bqz (fun k:Nat=>mkS [(0,RI xs),(3,.int .i64 (pr (xs.take k))),(4,.int .i64 k)] [])
    (fun k=>k ≤ xs.length) (fun k=>xs.length - k) 0 (Nat.zero_le _) ?_ ?_
  · (refine Sub.of_lists ?_ ?_ ?_ ?_ ?_<;>simp [Vw.mkS,Vw.lk,Vw.hk,AV.inn,innL,Avz,Atz,Ayz,-List.map_set,-List.getD_eq_getElem?_getD,pr_nil])
  · intro k hk
    by_cases hlt:k < xs.length
    · have h1:=Fgz (J6z hg (k + 1))
      have h2:=Fsz xs k hlt
      (repeat' (first
 | (first|refine Apz ?_|refine Aiz ?_)
 | ((first|refine Aqz ?_|refine Ahz ?_|refine Ajz ?_|refine Akz ?_);simp (disch:=omega) only [push_cast,seval,l75r0,l75r1,l75r2,l75r3,l75r4,l75r5,l75r6])
 | ((first|refine Acz ?_ ?_|refine Agz ?_ ?_|refine Afz ?_ ?_)<;>intro h<;>(try simp only [h])<;>(try simp only [bitvec_to_nat] at h)<;>(try simp only [h])<;>(first|(exfalso;omega)|(exfalso;simp_all;done)|(simp (disch:=omega) only [push_cast,seval])|skip))
 | (refine Amz ⟨.inr rfl,_,rfl,?_⟩;(try simp (disch:=omega) only [push_cast,seval]))))
      refine ⟨k + 1,by omega,by omega,?_⟩
      (refine Sub.of_lists ?_ ?_ ?_ ?_ ?_<;>simp [Vw.mkS,Vw.lk,Vw.hk,AV.inn,innL,Avz,Atz,Ayz,-List.map_set,-List.getD_eq_getElem?_getD,h2])
    · (repeat' (first
 | (first|refine Apz ?_|refine Aiz ?_)
 | ((first|refine Aqz ?_|refine Ahz ?_|refine Ajz ?_|refine Akz ?_);simp (disch:=omega) only [push_cast,seval,l75r0,l75r1,l75r2,l75r3,l75r4,l75r5,l75r6])
 | ((first|refine Acz ?_ ?_|refine Agz ?_ ?_|refine Afz ?_ ?_)<;>intro h<;>(try simp only [h])<;>(try simp only [bitvec_to_nat] at h)<;>(try simp only [h])<;>(first|(exfalso;omega)|(exfalso;simp_all;done)|(simp (disch:=omega) only [push_cast,seval])|skip))
 | (refine Amz ⟨.inr rfl,_,rfl,?_⟩;(try simp (disch:=omega) only [push_cast,seval]))))
      rw [List.take_of_length_le (by omega)]


theorem Bkz (xs:List Int) (n:Nat) (l h:Int) (hn:xs.length=n) (hb:n ≤ 1099511627776):PCall Tryd.prog 67 [.rows false (IL xs) n,.int .i64 l,.int .i64 h] (fun r=>r=.bool (allI xs l h)):=by
  subst hn
  refine A4z l67_eq rfl ?_
  (repeat' (first
 | (first|refine Apz ?_|refine Aiz ?_)
 | ((first|refine Aqz ?_|refine Ahz ?_|refine Ajz ?_|refine Akz ?_);simp (disch:=omega) only [push_cast,seval,l67r0,l67r1,l67r2,l67r3,l67r4,l67r5,l67r6])
 | ((first|refine Acz ?_ ?_|refine Agz ?_ ?_|refine Afz ?_ ?_)<;>intro h<;>(try simp only [h])<;>(try simp only [bitvec_to_nat] at h)<;>(try simp only [h])<;>(first|(exfalso;omega)|(exfalso;simp_all;done)|(simp (disch:=omega) only [push_cast,seval])|skip))
 | ((first|refine Arz false ?_|refine Anz false ?_);simp (disch:=omega) only [push_cast,seval])
 | ((first|((first|refine Adz (Aez (Auz _ _ _)) ?_|refine Abz (Aez (Auz _ _ _)) ⟨_,_,rfl,rfl⟩ ?_);rintro _ _ ⟨rfl,rfl⟩))<;>(try simp (disch:=omega) only [push_cast,seval]))
 | (refine Amz ⟨.inr rfl,_,rfl,?_⟩;(try simp (disch:=omega) only [push_cast,seval]))))
  refine Bqz (fun k:Nat=>mkS [(0,RI xs),(1,.int .i64 l),(2,.int .i64 h),(7,.int .i64 k)] []) (fun k=>k ≤ xs.length ∧ ∀ j:Nat,j < k → l ≤ xs.getD j 0 ∧ xs.getD j 0 ≤ h) (fun k=>xs.length - k) 0 ⟨Nat.zero_le _,fun j h=>absurd h (Nat.not_lt_zero _)⟩ ?_ ?_
  · (refine Sub.of_lists ?_ ?_ ?_ ?_ ?_<;>simp [Vw.mkS,Vw.lk,Vw.hk,AV.inn,innL,Avz,Atz,Ayz,-List.map_set,-List.getD_eq_getElem?_getD])
  · rintro k ⟨hk,hj⟩
    (repeat' (first
 | (first|refine Apz ?_|refine Aiz ?_)
 | ((first|refine Aqz ?_|refine Ahz ?_|refine Ajz ?_|refine Akz ?_);simp (disch:=omega) only [push_cast,seval,l67r0,l67r1,l67r2,l67r3,l67r4,l67r5,l67r6])
 | ((first|refine Acz ?_ ?_|refine Agz ?_ ?_|refine Afz ?_ ?_)<;>intro h<;>(try simp only [h])<;>(try simp only [bitvec_to_nat] at h)<;>(try simp only [h])<;>(first|(exfalso;omega)|(exfalso;simp_all;done)|(simp (disch:=omega) only [push_cast,seval])|skip))
 | ((first|refine Arz false ?_|refine Anz false ?_);simp (disch:=omega) only [push_cast,seval])
 | ((first|((first|refine Adz (Aez (Auz _ _ _)) ?_|refine Abz (Aez (Auz _ _ _)) ⟨_,_,rfl,rfl⟩ ?_);rintro _ _ ⟨rfl,rfl⟩))<;>(try simp (disch:=omega) only [push_cast,seval]))
 | (refine Amz ⟨.inr rfl,_,rfl,?_⟩;(try simp (disch:=omega) only [push_cast,seval]))))
    · rw [Ggz (j:=k) (by omega) (by assumption)]
    · refine ⟨k + 1,⟨by omega,fun j h=>?_⟩,by omega,?_⟩
      · by_cases hjk:j=k
        · subst hjk;assumption
        · exact hj j (by omega)
      · (refine Sub.of_lists ?_ ?_ ?_ ?_ ?_<;>simp [Vw.mkS,Vw.lk,Vw.hk,AV.inn,innL,Avz,Atz,Ayz,-List.map_set,-List.getD_eq_getElem?_getD])
    · rw [Hpz fun j h=>hj j (by omega)]


theorem Buz (xs:List Int) (n:Nat) (hn:xs.length=n) (hb:n ≤ 1099511627776):PCall Tryd.prog 61 [.rows false (IL xs) n] (fun r=>r=.bool (vSh xs)):=by
  subst hn
  refine A4z l61_eq rfl ?_
  (repeat' (first
 | (first|refine Apz ?_|refine Aiz ?_)
 | ((first|refine Aqz ?_|refine Ahz ?_|refine Ajz ?_|refine Akz ?_);simp (disch:=omega) only [push_cast,seval,l61r0,l61r1,l61r2,l61r3,l61r4,l61r5,l61r6,l61r7,l61r8,l61r9])
 | ((first|refine Acz ?_ ?_|refine Agz ?_ ?_|refine Afz ?_ ?_)<;>intro h<;>(try simp only [h])<;>(try simp only [bitvec_to_nat] at h)<;>(try simp only [h])<;>(first|(exfalso;omega)|(exfalso;simp_all;done)|(simp (disch:=omega) only [push_cast,seval])|skip))
 | ((first|refine Arz false ?_|refine Anz false ?_);simp (disch:=omega) only [push_cast,seval])
 | ((first|((first|refine Adz (Aez (Bzz _ _)) ?_|refine Abz (Aez (Bzz _ _)) ⟨_,_,rfl,rfl⟩ ?_);rintro _ _ ⟨rfl,rfl⟩)|((first|refine Adz (Aez (Dkz _ _ ?_ ?_)) ?_|refine Abz (Aez (Dkz _ _ ?_ ?_)) ⟨_,_,rfl,rfl⟩ ?_);(iterate 2 (exact sd));rintro _ _ ⟨rfl,rfl⟩))<;>(try simp (disch:=omega) only [push_cast,seval]))
 | (refine Amz ⟨.inr rfl,_,rfl,?_⟩;(try simp (disch:=omega) only [push_cast,seval]))))
  · have:¬ xs.length ≤ 4:=by omega
    simp [vSh,this]
  have h4:xs.length ≤ 4:=by omega
  refine Bqz (fun k:Nat=>mkS [(0,RI xs),(8,RI xs),(9,.int .i64 xs.length),(10,.int .i64 k)] []) (fun k=>k ≤ xs.length ∧ ∀ j:Nat,j < k → 0 ≤ xs.getD j 0 ∧ xs.getD j 0 ≤ 60) (fun k=>xs.length - k) 0 ⟨Nat.zero_le _,fun j h=>absurd h (Nat.not_lt_zero _)⟩ ?_ ?_
  · (refine Sub.of_lists ?_ ?_ ?_ ?_ ?_<;>simp [Vw.mkS,Vw.lk,Vw.hk,AV.inn,innL,Avz,Atz,Ayz,-List.map_set,-List.getD_eq_getElem?_getD])
  · rintro k ⟨hk,hj⟩
    by_cases hlt:k < xs.length
    · (repeat' (first
 | (first|refine Apz ?_|refine Aiz ?_)
 | ((first|refine Aqz ?_|refine Ahz ?_|refine Ajz ?_|refine Akz ?_);simp (disch:=omega) only [push_cast,seval,l61r0,l61r1,l61r2,l61r3,l61r4,l61r5,l61r6,l61r7,l61r8,l61r9])
 | ((first|refine Acz ?_ ?_|refine Agz ?_ ?_|refine Afz ?_ ?_)<;>intro h<;>(try simp only [h])<;>(try simp only [bitvec_to_nat] at h)<;>(try simp only [h])<;>(first|(exfalso;omega)|(exfalso;simp_all;done)|(simp (disch:=omega) only [push_cast,seval])|skip))
 | ((first|refine Arz false ?_|refine Anz false ?_);simp (disch:=omega) only [push_cast,seval])
 | ((first|((first|refine Adz (Aez (Bzz _ _)) ?_|refine Abz (Aez (Bzz _ _)) ⟨_,_,rfl,rfl⟩ ?_);rintro _ _ ⟨rfl,rfl⟩)|((first|refine Adz (Aez (Dkz _ _ ?_ ?_)) ?_|refine Abz (Aez (Dkz _ _ ?_ ?_)) ⟨_,_,rfl,rfl⟩ ?_);(iterate 2 (exact sd));rintro _ _ ⟨rfl,rfl⟩))<;>(try simp (disch:=omega) only [push_cast,seval]))
 | (refine Amz ⟨.inr rfl,_,rfl,?_⟩;(try simp (disch:=omega) only [push_cast,seval]))))
      · have:allI xs 0 60=false:=Ggz (j:=k) hlt (by assumption)
        simp [vSh,this]
      · refine ⟨k + 1,⟨by omega,fun j h=>?_⟩,by omega,?_⟩
        · by_cases hjk:j=k
          · subst hjk;assumption
          · exact hj j (by omega)
        · (refine Sub.of_lists ?_ ?_ ?_ ?_ ?_<;>simp [Vw.mkS,Vw.lk,Vw.hk,AV.inn,innL,Avz,Atz,Ayz,-List.map_set,-List.getD_eq_getElem?_getD])
    · have ha:allI xs 0 60=true:=Hpz fun j h=>hj j (by omega)
      have hg:good4 xs:=⟨Dez.1 ha,h4⟩
      (repeat' (first
 | (first|refine Apz ?_|refine Aiz ?_)
 | ((first|refine Aqz ?_|refine Ahz ?_|refine Ajz ?_|refine Akz ?_);simp (disch:=omega) only [push_cast,seval,l61r0,l61r1,l61r2,l61r3,l61r4,l61r5,l61r6,l61r7,l61r8,l61r9])
 | ((first|refine Acz ?_ ?_|refine Agz ?_ ?_|refine Afz ?_ ?_)<;>intro h<;>(try simp only [h])<;>(try simp only [bitvec_to_nat] at h)<;>(try simp only [h])<;>(first|(exfalso;omega)|(exfalso;simp_all;done)|(simp (disch:=omega) only [push_cast,seval])|skip))
 | ((first|refine Arz false ?_|refine Anz false ?_);simp (disch:=omega) only [push_cast,seval])
 | ((first|((first|refine Adz (Aez (Bzz _ _)) ?_|refine Abz (Aez (Bzz _ _)) ⟨_,_,rfl,rfl⟩ ?_);rintro _ _ ⟨rfl,rfl⟩)|((first|refine Adz (Aez (Dkz _ _ ?_ ?_)) ?_|refine Abz (Aez (Dkz _ _ ?_ ?_)) ⟨_,_,rfl,rfl⟩ ?_);(iterate 2 (exact sd));rintro _ _ ⟨rfl,rfl⟩))<;>(try simp (disch:=omega) only [push_cast,seval]))
 | (refine Amz ⟨.inr rfl,_,rfl,?_⟩;(try simp (disch:=omega) only [push_cast,seval]))))
      simp [vSh,ha,h4]


theorem Blz (xs:List Int) (n:Nat) (hn:xs.length=n) (hb:n ≤ 1099511627776):PCall Tryd.prog 74 [.rows false (IL xs) n] (fun r=>r=.bool (vSh xs)):=by
  subst hn
  refine A4z l74_eq rfl ?_
  by_cases h4:xs.length ≤ 4
  · cases ha:allI xs 0 60 with
    | false =>
      (repeat' (first
 | (first|refine Apz ?_|refine Aiz ?_)
 | ((first|refine Aqz ?_|refine Ahz ?_|refine Ajz ?_|refine Akz ?_);simp (disch:=omega) only [push_cast,seval,l74r0,l74r1,ha])
 | ((first|refine Acz ?_ ?_|refine Agz ?_ ?_|refine Afz ?_ ?_)<;>intro h<;>(try simp only [h])<;>(try simp only [bitvec_to_nat] at h)<;>(try simp only [h])<;>(first|(exfalso;omega)|(exfalso;simp_all;done)|(simp (disch:=omega) only [push_cast,seval,ha])|skip))
 | ((first|refine Arz false ?_|refine Anz false ?_);simp (disch:=omega) only [push_cast,seval,ha])
 | ((first|((first|refine Adz (Aez (Bkz _ _ _ _ ?_ ?_)) ?_|refine Abz (Aez (Bkz _ _ _ _ ?_ ?_)) ⟨_,_,rfl,rfl⟩ ?_);(iterate 2 (exact sd));rintro _ _ ⟨rfl,rfl⟩)|((first|refine Adz (Aez (Bbz _ _ ?_ ?_)) ?_|refine Abz (Aez (Bbz _ _ ?_ ?_)) ⟨_,_,rfl,rfl⟩ ?_);(iterate 2 (exact sd));rintro _ _ ⟨rfl,rfl⟩))<;>(try simp (disch:=omega) only [push_cast,seval,ha]))
 | (refine Amz ⟨.inr rfl,_,rfl,?_⟩;(try simp (disch:=omega) only [push_cast,seval,ha]))))
      simp [vSh,ha]
    | true =>
      have hg:good4 xs:=⟨Dez.1 ha,h4⟩
      (repeat' (first
 | (first|refine Apz ?_|refine Aiz ?_)
 | ((first|refine Aqz ?_|refine Ahz ?_|refine Ajz ?_|refine Akz ?_);simp (disch:=omega) only [push_cast,seval,l74r0,l74r1,ha])
 | ((first|refine Acz ?_ ?_|refine Agz ?_ ?_|refine Afz ?_ ?_)<;>intro h<;>(try simp only [h])<;>(try simp only [bitvec_to_nat] at h)<;>(try simp only [h])<;>(first|(exfalso;omega)|(exfalso;simp_all;done)|(simp (disch:=omega) only [push_cast,seval,ha])|skip))
 | ((first|refine Arz false ?_|refine Anz false ?_);simp (disch:=omega) only [push_cast,seval,ha])
 | ((first|((first|refine Adz (Aez (Bkz _ _ _ _ ?_ ?_)) ?_|refine Abz (Aez (Bkz _ _ _ _ ?_ ?_)) ⟨_,_,rfl,rfl⟩ ?_);(iterate 2 (exact sd));rintro _ _ ⟨rfl,rfl⟩)|((first|refine Adz (Aez (Bbz _ _ ?_ ?_)) ?_|refine Abz (Aez (Bbz _ _ ?_ ?_)) ⟨_,_,rfl,rfl⟩ ?_);(iterate 2 (exact sd));rintro _ _ ⟨rfl,rfl⟩))<;>(try simp (disch:=omega) only [push_cast,seval,ha]))
 | (refine Amz ⟨.inr rfl,_,rfl,?_⟩;(try simp (disch:=omega) only [push_cast,seval,ha]))))
      simp [vSh,ha,h4]
  · (repeat' (first
 | (first|refine Apz ?_|refine Aiz ?_)
 | ((first|refine Aqz ?_|refine Ahz ?_|refine Ajz ?_|refine Akz ?_);simp (disch:=omega) only [push_cast,seval,l74r0,l74r1])
 | ((first|refine Acz ?_ ?_|refine Agz ?_ ?_|refine Afz ?_ ?_)<;>intro h<;>(try simp only [h])<;>(try simp only [bitvec_to_nat] at h)<;>(try simp only [h])<;>(first|(exfalso;omega)|(exfalso;simp_all;done)|(simp (disch:=omega) only [push_cast,seval])|skip))
 | ((first|refine Arz false ?_|refine Anz false ?_);simp (disch:=omega) only [push_cast,seval])
 | ((first|((first|refine Adz (Aez (Bkz _ _ _ _ ?_ ?_)) ?_|refine Abz (Aez (Bkz _ _ _ _ ?_ ?_)) ⟨_,_,rfl,rfl⟩ ?_);(iterate 2 (exact sd));rintro _ _ ⟨rfl,rfl⟩)|((first|refine Adz (Aez (Bbz _ _ ?_ ?_)) ?_|refine Abz (Aez (Bbz _ _ ?_ ?_)) ⟨_,_,rfl,rfl⟩ ?_);(iterate 2 (exact sd));rintro _ _ ⟨rfl,rfl⟩))<;>(try simp (disch:=omega) only [push_cast,seval]))
 | (refine Amz ⟨.inr rfl,_,rfl,?_⟩;(try simp (disch:=omega) only [push_cast,seval]))))
    simp [vSh,h4]

end Go.Proofs.YtkpcjppnjmhanaaDoor
namespace Go.Proofs.YtkpcjppnjmhanaaDoor
open VwM Vw Go
variable [SentA]

theorem E4z (xs:List Int) (n:Nat) (k:Int) (hn:xs.length=n) (hg:good4 xs ∧ 0 ≤ k ∧ k < pr xs):BCall Tryd.prog 84 [.rows false (IL xs) n,.int .i64 k] [] (OI (unr xs k)):=by
  subst hn
  obtain ⟨hg,hk0,hk1⟩:=hg
  have hl:=hg.2
  have hprb:=Fgz hg
  have hp:=Ftz hg (by omega)
  refine A5z (pins:=[]) (pin:=0) l84_eq rfl rfl rfl ?_
  (repeat' (first
 | (first|refine Apz ?_|refine Aiz ?_)
 | ((first|refine Aqz ?_|refine Ahz ?_|refine Ajz ?_|refine Akz ?_);simp (disch:=omega) only [push_cast,seval,l84r0,l84r1,l84r2,l84r3,l84r4,l84r5,l84r6,l84r7])
 | ((first|refine Acz ?_ ?_|refine Agz ?_ ?_|refine Afz ?_ ?_)<;>intro h<;>(try simp only [h])<;>(try simp only [bitvec_to_nat] at h)<;>(try simp only [h])<;>(first|(exfalso;omega)|(exfalso;simp_all;done)|(simp (disch:=omega) only [push_cast,seval])|skip))
 | (refine Amz ⟨.inr rfl,[144],[],_,by decide,rfl,?_⟩;(try simp (disch:=omega) only [push_cast,seval,↓Aoz,↓Alz,↓List.map_cons,↓List.map_nil]);(first|done|(show AV.own _ _ _=_ ∧ _)))))
  refine Bqz (fun j:Nat=>mkS [(0,RI xs),(6,.int .i64 ((xs.length:Int) - 1 - (j:Int))),(1,.int .i64 (kS xs k j)),(5,.own 144 xs.length 1)] [(144,IL (filledD (dig xs k) xs.length j))])
    (fun j=>j ≤ xs.length) (fun j=>xs.length - j) 0 (Nat.zero_le _) ?_ ?_
  · (refine Sub.of_lists ?_ ?_ ?_ ?_ ?_<;>simp [Vw.mkS,Vw.lk,Vw.hk,AV.inn,innL,Avz,Atz,Ayz,-List.map_set,-List.getD_eq_getElem?_getD,filledD_zero,kS])
  · intro j hj
    by_cases hlt:j < xs.length
    · have e1:=down_nat xs.length j hlt
      have h1:=Iez hk0 hp j hj
      have h2:=Iez hk0 hp (j + 1) hlt
      have h3:=hp (xs.length - 1 - j) (by omega)
      have h4:¬ xs.getD (xs.length - 1 - j) 0=0:=by omega
      simp only [kS] at h2
      have e3:=filledD_set (dig xs k) xs.length j hlt
      have e6:dig xs k (xs.length - 1 - j)=(kS xs k j).tmod (xs.getD (xs.length - 1 - j) 0):=by
        unfold dig
        rw [show xs.length - 1 - (xs.length - 1 - j)=j by omega]
      rw [e6] at e3
      (repeat' (first
 | (first|refine Apz ?_|refine Aiz ?_)
 | ((first|refine Aqz ?_|refine Ahz ?_|refine Ajz ?_|refine Akz ?_);simp (disch:=omega) only [push_cast,seval,l84r0,l84r1,l84r2,l84r3,l84r4,l84r5,l84r6,l84r7,e1,h4])
 | ((first|refine Acz ?_ ?_|refine Agz ?_ ?_|refine Afz ?_ ?_)<;>intro h<;>(try simp only [h])<;>(try simp only [bitvec_to_nat] at h)<;>(try simp only [h])<;>(first|(exfalso;omega)|(exfalso;simp_all;done)|(simp (disch:=omega) only [push_cast,seval,e1,h4])|skip))
 | (refine Amz ⟨.inr rfl,[144],[],_,by decide,rfl,?_⟩;(try simp (disch:=omega) only [push_cast,seval,↓Aoz,↓Alz,↓List.map_cons,↓List.map_nil,e1,h4]);(first|done|(show AV.own _ _ _=_ ∧ _)))))
      refine ⟨j + 1,by omega,by omega,?_⟩
      have e4:(xs.length:Int) - 1 - ((j:Int) + 1)=(xs.length:Int) - 1 - (j:Int) - 1:=by omega
      (refine Sub.of_lists ?_ ?_ ?_ ?_ ?_<;>simp [Vw.mkS,Vw.lk,Vw.hk,AV.inn,innL,Avz,Atz,Ayz,-List.map_set,-List.getD_eq_getElem?_getD,Bfz,e3,e4,kS])
    · (repeat' (first
 | (first|refine Apz ?_|refine Aiz ?_)
 | ((first|refine Aqz ?_|refine Ahz ?_|refine Ajz ?_|refine Akz ?_);simp (disch:=omega) only [push_cast,seval,l84r0,l84r1,l84r2,l84r3,l84r4,l84r5,l84r6,l84r7])
 | ((first|refine Acz ?_ ?_|refine Agz ?_ ?_|refine Afz ?_ ?_)<;>intro h<;>(try simp only [h])<;>(try simp only [bitvec_to_nat] at h)<;>(try simp only [h])<;>(first|(exfalso;omega)|(exfalso;simp_all;done)|(simp (disch:=omega) only [push_cast,seval])|skip))
 | (refine Amz ⟨.inr rfl,[144],[],_,by decide,rfl,?_⟩;(try simp (disch:=omega) only [push_cast,seval,↓Aoz,↓Alz,↓List.map_cons,↓List.map_nil]);(first|done|(show AV.own _ _ _=_ ∧ _)))))
      have e:j=xs.length:=by omega
      rw [e,filledD_all]
      simp [OI,unr]

end Go.Proofs.YtkpcjppnjmhanaaDoor
namespace Go.Proofs.YtkpcjppnjmhanaaDoor
open VwM Vw Go
variable [SentA]

theorem B0z (b:Int) (sh:List Int) (n:Nat) (cs:List AV) (m:Nat) (fr:Bool) (hn:sh.length=n) (hg:good4 sh):PCall Tryd.prog 64 [.agg [.int .i64 b,.rows false (IL sh) n,.rows fr cs m]] (fun r=>r=.int .i64 (pr sh)):=by
  subst hn
  refine A4z l64_eq rfl ?_
  (repeat' (first
 | (first|refine Apz ?_|refine Aiz ?_)
 | ((first|refine Aqz ?_|refine Ahz ?_|refine Ajz ?_|refine Akz ?_);simp (disch:=omega) only [push_cast,seval,l64r0,l64r1])
 | ((first|refine Acz ?_ ?_|refine Agz ?_ ?_|refine Afz ?_ ?_)<;>intro h<;>(try simp only [h])<;>(try simp only [bitvec_to_nat] at h)<;>(try simp only [h])<;>(first|(exfalso;omega)|(exfalso;simp_all;done)|(simp (disch:=omega) only [push_cast,seval])|skip))
 | ((first|refine Arz false ?_|refine Anz false ?_);simp (disch:=omega) only [push_cast,seval])
 | ((first|((first|refine Adz (Aez (Dkz _ _ ?_ ?_)) ?_|refine Abz (Aez (Dkz _ _ ?_ ?_)) ⟨_,_,rfl,rfl⟩ ?_);(iterate 2 (exact sd));rintro _ _ ⟨rfl,rfl⟩))<;>(try simp (disch:=omega) only [push_cast,seval]))
 | (refine Amz ⟨.inr rfl,_,rfl,?_⟩;(try simp (disch:=omega) only [push_cast,seval]))))

end Go.Proofs.YtkpcjppnjmhanaaDoor
