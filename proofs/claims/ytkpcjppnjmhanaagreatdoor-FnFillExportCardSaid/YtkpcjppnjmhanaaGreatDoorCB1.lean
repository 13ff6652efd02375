/- Texts of this verifier. -/
import Derived.Test.YtkpcjppnjmhanaaGreatDoorCLow
import Derived.Test.YtkpcjppnjmhanaaGreatDoorCM1
set_option maxHeartbeats 4000000
set_option linter.unusedSimpArgs false
set_option linter.unusedSectionVars false
set_option linter.unusedVariables false
set_option maxRecDepth 4000
namespace Go.Proofs.YtkpcjppnjmhanaaGreatDoor
open VwM Vw Go
variable [SentA]

theorem mixed:Tryz.prog.follows .mixedOrders=true:=by kernel_rfl


theorem within_ok (x l:Int) (h0:0 ≤ l) (h1:l ≤ 1000):PCall Tryz.prog 130 [.int .i64 x,.int .i64 l] (fun r=>r=.bool (decide (-l ≤ x) && decide (x ≤ l))):=by
  refine Axz l130_eq rfl ?_
  (repeat' (first
 | (first|refine Agz ?_|refine Abz ?_)
 | ((first|refine Ahz ?_);simp (disch:=omega) only [push_cast,seval,l130r0,l130r1])
 | ((first|refine Bez (fun h=>?_) (fun h=>?_))<;>(try simp only [h])<;>(try simp only [bitvec_to_nat] at h)<;>(try simp only [h])<;>(first|(exfalso;omega)|(exfalso;simp_all;done)|(simp (disch:=omega) only [push_cast,seval])|skip))
 | (refine Afz ⟨.inr rfl,_,rfl,?_⟩;(try simp (disch:=omega) only [push_cast,seval]))))
  all_goals (first|rfl|(simp_all;done)|(simp_all;omega)|(simp;omega)|(simp;grind)|(simp_all;grind)|skip)


theorem Atz (x l h:Int):PCall Tryz.prog 60 [.int .i64 x,.int .i64 l,.int .i64 h] (fun r=>r=.bool (decide (l ≤ x) && decide (x ≤ h))):=by
  refine Axz l60_eq rfl ?_
  (repeat' (first
 | (first|refine Agz ?_|refine Abz ?_)
 | ((first|refine Ahz ?_);simp (disch:=omega) only [push_cast,seval,l60r0,l60r1])
 | ((first|refine Bez (fun h=>?_) (fun h=>?_))<;>(try simp only [h])<;>(try simp only [bitvec_to_nat] at h)<;>(try simp only [h])<;>(first|(exfalso;omega)|(exfalso;simp_all;done)|(simp (disch:=omega) only [push_cast,seval])|skip))
 | (refine Afz ⟨.inr rfl,_,rfl,?_⟩;(try simp (disch:=omega) only [push_cast,seval]))))
  all_goals (first|rfl|(simp_all;done)|(simp_all;omega)|(simp;omega)|(simp;grind)|(simp_all;grind)|skip)


theorem C8z (f t b:Int) (hf ht:Bool):PCall Tryz.prog 122 [slc f t b hf ht] (fun r=>r=.bool (vS f t b hf ht)):=by
  refine Axz l122_eq rfl ?_
  (repeat' (first
 | (first|refine Agz ?_|refine Abz ?_)
 | ((first|refine Ahz ?_);simp (disch:=omega) only [push_cast,seval,l122r0,l122r1])
 | ((first|refine Bez (fun h=>?_) (fun h=>?_))<;>(try simp only [h])<;>(try simp only [bitvec_to_nat] at h)<;>(try simp only [h])<;>(first|(exfalso;omega)|(exfalso;simp_all;done)|(simp (disch:=omega) only [push_cast,seval])|skip))
 | ((first|refine Alz false ?_);simp (disch:=omega) only [push_cast,seval])
 | ((first|((first|refine Akz (Ajz (Atz _ _ _)) ?_|refine Aiz (Ajz (Atz _ _ _)) ⟨_,_,rfl,rfl⟩ ?_);rintro _ _ ⟨rfl,rfl⟩))<;>(try simp (disch:=omega) only [push_cast,seval]))
 | (refine Afz ⟨.inr rfl,_,rfl,?_⟩;(try simp (disch:=omega) only [push_cast,seval]))))
  all_goals (first|rfl|(simp_all [vS];done)|(simp_all [vS];omega)|(simp [vS];omega)|(simp [vS];grind)|(simp_all [vS];grind)|skip)


theorem Doz (n:Int):PCall Tryz.prog 91 [.int .i64 n] (fun r=>r=.bool (decide (0 ≤ n) && decide (n ≤ 60))):=by
  refine Axz l91_eq rfl ?_
  (repeat' (first
 | (first|refine Agz ?_|refine Abz ?_)
 | ((first|refine Ahz ?_);simp (disch:=omega) only [push_cast,seval,l91r0,l91r1])
 | ((first|refine Bez (fun h=>?_) (fun h=>?_))<;>(try simp only [h])<;>(try simp only [bitvec_to_nat] at h)<;>(try simp only [h])<;>(first|(exfalso;omega)|(exfalso;simp_all;done)|(simp (disch:=omega) only [push_cast,seval])|skip))
 | (refine Afz ⟨.inr rfl,_,rfl,?_⟩;(try simp (disch:=omega) only [push_cast,seval]))))
  all_goals (first|rfl|(simp_all;done)|(simp_all;omega)|(simp;omega)|(simp;grind)|(simp_all;grind)|skip)


theorem Cjz (xs:List Int) (n:Nat) (hn:xs.length=n) (hb:n ≤ 1099511627776):BCall Tryz.prog 88 [.rows false (IL xs) n] [] (OI xs):=by
  subst hn
  refine Auz (pins:=[]) (pin:=0) l88_eq rfl rfl rfl ?_
  (repeat' (first
 | (first|refine Agz ?_|refine Abz ?_)
 | ((first|refine Ahz ?_);simp (disch:=omega) only [push_cast,seval,l88r0,l88r1])
 | (refine Afz ⟨.inr rfl,[48],[],_,by decide,rfl,?_⟩;(try simp (disch:=omega) only [push_cast,seval,↓Adz,↓Acz,↓List.map_cons,↓List.map_nil]);(first|done|(show AV.own _ _ _=_ ∧ _)))
 | (refine Afz ⟨.inr rfl,[80],[],_,by decide,rfl,?_⟩;(try simp (disch:=omega) only [push_cast,seval,↓Adz,↓Acz,↓List.map_cons,↓List.map_nil]);(first|done|(show AV.own _ _ _=_ ∧ _)))))
  all_goals simp [OI]

end Go.Proofs.YtkpcjppnjmhanaaGreatDoor
namespace Go.Proofs.YtkpcjppnjmhanaaGreatDoor
open VwM Vw Go
variable [SentA]

theorem Bzz (a b c:Int) (hv:vR a b c=true):BCall Tryz.prog 151 [rng a b c] [] (OI (nums a c (cntN a b c))):=by
  obtain ⟨ha,hb,hc,h0⟩:=Faz.1 hv
  refine Auz (pins:=[]) (pin:=0) l151_eq rfl rfl rfl ?_
  (repeat' (first
 | (first|refine Agz ?_|refine Abz ?_)
 | ((first|refine Ahz ?_);simp (disch:=omega) only [push_cast,seval,l151r0,l151r1,l151r2,l151r3,l151r4,l151r5,l151r6])
 | (refine Afz ⟨.inr rfl,[80],[],_,by decide,rfl,?_⟩;(try simp (disch:=omega) only [push_cast,seval,↓Adz,↓Acz,↓List.map_cons,↓List.map_nil]);(first|done|(show AV.own _ _ _=_ ∧ _)))
 | (refine Afz ⟨.inr rfl,[544],[],_,by decide,rfl,?_⟩;(try simp (disch:=omega) only [push_cast,seval,↓Adz,↓Acz,↓List.map_cons,↓List.map_nil]);(first|done|(show AV.own _ _ _=_ ∧ _)))
 | (refine Afz ⟨.inr rfl,[560],[],_,by decide,rfl,?_⟩;(try simp (disch:=omega) only [push_cast,seval,↓Adz,↓Acz,↓List.map_cons,↓List.map_nil]);(first|done|(show AV.own _ _ _=_ ∧ _)))))
  refine A7z (fun k:Nat=>mkS [(1,.ref 16 3 0),(4,.int .i64 (a + (k:Int) * c)),(3,.own 80 k 1)] [(16,[.int .i64 a,.int .i64 b,.int .i64 c]),(80,IL (nums a c k))])
    (fun k=>k ≤ cntN a b c) (fun k=>cntN a b c - k) 0 (Nat.zero_le _) ?_ ?_
  · (refine Sub.of_lists ?_ ?_ ?_ ?_ ?_<;>simp [Vw.mkS,Vw.lk,Vw.hk,AV.inn,innL,Apz,Anz,Aqz,-List.map_set,-List.getD_eq_getElem?_getD,nums])
  · intro k hk
    have hb1:=next_bound hv hk
    have hb3:(cntN a b c:Int) ≤ 500:=by rw [cntN_cast hv];exact (cnt_bound hv).2
    have hiff:=cntN_lt hv k
    by_cases hlt:k < cntN a b c
    · have hb2:=num_bound hv hlt
      rcases hiff.1 hlt with ⟨hp,ht⟩|⟨hp,ht⟩
      · (repeat' (first
 | (first|refine Agz ?_|refine Abz ?_)
 | ((first|refine Ahz ?_|refine Aez ?_|refine Aoz ?_);simp (disch:=omega) only [push_cast,seval,l151r0,l151r1,l151r2,l151r3,l151r4,l151r5,l151r6,hp,ht])
 | (refine Afz ⟨.inr rfl,[80],[],_,by decide,rfl,?_⟩;(try simp (disch:=omega) only [push_cast,seval,↓Adz,↓Acz,↓List.map_cons,↓List.map_nil,hp,ht]);(first|done|(show AV.own _ _ _=_ ∧ _)))
 | (refine Afz ⟨.inr rfl,[544],[],_,by decide,rfl,?_⟩;(try simp (disch:=omega) only [push_cast,seval,↓Adz,↓Acz,↓List.map_cons,↓List.map_nil,hp,ht]);(first|done|(show AV.own _ _ _=_ ∧ _)))
 | (refine Afz ⟨.inr rfl,[560],[],_,by decide,rfl,?_⟩;(try simp (disch:=omega) only [push_cast,seval,↓Adz,↓Acz,↓List.map_cons,↓List.map_nil,hp,ht]);(first|done|(show AV.own _ _ _=_ ∧ _)))))
        refine ⟨k + 1,by omega,by omega,?_⟩
        (refine Sub.of_lists ?_ ?_ ?_ ?_ ?_<;>simp [Vw.mkS,Vw.lk,Vw.hk,AV.inn,innL,Apz,Anz,Aqz,-List.map_set,-List.getD_eq_getElem?_getD,nums_succ,Int.add_mul,Int.add_assoc])
      · have hn:¬ 0 < c:=by omega
        (repeat' (first
 | (first|refine Agz ?_|refine Abz ?_)
 | ((first|refine Ahz ?_|refine Aez ?_|refine Aoz ?_);simp (disch:=omega) only [push_cast,seval,l151r0,l151r1,l151r2,l151r3,l151r4,l151r5,l151r6,hp,hn,ht])
 | (refine Afz ⟨.inr rfl,[80],[],_,by decide,rfl,?_⟩;(try simp (disch:=omega) only [push_cast,seval,↓Adz,↓Acz,↓List.map_cons,↓List.map_nil,hp,hn,ht]);(first|done|(show AV.own _ _ _=_ ∧ _)))
 | (refine Afz ⟨.inr rfl,[544],[],_,by decide,rfl,?_⟩;(try simp (disch:=omega) only [push_cast,seval,↓Adz,↓Acz,↓List.map_cons,↓List.map_nil,hp,hn,ht]);(first|done|(show AV.own _ _ _=_ ∧ _)))
 | (refine Afz ⟨.inr rfl,[560],[],_,by decide,rfl,?_⟩;(try simp (disch:=omega) only [push_cast,seval,↓Adz,↓Acz,↓List.map_cons,↓List.map_nil,hp,hn,ht]);(first|done|(show AV.own _ _ _=_ ∧ _)))))
        refine ⟨k + 1,by omega,by omega,?_⟩
        (refine Sub.of_lists ?_ ?_ ?_ ?_ ?_<;>simp [Vw.mkS,Vw.lk,Vw.hk,AV.inn,innL,Apz,Anz,Aqz,-List.map_set,-List.getD_eq_getElem?_getD,nums_succ,Int.add_mul,Int.add_assoc])
    · have hk':k=cntN a b c:=by omega
      have hno:=fun h=>hlt (hiff.2 h)
      by_cases hp:0 < c
      · have hn:¬ c < 0:=by omega
        have ht:¬ a + (k:Int) * c < b:=fun h=>hno (.inl ⟨hp,h⟩)
        (repeat' (first
 | (first|refine Agz ?_|refine Abz ?_)
 | ((first|refine Ahz ?_|refine Aez ?_|refine A1z ?_);simp (disch:=omega) only [push_cast,seval,l151r0,l151r1,l151r2,l151r3,l151r4,l151r5,l151r6,hp,hn,ht])
 | (refine Afz ⟨.inr rfl,[80],[],_,by decide,rfl,?_⟩;(try simp (disch:=omega) only [push_cast,seval,↓Adz,↓Acz,↓List.map_cons,↓List.map_nil,hp,hn,ht]);(first|done|(show AV.own _ _ _=_ ∧ _)))
 | (refine Afz ⟨.inr rfl,[544],[],_,by decide,rfl,?_⟩;(try simp (disch:=omega) only [push_cast,seval,↓Adz,↓Acz,↓List.map_cons,↓List.map_nil,hp,hn,ht]);(first|done|(show AV.own _ _ _=_ ∧ _)))
 | (refine Afz ⟨.inr rfl,[560],[],_,by decide,rfl,?_⟩;(try simp (disch:=omega) only [push_cast,seval,↓Adz,↓Acz,↓List.map_cons,↓List.map_nil,hp,hn,ht]);(first|done|(show AV.own _ _ _=_ ∧ _)))))
        all_goals simp [← hk']
      · have hn:c < 0:=by omega
        have ht:¬ b < a + (k:Int) * c:=fun h=>hno (.inr ⟨hn,h⟩)
        (repeat' (first
 | (first|refine Agz ?_|refine Abz ?_)
 | ((first|refine Ahz ?_|refine Aez ?_|refine A1z ?_);simp (disch:=omega) only [push_cast,seval,l151r0,l151r1,l151r2,l151r3,l151r4,l151r5,l151r6,hp,hn,ht])
 | (refine Afz ⟨.inr rfl,[80],[],_,by decide,rfl,?_⟩;(try simp (disch:=omega) only [push_cast,seval,↓Adz,↓Acz,↓List.map_cons,↓List.map_nil,hp,hn,ht]);(first|done|(show AV.own _ _ _=_ ∧ _)))
 | (refine Afz ⟨.inr rfl,[544],[],_,by decide,rfl,?_⟩;(try simp (disch:=omega) only [push_cast,seval,↓Adz,↓Acz,↓List.map_cons,↓List.map_nil,hp,hn,ht]);(first|done|(show AV.own _ _ _=_ ∧ _)))
 | (refine Afz ⟨.inr rfl,[560],[],_,by decide,rfl,?_⟩;(try simp (disch:=omega) only [push_cast,seval,↓Adz,↓Acz,↓List.map_cons,↓List.map_nil,hp,hn,ht]);(first|done|(show AV.own _ _ _=_ ∧ _)))))
        all_goals simp [← hk']

end Go.Proofs.YtkpcjppnjmhanaaGreatDoor
namespace Go.Proofs.YtkpcjppnjmhanaaGreatDoor
open VwM Vw Go
variable [SentA]

theorem sbound_ok (n x b:Int) (hn:0 ≤ n ∧ n ≤ 60) (hx:-100 ≤ x ∧ x ≤ 100):PCall Tryz.prog 165 [.int .i64 n,.int .i64 x,.int .i64 b] (fun r=>r=.int .i64 (endI x n b)):=by
  refine Axz l165_eq rfl ?_
  unfold endI
  by_cases h:b < 0
  · by_cases h1:x < 0
    · (repeat' (first
 | (first|refine Agz ?_|refine Abz ?_)
 | ((first|refine Ahz ?_|refine Aez ?_);simp (disch:=omega) only [push_cast,seval,l165r0,l165r1,l165r2,l165r3,l165r4,l165r5,l165r6,l165r7,l165r8,h,h1])
 | (refine Afz ⟨.inr rfl,_,rfl,?_⟩;(try simp (disch:=omega) only [push_cast,seval,h,h1]))))
      all_goals (refine congrArg (AV.int _) ?_;omega)
    · (repeat' (first
 | (first|refine Agz ?_|refine Abz ?_)
 | ((first|refine Ahz ?_|refine Aez ?_|refine Aoz ?_);simp (disch:=omega) only [push_cast,seval,l165r0,l165r1,l165r2,l165r3,l165r4,l165r5,l165r6,l165r7,l165r8,h,h1])
 | (refine Afz ⟨.inr rfl,_,rfl,?_⟩;(try simp (disch:=omega) only [push_cast,seval,h,h1]))))
      all_goals (refine congrArg (AV.int _) ?_;omega)
  · by_cases h1:x < 0
    · (repeat' (first
 | (first|refine Agz ?_|refine Abz ?_)
 | ((first|refine Ahz ?_|refine Aez ?_|refine Aoz ?_);simp (disch:=omega) only [push_cast,seval,l165r0,l165r1,l165r2,l165r3,l165r4,l165r5,l165r6,l165r7,l165r8,h,h1])
 | (refine Afz ⟨.inr rfl,_,rfl,?_⟩;(try simp (disch:=omega) only [push_cast,seval,h,h1]))))
      all_goals (refine congrArg (AV.int _) ?_;omega)
    · (repeat' (first
 | (first|refine Agz ?_|refine Abz ?_)
 | ((first|refine Ahz ?_|refine Aez ?_|refine Aoz ?_);simp (disch:=omega) only [push_cast,seval,l165r0,l165r1,l165r2,l165r3,l165r4,l165r5,l165r6,l165r7,l165r8,h,h1])
 | (refine Afz ⟨.inr rfl,_,rfl,?_⟩;(try simp (disch:=omega) only [push_cast,seval,h,h1]))))
      all_goals (refine congrArg (AV.int _) ?_;omega)


theorem Cfz (n f t b:Int) (hf ht:Bool) (hn:0 ≤ n ∧ n ≤ 60) (hs:vS f t b hf ht=true):BCall Tryz.prog 150 [.int .i64 n,slc f t b hf ht] [] (OI (nums (sFrom f n b hf) b (cntN (sFrom f n b hf) (sTo t n b ht) b))):=by
  obtain ⟨h1,h2,h3,h4,-,-⟩:=K6z.1 hs
  have hv:=Kkz hn hs
  refine Auz (pins:=[]) (pin:=0) l150_eq rfl rfl rfl ?_
  by_cases h:b < 0<;>cases hf<;>cases ht<;>simp only [sFrom,sTo,h,if_true,if_false,Bool.false_eq_true,reduceIte] at hv ⊢
  all_goals (repeat' (first
 | (first|refine Agz ?_|refine Abz ?_)
 | ((first|refine Ahz ?_|refine Aez ?_|refine Aoz ?_);simp (disch:=omega) only [push_cast,seval,l150r0,l150r1,l150r2,l150r3,l150r4,l150r5,l150r6,l150r7,l150r8,l150r9,l150r10,h])
 | ((first|refine Alz false ?_);simp (disch:=omega) only [push_cast,seval,h])
 | ((first|((first|refine Akz (Ajz (sbound_ok _ _ _ ?_ ?_)) ?_|refine Aiz (Ajz (sbound_ok _ _ _ ?_ ?_)) ⟨_,_,rfl,rfl⟩ ?_);(iterate 2 (exact sd));rintro _ _ ⟨rfl,rfl⟩)|((first|refine Akz (Bzz _ _ _ ?_) ?_|refine Aiz (Bzz _ _ _ ?_) ⟨_,_,rfl,rfl⟩ ?_);(exact sd);rintro _ _ ⟨rfl,rfl⟩))<;>(try simp (disch:=omega) only [push_cast,seval,h]))
 | (refine Afz ⟨.inr rfl,[320],[],_,by decide,rfl,?_⟩;(try simp (disch:=omega) only [push_cast,seval,↓Adz,↓Acz,↓List.map_cons,↓List.map_nil,h]);(first|done|(show AV.own _ _ _=_ ∧ _)))
 | (refine Afz ⟨.inr rfl,[448],[],_,by decide,rfl,?_⟩;(try simp (disch:=omega) only [push_cast,seval,↓Adz,↓Acz,↓List.map_cons,↓List.map_nil,h]);(first|done|(show AV.own _ _ _=_ ∧ _)))
 | (refine Afz ⟨.inr rfl,[544],[],_,by decide,rfl,?_⟩;(try simp (disch:=omega) only [push_cast,seval,↓Adz,↓Acz,↓List.map_cons,↓List.map_nil,h]);(first|done|(show AV.own _ _ _=_ ∧ _)))))
  all_goals simp [OI]

end Go.Proofs.YtkpcjppnjmhanaaGreatDoor
namespace Go.Proofs.YtkpcjppnjmhanaaGreatDoor
open VwM Vw Go
variable [SentA]

theorem Bjz (a c:Int) (n:Nat) (hn:n ≤ 1000) (hb:∀ i:Nat,i < n → -1000 ≤ a + (i:Int) * c ∧ a + (i:Int) * c ≤ 1000):PCall Tryz.prog 149 [.rows false (IL (nums a c n)) n] (fun r=>r=PR a c n):=by
  refine Axz l149_eq rfl ?_
  by_cases hz:n=0
  · subst hz
    (repeat' (first
 | (first|refine Agz ?_|refine Abz ?_)
 | ((first|refine Ahz ?_|refine Aez ?_);simp (disch:=omega) only [push_cast,seval,l149r0,l149r1,l149r2,l149r3,l149r4,l149r5a,l149r5b,l149r5,l149r6a,l149r6b,l149r6,l149r7,l149r8,l149r9,l149r10,nums_zero])
 | (refine Afz ⟨.inr rfl,_,rfl,?_⟩;(try simp (disch:=omega) only [push_cast,seval,nums_zero]))))
    all_goals simp [pS,pE,pC]
  have b0:=hb 0 (by omega)
  simp only [Int.natCast_zero,Int.zero_mul,Int.add_zero] at b0
  have g0:(nums a c n).getD 0 0=a:=by rw [Jez a c n 0 (by omega)];simp
  by_cases ho:n=1
  · subst ho
    (repeat' (first
 | (first|refine Agz ?_|refine Abz ?_)
 | ((first|refine Ahz ?_|refine Awz (mid:=l149r5a) (post:=l149r5b) mixed (by decide) ?_|refine Aez ?_);simp (disch:=omega) only [push_cast,seval,l149r0,l149r1,l149r2,l149r3,l149r4,l149r5a,l149r5b,l149r5,l149r6a,l149r6b,l149r6,l149r7,l149r8,l149r9,l149r10,g0])
 | (refine Afz ⟨.inr rfl,_,rfl,?_⟩;(try simp (disch:=omega) only [push_cast,seval,g0]))))
    all_goals simp [pS,pE,pC]
  have b1:=hb 1 (by omega)
  simp only [Int.natCast_one,Int.one_mul] at b1
  have bl:=hb (n - 1) (by omega)
  rw [show (((n - 1:Nat):Nat):Int)=(n:Int) - 1 by omega] at bl
  have ho':¬ (n:Int)=1:=by omega
  have hz':¬ (n:Int)=0:=by omega
  have g1:(nums a c n).getD 1 0=a + c:=by rw [Jez a c n 1 (by omega)];simp
  have gl:(nums a c n).getD ((n:Int) - 1).toNat 0=a + ((n:Int) - 1) * c:=by
    rw [Jez a c n _ (by omega)]
    rw [show ((((n:Int) - 1).toNat:Nat):Int)=(n:Int) - 1 by omega]
  have hlen:0 < n ∧ 1 < n:=by omega
  have e:a + c - a=c:=by omega
  have p1:¬ (n:Int) < 1:=by omega
  have p2:¬ (n:Int) ≤ 1:=by omega
  by_cases hc:c < 0
  · (repeat' (first
 | (first|refine Agz ?_|refine Abz ?_)
 | ((first|refine Ahz ?_|refine Awz (mid:=l149r6a) (post:=l149r6b) mixed (by decide) ?_|refine Aez ?_|refine Aoz ?_);simp (disch:=omega) only [push_cast,seval,l149r0,l149r1,l149r2,l149r3,l149r4,l149r5a,l149r5b,l149r5,l149r6a,l149r6b,l149r6,l149r7,l149r8,l149r9,l149r10,g0,g1,gl,hlen,e,hz',ho',hc])
 | (refine Afz ⟨.inr rfl,_,rfl,?_⟩;(try simp (disch:=omega) only [push_cast,seval,g0,g1,gl,hlen,e,hz',ho',hc]))))
    all_goals simp [pS,pE,pC,p1,p2,ho',hc]
  · (repeat' (first
 | (first|refine Agz ?_|refine Abz ?_)
 | ((first|refine Ahz ?_|refine Awz (mid:=l149r6a) (post:=l149r6b) mixed (by decide) ?_|refine Aez ?_|refine Aoz ?_);simp (disch:=omega) only [push_cast,seval,l149r0,l149r1,l149r2,l149r3,l149r4,l149r5a,l149r5b,l149r5,l149r6a,l149r6b,l149r6,l149r7,l149r8,l149r9,l149r10,g0,g1,gl,hlen,e,hz',ho',hc])
 | (refine Afz ⟨.inr rfl,_,rfl,?_⟩;(try simp (disch:=omega) only [push_cast,seval,g0,g1,gl,hlen,e,hz',ho',hc]))))
    all_goals simp [pS,pE,pC,p1,p2,ho',hc]

end Go.Proofs.YtkpcjppnjmhanaaGreatDoor
namespace Go.Proofs.YtkpcjppnjmhanaaGreatDoor
open VwM Vw Go
variable [SentA]

end Go.Proofs.YtkpcjppnjmhanaaGreatDoor
namespace Go.Proofs.YtkpcjppnjmhanaaGreatDoor
open VwM Vw Go
variable [SentA]

theorem Ccz (x l:Int):PCall Tryz.prog 80 [.int .i64 x,.int .i64 l] (fun r=>r=.bool (decide (0 ≤ x) && decide (x ≤ l))):=by
  refine Axz l80_eq rfl ?_
  (repeat' (first
 | (first|refine Agz ?_|refine Abz ?_)
 | ((first|refine Ahz ?_);simp (disch:=omega) only [push_cast,seval,l80r0,l80r1])
 | ((first|refine Bez (fun h=>?_) (fun h=>?_))<;>(try simp only [h])<;>(try simp only [bitvec_to_nat] at h)<;>(try simp only [h])<;>(first|(exfalso;omega)|(exfalso;simp_all;done)|(simp (disch:=omega) only [push_cast,seval])|skip))
 | (refine Afz ⟨.inr rfl,_,rfl,?_⟩;(try simp (disch:=omega) only [push_cast,seval]))))
  all_goals (first|rfl|(simp_all;done)|(simp_all;omega)|(simp;omega)|(simp;grind)|(simp_all;grind)|skip)


theorem Fvz (xs:List Int) (n:Nat) (hn:xs.length=n) (hg:good4 xs):PCall Tryz.prog 129 [.rows false (IL xs) n] (fun r=>r=.int .i64 (pr xs)):=by
  subst hn
  have hl:=hg.2
  refine Axz l129_eq rfl ?_
  (repeat' (first
 | (first|refine Agz ?_|refine Abz ?_)
 | ((first|refine Ahz ?_);simp (disch:=omega) only [push_cast,seval,l129r0,l129r1,l129r2,l129r3,l129r4,l129r5,l129r6,l129r7])
 | (refine Afz ⟨.inr rfl,_,rfl,?_⟩;(try simp (disch:=omega) only [push_cast,seval]))))
  refine A7z (fun k:Nat=>mkS [(3,.int .i64 (pr (xs.take k))),(6,RI xs),(7,.int .i64 xs.length),(8,.int .i64 k)] [])
    (fun k=>k ≤ xs.length) (fun k=>xs.length - k) 0 (Nat.zero_le _) ?_ ?_
  · (refine Sub.of_lists ?_ ?_ ?_ ?_ ?_<;>simp [Vw.mkS,Vw.lk,Vw.hk,AV.inn,innL,Apz,Anz,Aqz,-List.map_set,-List.getD_eq_getElem?_getD,pr_nil])
  · intro k hk
    by_cases hlt:k < xs.length
    · have h1:=Daz (H3z hg (k + 1))
      have h2:=D3z xs k hlt
      (repeat' (first
 | (first|refine Agz ?_|refine Abz ?_)
 | ((first|refine Ahz ?_|refine Aez ?_|refine Aoz ?_);simp (disch:=omega) only [push_cast,seval,l129r0,l129r1,l129r2,l129r3,l129r4,l129r5,l129r6,l129r7])
 | ((first|refine Amz (fun h=>?_) (fun h=>?_))<;>(try simp only [h])<;>(try simp only [bitvec_to_nat] at h)<;>(try simp only [h])<;>(first|(exfalso;omega)|(exfalso;simp_all;done)|(simp (disch:=omega) only [push_cast,seval])|skip))
 | (refine Afz ⟨.inr rfl,_,rfl,?_⟩;(try simp (disch:=omega) only [push_cast,seval]))))
      refine ⟨k + 1,by omega,by omega,?_⟩
      (refine Sub.of_lists ?_ ?_ ?_ ?_ ?_<;>simp [Vw.mkS,Vw.lk,Vw.hk,AV.inn,innL,Apz,Anz,Aqz,-List.map_set,-List.getD_eq_getElem?_getD,h2])
    · (repeat' (first
 | (first|refine Agz ?_|refine Abz ?_)
 | ((first|refine Ahz ?_|refine Aez ?_|refine A1z ?_);simp (disch:=omega) only [push_cast,seval,l129r0,l129r1,l129r2,l129r3,l129r4,l129r5,l129r6,l129r7])
 | ((first|refine Amz (fun h=>?_) (fun h=>?_))<;>(try simp only [h])<;>(try simp only [bitvec_to_nat] at h)<;>(try simp only [h])<;>(first|(exfalso;omega)|(exfalso;simp_all;done)|(simp (disch:=omega) only [push_cast,seval])|skip))
 | (refine Afz ⟨.inr rfl,_,rfl,?_⟩;(try simp (disch:=omega) only [push_cast,seval]))))
      rw [List.take_of_length_le (by omega)]


theorem Bwz (xs:List Int) (n:Nat) (hn:xs.length=n) (hg:good4 xs):PCall Tryz.prog 113 [.rows false (IL xs) n] (fun r=>r=.int .i64 (pr xs)):=by
  subst hn
  have hl:=hg.2
  refine Axz l113_eq rfl ?_
  (repeat' (first
 | (first|refine Agz ?_|refine Abz ?_)
 | ((first|refine Ahz ?_);simp (disch:=omega) only [push_cast,seval,l113r0,l113r1,l113r2,l113r3,l113r4,l113r5,l113r6])
 | (refine Afz ⟨.inr rfl,_,rfl,?_⟩;(try simp (disch:=omega) only [push_cast,seval]))))
  refine A7z (fun k:Nat=>mkS [(0,RI xs),(3,.int .i64 (pr (xs.take k))),(4,.int .i64 k)] [])
    (fun k=>k ≤ xs.length) (fun k=>xs.length - k) 0 (Nat.zero_le _) ?_ ?_
  · (refine Sub.of_lists ?_ ?_ ?_ ?_ ?_<;>simp [Vw.mkS,Vw.lk,Vw.hk,AV.inn,innL,Apz,Anz,Aqz,-List.map_set,-List.getD_eq_getElem?_getD,pr_nil])
  · intro k hk
    by_cases hlt:k < xs.length
    · have h1:=Daz (H3z hg (k + 1))
      have h2:=D3z xs k hlt
      (repeat' (first
 | (first|refine Agz ?_|refine Abz ?_)
 | ((first|refine Ahz ?_|refine Aez ?_|refine Aoz ?_);simp (disch:=omega) only [push_cast,seval,l113r0,l113r1,l113r2,l113r3,l113r4,l113r5,l113r6])
 | ((first|refine Amz (fun h=>?_) (fun h=>?_))<;>(try simp only [h])<;>(try simp only [bitvec_to_nat] at h)<;>(try simp only [h])<;>(first|(exfalso;omega)|(exfalso;simp_all;done)|(simp (disch:=omega) only [push_cast,seval])|skip))
 | (refine Afz ⟨.inr rfl,_,rfl,?_⟩;(try simp (disch:=omega) only [push_cast,seval]))))
      refine ⟨k + 1,by omega,by omega,?_⟩
      (refine Sub.of_lists ?_ ?_ ?_ ?_ ?_<;>simp [Vw.mkS,Vw.lk,Vw.hk,AV.inn,innL,Apz,Anz,Aqz,-List.map_set,-List.getD_eq_getElem?_getD,h2])
    · (repeat' (first
 | (first|refine Agz ?_|refine Abz ?_)
 | ((first|refine Ahz ?_|refine Aez ?_|refine A1z ?_);simp (disch:=omega) only [push_cast,seval,l113r0,l113r1,l113r2,l113r3,l113r4,l113r5,l113r6])
 | ((first|refine Amz (fun h=>?_) (fun h=>?_))<;>(try simp only [h])<;>(try simp only [bitvec_to_nat] at h)<;>(try simp only [h])<;>(first|(exfalso;omega)|(exfalso;simp_all;done)|(simp (disch:=omega) only [push_cast,seval])|skip))
 | (refine Afz ⟨.inr rfl,_,rfl,?_⟩;(try simp (disch:=omega) only [push_cast,seval]))))
      rw [List.take_of_length_le (by omega)]


theorem Bnz (xs:List Int) (n:Nat) (l h:Int) (hn:xs.length=n) (hb:n ≤ 1099511627776):PCall Tryz.prog 112 [.rows false (IL xs) n,.int .i64 l,.int .i64 h] (fun r=>r=.bool (allI xs l h)):=by
  subst hn
  refine Axz l112_eq rfl ?_
  (repeat' (first
 | (first|refine Agz ?_|refine Abz ?_)
 | ((first|refine Ahz ?_);simp (disch:=omega) only [push_cast,seval,l112r0,l112r1,l112r2,l112r3,l112r4,l112r5,l112r6])
 | (refine Afz ⟨.inr rfl,_,rfl,?_⟩;(try simp (disch:=omega) only [push_cast,seval]))))
  refine A7z (fun k:Nat=>mkS [(0,RI xs),(1,.int .i64 l),(2,.int .i64 h),(7,.int .i64 k)] []) (fun k=>k ≤ xs.length ∧ ∀ j:Nat,j < k → l ≤ xs.getD j 0 ∧ xs.getD j 0 ≤ h) (fun k=>xs.length - k) 0 ⟨Nat.zero_le _,fun j h=>absurd h (Nat.not_lt_zero _)⟩ ?_ ?_
  · (refine Sub.of_lists ?_ ?_ ?_ ?_ ?_<;>simp [Vw.mkS,Vw.lk,Vw.hk,AV.inn,innL,Apz,Anz,Aqz,-List.map_set,-List.getD_eq_getElem?_getD])
  · rintro k ⟨hk,hj⟩
    (repeat' (first
 | (first|refine Agz ?_|refine Abz ?_)
 | ((first|refine Ahz ?_|refine Aez ?_|refine Aoz ?_|refine A1z ?_);simp (disch:=omega) only [push_cast,seval,l112r0,l112r1,l112r2,l112r3,l112r4,l112r5,l112r6])
 | ((first|refine Amz (fun h=>?_) (fun h=>?_))<;>(try simp only [h])<;>(try simp only [bitvec_to_nat] at h)<;>(try simp only [h])<;>(first|(exfalso;omega)|(exfalso;simp_all;done)|(simp (disch:=omega) only [push_cast,seval])|skip))
 | ((first|refine Alz false ?_);simp (disch:=omega) only [push_cast,seval])
 | ((first|((first|refine Akz (Ajz (Atz _ _ _)) ?_|refine Aiz (Ajz (Atz _ _ _)) ⟨_,_,rfl,rfl⟩ ?_);rintro _ _ ⟨rfl,rfl⟩))<;>(try simp (disch:=omega) only [push_cast,seval]))
 | (refine Afz ⟨.inr rfl,_,rfl,?_⟩;(try simp (disch:=omega) only [push_cast,seval]))))
    · rw [Gbz (j:=k) (by omega) (by assumption)]
    · refine ⟨k + 1,⟨by omega,fun j h=>?_⟩,by omega,?_⟩
      · by_cases hjk:j=k
        · subst hjk;assumption
        · exact hj j (by omega)
      · (refine Sub.of_lists ?_ ?_ ?_ ?_ ?_<;>simp [Vw.mkS,Vw.lk,Vw.hk,AV.inn,innL,Apz,Anz,Aqz,-List.map_set,-List.getD_eq_getElem?_getD])
    · rw [Hlz fun j h=>hj j (by omega)]


theorem Bgz (xs:List Int) (n:Nat) (hn:xs.length=n) (hb:n ≤ 1099511627776):PCall Tryz.prog 99 [.rows false (IL xs) n] (fun r=>r=.bool (vSh xs)):=by
  subst hn
  refine Axz l99_eq rfl ?_
  (repeat' (first
 | (first|refine Agz ?_|refine Abz ?_)
 | ((first|refine Ahz ?_|refine Aez ?_|refine Aoz ?_);simp (disch:=omega) only [push_cast,seval,l99r0,l99r1,l99r2,l99r3,l99r4,l99r5,l99r6,l99r7,l99r8,l99r9])
 | ((first|refine Amz (fun h=>?_) (fun h=>?_))<;>(try simp only [h])<;>(try simp only [bitvec_to_nat] at h)<;>(try simp only [h])<;>(first|(exfalso;omega)|(exfalso;simp_all;done)|(simp (disch:=omega) only [push_cast,seval])|skip))
 | (refine Afz ⟨.inr rfl,_,rfl,?_⟩;(try simp (disch:=omega) only [push_cast,seval]))))
  · have:¬ xs.length ≤ 4:=by omega
    simp [vSh,this]
  have h4:xs.length ≤ 4:=by omega
  refine A7z (fun k:Nat=>mkS [(0,RI xs),(8,RI xs),(9,.int .i64 xs.length),(10,.int .i64 k)] []) (fun k=>k ≤ xs.length ∧ ∀ j:Nat,j < k → 0 ≤ xs.getD j 0 ∧ xs.getD j 0 ≤ 60) (fun k=>xs.length - k) 0 ⟨Nat.zero_le _,fun j h=>absurd h (Nat.not_lt_zero _)⟩ ?_ ?_
  · (refine Sub.of_lists ?_ ?_ ?_ ?_ ?_<;>simp [Vw.mkS,Vw.lk,Vw.hk,AV.inn,innL,Apz,Anz,Aqz,-List.map_set,-List.getD_eq_getElem?_getD])
  · rintro k ⟨hk,hj⟩
    by_cases hlt:k < xs.length
    · (repeat' (first
 | (first|refine Agz ?_|refine Abz ?_)
 | ((first|refine Ahz ?_|refine Aez ?_|refine Aoz ?_);simp (disch:=omega) only [push_cast,seval,l99r0,l99r1,l99r2,l99r3,l99r4,l99r5,l99r6,l99r7,l99r8,l99r9])
 | ((first|refine Amz (fun h=>?_) (fun h=>?_))<;>(try simp only [h])<;>(try simp only [bitvec_to_nat] at h)<;>(try simp only [h])<;>(first|(exfalso;omega)|(exfalso;simp_all;done)|(simp (disch:=omega) only [push_cast,seval])|skip))
 | ((first|refine Alz false ?_);simp (disch:=omega) only [push_cast,seval])
 | ((first|((first|refine Akz (Ajz (Ccz _ _)) ?_|refine Aiz (Ajz (Ccz _ _)) ⟨_,_,rfl,rfl⟩ ?_);rintro _ _ ⟨rfl,rfl⟩))<;>(try simp (disch:=omega) only [push_cast,seval]))
 | (refine Afz ⟨.inr rfl,_,rfl,?_⟩;(try simp (disch:=omega) only [push_cast,seval]))))
      · have:allI xs 0 60=false:=Gbz (j:=k) hlt (by assumption)
        simp [vSh,this]
      · refine ⟨k + 1,⟨by omega,fun j h=>?_⟩,by omega,?_⟩
        · by_cases hjk:j=k
          · subst hjk;assumption
          · exact hj j (by omega)
        · (refine Sub.of_lists ?_ ?_ ?_ ?_ ?_<;>simp [Vw.mkS,Vw.lk,Vw.hk,AV.inn,innL,Apz,Anz,Aqz,-List.map_set,-List.getD_eq_getElem?_getD])
    · have ha:allI xs 0 60=true:=Hlz fun j h=>hj j (by omega)
      have hg:good4 xs:=⟨Cqz.1 ha,h4⟩
      (repeat' (first
 | (first|refine Agz ?_|refine Abz ?_)
 | ((first|refine Ahz ?_|refine Aez ?_|refine A1z ?_);simp (disch:=omega) only [push_cast,seval,l99r0,l99r1,l99r2,l99r3,l99r4,l99r5,l99r6,l99r7,l99r8,l99r9])
 | ((first|refine Amz (fun h=>?_) (fun h=>?_))<;>(try simp only [h])<;>(try simp only [bitvec_to_nat] at h)<;>(try simp only [h])<;>(first|(exfalso;omega)|(exfalso;simp_all;done)|(simp (disch:=omega) only [push_cast,seval])|skip))
 | ((first|refine Alz false ?_);simp (disch:=omega) only [push_cast,seval])
 | ((first|((first|refine Akz (Ajz (Fvz _ _ ?_ ?_)) ?_|refine Aiz (Ajz (Fvz _ _ ?_ ?_)) ⟨_,_,rfl,rfl⟩ ?_);(iterate 2 (exact sd));rintro _ _ ⟨rfl,rfl⟩))<;>(try simp (disch:=omega) only [push_cast,seval]))
 | (refine Afz ⟨.inr rfl,_,rfl,?_⟩;(try simp (disch:=omega) only [push_cast,seval]))))
      simp [vSh,ha,h4]


theorem Baz (xs:List Int) (n:Nat) (hn:xs.length=n) (hb:n ≤ 1099511627776):PCall Tryz.prog 111 [.rows false (IL xs) n] (fun r=>r=.bool (vSh xs)):=by
  subst hn
  refine Axz l111_eq rfl ?_
  by_cases h4:xs.length ≤ 4
  · cases ha:allI xs 0 60 with
    | false =>
      (repeat' (first
 | (first|refine Agz ?_|refine Abz ?_)
 | ((first|refine Ahz ?_);simp (disch:=omega) only [push_cast,seval,l111r0,l111r1,ha])
 | ((first|refine Bez (fun h=>?_) (fun h=>?_))<;>(try simp only [h])<;>(try simp only [bitvec_to_nat] at h)<;>(try simp only [h])<;>(first|(exfalso;omega)|(exfalso;simp_all;done)|(simp (disch:=omega) only [push_cast,seval,ha])|skip))
 | ((first|refine Alz false ?_);simp (disch:=omega) only [push_cast,seval,ha])
 | ((first|((first|refine Akz (Ajz (Bnz _ _ _ _ ?_ ?_)) ?_|refine Aiz (Ajz (Bnz _ _ _ _ ?_ ?_)) ⟨_,_,rfl,rfl⟩ ?_);(iterate 2 (exact sd));rintro _ _ ⟨rfl,rfl⟩))<;>(try simp (disch:=omega) only [push_cast,seval,ha]))
 | (refine Afz ⟨.inr rfl,_,rfl,?_⟩;(try simp (disch:=omega) only [push_cast,seval,ha]))))
      simp [vSh,ha]
    | true =>
      have hg:good4 xs:=⟨Cqz.1 ha,h4⟩
      (repeat' (first
 | (first|refine Agz ?_|refine Abz ?_)
 | ((first|refine Ahz ?_);simp (disch:=omega) only [push_cast,seval,l111r0,l111r1,ha])
 | ((first|refine Bez (fun h=>?_) (fun h=>?_))<;>(try simp only [h])<;>(try simp only [bitvec_to_nat] at h)<;>(try simp only [h])<;>(first|(exfalso;omega)|(exfalso;simp_all;done)|(simp (disch:=omega) only [push_cast,seval,ha])|skip))
 | ((first|refine Alz false ?_);simp (disch:=omega) only [push_cast,seval,ha])
 | ((first|((first|refine Akz (Ajz (Bnz _ _ _ _ ?_ ?_)) ?_|refine Aiz (Ajz (Bnz _ _ _ _ ?_ ?_)) ⟨_,_,rfl,rfl⟩ ?_);(iterate 2 (exact sd));rintro _ _ ⟨rfl,rfl⟩)|((first|refine Akz (Ajz (Bwz _ _ ?_ ?_)) ?_|refine Aiz (Ajz (Bwz _ _ ?_ ?_)) ⟨_,_,rfl,rfl⟩ ?_);(iterate 2 (exact sd));rintro _ _ ⟨rfl,rfl⟩))<;>(try simp (disch:=omega) only [push_cast,seval,ha]))
 | (refine Afz ⟨.inr rfl,_,rfl,?_⟩;(try simp (disch:=omega) only [push_cast,seval,ha]))))
      simp [vSh,ha,h4]
  · (repeat' (first
 | (first|refine Agz ?_|refine Abz ?_)
 | ((first|refine Ahz ?_);simp (disch:=omega) only [push_cast,seval,l111r0,l111r1])
 | ((first|refine Bez (fun h=>?_) (fun h=>?_))<;>(try simp only [h])<;>(try simp only [bitvec_to_nat] at h)<;>(try simp only [h])<;>(first|(exfalso;omega)|(exfalso;simp_all;done)|(simp (disch:=omega) only [push_cast,seval])|skip))
 | (refine Afz ⟨.inr rfl,_,rfl,?_⟩;(try simp (disch:=omega) only [push_cast,seval]))))
    simp [vSh,h4]

end Go.Proofs.YtkpcjppnjmhanaaGreatDoor
namespace Go.Proofs.YtkpcjppnjmhanaaGreatDoor
open VwM Vw Go
variable [SentA]

theorem unrank_ok (xs:List Int) (n:Nat) (k:Int) (hn:xs.length=n) (hg:good4 xs ∧ 0 ≤ k ∧ k < pr xs):BCall Tryz.prog 127 [.rows false (IL xs) n,.int .i64 k] [] (OI (unr xs k)):=by
  subst hn
  obtain ⟨hg,hk0,hk1⟩:=hg
  have hl:=hg.2
  have hprb:=Daz hg
  have hp:=Dsz hg (by omega)
  refine Auz (pins:=[]) (pin:=0) l127_eq rfl rfl rfl ?_
  (repeat' (first
 | (first|refine Agz ?_|refine Abz ?_)
 | ((first|refine Ahz ?_);simp (disch:=omega) only [push_cast,seval,l127r0,l127r1,l127r2,l127r3,l127r4,l127r5,l127r6,l127r7])
 | (refine Afz ⟨.inr rfl,[144],[],_,by decide,rfl,?_⟩;(try simp (disch:=omega) only [push_cast,seval,↓Adz,↓Acz,↓List.map_cons,↓List.map_nil]);(first|done|(show AV.own _ _ _=_ ∧ _)))))
  refine A7z (fun j:Nat=>mkS [(0,RI xs),(6,.int .i64 ((xs.length:Int) - 1 - (j:Int))),(1,.int .i64 (kS xs k j)),(5,.own 144 xs.length 1)] [(144,IL (filledD (dig xs k) xs.length j))])
    (fun j=>j ≤ xs.length) (fun j=>xs.length - j) 0 (Nat.zero_le _) ?_ ?_
  · (refine Sub.of_lists ?_ ?_ ?_ ?_ ?_<;>simp [Vw.mkS,Vw.lk,Vw.hk,AV.inn,innL,Apz,Anz,Aqz,-List.map_set,-List.getD_eq_getElem?_getD,filledD_zero,kS])
  · intro j hj
    by_cases hlt:j < xs.length
    · have e1:=down_nat xs.length j hlt
      have h1:=F2z hk0 hp j hj
      have h2:=F2z hk0 hp (j + 1) hlt
      have h3:=hp (xs.length - 1 - j) (by omega)
      have h4:¬ xs.getD (xs.length - 1 - j) 0=0:=by omega
      simp only [kS] at h2
      have e3:=filledD_set (dig xs k) xs.length j hlt
      have e6:dig xs k (xs.length - 1 - j)=(kS xs k j).tmod (xs.getD (xs.length - 1 - j) 0):=by
        unfold dig
        rw [show xs.length - 1 - (xs.length - 1 - j)=j by omega]
      rw [e6] at e3
      (repeat' (first
 | (first|refine Agz ?_|refine Abz ?_)
 | ((first|refine Ahz ?_|refine Aez ?_|refine Aoz ?_);simp (disch:=omega) only [push_cast,seval,l127r0,l127r1,l127r2,l127r3,l127r4,l127r5,l127r6,l127r7,e1,h4])
 | ((first|refine Amz (fun h=>?_) (fun h=>?_))<;>(try simp only [h])<;>(try simp only [bitvec_to_nat] at h)<;>(try simp only [h])<;>(first|(exfalso;omega)|(exfalso;simp_all;done)|(simp (disch:=omega) only [push_cast,seval,e1,h4])|skip))
 | (refine Afz ⟨.inr rfl,[144],[],_,by decide,rfl,?_⟩;(try simp (disch:=omega) only [push_cast,seval,↓Adz,↓Acz,↓List.map_cons,↓List.map_nil,e1,h4]);(first|done|(show AV.own _ _ _=_ ∧ _)))))
      refine ⟨j + 1,by omega,by omega,?_⟩
      have e4:(xs.length:Int) - 1 - ((j:Int) + 1)=(xs.length:Int) - 1 - (j:Int) - 1:=by omega
      (refine Sub.of_lists ?_ ?_ ?_ ?_ ?_<;>simp [Vw.mkS,Vw.lk,Vw.hk,AV.inn,innL,Apz,Anz,Aqz,-List.map_set,-List.getD_eq_getElem?_getD,Bkz,e3,e4,kS])
    · (repeat' (first
 | (first|refine Agz ?_|refine Abz ?_)
 | ((first|refine Ahz ?_|refine Aez ?_|refine A1z ?_);simp (disch:=omega) only [push_cast,seval,l127r0,l127r1,l127r2,l127r3,l127r4,l127r5,l127r6,l127r7])
 | ((first|refine Amz (fun h=>?_) (fun h=>?_))<;>(try simp only [h])<;>(try simp only [bitvec_to_nat] at h)<;>(try simp only [h])<;>(first|(exfalso;omega)|(exfalso;simp_all;done)|(simp (disch:=omega) only [push_cast,seval])|skip))
 | (refine Afz ⟨.inr rfl,[144],[],_,by decide,rfl,?_⟩;(try simp (disch:=omega) only [push_cast,seval,↓Adz,↓Acz,↓List.map_cons,↓List.map_nil]);(first|done|(show AV.own _ _ _=_ ∧ _)))))
      have e:j=xs.length:=by omega
      rw [e,filledD_all]
      simp [OI,unr]


theorem Jbz (xs:List Int) (n:Nat) (k:Int) (hn:xs.length=n) (hg:good4 xs ∧ 0 ≤ k ∧ k < pr xs):PCall Tryz.prog 105 [.rows false (IL xs) n,.int .i64 k] (fun r=>r=AP (digP xs k)):=by
  subst hn
  obtain ⟨hg,hk0,hk1⟩:=hg
  have hl:=hg.2
  have hprb:=Daz hg
  have hp:=Dsz hg (by omega)
  refine Axz l105_eq rfl ?_
  (repeat' (first
 | (first|refine Agz ?_|refine Abz ?_)
 | ((first|refine Ahz ?_);simp (disch:=omega) only [push_cast,seval,l105r0,l105r1,l105r2,l105r3,l105r4,l105r5,l105r6,l105r7])
 | (refine Afz ⟨.inr rfl,_,rfl,?_⟩;(try simp (disch:=omega) only [push_cast,seval]))))
  refine A7z (fun j:Nat=>mkS [(0,RI xs),(4,.ref 64 4 0),(5,.ref 80 4 0),(6,.int .i64 ((xs.length:Int) - 1 - (j:Int))),(1,.int .i64 (kS xs k j))] [(64,IL (pad4 fun _=>0)),(80,IL (pad4 (padD xs k j)))])
    (fun j=>j ≤ xs.length) (fun j=>xs.length - j) 0 (Nat.zero_le _) ?_ ?_
  · have e:pad4 (padD xs k 0)=pad4 fun _=>0:=Hwz fun i _=>by unfold padD;rw [if_neg (by omega)]
    rw [e]
    (refine Sub.of_lists ?_ ?_ ?_ ?_ ?_<;>simp [Vw.mkS,Vw.lk,Vw.hk,AV.inn,innL,Apz,Anz,Aqz,-List.map_set,-List.getD_eq_getElem?_getD,pad4,kS])
  · intro j hj
    by_cases hlt:j < xs.length
    · have e1:=down_nat xs.length j hlt
      have h1:=F2z hk0 hp j hj
      have h2:=F2z hk0 hp (j + 1) hlt
      have h3:=hp (xs.length - 1 - j) (by omega)
      have h4:¬ xs.getD (xs.length - 1 - j) 0=0:=by omega
      simp only [kS] at h2
      have e6:dig xs k (xs.length - 1 - j)=(kS xs k j).tmod (xs.getD (xs.length - 1 - j) 0):=by
        unfold dig
        rw [show xs.length - 1 - (xs.length - 1 - j)=j by omega]
      have e3:(pad4 (padD xs k j)).set (xs.length - 1 - j) ((kS xs k j).tmod (xs.getD (xs.length - 1 - j) 0))=pad4 (padD xs k (j + 1)):=by
        rw [pad4_set _ _ _ (by omega),← e6]
        refine Hwz fun i hi=>?_
        unfold padD
        by_cases h:i=xs.length - 1 - j
        · subst h;rw [if_pos rfl,if_pos (by omega)]
        · rw [if_neg h]
          by_cases h5:i < xs.length ∧ xs.length - j ≤ i
          · rw [if_pos h5,if_pos (by omega)]
          · rw [if_neg h5,if_neg (by omega)]
      (repeat' (first
 | (first|refine Agz ?_|refine Abz ?_)
 | ((first|refine Ahz ?_|refine Aez ?_|refine Aoz ?_);simp (disch:=omega) only [push_cast,seval,l105r0,l105r1,l105r2,l105r3,l105r4,l105r5,l105r6,l105r7,e1,h4])
 | ((first|refine Amz (fun h=>?_) (fun h=>?_))<;>(try simp only [h])<;>(try simp only [bitvec_to_nat] at h)<;>(try simp only [h])<;>(first|(exfalso;omega)|(exfalso;simp_all;done)|(simp (disch:=omega) only [push_cast,seval,e1,h4])|skip))
 | (refine Afz ⟨.inr rfl,_,rfl,?_⟩;(try simp (disch:=omega) only [push_cast,seval,e1,h4]))))
      refine ⟨j + 1,by omega,by omega,?_⟩
      have e4:(xs.length:Int) - 1 - ((j:Int) + 1)=(xs.length:Int) - 1 - (j:Int) - 1:=by omega
      (refine Sub.of_lists ?_ ?_ ?_ ?_ ?_<;>simp [Vw.mkS,Vw.lk,Vw.hk,AV.inn,innL,Apz,Anz,Aqz,-List.map_set,-List.getD_eq_getElem?_getD,Bkz,e3,e4,kS])
    · have e:j=xs.length:=by omega
      (repeat' (first
 | (first|refine Agz ?_|refine Abz ?_)
 | ((first|refine Ahz ?_|refine Aez ?_|refine A1z ?_);simp (disch:=omega) only [push_cast,seval,l105r0,l105r1,l105r2,l105r3,l105r4,l105r5,l105r6,l105r7])
 | ((first|refine Amz (fun h=>?_) (fun h=>?_))<;>(try simp only [h])<;>(try simp only [bitvec_to_nat] at h)<;>(try simp only [h])<;>(first|(exfalso;omega)|(exfalso;simp_all;done)|(simp (disch:=omega) only [push_cast,seval])|skip))
 | (refine Afz ⟨.inr rfl,_,rfl,?_⟩;(try simp (disch:=omega) only [push_cast,seval]))))
      subst e
      have e2:pad4 (padD xs k xs.length)=pad4 (digP xs k):=Hwz fun i _=>by
        unfold digP padD
        by_cases h:i < xs.length
        · rw [if_pos ⟨h,by omega⟩,if_pos h]
        · rw [if_neg (fun hh=>h hh.1),if_neg h]
      rw [e2]


theorem F7z (xs:List Int) (n:Nat) (hn:xs.length=n) (hb:n ≤ 1099511627776):BCall Tryz.prog 84 [.rows false (IL xs) n] [] (OI xs):=by
  subst hn
  refine Auz (pins:=[]) (pin:=0) l84_eq rfl rfl rfl ?_
  (repeat' (first
 | (first|refine Agz ?_|refine Abz ?_)
 | ((first|refine Ahz ?_);simp (disch:=omega) only [push_cast,seval,l84r0,l84r1,l84r2,l84r3])
 | (refine Afz ⟨.inr rfl,[80],[],_,by decide,rfl,?_⟩;(try simp (disch:=omega) only [push_cast,seval,↓Adz,↓Acz,↓List.map_cons,↓List.map_nil]);(first|done|(show AV.own _ _ _=_ ∧ _)))
 | (refine Afz ⟨.inr rfl,[112],[],_,by decide,rfl,?_⟩;(try simp (disch:=omega) only [push_cast,seval,↓Adz,↓Acz,↓List.map_cons,↓List.map_nil]);(first|done|(show AV.own _ _ _=_ ∧ _)))))
  refine nil_split (fun h0=>?_) ?_
  · (try simp (disch:=omega) only [push_cast,seval])
    (repeat' (first
 | (first|refine Agz ?_|refine Abz ?_)
 | ((first|refine Ahz ?_|refine Aez ?_);simp (disch:=omega) only [push_cast,seval,l84r0,l84r1,l84r2,l84r3])
 | (refine Afz ⟨.inr rfl,[16000],[(16000,1)],_,by decide,rfl,?_⟩;(try simp (disch:=omega) only [push_cast,seval,↓Adz,↓Acz,↓List.map_cons,↓List.map_nil]))))
    have:xs=[]:=List.eq_nil_of_length_eq_zero h0
    simp [OI,this]
  · (try simp (disch:=omega) only [push_cast,seval])
    (repeat' (first
 | (first|refine Agz ?_|refine Abz ?_)
 | ((first|refine Ahz ?_|refine Aez ?_|refine Aoz ?_);simp (disch:=omega) only [push_cast,seval,l84r0,l84r1,l84r2,l84r3])
 | (refine Afz ⟨.inr rfl,[80],[],_,by decide,rfl,?_⟩;(try simp (disch:=omega) only [push_cast,seval,↓Adz,↓Acz,↓List.map_cons,↓List.map_nil]);(first|done|(show AV.own _ _ _=_ ∧ _)))
 | (refine Afz ⟨.inr rfl,[112],[],_,by decide,rfl,?_⟩;(try simp (disch:=omega) only [push_cast,seval,↓Adz,↓Acz,↓List.map_cons,↓List.map_nil]);(first|done|(show AV.own _ _ _=_ ∧ _)))))
    all_goals simp [OI]

end Go.Proofs.YtkpcjppnjmhanaaGreatDoor
namespace Go.Proofs.YtkpcjppnjmhanaaGreatDoor
open VwM Vw Go
variable [SentA]

theorem along_ok (f:Nat → Int) (st:List Int) (n:Nat) (hn:st.length=n) (hb:n ≤ 4 ∧ ∀ i,i < n → (-60 ≤ f i ∧ f i ≤ 60) ∧ -12960000 ≤ st.getD i 0 ∧ st.getD i 0 ≤ 12960000):PCall Tryz.prog 132 [AP f,.rows false (IL st) n] (fun r=>r=.int .i64 (dot f st n)):=by
  subst hn
  obtain ⟨hl,hb⟩:=hb
  refine Axz l132_eq rfl ?_
  (repeat' (first
 | (first|refine Agz ?_|refine Abz ?_)
 | ((first|refine Ahz ?_);simp (disch:=omega) only [push_cast,seval,l132r0,l132r1,l132r2,l132r3,l132r4,l132r5,l132r6,l132r7])
 | (refine Afz ⟨.inr rfl,_,rfl,?_⟩;(try simp (disch:=omega) only [push_cast,seval]))))
  refine A7z (fun k:Nat=>mkS [(2,.ref 32 4 0),(5,.int .i64 (dot f st k)),(8,RI st),(9,.int .i64 st.length),(10,.int .i64 k)] [(32,IL (pad4 f))]) (fun k=>k ≤ st.length) (fun k=>st.length - k) 0 (Nat.zero_le _) ?_ ?_
  · (refine Sub.of_lists ?_ ?_ ?_ ?_ ?_<;>simp [Vw.mkS,Vw.lk,Vw.hk,AV.inn,innL,Apz,Anz,Aqz,-List.map_set,-List.getD_eq_getElem?_getD,dot,pad4])
  · intro k hk
    by_cases hlt:k < st.length
    · have h1:=Hhz (f:=f) (st:=st) (B:=60) (C:=12960000) k fun i hi=>hb i (by omega)
      have h2:=Ezz (hb k hlt).1 (hb k hlt).2
      have h3:=pad4_getD f k (by omega)
      (repeat' (first
 | (first|refine Agz ?_|refine Abz ?_)
 | ((first|refine Ahz ?_|refine Aez ?_|refine Aoz ?_);simp (disch:=omega) only [push_cast,seval,l132r0,l132r1,l132r2,l132r3,l132r4,l132r5,l132r6,l132r7,h3])
 | ((first|refine Amz (fun h=>?_) (fun h=>?_))<;>(try simp only [h])<;>(try simp only [bitvec_to_nat] at h)<;>(try simp only [h])<;>(first|(exfalso;omega)|(exfalso;simp_all;done)|(simp (disch:=omega) only [push_cast,seval,h3])|skip))
 | (refine Afz ⟨.inr rfl,_,rfl,?_⟩;(try simp (disch:=omega) only [push_cast,seval,h3]))))
      refine ⟨k + 1,by omega,by omega,?_⟩
      (refine Sub.of_lists ?_ ?_ ?_ ?_ ?_<;>simp [Vw.mkS,Vw.lk,Vw.hk,AV.inn,innL,Apz,Anz,Aqz,-List.map_set,-List.getD_eq_getElem?_getD,dot])
    · (repeat' (first
 | (first|refine Agz ?_|refine Abz ?_)
 | ((first|refine Ahz ?_|refine Aez ?_|refine A1z ?_);simp (disch:=omega) only [push_cast,seval,l132r0,l132r1,l132r2,l132r3,l132r4,l132r5,l132r6,l132r7])
 | ((first|refine Amz (fun h=>?_) (fun h=>?_))<;>(try simp only [h])<;>(try simp only [bitvec_to_nat] at h)<;>(try simp only [h])<;>(first|(exfalso;omega)|(exfalso;simp_all;done)|(simp (disch:=omega) only [push_cast,seval])|skip))
 | (refine Afz ⟨.inr rfl,_,rfl,?_⟩;(try simp (disch:=omega) only [push_cast,seval]))))
      rw [show k=st.length by omega]

end Go.Proofs.YtkpcjppnjmhanaaGreatDoor
namespace Go.Proofs.YtkpcjppnjmhanaaGreatDoor
open VwM Vw Go
variable [SentA]

theorem Caz (b:Int) (sh:List Int) (n:Nat) (cs:List AV) (m:Nat) (fr:Bool) (hn:sh.length=n) (hg:good4 sh):PCall Tryz.prog 97 [.agg [.int .i64 b,.rows false (IL sh) n,.rows fr cs m]] (fun r=>r=.int .i64 (pr sh)):=by
  subst hn
  refine Axz l97_eq rfl ?_
  (repeat' (first
 | (first|refine Agz ?_|refine Abz ?_)
 | ((first|refine Ahz ?_);simp (disch:=omega) only [push_cast,seval,l97r0,l97r1])
 | ((first|refine Alz false ?_);simp (disch:=omega) only [push_cast,seval])
 | ((first|((first|refine Akz (Ajz (Fvz _ _ ?_ ?_)) ?_|refine Aiz (Ajz (Fvz _ _ ?_ ?_)) ⟨_,_,rfl,rfl⟩ ?_);(iterate 2 (exact sd));rintro _ _ ⟨rfl,rfl⟩))<;>(try simp (disch:=omega) only [push_cast,seval]))
 | (refine Afz ⟨.inr rfl,_,rfl,?_⟩;(try simp (disch:=omega) only [push_cast,seval]))))

end Go.Proofs.YtkpcjppnjmhanaaGreatDoor
