/- Texts of this verifier. -/
import Derived.Test.YtfccepgibbdfaaaDoorCLow
import Derived.Test.YtfccepgibbdfaaaDoorCM1
set_option maxHeartbeats 4000000
set_option linter.unusedSimpArgs false
set_option linter.unusedSectionVars false
set_option linter.unusedVariables false
set_option maxRecDepth 4000
namespace Go.Proofs.YtfccepgibbdfaaaDoor
open VwM Vw Go
variable [PowA]

theorem Baz:Tryd.prog.follows .mixedOrders=true:=by kernel_rfl


theorem Apz (x l h:Int):PCall Tryd.prog 25 [.int .i64 x,.int .i64 l,.int .i64 h] (fun r=>r=.bool (decide (l ≤ x) && decide (x ≤ h))):=by
  refine A1z l25_eq rfl ?_
  (repeat' (first
 | (first|refine Ahz ?_|refine Abz ?_)
 | ((first|refine Aiz ?_);simp (disch:=omega) only [push_cast,seval,l25r0,l25r1])
 | ((first|refine Bpz (fun h=>?_) (fun h=>?_))<;>(try simp only [h])<;>(try simp only [bitvec_to_nat] at h)<;>(try simp only [h])<;>(first|(exfalso;omega)|(exfalso;simp_all;done)|(simp (disch:=omega) only [push_cast,seval])|skip))
 | (refine Adz ⟨.inr rfl,_,rfl,?_⟩;(try simp (disch:=omega) only [push_cast,seval]))))
  all_goals (first|rfl|(simp_all;done)|(simp_all;omega)|(simp;omega)|(simp;grind)|(simp_all;grind)|skip)


theorem Cfz (f t b:Int) (hf ht:Bool):PCall Tryd.prog 75 [slc f t b hf ht] (fun r=>r=.bool (vS f t b hf ht)):=by
  refine A1z l75_eq rfl ?_
  (repeat' (first
 | (first|refine Ahz ?_|refine Abz ?_)
 | ((first|refine Aiz ?_);simp (disch:=omega) only [push_cast,seval,l75r0,l75r1])
 | ((first|refine Bpz (fun h=>?_) (fun h=>?_))<;>(try simp only [h])<;>(try simp only [bitvec_to_nat] at h)<;>(try simp only [h])<;>(first|(exfalso;omega)|(exfalso;simp_all;done)|(simp (disch:=omega) only [push_cast,seval])|skip))
 | ((first|refine Alz false ?_);simp (disch:=omega) only [push_cast,seval])
 | ((first|((first|refine Akz (Ajz (Apz _ _ _)) ?_|refine Agz (Ajz (Apz _ _ _)) ⟨_,_,rfl,rfl⟩ ?_);rintro _ _ ⟨rfl,rfl⟩))<;>(try simp (disch:=omega) only [push_cast,seval]))
 | (refine Adz ⟨.inr rfl,_,rfl,?_⟩;(try simp (disch:=omega) only [push_cast,seval]))))
  all_goals (first|rfl|(simp_all [vS];done)|(simp_all [vS];omega)|(simp [vS];omega)|(simp [vS];grind)|(simp_all [vS];grind)|skip)


theorem B1z (xs:List Int) (n:Nat) (hn:xs.length=n) (hb:n ≤ 1099511627776):BCall Tryd.prog 71 [.rows false (IL xs) n] [] (OI xs):=by
  subst hn
  refine Axz (pins:=[]) (pin:=0) l71_eq rfl rfl rfl ?_
  (repeat' (first
 | (first|refine Ahz ?_|refine Abz ?_)
 | ((first|refine Aiz ?_);simp (disch:=omega) only [push_cast,seval,l71r0,l71r1])
 | (refine Adz ⟨.inr rfl,[48],[],_,by decide,rfl,?_⟩;(try simp (disch:=omega) only [push_cast,seval,↓Aez,↓Acz,↓List.map_cons,↓List.map_nil]);(first|done|(show AV.own _ _ _=_ ∧ _)))
 | (refine Adz ⟨.inr rfl,[80],[],_,by decide,rfl,?_⟩;(try simp (disch:=omega) only [push_cast,seval,↓Aez,↓Acz,↓List.map_cons,↓List.map_nil]);(first|done|(show AV.own _ _ _=_ ∧ _)))))
  all_goals simp [OI]

end Go.Proofs.YtfccepgibbdfaaaDoor
namespace Go.Proofs.YtfccepgibbdfaaaDoor
open VwM Vw Go
variable [PowA]

theorem Brz (a b c:Int) (hv:vR a b c=true):BCall Tryd.prog 85 [rng a b c] [] (OI (nums a c (cntN a b c))):=by
  obtain ⟨ha,hb,hc,h0⟩:=Dmz.1 hv
  refine Axz (pins:=[]) (pin:=0) l85_eq rfl rfl rfl ?_
  (repeat' (first
 | (first|refine Ahz ?_|refine Abz ?_)
 | ((first|refine Aiz ?_);simp (disch:=omega) only [push_cast,seval,l85r0,l85r1,l85r2,l85r3,l85r4,l85r5,l85r6])
 | (refine Adz ⟨.inr rfl,[80],[],_,by decide,rfl,?_⟩;(try simp (disch:=omega) only [push_cast,seval,↓Aez,↓Acz,↓List.map_cons,↓List.map_nil]);(first|done|(show AV.own _ _ _=_ ∧ _)))
 | (refine Adz ⟨.inr rfl,[544],[],_,by decide,rfl,?_⟩;(try simp (disch:=omega) only [push_cast,seval,↓Aez,↓Acz,↓List.map_cons,↓List.map_nil]);(first|done|(show AV.own _ _ _=_ ∧ _)))
 | (refine Adz ⟨.inr rfl,[560],[],_,by decide,rfl,?_⟩;(try simp (disch:=omega) only [push_cast,seval,↓Aez,↓Acz,↓List.map_cons,↓List.map_nil]);(first|done|(show AV.own _ _ _=_ ∧ _)))))
  refine Bez (fun k:Nat=>mkS [(1,.ref 16 3 0),(4,.int .i64 (a + (k:Int) * c)),(3,.own 80 k 1)] [(16,[.int .i64 a,.int .i64 b,.int .i64 c]),(80,IL (nums a c k))])
    (fun k=>k ≤ cntN a b c) (fun k=>cntN a b c - k) 0 (Nat.zero_le _) ?_ ?_
  · (refine Sub.of_lists ?_ ?_ ?_ ?_ ?_<;>simp [Vw.mkS,Vw.lk,Vw.hk,AV.inn,innL,Arz,Anz,Asz,-List.map_set,-List.getD_eq_getElem?_getD,nums])
  · intro k hk
    have hb1:=next_bound hv hk
    have hb3:(cntN a b c:Int) ≤ 500:=by rw [cntN_cast hv];exact (cnt_bound hv).2
    have hiff:=cntN_lt hv k
    by_cases hlt:k < cntN a b c
    · have hb2:=num_bound hv hlt
      rcases hiff.1 hlt with ⟨hp,ht⟩|⟨hp,ht⟩
      · (repeat' (first
 | (first|refine Ahz ?_|refine Abz ?_)
 | ((first|refine Aiz ?_|refine Afz ?_|refine Aoz ?_);simp (disch:=omega) only [push_cast,seval,l85r0,l85r1,l85r2,l85r3,l85r4,l85r5,l85r6,hp,ht])
 | (refine Adz ⟨.inr rfl,[80],[],_,by decide,rfl,?_⟩;(try simp (disch:=omega) only [push_cast,seval,↓Aez,↓Acz,↓List.map_cons,↓List.map_nil,hp,ht]);(first|done|(show AV.own _ _ _=_ ∧ _)))
 | (refine Adz ⟨.inr rfl,[544],[],_,by decide,rfl,?_⟩;(try simp (disch:=omega) only [push_cast,seval,↓Aez,↓Acz,↓List.map_cons,↓List.map_nil,hp,ht]);(first|done|(show AV.own _ _ _=_ ∧ _)))
 | (refine Adz ⟨.inr rfl,[560],[],_,by decide,rfl,?_⟩;(try simp (disch:=omega) only [push_cast,seval,↓Aez,↓Acz,↓List.map_cons,↓List.map_nil,hp,ht]);(first|done|(show AV.own _ _ _=_ ∧ _)))))
        refine ⟨k + 1,by omega,by omega,?_⟩
        (refine Sub.of_lists ?_ ?_ ?_ ?_ ?_<;>simp [Vw.mkS,Vw.lk,Vw.hk,AV.inn,innL,Arz,Anz,Asz,-List.map_set,-List.getD_eq_getElem?_getD,nums_succ,Int.add_mul,Int.add_assoc])
      · have hn:¬ 0 < c:=by omega
        (repeat' (first
 | (first|refine Ahz ?_|refine Abz ?_)
 | ((first|refine Aiz ?_|refine Afz ?_|refine Aoz ?_);simp (disch:=omega) only [push_cast,seval,l85r0,l85r1,l85r2,l85r3,l85r4,l85r5,l85r6,hp,hn,ht])
 | (refine Adz ⟨.inr rfl,[80],[],_,by decide,rfl,?_⟩;(try simp (disch:=omega) only [push_cast,seval,↓Aez,↓Acz,↓List.map_cons,↓List.map_nil,hp,hn,ht]);(first|done|(show AV.own _ _ _=_ ∧ _)))
 | (refine Adz ⟨.inr rfl,[544],[],_,by decide,rfl,?_⟩;(try simp (disch:=omega) only [push_cast,seval,↓Aez,↓Acz,↓List.map_cons,↓List.map_nil,hp,hn,ht]);(first|done|(show AV.own _ _ _=_ ∧ _)))
 | (refine Adz ⟨.inr rfl,[560],[],_,by decide,rfl,?_⟩;(try simp (disch:=omega) only [push_cast,seval,↓Aez,↓Acz,↓List.map_cons,↓List.map_nil,hp,hn,ht]);(first|done|(show AV.own _ _ _=_ ∧ _)))))
        refine ⟨k + 1,by omega,by omega,?_⟩
        (refine Sub.of_lists ?_ ?_ ?_ ?_ ?_<;>simp [Vw.mkS,Vw.lk,Vw.hk,AV.inn,innL,Arz,Anz,Asz,-List.map_set,-List.getD_eq_getElem?_getD,nums_succ,Int.add_mul,Int.add_assoc])
    · have hk':k=cntN a b c:=by omega
      have hno:=fun h=>hlt (hiff.2 h)
      by_cases hp:0 < c
      · have hn:¬ c < 0:=by omega
        have ht:¬ a + (k:Int) * c < b:=fun h=>hno (.inl ⟨hp,h⟩)
        (repeat' (first
 | (first|refine Ahz ?_|refine Abz ?_)
 | ((first|refine Aiz ?_|refine Afz ?_|refine A7z ?_);simp (disch:=omega) only [push_cast,seval,l85r0,l85r1,l85r2,l85r3,l85r4,l85r5,l85r6,hp,hn,ht])
 | (refine Adz ⟨.inr rfl,[80],[],_,by decide,rfl,?_⟩;(try simp (disch:=omega) only [push_cast,seval,↓Aez,↓Acz,↓List.map_cons,↓List.map_nil,hp,hn,ht]);(first|done|(show AV.own _ _ _=_ ∧ _)))
 | (refine Adz ⟨.inr rfl,[544],[],_,by decide,rfl,?_⟩;(try simp (disch:=omega) only [push_cast,seval,↓Aez,↓Acz,↓List.map_cons,↓List.map_nil,hp,hn,ht]);(first|done|(show AV.own _ _ _=_ ∧ _)))
 | (refine Adz ⟨.inr rfl,[560],[],_,by decide,rfl,?_⟩;(try simp (disch:=omega) only [push_cast,seval,↓Aez,↓Acz,↓List.map_cons,↓List.map_nil,hp,hn,ht]);(first|done|(show AV.own _ _ _=_ ∧ _)))))
        all_goals simp [← hk']
      · have hn:c < 0:=by omega
        have ht:¬ b < a + (k:Int) * c:=fun h=>hno (.inr ⟨hn,h⟩)
        (repeat' (first
 | (first|refine Ahz ?_|refine Abz ?_)
 | ((first|refine Aiz ?_|refine Afz ?_|refine A7z ?_);simp (disch:=omega) only [push_cast,seval,l85r0,l85r1,l85r2,l85r3,l85r4,l85r5,l85r6,hp,hn,ht])
 | (refine Adz ⟨.inr rfl,[80],[],_,by decide,rfl,?_⟩;(try simp (disch:=omega) only [push_cast,seval,↓Aez,↓Acz,↓List.map_cons,↓List.map_nil,hp,hn,ht]);(first|done|(show AV.own _ _ _=_ ∧ _)))
 | (refine Adz ⟨.inr rfl,[544],[],_,by decide,rfl,?_⟩;(try simp (disch:=omega) only [push_cast,seval,↓Aez,↓Acz,↓List.map_cons,↓List.map_nil,hp,hn,ht]);(first|done|(show AV.own _ _ _=_ ∧ _)))
 | (refine Adz ⟨.inr rfl,[560],[],_,by decide,rfl,?_⟩;(try simp (disch:=omega) only [push_cast,seval,↓Aez,↓Acz,↓List.map_cons,↓List.map_nil,hp,hn,ht]);(first|done|(show AV.own _ _ _=_ ∧ _)))))
        all_goals simp [← hk']

end Go.Proofs.YtfccepgibbdfaaaDoor
namespace Go.Proofs.YtfccepgibbdfaaaDoor
open VwM Vw Go
variable [PowA]

theorem sbound_ok (n x b:Int) (hn:0 ≤ n ∧ n ≤ 60) (hx:-100 ≤ x ∧ x ≤ 100):PCall Tryd.prog 88 [.int .i64 n,.int .i64 x,.int .i64 b] (fun r=>r=.int .i64 (endI x n b)):=by
  refine A1z l88_eq rfl ?_
  unfold endI
  by_cases h:b < 0
  · by_cases h1:x < 0
    · (repeat' (first
 | (first|refine Ahz ?_|refine Abz ?_)
 | ((first|refine Aiz ?_|refine Afz ?_);simp (disch:=omega) only [push_cast,seval,l88r0,l88r1,l88r2,l88r3,l88r4,l88r5,l88r6,l88r7,l88r8,h,h1])
 | (refine Adz ⟨.inr rfl,_,rfl,?_⟩;(try simp (disch:=omega) only [push_cast,seval,h,h1]))))
      all_goals (refine congrArg (AV.int _) ?_;omega)
    · (repeat' (first
 | (first|refine Ahz ?_|refine Abz ?_)
 | ((first|refine Aiz ?_|refine Afz ?_|refine Aoz ?_);simp (disch:=omega) only [push_cast,seval,l88r0,l88r1,l88r2,l88r3,l88r4,l88r5,l88r6,l88r7,l88r8,h,h1])
 | (refine Adz ⟨.inr rfl,_,rfl,?_⟩;(try simp (disch:=omega) only [push_cast,seval,h,h1]))))
      all_goals (refine congrArg (AV.int _) ?_;omega)
  · by_cases h1:x < 0
    · (repeat' (first
 | (first|refine Ahz ?_|refine Abz ?_)
 | ((first|refine Aiz ?_|refine Afz ?_|refine Aoz ?_);simp (disch:=omega) only [push_cast,seval,l88r0,l88r1,l88r2,l88r3,l88r4,l88r5,l88r6,l88r7,l88r8,h,h1])
 | (refine Adz ⟨.inr rfl,_,rfl,?_⟩;(try simp (disch:=omega) only [push_cast,seval,h,h1]))))
      all_goals (refine congrArg (AV.int _) ?_;omega)
    · (repeat' (first
 | (first|refine Ahz ?_|refine Abz ?_)
 | ((first|refine Aiz ?_|refine Afz ?_|refine Aoz ?_);simp (disch:=omega) only [push_cast,seval,l88r0,l88r1,l88r2,l88r3,l88r4,l88r5,l88r6,l88r7,l88r8,h,h1])
 | (refine Adz ⟨.inr rfl,_,rfl,?_⟩;(try simp (disch:=omega) only [push_cast,seval,h,h1]))))
      all_goals (refine congrArg (AV.int _) ?_;omega)


theorem Bzz (n f t b:Int) (hf ht:Bool) (hn:0 ≤ n ∧ n ≤ 60) (hs:vS f t b hf ht=true):BCall Tryd.prog 84 [.int .i64 n,slc f t b hf ht] [] (OI (nums (sFrom f n b hf) b (cntN (sFrom f n b hf) (sTo t n b ht) b))):=by
  obtain ⟨h1,h2,h3,h4,-,-⟩:=H5z.1 hs
  have hv:=Hmz hn hs
  refine Axz (pins:=[]) (pin:=0) l84_eq rfl rfl rfl ?_
  by_cases h:b < 0<;>cases hf<;>cases ht<;>simp only [sFrom,sTo,h,if_true,if_false,Bool.false_eq_true,reduceIte] at hv ⊢
  all_goals (repeat' (first
 | (first|refine Ahz ?_|refine Abz ?_)
 | ((first|refine Aiz ?_|refine Afz ?_|refine Aoz ?_);simp (disch:=omega) only [push_cast,seval,l84r0,l84r1,l84r2,l84r3,l84r4,l84r5,l84r6,l84r7,l84r8,l84r9,l84r10,h])
 | ((first|refine Alz false ?_);simp (disch:=omega) only [push_cast,seval,h])
 | ((first|((first|refine Akz (Ajz (sbound_ok _ _ _ ?_ ?_)) ?_|refine Agz (Ajz (sbound_ok _ _ _ ?_ ?_)) ⟨_,_,rfl,rfl⟩ ?_);(iterate 2 (exact sd));rintro _ _ ⟨rfl,rfl⟩)|((first|refine Akz (Brz _ _ _ ?_) ?_|refine Agz (Brz _ _ _ ?_) ⟨_,_,rfl,rfl⟩ ?_);(exact sd);rintro _ _ ⟨rfl,rfl⟩))<;>(try simp (disch:=omega) only [push_cast,seval,h]))
 | (refine Adz ⟨.inr rfl,[320],[],_,by decide,rfl,?_⟩;(try simp (disch:=omega) only [push_cast,seval,↓Aez,↓Acz,↓List.map_cons,↓List.map_nil,h]);(first|done|(show AV.own _ _ _=_ ∧ _)))
 | (refine Adz ⟨.inr rfl,[448],[],_,by decide,rfl,?_⟩;(try simp (disch:=omega) only [push_cast,seval,↓Aez,↓Acz,↓List.map_cons,↓List.map_nil,h]);(first|done|(show AV.own _ _ _=_ ∧ _)))
 | (refine Adz ⟨.inr rfl,[544],[],_,by decide,rfl,?_⟩;(try simp (disch:=omega) only [push_cast,seval,↓Aez,↓Acz,↓List.map_cons,↓List.map_nil,h]);(first|done|(show AV.own _ _ _=_ ∧ _)))))
  all_goals simp [OI]

end Go.Proofs.YtfccepgibbdfaaaDoor
namespace Go.Proofs.YtfccepgibbdfaaaDoor
open VwM Vw Go
variable [PowA]

theorem Bcz (a c:Int) (n:Nat) (hn:n ≤ 1000) (hb:∀ i:Nat,i < n → -1000 ≤ a + (i:Int) * c ∧ a + (i:Int) * c ≤ 1000):PCall Tryd.prog 83 [.rows false (IL (nums a c n)) n] (fun r=>r=PR a c n):=by
  refine A1z l83_eq rfl ?_
  by_cases hz:n=0
  · subst hz
    (repeat' (first
 | (first|refine Ahz ?_|refine Abz ?_)
 | ((first|refine Aiz ?_|refine Afz ?_);simp (disch:=omega) only [push_cast,seval,l83r0,l83r1,l83r2,l83r3,l83r4,l83r5a,l83r5b,l83r5,l83r6a,l83r6b,l83r6,l83r7,l83r8,l83r9,l83r10,nums_zero])
 | (refine Adz ⟨.inr rfl,_,rfl,?_⟩;(try simp (disch:=omega) only [push_cast,seval,nums_zero]))))
    all_goals simp [pS,pE,pC]
  have b0:=hb 0 (by omega)
  simp only [Int.natCast_zero,Int.zero_mul,Int.add_zero] at b0
  have g0:(nums a c n).getD 0 0=a:=by rw [Gjz a c n 0 (by omega)];simp
  by_cases ho:n=1
  · subst ho
    (repeat' (first
 | (first|refine Ahz ?_|refine Abz ?_)
 | ((first|refine Aiz ?_|refine Avz (mid:=l83r5a) (post:=l83r5b) Baz (by decide) ?_|refine Afz ?_);simp (disch:=omega) only [push_cast,seval,l83r0,l83r1,l83r2,l83r3,l83r4,l83r5a,l83r5b,l83r5,l83r6a,l83r6b,l83r6,l83r7,l83r8,l83r9,l83r10,g0])
 | (refine Adz ⟨.inr rfl,_,rfl,?_⟩;(try simp (disch:=omega) only [push_cast,seval,g0]))))
    all_goals simp [pS,pE,pC]
  have b1:=hb 1 (by omega)
  simp only [Int.natCast_one,Int.one_mul] at b1
  have bl:=hb (n - 1) (by omega)
  rw [show (((n - 1:Nat):Nat):Int)=(n:Int) - 1 by omega] at bl
  have ho':¬ (n:Int)=1:=by omega
  have hz':¬ (n:Int)=0:=by omega
  have g1:(nums a c n).getD 1 0=a + c:=by rw [Gjz a c n 1 (by omega)];simp
  have gl:(nums a c n).getD ((n:Int) - 1).toNat 0=a + ((n:Int) - 1) * c:=by
    rw [Gjz a c n _ (by omega)]
    rw [show ((((n:Int) - 1).toNat:Nat):Int)=(n:Int) - 1 by omega]
  have hlen:0 < n ∧ 1 < n:=by omega
  have e:a + c - a=c:=by omega
  have p1:¬ (n:Int) < 1:=by omega
  have p2:¬ (n:Int) ≤ 1:=by omega
  by_cases hc:c < 0
  · (repeat' (first
 | (first|refine Ahz ?_|refine Abz ?_)
 | ((first|refine Aiz ?_|refine Avz (mid:=l83r6a) (post:=l83r6b) Baz (by decide) ?_|refine Afz ?_|refine Aoz ?_);simp (disch:=omega) only [push_cast,seval,l83r0,l83r1,l83r2,l83r3,l83r4,l83r5a,l83r5b,l83r5,l83r6a,l83r6b,l83r6,l83r7,l83r8,l83r9,l83r10,g0,g1,gl,hlen,e,hz',ho',hc])
 | (refine Adz ⟨.inr rfl,_,rfl,?_⟩;(try simp (disch:=omega) only [push_cast,seval,g0,g1,gl,hlen,e,hz',ho',hc]))))
    all_goals simp [pS,pE,pC,p1,p2,ho',hc]
  · (repeat' (first
 | (first|refine Ahz ?_|refine Abz ?_)
 | ((first|refine Aiz ?_|refine Avz (mid:=l83r6a) (post:=l83r6b) Baz (by decide) ?_|refine Afz ?_|refine Aoz ?_);simp (disch:=omega) only [push_cast,seval,l83r0,l83r1,l83r2,l83r3,l83r4,l83r5a,l83r5b,l83r5,l83r6a,l83r6b,l83r6,l83r7,l83r8,l83r9,l83r10,g0,g1,gl,hlen,e,hz',ho',hc])
 | (refine Adz ⟨.inr rfl,_,rfl,?_⟩;(try simp (disch:=omega) only [push_cast,seval,g0,g1,gl,hlen,e,hz',ho',hc]))))
    all_goals simp [pS,pE,pC,p1,p2,ho',hc]

end Go.Proofs.YtfccepgibbdfaaaDoor
namespace Go.Proofs.YtfccepgibbdfaaaDoor
open VwM Vw Go
variable [PowA]

end Go.Proofs.YtfccepgibbdfaaaDoor
namespace Go.Proofs.YtfccepgibbdfaaaDoor
open VwM Vw Go
variable [PowA]

theorem A6z (x l:Int):PCall Tryd.prog 23 [.int .i64 x,.int .i64 l] (fun r=>r=.bool (decide (0 ≤ x) && decide (x ≤ l))):=by
  refine A1z l23_eq rfl ?_
  (repeat' (first
 | (first|refine Ahz ?_|refine Abz ?_)
 | ((first|refine Aiz ?_);simp (disch:=omega) only [push_cast,seval,l23r0,l23r1])
 | ((first|refine Bpz (fun h=>?_) (fun h=>?_))<;>(try simp only [h])<;>(try simp only [bitvec_to_nat] at h)<;>(try simp only [h])<;>(first|(exfalso;omega)|(exfalso;simp_all;done)|(simp (disch:=omega) only [push_cast,seval])|skip))
 | (refine Adz ⟨.inr rfl,_,rfl,?_⟩;(try simp (disch:=omega) only [push_cast,seval]))))
  all_goals (first|rfl|(simp_all;done)|(simp_all;omega)|(simp;omega)|(simp;grind)|(simp_all;grind)|skip)


theorem Bnz (xs:List Int) (n:Nat) (hn:xs.length=n) (hg:good4 xs):PCall Tryd.prog 63 [.rows false (IL xs) n] (fun r=>r=.int .i64 (pr xs)):=by
  subst hn
  have hl:=hg.2
  refine A1z l63_eq rfl ?_
  (repeat' (first
 | (first|refine Ahz ?_|refine Abz ?_)
 | ((first|refine Aiz ?_);simp (disch:=omega) only [push_cast,seval,l63r0,l63r1,l63r2,l63r3,l63r4,l63r5,l63r6])
 | (refine Adz ⟨.inr rfl,_,rfl,?_⟩;(try simp (disch:=omega) only [push_cast,seval]))))
  refine Bez (fun k:Nat=>mkS [(0,RI xs),(3,.int .i64 (pr (xs.take k))),(4,.int .i64 k)] [])
    (fun k=>k ≤ xs.length) (fun k=>xs.length - k) 0 (Nat.zero_le _) ?_ ?_
  · (refine Sub.of_lists ?_ ?_ ?_ ?_ ?_<;>simp [Vw.mkS,Vw.lk,Vw.hk,AV.inn,innL,Arz,Anz,Asz,-List.map_set,-List.getD_eq_getElem?_getD,pr_nil])
  · intro k hk
    by_cases hlt:k < xs.length
    · have h1:=Dzz (good4_take hg (k + 1))
      have h2:=Fmz xs k hlt
      (repeat' (first
 | (first|refine Ahz ?_|refine Abz ?_)
 | ((first|refine Aiz ?_|refine Afz ?_|refine Aoz ?_);simp (disch:=omega) only [push_cast,seval,l63r0,l63r1,l63r2,l63r3,l63r4,l63r5,l63r6])
 | ((first|refine Amz (fun h=>?_) (fun h=>?_))<;>(try simp only [h])<;>(try simp only [bitvec_to_nat] at h)<;>(try simp only [h])<;>(first|(exfalso;omega)|(exfalso;simp_all;done)|(simp (disch:=omega) only [push_cast,seval])|skip))
 | (refine Adz ⟨.inr rfl,_,rfl,?_⟩;(try simp (disch:=omega) only [push_cast,seval]))))
      refine ⟨k + 1,by omega,by omega,?_⟩
      (refine Sub.of_lists ?_ ?_ ?_ ?_ ?_<;>simp [Vw.mkS,Vw.lk,Vw.hk,AV.inn,innL,Arz,Anz,Asz,-List.map_set,-List.getD_eq_getElem?_getD,h2])
    · (repeat' (first
 | (first|refine Ahz ?_|refine Abz ?_)
 | ((first|refine Aiz ?_|refine Afz ?_|refine A7z ?_);simp (disch:=omega) only [push_cast,seval,l63r0,l63r1,l63r2,l63r3,l63r4,l63r5,l63r6])
 | ((first|refine Amz (fun h=>?_) (fun h=>?_))<;>(try simp only [h])<;>(try simp only [bitvec_to_nat] at h)<;>(try simp only [h])<;>(first|(exfalso;omega)|(exfalso;simp_all;done)|(simp (disch:=omega) only [push_cast,seval])|skip))
 | (refine Adz ⟨.inr rfl,_,rfl,?_⟩;(try simp (disch:=omega) only [push_cast,seval]))))
      rw [List.take_of_length_le (by omega)]


theorem Bfz (xs:List Int) (n:Nat) (l h:Int) (hn:xs.length=n) (hb:n ≤ 1099511627776):PCall Tryd.prog 27 [.rows false (IL xs) n,.int .i64 l,.int .i64 h] (fun r=>r=.bool (allI xs l h)):=by
  subst hn
  refine A1z l27_eq rfl ?_
  (repeat' (first
 | (first|refine Ahz ?_|refine Abz ?_)
 | ((first|refine Aiz ?_);simp (disch:=omega) only [push_cast,seval,l27r0,l27r1,l27r2,l27r3,l27r4,l27r5,l27r6])
 | (refine Adz ⟨.inr rfl,_,rfl,?_⟩;(try simp (disch:=omega) only [push_cast,seval]))))
  refine Bez (fun k:Nat=>mkS [(0,RI xs),(1,.int .i64 l),(2,.int .i64 h),(7,.int .i64 k)] []) (fun k=>k ≤ xs.length ∧ ∀ j:Nat,j < k → l ≤ xs.getD j 0 ∧ xs.getD j 0 ≤ h) (fun k=>xs.length - k) 0 ⟨Nat.zero_le _,fun j h=>absurd h (Nat.not_lt_zero _)⟩ ?_ ?_
  · (refine Sub.of_lists ?_ ?_ ?_ ?_ ?_<;>simp [Vw.mkS,Vw.lk,Vw.hk,AV.inn,innL,Arz,Anz,Asz,-List.map_set,-List.getD_eq_getElem?_getD])
  · rintro k ⟨hk,hj⟩
    (repeat' (first
 | (first|refine Ahz ?_|refine Abz ?_)
 | ((first|refine Aiz ?_|refine Afz ?_|refine Aoz ?_|refine A7z ?_);simp (disch:=omega) only [push_cast,seval,l27r0,l27r1,l27r2,l27r3,l27r4,l27r5,l27r6])
 | ((first|refine Amz (fun h=>?_) (fun h=>?_))<;>(try simp only [h])<;>(try simp only [bitvec_to_nat] at h)<;>(try simp only [h])<;>(first|(exfalso;omega)|(exfalso;simp_all;done)|(simp (disch:=omega) only [push_cast,seval])|skip))
 | ((first|refine Alz false ?_);simp (disch:=omega) only [push_cast,seval])
 | ((first|((first|refine Akz (Ajz (Apz _ _ _)) ?_|refine Agz (Ajz (Apz _ _ _)) ⟨_,_,rfl,rfl⟩ ?_);rintro _ _ ⟨rfl,rfl⟩))<;>(try simp (disch:=omega) only [push_cast,seval]))
 | (refine Adz ⟨.inr rfl,_,rfl,?_⟩;(try simp (disch:=omega) only [push_cast,seval]))))
    · rw [B2z (j:=k) (by omega) (by assumption)]
    · refine ⟨k + 1,⟨by omega,fun j h=>?_⟩,by omega,?_⟩
      · by_cases hjk:j=k
        · subst hjk;assumption
        · exact hj j (by omega)
      · (refine Sub.of_lists ?_ ?_ ?_ ?_ ?_<;>simp [Vw.mkS,Vw.lk,Vw.hk,AV.inn,innL,Arz,Anz,Asz,-List.map_set,-List.getD_eq_getElem?_getD])
    · rw [B9z fun j h=>hj j (by omega)]


theorem A5z (xs:List Int) (n:Nat) (hn:xs.length=n) (hb:n ≤ 1099511627776):PCall Tryd.prog 73 [.rows false (IL xs) n] (fun r=>r=.bool (vSh xs)):=by
  subst hn
  refine A1z l73_eq rfl ?_
  by_cases h4:xs.length ≤ 4
  · cases ha:allI xs 0 60 with
    | false =>
      (repeat' (first
 | (first|refine Ahz ?_|refine Abz ?_)
 | ((first|refine Aiz ?_);simp (disch:=omega) only [push_cast,seval,l73r0,l73r1,ha])
 | ((first|refine Bpz (fun h=>?_) (fun h=>?_))<;>(try simp only [h])<;>(try simp only [bitvec_to_nat] at h)<;>(try simp only [h])<;>(first|(exfalso;omega)|(exfalso;simp_all;done)|(simp (disch:=omega) only [push_cast,seval,ha])|skip))
 | ((first|refine Alz false ?_);simp (disch:=omega) only [push_cast,seval,ha])
 | ((first|((first|refine Akz (Ajz (Bfz _ _ _ _ ?_ ?_)) ?_|refine Agz (Ajz (Bfz _ _ _ _ ?_ ?_)) ⟨_,_,rfl,rfl⟩ ?_);(iterate 2 (exact sd));rintro _ _ ⟨rfl,rfl⟩))<;>(try simp (disch:=omega) only [push_cast,seval,ha]))
 | (refine Adz ⟨.inr rfl,_,rfl,?_⟩;(try simp (disch:=omega) only [push_cast,seval,ha]))))
      simp [vSh,ha]
    | true =>
      have hg:good4 xs:=⟨B8z.1 ha,h4⟩
      (repeat' (first
 | (first|refine Ahz ?_|refine Abz ?_)
 | ((first|refine Aiz ?_);simp (disch:=omega) only [push_cast,seval,l73r0,l73r1,ha])
 | ((first|refine Bpz (fun h=>?_) (fun h=>?_))<;>(try simp only [h])<;>(try simp only [bitvec_to_nat] at h)<;>(try simp only [h])<;>(first|(exfalso;omega)|(exfalso;simp_all;done)|(simp (disch:=omega) only [push_cast,seval,ha])|skip))
 | ((first|refine Alz false ?_);simp (disch:=omega) only [push_cast,seval,ha])
 | ((first|((first|refine Akz (Ajz (Bfz _ _ _ _ ?_ ?_)) ?_|refine Agz (Ajz (Bfz _ _ _ _ ?_ ?_)) ⟨_,_,rfl,rfl⟩ ?_);(iterate 2 (exact sd));rintro _ _ ⟨rfl,rfl⟩)|((first|refine Akz (Ajz (Bnz _ _ ?_ ?_)) ?_|refine Agz (Ajz (Bnz _ _ ?_ ?_)) ⟨_,_,rfl,rfl⟩ ?_);(iterate 2 (exact sd));rintro _ _ ⟨rfl,rfl⟩))<;>(try simp (disch:=omega) only [push_cast,seval,ha]))
 | (refine Adz ⟨.inr rfl,_,rfl,?_⟩;(try simp (disch:=omega) only [push_cast,seval,ha]))))
      simp [vSh,ha,h4]
  · (repeat' (first
 | (first|refine Ahz ?_|refine Abz ?_)
 | ((first|refine Aiz ?_);simp (disch:=omega) only [push_cast,seval,l73r0,l73r1])
 | ((first|refine Bpz (fun h=>?_) (fun h=>?_))<;>(try simp only [h])<;>(try simp only [bitvec_to_nat] at h)<;>(try simp only [h])<;>(first|(exfalso;omega)|(exfalso;simp_all;done)|(simp (disch:=omega) only [push_cast,seval])|skip))
 | (refine Adz ⟨.inr rfl,_,rfl,?_⟩;(try simp (disch:=omega) only [push_cast,seval]))))
    simp [vSh,h4]

end Go.Proofs.YtfccepgibbdfaaaDoor
namespace Go.Proofs.YtfccepgibbdfaaaDoor
open VwM Vw Go
variable [PowA]

theorem unrank_ok (xs:List Int) (n:Nat) (k:Int) (hn:xs.length=n) (hg:good4 xs ∧ 0 ≤ k ∧ k < pr xs):BCall Tryd.prog 65 [.rows false (IL xs) n,.int .i64 k] [] (OI (unr xs k)):=by
  subst hn
  obtain ⟨hg,hk0,hk1⟩:=hg
  have hl:=hg.2
  have hprb:=Dzz hg
  have hp:=Gdz hg (by omega)
  refine Axz (pins:=[]) (pin:=0) l65_eq rfl rfl rfl ?_
  (repeat' (first
 | (first|refine Ahz ?_|refine Abz ?_)
 | ((first|refine Aiz ?_);simp (disch:=omega) only [push_cast,seval,l65r0,l65r1,l65r2,l65r3,l65r4,l65r5,l65r6,l65r7])
 | (refine Adz ⟨.inr rfl,[144],[],_,by decide,rfl,?_⟩;(try simp (disch:=omega) only [push_cast,seval,↓Aez,↓Acz,↓List.map_cons,↓List.map_nil]);(first|done|(show AV.own _ _ _=_ ∧ _)))))
  refine Bez (fun j:Nat=>mkS [(0,RI xs),(6,.int .i64 ((xs.length:Int) - 1 - (j:Int))),(1,.int .i64 (kS xs k j)),(5,.own 144 xs.length 1)] [(144,IL (filledD (dig xs k) xs.length j))])
    (fun j=>j ≤ xs.length) (fun j=>xs.length - j) 0 (Nat.zero_le _) ?_ ?_
  · (refine Sub.of_lists ?_ ?_ ?_ ?_ ?_<;>simp [Vw.mkS,Vw.lk,Vw.hk,AV.inn,innL,Arz,Anz,Asz,-List.map_set,-List.getD_eq_getElem?_getD,filledD_zero,kS])
  · intro j hj
    by_cases hlt:j < xs.length
    · have e1:=down_nat xs.length j hlt
      have h1:=F2z hk0 hp j hj
      have h2:=F2z hk0 hp (j + 1) hlt
      have h3:=hp (xs.length - 1 - j) (by omega)
      have h4:¬ xs.getD (xs.length - 1 - j) 0=0:=by omega
      simp only [kS] at h2
      have e3:=filledD_set (dig xs k) xs.length j hlt
      have e6:dig xs k (xs.length - 1 - j)=(kS xs k j).tmod (xs.getD (xs.length - 1 - j) 0):=by
        unfold dig
        rw [show xs.length - 1 - (xs.length - 1 - j)=j by omega]
      rw [e6] at e3
      (repeat' (first
 | (first|refine Ahz ?_|refine Abz ?_)
 | ((first|refine Aiz ?_|refine Afz ?_|refine Aoz ?_);simp (disch:=omega) only [push_cast,seval,l65r0,l65r1,l65r2,l65r3,l65r4,l65r5,l65r6,l65r7,e1,h4])
 | ((first|refine Amz (fun h=>?_) (fun h=>?_))<;>(try simp only [h])<;>(try simp only [bitvec_to_nat] at h)<;>(try simp only [h])<;>(first|(exfalso;omega)|(exfalso;simp_all;done)|(simp (disch:=omega) only [push_cast,seval,e1,h4])|skip))
 | (refine Adz ⟨.inr rfl,[144],[],_,by decide,rfl,?_⟩;(try simp (disch:=omega) only [push_cast,seval,↓Aez,↓Acz,↓List.map_cons,↓List.map_nil,e1,h4]);(first|done|(show AV.own _ _ _=_ ∧ _)))))
      refine ⟨j + 1,by omega,by omega,?_⟩
      have e4:(xs.length:Int) - 1 - ((j:Int) + 1)=(xs.length:Int) - 1 - (j:Int) - 1:=by omega
      (refine Sub.of_lists ?_ ?_ ?_ ?_ ?_<;>simp [Vw.mkS,Vw.lk,Vw.hk,AV.inn,innL,Arz,Anz,Asz,-List.map_set,-List.getD_eq_getElem?_getD,Bgz,e3,e4,kS])
    · (repeat' (first
 | (first|refine Ahz ?_|refine Abz ?_)
 | ((first|refine Aiz ?_|refine Afz ?_|refine A7z ?_);simp (disch:=omega) only [push_cast,seval,l65r0,l65r1,l65r2,l65r3,l65r4,l65r5,l65r6,l65r7])
 | ((first|refine Amz (fun h=>?_) (fun h=>?_))<;>(try simp only [h])<;>(try simp only [bitvec_to_nat] at h)<;>(try simp only [h])<;>(first|(exfalso;omega)|(exfalso;simp_all;done)|(simp (disch:=omega) only [push_cast,seval])|skip))
 | (refine Adz ⟨.inr rfl,[144],[],_,by decide,rfl,?_⟩;(try simp (disch:=omega) only [push_cast,seval,↓Aez,↓Acz,↓List.map_cons,↓List.map_nil]);(first|done|(show AV.own _ _ _=_ ∧ _)))))
      have e:j=xs.length:=by omega
      rw [e,filledD_all]
      simp [OI,unr]

end Go.Proofs.YtfccepgibbdfaaaDoor
namespace Go.Proofs.YtfccepgibbdfaaaDoor
open VwM Vw Go
variable [PowA]

theorem Hgz (b:Int) (cs st idx:List Int) (n m p:Nat) (hm:st.length=m) (hp:idx.length=p) (hb:(p ≤ m ∧ p ≤ 4) ∧ (-1000000 ≤ b ∧ b ≤ 1000000) ∧ ∀ i,i < p → (-60 ≤ idx.getD i 0 ∧ idx.getD i 0 ≤ 60) ∧ -12960000 ≤ st.getD i 0 ∧ st.getD i 0 ≤ 12960000):PCall Tryd.prog 64 [.agg [.int .i64 b,.rows false (IL cs) n,.rows false (IL st) m],.rows false (IL idx) p] (fun r=>r=.int .i64 (b + dot (fun i=>idx.getD i 0) st p)):=by
  subst hm hp
  obtain ⟨⟨h1,h2⟩,⟨h3,h4⟩,hb⟩:=hb
  refine A1z l64_eq rfl ?_
  (repeat' (first
 | (first|refine Ahz ?_|refine Abz ?_)
 | ((first|refine Aiz ?_);simp (disch:=omega) only [push_cast,seval,l64r0,l64r1,l64r2,l64r3,l64r4a,l64r4b,l64r4,l64r5,l64r6])
 | (refine Adz ⟨.inr rfl,_,rfl,?_⟩;(try simp (disch:=omega) only [push_cast,seval]))))
  refine Bez (fun k:Nat=>mkS [(1,RI idx),(2,.ref 32 3 0),(5,.int .i64 (b + dot (fun i=>idx.getD i 0) st k)),(6,.int .i64 k)] [(32,[.int .i64 b,.rows false (IL cs) n,RI st])]) (fun k=>k ≤ idx.length) (fun k=>idx.length - k) 0 (Nat.zero_le _) ?_ ?_
  · (refine Sub.of_lists ?_ ?_ ?_ ?_ ?_<;>simp [Vw.mkS,Vw.lk,Vw.hk,AV.inn,innL,Arz,Anz,Asz,-List.map_set,-List.getD_eq_getElem?_getD,dot])
  · intro k hk
    by_cases hlt:k < idx.length
    · have q1:=dot_bound (f:=fun i=>idx.getD i 0) (st:=st) (B:=60) (C:=12960000) k fun i hi=>hb i (by omega)
      have q2:=E1z (hb k hlt).1 (hb k hlt).2
      have q3:k < st.length:=by omega
      (repeat' (first
 | (first|refine Ahz ?_|refine Abz ?_)
 | ((first|refine Aiz ?_|refine Avz (mid:=l64r4a) (post:=l64r4b) Baz (by decide) ?_|refine Afz ?_|refine Aoz ?_);simp (disch:=omega) only [push_cast,seval,l64r0,l64r1,l64r2,l64r3,l64r4a,l64r4b,l64r4,l64r5,l64r6])
 | ((first|refine Amz (fun h=>?_) (fun h=>?_))<;>(try simp only [h])<;>(try simp only [bitvec_to_nat] at h)<;>(try simp only [h])<;>(first|(exfalso;omega)|(exfalso;simp_all;done)|(simp (disch:=omega) only [push_cast,seval])|skip))
 | (refine Adz ⟨.inr rfl,_,rfl,?_⟩;(try simp (disch:=omega) only [push_cast,seval]))))
      refine ⟨k + 1,by omega,by omega,?_⟩
      (refine Sub.of_lists ?_ ?_ ?_ ?_ ?_<;>simp [Vw.mkS,Vw.lk,Vw.hk,AV.inn,innL,Arz,Anz,Asz,-List.map_set,-List.getD_eq_getElem?_getD,dot,Int.add_assoc])
    · (repeat' (first
 | (first|refine Ahz ?_|refine Abz ?_)
 | ((first|refine Aiz ?_|refine Afz ?_|refine A7z ?_);simp (disch:=omega) only [push_cast,seval,l64r0,l64r1,l64r2,l64r3,l64r4a,l64r4b,l64r4,l64r5,l64r6])
 | ((first|refine Amz (fun h=>?_) (fun h=>?_))<;>(try simp only [h])<;>(try simp only [bitvec_to_nat] at h)<;>(try simp only [h])<;>(first|(exfalso;omega)|(exfalso;simp_all;done)|(simp (disch:=omega) only [push_cast,seval])|skip))
 | (refine Adz ⟨.inr rfl,_,rfl,?_⟩;(try simp (disch:=omega) only [push_cast,seval]))))
      rw [show k=idx.length by omega]


/-- What keeps a view's cells from overflowing. -/
def okV (b:Int) (sh st:List Int):Prop:=(good4 sh ∧ pr sh ≤ 60) ∧ (-1000000 ≤ b ∧ b ≤ 1000000) ∧ sh.length ≤ st.length ∧ ∀ i,i < sh.length → -12960000 ≤ st.getD i 0 ∧ st.getD i 0 ≤ 12960000
theorem okV_dig {b:Int} {sh st:List Int} (h:okV b sh st) {k:Int} (hk:0 ≤ k) (hk2:k < pr sh):∀ i,i < sh.length → (-60 ≤ dig sh k i ∧ dig sh k i ≤ 60) ∧ -12960000 ≤ st.getD i 0 ∧ st.getD i 0 ≤ 12960000:=fun i hi=>by
  obtain ⟨⟨hg,_⟩,_,_,hs⟩:=h
  have h1:=dig_isIx hg hk hk2 i hi
  have h2:=Dgz hg hi
  exact ⟨by omega,hs i hi⟩
theorem unr_getD {sh:List Int} {k:Int} {i:Nat} (h:i < sh.length):(unr sh k).getD i 0=dig sh k i:=by simp [unr,List.getD,h]
theorem Dhz {sh st:List Int} {k:Int}:dot (fun i=>(unr sh k).getD i 0) st sh.length=dot (dig sh k) st sh.length:=Gzz fun i hi=>unr_getD hi
def offsT (b:Int) (sh st:List Int) (j:Nat):List Int:=(List.range j).map fun k:Nat=>cellK b sh st k
theorem offsT_zero (b:Int) (sh st:List Int):offsT b sh st 0=[]:=rfl
theorem offsT_succ (b:Int) (sh st:List Int) (j:Nat):offsT b sh st (j + 1)=offsT b sh st j ++ [cellK b sh st j]:=by simp [offsT,List.range_succ]
theorem offsT_length (b:Int) (sh st:List Int) (j:Nat):(offsT b sh st j).length=j:=by simp [offsT]
theorem offsT_all (b:Int) (sh st:List Int):offsT b sh st (pr sh).toNat=offs b sh st:=rfl


theorem Bjz (b:Int) (sh st:List Int) (n m:Nat) (hn:sh.length=n) (hm:st.length=m) (hb:okV b sh st):BCall Tryd.prog 48 [.agg [.int .i64 b,.rows false (IL sh) n,.rows false (IL st) m]] [] (OI (offs b sh st)):=by
  subst hn hm
  obtain ⟨⟨hg,hp60⟩,⟨hb1,hb2⟩,hls,hst⟩:=hb
  have hl:=hg.2
  have hp0:=(Dzz hg).1
  refine Axz (pins:=[]) (pin:=0) l48_eq rfl rfl rfl ?_
  (repeat' (first
 | (first|refine Ahz ?_|refine Abz ?_)
 | ((first|refine Aiz ?_);simp (disch:=omega) only [push_cast,seval,l48r0,l48r1,l48r2,l48r3,l48r4a,l48r4b,l48r4,l48r5,l48r6])
 | (refine Adz ⟨.inr rfl,[80],[],_,by decide,rfl,?_⟩;(try simp (disch:=omega) only [push_cast,seval,↓Aez,↓Acz,↓List.map_cons,↓List.map_nil]);(first|done|(show AV.own _ _ _=_ ∧ _)))
 | (refine Adz ⟨.inr rfl,[144],[],_,by decide,rfl,?_⟩;(try simp (disch:=omega) only [push_cast,seval,↓Aez,↓Acz,↓List.map_cons,↓List.map_nil]);(first|done|(show AV.own _ _ _=_ ∧ _)))
 | (refine Adz ⟨.inr rfl,[288],[],_,by decide,rfl,?_⟩;(try simp (disch:=omega) only [push_cast,seval,↓Aez,↓Acz,↓List.map_cons,↓List.map_nil]);(first|done|(show AV.own _ _ _=_ ∧ _)))
 | (refine Adz ⟨.inr rfl,[304],[],_,by decide,rfl,?_⟩;(try simp (disch:=omega) only [push_cast,seval,↓Aez,↓Acz,↓List.map_cons,↓List.map_nil]);(first|done|(show AV.own _ _ _=_ ∧ _)))
 | (refine Adz ⟨.inr rfl,[320],[],_,by decide,rfl,?_⟩;(try simp (disch:=omega) only [push_cast,seval,↓Aez,↓Acz,↓List.map_cons,↓List.map_nil]);(first|done|(show AV.own _ _ _=_ ∧ _)))
 | (refine Adz ⟨.inr rfl,[336],[],_,by decide,rfl,?_⟩;(try simp (disch:=omega) only [push_cast,seval,↓Aez,↓Acz,↓List.map_cons,↓List.map_nil]);(first|done|(show AV.own _ _ _=_ ∧ _)))))
  refine Bez (fun k:Nat=>mkS [(1,.ref 16 3 0),(3,.own 80 k 1),(4,.int .i64 k)] [(16,[.int .i64 b,RI sh,RI st]),(80,IL (offsT b sh st k))])
    (fun k=>k ≤ (pr sh).toNat) (fun k=>(pr sh).toNat - k) 0 (Nat.zero_le _) ?_ ?_
  · (refine Sub.of_lists ?_ ?_ ?_ ?_ ?_<;>simp [Vw.mkS,Vw.lk,Vw.hk,AV.inn,innL,Arz,Anz,Asz,-List.map_set,-List.getD_eq_getElem?_getD,offsT_zero])
  · intro k hk
    have hol:=offsT_length b sh st k
    by_cases hlt:k < (pr sh).toNat
    · have hgk:good4 sh ∧ 0 ≤ (k:Int) ∧ (k:Int) < pr sh:=⟨hg,by omega,by omega⟩
      have hdg:=okV_dig (b:=b) (st:=st) ⟨⟨hg,hp60⟩,⟨hb1,hb2⟩,hls,hst⟩ hgk.2.1 hgk.2.2
      have hlu:=Faz sh k
      have q:(sh.length ≤ st.length ∧ sh.length ≤ 4) ∧ (-1000000 ≤ b ∧ b ≤ 1000000) ∧ ∀ i,i < sh.length → (-60 ≤ (unr sh k).getD i 0 ∧ (unr sh k).getD i 0 ≤ 60) ∧ -12960000 ≤ st.getD i 0 ∧ st.getD i 0 ≤ 12960000:=⟨⟨hls,hl⟩,⟨hb1,hb2⟩,fun i hi=>by rw [unr_getD hi];exact hdg i hi⟩
      have hlt':(k:Int) < pr sh:=hgk.2.2
      (repeat' (first
 | (first|refine Ahz ?_|refine Abz ?_)
 | ((first|refine Aiz ?_|refine Avz (mid:=l48r4a) (post:=l48r4b) Baz (by decide) ?_|refine Afz ?_|refine Aoz ?_);simp (disch:=omega) only [push_cast,seval,l48r0,l48r1,l48r2,l48r3,l48r4a,l48r4b,l48r4,l48r5,l48r6,hlt',hlu,hol,Dhz])
 | ((first|refine Alz false ?_|refine Atz false ?_);simp (disch:=omega) only [push_cast,seval,hlt',hlu,hol,Dhz])
 | ((first|((first|refine Akz (Ajz (Bnz _ _ ?_ ?_)) ?_|refine Agz (Ajz (Bnz _ _ ?_ ?_)) ⟨_,_,rfl,rfl⟩ ?_);(iterate 2 (exact sd));rintro _ _ ⟨rfl,rfl⟩)|((first|refine Akz (unrank_ok _ _ _ ?_ ?_) ?_|refine Agz (Ajz (Efz (unrank_ok _ _ _ ?_ ?_))) ⟨_,_,rfl,rfl⟩ ?_);(iterate 2 (exact sd));rintro _ _ ⟨rfl,rfl⟩)|((first|refine Akz (Ajz (Hgz _ _ _ _ _ _ _ ?_ ?_ ?_)) ?_|refine Agz (Ajz (Hgz _ _ _ _ _ _ _ ?_ ?_ ?_)) ⟨_,_,rfl,rfl⟩ ?_);(iterate 3 (exact sd));rintro _ _ ⟨rfl,rfl⟩))<;>(try simp (disch:=omega) only [push_cast,seval,hlt',hlu,hol,Dhz]))
 | (refine Adz ⟨.inr rfl,[80],[],_,by decide,rfl,?_⟩;(try simp (disch:=omega) only [push_cast,seval,↓Aez,↓Acz,↓List.map_cons,↓List.map_nil,hlt',hlu,hol,Dhz]);(first|done|(show AV.own _ _ _=_ ∧ _)))
 | (refine Adz ⟨.inr rfl,[144],[],_,by decide,rfl,?_⟩;(try simp (disch:=omega) only [push_cast,seval,↓Aez,↓Acz,↓List.map_cons,↓List.map_nil,hlt',hlu,hol,Dhz]);(first|done|(show AV.own _ _ _=_ ∧ _)))
 | (refine Adz ⟨.inr rfl,[288],[],_,by decide,rfl,?_⟩;(try simp (disch:=omega) only [push_cast,seval,↓Aez,↓Acz,↓List.map_cons,↓List.map_nil,hlt',hlu,hol,Dhz]);(first|done|(show AV.own _ _ _=_ ∧ _)))
 | (refine Adz ⟨.inr rfl,[304],[],_,by decide,rfl,?_⟩;(try simp (disch:=omega) only [push_cast,seval,↓Aez,↓Acz,↓List.map_cons,↓List.map_nil,hlt',hlu,hol,Dhz]);(first|done|(show AV.own _ _ _=_ ∧ _)))
 | (refine Adz ⟨.inr rfl,[320],[],_,by decide,rfl,?_⟩;(try simp (disch:=omega) only [push_cast,seval,↓Aez,↓Acz,↓List.map_cons,↓List.map_nil,hlt',hlu,hol,Dhz]);(first|done|(show AV.own _ _ _=_ ∧ _)))
 | (refine Adz ⟨.inr rfl,[336],[],_,by decide,rfl,?_⟩;(try simp (disch:=omega) only [push_cast,seval,↓Aez,↓Acz,↓List.map_cons,↓List.map_nil,hlt',hlu,hol,Dhz]);(first|done|(show AV.own _ _ _=_ ∧ _)))))
      refine ⟨k + 1,by omega,by omega,?_⟩
      have e:b + dot (dig sh k) st sh.length=cellK b sh st k:=rfl
      (refine Sub.of_lists ?_ ?_ ?_ ?_ ?_<;>simp [Vw.mkS,Vw.lk,Vw.hk,AV.inn,innL,Arz,Anz,Asz,-List.map_set,-List.getD_eq_getElem?_getD,offsT_succ,e])
    · have hlt':¬ (k:Int) < pr sh:=by omega
      (repeat' (first
 | (first|refine Ahz ?_|refine Abz ?_)
 | ((first|refine Aiz ?_|refine Afz ?_|refine A7z ?_);simp (disch:=omega) only [push_cast,seval,l48r0,l48r1,l48r2,l48r3,l48r4a,l48r4b,l48r4,l48r5,l48r6,hlt',hol])
 | ((first|refine Alz false ?_);simp (disch:=omega) only [push_cast,seval,hlt',hol])
 | ((first|((first|refine Akz (Ajz (Bnz _ _ ?_ ?_)) ?_|refine Agz (Ajz (Bnz _ _ ?_ ?_)) ⟨_,_,rfl,rfl⟩ ?_);(iterate 2 (exact sd));rintro _ _ ⟨rfl,rfl⟩))<;>(try simp (disch:=omega) only [push_cast,seval,hlt',hol]))
 | (refine Adz ⟨.inr rfl,[80],[],_,by decide,rfl,?_⟩;(try simp (disch:=omega) only [push_cast,seval,↓Aez,↓Acz,↓List.map_cons,↓List.map_nil,hlt',hol]);(first|done|(show AV.own _ _ _=_ ∧ _)))
 | (refine Adz ⟨.inr rfl,[144],[],_,by decide,rfl,?_⟩;(try simp (disch:=omega) only [push_cast,seval,↓Aez,↓Acz,↓List.map_cons,↓List.map_nil,hlt',hol]);(first|done|(show AV.own _ _ _=_ ∧ _)))
 | (refine Adz ⟨.inr rfl,[288],[],_,by decide,rfl,?_⟩;(try simp (disch:=omega) only [push_cast,seval,↓Aez,↓Acz,↓List.map_cons,↓List.map_nil,hlt',hol]);(first|done|(show AV.own _ _ _=_ ∧ _)))
 | (refine Adz ⟨.inr rfl,[304],[],_,by decide,rfl,?_⟩;(try simp (disch:=omega) only [push_cast,seval,↓Aez,↓Acz,↓List.map_cons,↓List.map_nil,hlt',hol]);(first|done|(show AV.own _ _ _=_ ∧ _)))
 | (refine Adz ⟨.inr rfl,[320],[],_,by decide,rfl,?_⟩;(try simp (disch:=omega) only [push_cast,seval,↓Aez,↓Acz,↓List.map_cons,↓List.map_nil,hlt',hol]);(first|done|(show AV.own _ _ _=_ ∧ _)))
 | (refine Adz ⟨.inr rfl,[336],[],_,by decide,rfl,?_⟩;(try simp (disch:=omega) only [push_cast,seval,↓Aez,↓Acz,↓List.map_cons,↓List.map_nil,hlt',hol]);(first|done|(show AV.own _ _ _=_ ∧ _)))))
      have:k=(pr sh).toNat:=by omega
      rw [this,offsT_all]
      simp [OI,Bkz]

end Go.Proofs.YtfccepgibbdfaaaDoor
namespace Go.Proofs.YtfccepgibbdfaaaDoor
open VwM Vw Go
variable [PowA]

theorem okV_of {b:Int} {sh st:List Int} (h1:vSh sh=true) (h2:vSt st sh.length=true) (h3:0 ≤ b ∧ b ≤ 60):okV b sh st ∧ st.length=sh.length:=by
  have hg:=Cez h1
  have hs:=(C8z.1 h2).1
  exact ⟨⟨⟨hg.1,hg.2.2⟩,by omega,by omega,fun i hi=>by have:=vSt_at h2 hi;omega⟩,hs⟩
theorem Cqz {b:Int} {sh st:List Int} (h:vV b sh st=true):okV b sh st ∧ st.length=sh.length:=by
  obtain ⟨h1,h2,h3,_⟩:=B3z.1 h
  exact okV_of h1 h2 h3
theorem vV_shape {b:Int} {sh st:List Int} (h:vSh sh=false):vV b sh st=false:=by simp [vV,h]
theorem vV_str {b:Int} {sh st:List Int} (h:vSt st sh.length=false):vV b sh st=false:=by simp [vV,h]
theorem vV_base {b:Int} {sh st:List Int} (h:¬ (0 ≤ b ∧ b ≤ 60)):vV b sh st=false:=by
  rw [Bool.eq_false_iff];intro h';exact h (B3z.1 h').2.2.1
theorem vV_rest {b:Int} {sh st:List Int} (h1:vSh sh=true) (h2:vSt st sh.length=true) (h3:0 ≤ b ∧ b ≤ 60):vV b sh st=(decide (pr sh=0) || allI (offs b sh st) 0 59):=by
  simp [vV,h1,h2,h3]


theorem Aqz (b:Int) (sh st:List Int) (n m:Nat) (hn:sh.length=n) (hm:st.length=m) (hb:n ≤ 1099511627776 ∧ m ≤ 1099511627776):PCall Tryd.prog 56 [.agg [.int .i64 b,.rows false (IL sh) n,.rows false (IL st) m]] (fun r=>r=.bool (vV b sh st)):=by
  subst hn hm
  obtain ⟨hb1,hb2⟩:=hb
  refine A1z l56_eq rfl ?_
  cases hv:vSh sh with
  | false =>
    rw [vV_shape hv]
    (repeat' (first
 | (first|refine Ahz ?_|refine Abz ?_)
 | ((first|refine Aiz ?_);simp (disch:=omega) only [push_cast,seval,l56r0,l56r1,hv])
 | ((first|refine Alz false ?_);simp (disch:=omega) only [push_cast,seval,hv])
 | ((first|((first|refine Akz (Ajz (A5z _ _ ?_ ?_)) ?_|refine Agz (Ajz (A5z _ _ ?_ ?_)) ⟨_,_,rfl,rfl⟩ ?_);(iterate 2 (exact sd));rintro _ _ ⟨rfl,rfl⟩))<;>(try simp (disch:=omega) only [push_cast,seval,hv]))
 | (refine Adz ⟨.inr rfl,_,rfl,?_⟩;(try simp (disch:=omega) only [push_cast,seval,hv]))))
  | true =>
  have hg:=(Cez hv).1
  by_cases hl:st.length=sh.length
  · have hl':(st.length:Int)=sh.length:=by omega
    cases ha:allI st (-60) 60 with
    | false =>
      rw [vV_str (by simp [vSt,ha])]
      (repeat' (first
 | (first|refine Ahz ?_|refine Abz ?_)
 | ((first|refine Aiz ?_);simp (disch:=omega) only [push_cast,seval,l56r0,l56r1,hv,hl',ha])
 | ((first|refine Alz false ?_);simp (disch:=omega) only [push_cast,seval,hv,hl',ha])
 | ((first|((first|refine Akz (Ajz (A5z _ _ ?_ ?_)) ?_|refine Agz (Ajz (A5z _ _ ?_ ?_)) ⟨_,_,rfl,rfl⟩ ?_);(iterate 2 (exact sd));rintro _ _ ⟨rfl,rfl⟩)|((first|refine Akz (Ajz (Bfz _ _ _ _ ?_ ?_)) ?_|refine Agz (Ajz (Bfz _ _ _ _ ?_ ?_)) ⟨_,_,rfl,rfl⟩ ?_);(iterate 2 (exact sd));rintro _ _ ⟨rfl,rfl⟩))<;>(try simp (disch:=omega) only [push_cast,seval,hv,hl',ha]))
 | (refine Adz ⟨.inr rfl,_,rfl,?_⟩;(try simp (disch:=omega) only [push_cast,seval,hv,hl',ha]))))
    | true =>
      have hs:vSt st sh.length=true:=by simp [vSt,hl,ha]
      by_cases hr:0 ≤ b ∧ b ≤ 60
      · have hok:=(okV_of hv hs hr).1
        rw [vV_rest hv hs hr]
        obtain ⟨hr1,hr2⟩:=hr
        have hol:=Bkz b sh st
        have hpb:=(Cez hv).2
        have hb3:(offs b sh st).length ≤ 1099511627776:=by omega
        by_cases hz:pr sh=0
        · (repeat' (first
 | (first|refine Ahz ?_|refine Abz ?_)
 | ((first|refine Aiz ?_);simp (disch:=omega) only [push_cast,seval,l56r0,l56r1,hv,hl',ha,hr1,hr2,hz])
 | ((first|refine Alz false ?_);simp (disch:=omega) only [push_cast,seval,hv,hl',ha,hr1,hr2,hz])
 | ((first|((first|refine Akz (Ajz (A5z _ _ ?_ ?_)) ?_|refine Agz (Ajz (A5z _ _ ?_ ?_)) ⟨_,_,rfl,rfl⟩ ?_);(iterate 2 (exact sd));rintro _ _ ⟨rfl,rfl⟩)|((first|refine Akz (Ajz (Bfz _ _ _ _ ?_ ?_)) ?_|refine Agz (Ajz (Bfz _ _ _ _ ?_ ?_)) ⟨_,_,rfl,rfl⟩ ?_);(iterate 2 (exact sd));rintro _ _ ⟨rfl,rfl⟩)|((first|refine Akz (Ajz (Apz _ _ _)) ?_|refine Agz (Ajz (Apz _ _ _)) ⟨_,_,rfl,rfl⟩ ?_);rintro _ _ ⟨rfl,rfl⟩)|((first|refine Akz (Ajz (Bnz _ _ ?_ ?_)) ?_|refine Agz (Ajz (Bnz _ _ ?_ ?_)) ⟨_,_,rfl,rfl⟩ ?_);(iterate 2 (exact sd));rintro _ _ ⟨rfl,rfl⟩))<;>(try simp (disch:=omega) only [push_cast,seval,hv,hl',ha,hr1,hr2,hz]))
 | (refine Adz ⟨.inr rfl,_,rfl,?_⟩; (try simp (disch := omega) only [push_cast,seval,hv,hl',ha,hr1,hr2,hz]))))
          all_goals simp
        · (repeat' (first
 | (first|refine Ahz ?_|refine Abz ?_)
 | ((first|refine Aiz ?_);simp (disch:=omega) only [push_cast,seval,l56r0,l56r1,hv,hl',ha,hr1,hr2,hz])
 | ((first|refine Alz false ?_);simp (disch:=omega) only [push_cast,seval,hv,hl',ha,hr1,hr2,hz])
 | ((first|((first|refine Akz (Ajz (A5z _ _ ?_ ?_)) ?_|refine Agz (Ajz (A5z _ _ ?_ ?_)) ⟨_,_,rfl,rfl⟩ ?_);(iterate 2 (exact sd));rintro _ _ ⟨rfl,rfl⟩)|((first|refine Akz (Ajz (Bfz _ _ _ _ ?_ ?_)) ?_|refine Agz (Ajz (Bfz _ _ _ _ ?_ ?_)) ⟨_,_,rfl,rfl⟩ ?_);(iterate 2 (exact sd));rintro _ _ ⟨rfl,rfl⟩)|((first|refine Akz (Ajz (Apz _ _ _)) ?_|refine Agz (Ajz (Apz _ _ _)) ⟨_,_,rfl,rfl⟩ ?_);rintro _ _ ⟨rfl,rfl⟩)|((first|refine Akz (Ajz (Bnz _ _ ?_ ?_)) ?_|refine Agz (Ajz (Bnz _ _ ?_ ?_)) ⟨_,_,rfl,rfl⟩ ?_);(iterate 2 (exact sd));rintro _ _ ⟨rfl,rfl⟩)|((first|refine Akz (Bjz _ _ _ _ _ ?_ ?_ ?_) ?_|refine Agz (Bjz _ _ _ _ _ ?_ ?_ ?_) ⟨_,_,rfl,rfl⟩ ?_);(iterate 3 (exact sd));rintro _ _ ⟨rfl,rfl⟩))<;>(try simp (disch:=omega) only [push_cast,seval,hv,hl',ha,hr1,hr2,hz]))
 | (refine Adz ⟨.inr rfl,_,rfl,?_⟩; (try simp (disch := omega) only [push_cast,seval,hv,hl',ha,hr1,hr2,hz]))))
          all_goals simp
      · rw [vV_base hr]
        have hr':(decide (0 ≤ b) && decide (b ≤ 60))=false:=by
          rw [Bool.eq_false_iff];intro h;simp at h;exact hr h
        (repeat' (first
 | (first|refine Ahz ?_|refine Abz ?_)
 | ((first|refine Aiz ?_);simp (disch:=omega) only [push_cast,seval,l56r0,l56r1,hv,hl',ha,hr'])
 | ((first|refine Alz false ?_);simp (disch:=omega) only [push_cast,seval,hv,hl',ha,hr'])
 | ((first|((first|refine Akz (Ajz (A5z _ _ ?_ ?_)) ?_|refine Agz (Ajz (A5z _ _ ?_ ?_)) ⟨_,_,rfl,rfl⟩ ?_);(iterate 2 (exact sd));rintro _ _ ⟨rfl,rfl⟩)|((first|refine Akz (Ajz (Bfz _ _ _ _ ?_ ?_)) ?_|refine Agz (Ajz (Bfz _ _ _ _ ?_ ?_)) ⟨_,_,rfl,rfl⟩ ?_);(iterate 2 (exact sd));rintro _ _ ⟨rfl,rfl⟩)|((first|refine Akz (Ajz (Apz _ _ _)) ?_|refine Agz (Ajz (Apz _ _ _)) ⟨_,_,rfl,rfl⟩ ?_);rintro _ _ ⟨rfl,rfl⟩))<;>(try simp (disch:=omega) only [push_cast,seval,hv,hl',ha,hr']))
 | (refine Adz ⟨.inr rfl,_,rfl,?_⟩;(try simp (disch:=omega) only [push_cast,seval,hv,hl',ha,hr']))))
  · have hl':¬ (st.length:Int)=sh.length:=by omega
    rw [vV_str (by simp [vSt,hl])]
    (repeat' (first
 | (first|refine Ahz ?_|refine Abz ?_)
 | ((first|refine Aiz ?_);simp (disch:=omega) only [push_cast,seval,l56r0,l56r1,hv,hl'])
 | ((first|refine Alz false ?_);simp (disch:=omega) only [push_cast,seval,hv,hl'])
 | ((first|((first|refine Akz (Ajz (A5z _ _ ?_ ?_)) ?_|refine Agz (Ajz (A5z _ _ ?_ ?_)) ⟨_,_,rfl,rfl⟩ ?_);(iterate 2 (exact sd));rintro _ _ ⟨rfl,rfl⟩))<;>(try simp (disch:=omega) only [push_cast,seval,hv,hl']))
 | (refine Adz ⟨.inr rfl,_,rfl,?_⟩;(try simp (disch:=omega) only [push_cast,seval,hv,hl']))))


def fitB (b:Int) (sh st:List Int) (s:Int):Bool:=vV b sh st && (decide (0 ≤ s) && decide (s ≤ 60)) && allI (offs b sh st) 0 (s - 1)


theorem sfits_ok (b:Int) (sh st:List Int) (s:Int) (n m:Nat) (hn:sh.length=n) (hm:st.length=m) (hb:okV b sh st ∧ -1000000 ≤ s ∧ s ≤ 1000000):PCall Tryd.prog 57 [.agg [.int .i64 b,.rows false (IL sh) n,.rows false (IL st) m],.int .i64 s] (fun r=>r=.bool (allI (offs b sh st) 0 (s - 1))):=by
  subst hn hm
  obtain ⟨hok,hs1,hs2⟩:=hb
  have hol:=Bkz b sh st
  have hpb:=hok.1.2
  have hlb:(offs b sh st).length ≤ 1099511627776:=by omega
  refine A1z l57_eq rfl ?_
  (repeat' (first
 | (first|refine Ahz ?_|refine Abz ?_)
 | ((first|refine Aiz ?_);simp (disch:=omega) only [push_cast,seval,l57r0,l57r1])
 | ((first|refine Alz false ?_);simp (disch:=omega) only [push_cast,seval])
 | ((first|((first|refine Akz (Bjz _ _ _ _ _ ?_ ?_ ?_) ?_|refine Agz (Bjz _ _ _ _ _ ?_ ?_ ?_) ⟨_,_,rfl,rfl⟩ ?_);(iterate 3 (exact sd));rintro _ _ ⟨rfl,rfl⟩)|((first|refine Akz (Ajz (Bfz _ _ _ _ ?_ ?_)) ?_|refine Agz (Ajz (Bfz _ _ _ _ ?_ ?_)) ⟨_,_,rfl,rfl⟩ ?_);(iterate 2 (exact sd));rintro _ _ ⟨rfl,rfl⟩))<;>(try simp (disch:=omega) only [push_cast,seval]))
 | (refine Adz ⟨.inr rfl,_,rfl,?_⟩;(try simp (disch:=omega) only [push_cast,seval]))))

end Go.Proofs.YtfccepgibbdfaaaDoor
namespace Go.Proofs.YtfccepgibbdfaaaDoor
open VwM Vw Go
variable [PowA]

theorem F7z (xs ys:List Int) (n m:Nat) (hn:xs.length=n) (hm:ys.length=m) (hb:n ≤ 1099511627776 ∧ m ≤ 1099511627776):PCall Tryd.prog 87 [.rows false (IL xs) n,.rows false (IL ys) m] (fun r=>r=.bool (decide (xs=ys))):=by
  subst hn hm
  refine A1z l87_eq rfl ?_
  by_cases hl:xs.length=ys.length
  · have hl':(xs.length:Int)=ys.length:=by omega
    (repeat' (first
 | (first|refine Ahz ?_|refine Abz ?_)
 | ((first|refine Aiz ?_|refine Afz ?_|refine Aoz ?_);simp (disch:=omega) only [push_cast,seval,l87r0,l87r1,l87r2,l87r3,l87r4,l87r5a,l87r5b,l87r5,l87r6,l87r7,l87r8,hl'])
 | (refine Adz ⟨.inr rfl,_,rfl,?_⟩;(try simp (disch:=omega) only [push_cast,seval,hl']))))
    refine Bez (fun k:Nat=>mkS [(0,RI xs),(1,RI ys),(5,.int .i64 k)] []) (fun k=>k ≤ xs.length ∧ ∀ j:Nat,j < k → xs.getD j 0=ys.getD j 0) (fun k=>xs.length - k) 0 ⟨Nat.zero_le _,fun j h=>absurd h (Nat.not_lt_zero _)⟩ ?_ ?_
    · (refine Sub.of_lists ?_ ?_ ?_ ?_ ?_<;>simp [Vw.mkS,Vw.lk,Vw.hk,AV.inn,innL,Arz,Anz,Asz,-List.map_set,-List.getD_eq_getElem?_getD,hl])
    · rintro k ⟨hk,hj⟩
      by_cases hlt:k < xs.length
      · (repeat' (first
 | (first|refine Ahz ?_|refine Abz ?_)
 | ((first|refine Aiz ?_|refine Avz (mid:=l87r5a) (post:=l87r5b) Baz (by decide) ?_|refine Afz ?_|refine Aoz ?_);simp (disch:=omega) only [push_cast,seval,l87r0,l87r1,l87r2,l87r3,l87r4,l87r5a,l87r5b,l87r5,l87r6,l87r7,l87r8])
 | ((first|refine Amz (fun h=>?_) (fun h=>?_))<;>(try simp only [h])<;>(try simp only [bitvec_to_nat] at h)<;>(try simp only [h])<;>(first|(exfalso;omega)|(exfalso;simp_all;done)|(simp (disch:=omega) only [push_cast,seval])|skip))
 | (refine Adz ⟨.inr rfl,_,rfl,?_⟩;(try simp (disch:=omega) only [push_cast,seval]))))
        · simp;rintro rfl;exact absurd rfl ‹_›
        · refine ⟨k + 1,⟨by omega,fun j h=>?_⟩,by omega,?_⟩
          · by_cases hjk:j=k
            · subst hjk;assumption
            · exact hj j (by omega)
          · (refine Sub.of_lists ?_ ?_ ?_ ?_ ?_<;>simp [Vw.mkS,Vw.lk,Vw.hk,AV.inn,innL,Arz,Anz,Asz,-List.map_set,-List.getD_eq_getElem?_getD])
      · (repeat' (first
 | (first|refine Ahz ?_|refine Abz ?_)
 | ((first|refine Aiz ?_|refine Afz ?_|refine A7z ?_);simp (disch:=omega) only [push_cast,seval,l87r0,l87r1,l87r2,l87r3,l87r4,l87r5a,l87r5b,l87r5,l87r6,l87r7,l87r8])
 | ((first|refine Amz (fun h=>?_) (fun h=>?_))<;>(try simp only [h])<;>(try simp only [bitvec_to_nat] at h)<;>(try simp only [h])<;>(first|(exfalso;omega)|(exfalso;simp_all;done)|(simp (disch:=omega) only [push_cast,seval])|skip))
 | (refine Adz ⟨.inr rfl,_,rfl,?_⟩;(try simp (disch:=omega) only [push_cast,seval]))))
        have:xs=ys:=list_eq_of hl fun j h=>hj j (by omega)
        simp [this]
  · have hl':¬ (xs.length:Int)=ys.length:=by omega
    have:¬ xs=ys:=by rintro rfl;exact hl rfl
    (repeat' (first
 | (first|refine Ahz ?_|refine Abz ?_)
 | ((first|refine Aiz ?_|refine Afz ?_);simp (disch:=omega) only [push_cast,seval,l87r0,l87r1,l87r2,l87r3,l87r4,l87r5a,l87r5b,l87r5,l87r6,l87r7,l87r8,hl'])
 | (refine Adz ⟨.inr rfl,_,rfl,?_⟩;(try simp (disch:=omega) only [push_cast,seval,hl']))))
    simp [this]


end Go.Proofs.YtfccepgibbdfaaaDoor
namespace Go.Proofs.YtfccepgibbdfaaaDoor
open VwM Vw Go
variable [PowA]

end Go.Proofs.YtfccepgibbdfaaaDoor
