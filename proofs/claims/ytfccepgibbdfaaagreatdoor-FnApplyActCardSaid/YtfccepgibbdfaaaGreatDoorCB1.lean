/- Texts of this verifier. -/
import Derived.Test.YtfccepgibbdfaaaGreatDoorCLow
import Derived.Test.YtfccepgibbdfaaaGreatDoorCM1
set_option maxHeartbeats 4000000
set_option linter.unusedSimpArgs false
set_option linter.unusedSectionVars false
set_option linter.unusedVariables false
set_option maxRecDepth 4000
namespace Go.Proofs.YtfccepgibbdfaaaGreatDoor
open VwM Vw Go
variable [SentA]
variable [PowA]

theorem mixed:Tryz.prog.follows .mixedOrders=true:=by kernel_rfl


theorem Jhz (x l:Int)(h0:0≤l)(h1:l≤1000):PCall Tryz.prog 66 [.int .i64 x,.int .i64 l] (fun r=>r=.bool (decide (-l≤x)&&decide (x≤l))):=by
 refine Atz l66_eq rfl ?_
 (repeat' (first
 | (first|refine Afz ?_|refine Abz ?_)
 | ((first|refine Agz ?_);simp (disch:=omega) only [push_cast,seval])
 | ((first|refine A4z (fun h=>?_) (fun h=>?_))<;>(try simp only [h])<;>(try simp only [bitvec_to_nat] at h)<;>(try simp only [h])<;>(first|(exfalso;omega)|(exfalso;simp_all;done)|(simp (disch:=omega) only [push_cast,seval])|skip))
 | (refine Adz ⟨.inr rfl,_,rfl,?_⟩;(try simp (disch:=omega) only [push_cast,seval]))))
 all_goals (first|rfl|(simp_all;done)|(simp_all;omega)|(simp;omega)|(simp;grind)|(simp_all;grind)|skip)


theorem validStep_ok (x:Int):PCall Tryz.prog 144 [.int .i64 x] (fun r=>r=.bool (decide (-200≤x)&&decide (x≤200)&&!decide (x=0))):=by
 refine Atz l144_eq rfl ?_
 (repeat' ((first
 | (first|refine Afz ?_|refine Abz ?_)
 | (first|refine Agz ?_)
 | ((first|refine A4z (fun h=>?_) (fun h=>?_))<;>(try simp only [h])<;>(try simp only [bitvec_to_nat] at h)<;>(try simp only [h])<;>(first|(exfalso;omega)|(exfalso;simp_all;done)|skip))
 | (first|refine Ajz false ?_)
 | (first|(refine Aiz (Akz (Jhz _ _ ?_ ?_)) ?_;(iterate 2 (exact sd));rintro _ _ ⟨rfl,rfl⟩))
 | (refine Adz ⟨.inr rfl,_,rfl,?_⟩))<;>(try simp (disch:=omega) only [push_cast,seval])))
 all_goals (first|rfl|(simp_all;done)|(simp_all;omega)|(simp;omega)|(simp;grind)|(simp_all;grind)|skip)


theorem A1z (x l h:Int):PCall Tryz.prog 56 [.int .i64 x,.int .i64 l,.int .i64 h] (fun r=>r=.bool (decide (l≤x)&&decide (x≤h))):=by
 refine Atz l56_eq rfl ?_
 (repeat' (first
 | (first|refine Afz ?_|refine Abz ?_)
 | ((first|refine Agz ?_);simp (disch:=omega) only [push_cast,seval])
 | ((first|refine A4z (fun h=>?_) (fun h=>?_))<;>(try simp only [h])<;>(try simp only [bitvec_to_nat] at h)<;>(try simp only [h])<;>(first|(exfalso;omega)|(exfalso;simp_all;done)|(simp (disch:=omega) only [push_cast,seval])|skip))
 | (refine Adz ⟨.inr rfl,_,rfl,?_⟩;(try simp (disch:=omega) only [push_cast,seval]))))
 all_goals (first|rfl|(simp_all;done)|(simp_all;omega)|(simp;omega)|(simp;grind)|(simp_all;grind)|skip)


theorem validEnd_ok (x:Int)(g:Bool):PCall Tryz.prog 143 [.int .i64 x,.bool g] (fun r=>r=.bool (decide (-100≤x)&&decide (x≤100)&&(g || decide (x=0)))):=by
 refine Atz l143_eq rfl ?_
 (repeat' ((first
 | (first|refine Afz ?_|refine Abz ?_)
 | (first|refine Agz ?_)
 | ((first|refine A4z (fun h=>?_) (fun h=>?_))<;>(try simp only [h])<;>(try simp only [bitvec_to_nat] at h)<;>(try simp only [h])<;>(first|(exfalso;omega)|(exfalso;simp_all;done)|skip))
 | (first|refine Ajz false ?_)
 | (first|(refine Aiz (Akz (Jhz _ _ ?_ ?_)) ?_;(iterate 2 (exact sd));rintro _ _ ⟨rfl,rfl⟩))
 | (refine Adz ⟨.inr rfl,_,rfl,?_⟩))<;>(try simp (disch:=omega) only [push_cast,seval])))
 all_goals (first|rfl|(simp_all;done)|(simp_all;omega)|(simp;omega)|(simp;grind)|(simp_all;grind)|skip)


theorem Bmz (f t b:Int)(hf ht:Bool):PCall Tryz.prog 124 [slc f t b hf ht] (fun r=>r=.bool (vS f t b hf ht)):=by
 refine Atz l124_eq rfl ?_
 (repeat' ((first
 | (first|refine Afz ?_|refine Abz ?_)
 | (first|refine Agz ?_)
 | ((first|refine A4z (fun h=>?_) (fun h=>?_))<;>(try simp only [h])<;>(try simp only [bitvec_to_nat] at h)<;>(try simp only [h])<;>(first|(exfalso;omega)|(exfalso;simp_all;done)|skip))
 | (first|refine Ajz false ?_)
 | (first|(refine Aiz (Akz (validEnd_ok _ _)) ?_;rintro _ _ ⟨rfl,rfl⟩)|(refine Aiz (Akz (validStep_ok _)) ?_;rintro _ _ ⟨rfl,rfl⟩))
 | (refine Adz ⟨.inr rfl,_,rfl,?_⟩))<;>(try simp (disch:=omega) only [push_cast,seval])))
 all_goals (first|rfl|(simp_all [vS];done)|(simp_all [vS];omega)|(simp [vS];omega)|(simp [vS];grind)|(simp_all [vS];grind)|skip)


theorem G0z (f t b:Int)(hf ht:Bool):PCall Tryz.prog 137 [slc f t b hf ht] (fun r=>r=.bool (vS f t b hf ht)):=by
 refine Atz l137_eq rfl ?_
 (repeat' ((first
 | (first|refine Afz ?_|refine Abz ?_)
 | (first|refine Agz ?_)
 | ((first|refine A4z (fun h=>?_) (fun h=>?_))<;>(try simp only [h])<;>(try simp only [bitvec_to_nat] at h)<;>(try simp only [h])<;>(first|(exfalso;omega)|(exfalso;simp_all;done)|skip))
 | (first|refine Ajz false ?_)
 | (first|(refine Aiz (Akz (A1z _ _ _)) ?_;rintro _ _ ⟨rfl,rfl⟩))
 | (refine Adz ⟨.inr rfl,_,rfl,?_⟩))<;>(try simp (disch:=omega) only [push_cast,seval])))
 all_goals (first|rfl|(simp_all [vS];done)|(simp_all [vS];omega)|(simp [vS];omega)|(simp [vS];grind)|(simp_all [vS];grind)|skip)


theorem Caz (n:Int):PCall Tryz.prog 83 [.int .i64 n] (fun r=>r=.bool (decide (0≤n)&&decide (n≤60))):=by
 refine Atz l83_eq rfl ?_
 (repeat' (first
 | (first|refine Afz ?_|refine Abz ?_)
 | ((first|refine Agz ?_);simp (disch:=omega) only [push_cast,seval])
 | ((first|refine A4z (fun h=>?_) (fun h=>?_))<;>(try simp only [h])<;>(try simp only [bitvec_to_nat] at h)<;>(try simp only [h])<;>(first|(exfalso;omega)|(exfalso;simp_all;done)|(simp (disch:=omega) only [push_cast,seval])|skip))
 | (refine Adz ⟨.inr rfl,_,rfl,?_⟩;(try simp (disch:=omega) only [push_cast,seval]))))
 all_goals (first|rfl|(simp_all;done)|(simp_all;omega)|(simp;omega)|(simp;grind)|(simp_all;grind)|skip)


theorem Foz (xs:List Int)(n:Nat)(hn:xs.length=n)(hb:n≤1099511627776):BCall Tryz.prog 63 [.rows false (IL xs) n] [] (OI xs):=by
 subst hn
 refine Avz (pins:=[]) (pin:=0) l63_eq rfl rfl rfl ?_
 (repeat' (first
 | (first|refine Afz ?_|refine Abz ?_)
 | ((first|refine Agz ?_);simp (disch:=omega) only [push_cast,seval])
 | (refine Adz ⟨.inr rfl,[48],[],_,by decide,rfl,?_⟩;(try simp (disch:=omega) only [push_cast,seval,↓Ahz,↓Aez,↓List.map_cons,↓List.map_nil]);(first|done|(show AV.own _ _ _=_∧_)))
 | (refine Adz ⟨.inr rfl,[80],[],_,by decide,rfl,?_⟩;(try simp (disch:=omega) only [push_cast,seval,↓Ahz,↓Aez,↓List.map_cons,↓List.map_nil]);(first|done|(show AV.own _ _ _=_∧_)))))
 all_goals simp [OI]

end Go.Proofs.YtfccepgibbdfaaaGreatDoor
namespace Go.Proofs.YtfccepgibbdfaaaGreatDoor
open VwM Vw Go
variable [SentA]
variable [PowA]

theorem Ehz (a b c:Int)(hv:vR a b c=true):PCall Tryz.prog 128 [rng a b c] (fun r=>r=.int .i64 (cntI a b c)):=by
 obtain ⟨ha,hb,hc,h0⟩:=E7z.1 hv
 refine Atz l128_eq rfl ?_
 have hq1:c<0→¬ (0-(b-a)≤0)→0≤(0-(b-a)+(0-c)-1).tdiv (0-c)∧(0-(b-a)+(0-c)-1).tdiv (0-c)≤1000:=fun h1 h2=>by
  have:=Dhz (x:=0-(b-a)+(0-c)-1) (y:=0-c) (by omega) (by omega);omega
 have hq2:¬ c<0→¬ (b-a≤0)→0≤(b-a+c-1).tdiv c∧(b-a+c-1).tdiv c≤1000:=fun h1 h2=>by
  have:=Dhz (x:=b-a+c-1) (y:=c) (by omega) (by omega);omega
 unfold cntI
 by_cases h:c<0
 ·by_cases h1:0-(b-a)≤0
  ·(repeat' (first
 | (first|refine Afz ?_|refine Abz ?_)
 | ((first|refine Agz ?_|refine Arz (mid:=l128r1a) (post:=l128r1b) mixed (by decide) ?_|refine Acz ?_);simp (disch:=omega) only [push_cast,seval,h,h1])
 | (refine Adz ⟨.inr rfl,_,rfl,?_⟩;(try simp (disch:=omega) only [push_cast,seval,h,h1]))))
  ·have:=hq1 h h1
   (repeat' (first
 | (first|refine Afz ?_|refine Abz ?_)
 | ((first|refine Agz ?_|refine Arz (mid:=l128r1a) (post:=l128r1b) mixed (by decide) ?_|refine Acz ?_|refine Amz ?_);simp (disch:=omega) only [push_cast,seval,h,h1])
 | (refine Adz ⟨.inr rfl,_,rfl,?_⟩;(try simp (disch:=omega) only [push_cast,seval,h,h1]))))
 ·by_cases h1:b-a≤0
  ·(repeat' (first
 | (first|refine Afz ?_|refine Abz ?_)
 | ((first|refine Agz ?_|refine Arz (mid:=l128r1a) (post:=l128r1b) mixed (by decide) ?_|refine Acz ?_|refine Amz ?_);simp (disch:=omega) only [push_cast,seval,h,h1])
 | (refine Adz ⟨.inr rfl,_,rfl,?_⟩;(try simp (disch:=omega) only [push_cast,seval,h,h1]))))
  ·have:=hq2 h h1
   (repeat' (first
 | (first|refine Afz ?_|refine Abz ?_)
 | ((first|refine Agz ?_|refine Arz (mid:=l128r1a) (post:=l128r1b) mixed (by decide) ?_|refine Acz ?_|refine Amz ?_);simp (disch:=omega) only [push_cast,seval,h,h1])
 | (refine Adz ⟨.inr rfl,_,rfl,?_⟩;(try simp (disch:=omega) only [push_cast,seval,h,h1]))))


theorem Ccz (a b c:Int)(hv:vR a b c=true):BCall Tryz.prog 155 [rng a b c] [] (OI (nums a c (cntN a b c))):=by
 obtain ⟨ha,hb,hc,h0⟩:=E7z.1 hv
 refine Avz (pins:=[]) (pin:=0) l155_eq rfl rfl rfl ?_
 (repeat' (first
 | (first|refine Afz ?_|refine Abz ?_)
 | ((first|refine Agz ?_);simp (disch:=omega) only [push_cast,seval])
 | (refine Adz ⟨.inr rfl,[80],[],_,by decide,rfl,?_⟩;(try simp (disch:=omega) only [push_cast,seval,↓Ahz,↓Aez,↓List.map_cons,↓List.map_nil]);(first|done|(show AV.own _ _ _=_∧_)))
 | (refine Adz ⟨.inr rfl,[544],[],_,by decide,rfl,?_⟩;(try simp (disch:=omega) only [push_cast,seval,↓Ahz,↓Aez,↓List.map_cons,↓List.map_nil]);(first|done|(show AV.own _ _ _=_∧_)))
 | (refine Adz ⟨.inr rfl,[560],[],_,by decide,rfl,?_⟩;(try simp (disch:=omega) only [push_cast,seval,↓Ahz,↓Aez,↓List.map_cons,↓List.map_nil]);(first|done|(show AV.own _ _ _=_∧_)))))
 refine A5z (fun k:Nat=>mkS [(1,.ref 16 3 0),(4,.int .i64 (a+(k:Int)*c)),(3,.own 80 k 1)] [(16,[.int .i64 a,.int .i64 b,.int .i64 c]),(80,IL (nums a c k))])
  (fun k=>k≤cntN a b c) (fun k=>cntN a b c-k) 0 (Nat.zero_le _) ?_ ?_
 ·(refine Sub.of_lists ?_ ?_ ?_ ?_ ?_<;>simp [Vw.mkS,Vw.lk,Vw.hk,AV.inn,innL,Apz,Anz,Asz,-List.map_set,-List.getD_eq_getElem?_getD,nums])
 ·intro k hk
  have hb1:=next_bound hv hk
  have hb3:(cntN a b c:Int)≤500:=by rw [Klz hv];exact (cnt_bound hv).2
  have hiff:=cntN_lt hv k
  by_cases hlt:k<cntN a b c
  ·have hb2:=num_bound hv hlt
   rcases hiff.1 hlt with ⟨hp,ht⟩|⟨hp,ht⟩
   ·(repeat' (first
 | (first|refine Afz ?_|refine Abz ?_)
 | ((first|refine Agz ?_|refine Acz ?_|refine Amz ?_);simp (disch:=omega) only [push_cast,seval,hp,ht])
 | (refine Adz ⟨.inr rfl,[80],[],_,by decide,rfl,?_⟩;(try simp (disch:=omega) only [push_cast,seval,↓Ahz,↓Aez,↓List.map_cons,↓List.map_nil,hp,ht]);(first|done|(show AV.own _ _ _=_∧_)))
 | (refine Adz ⟨.inr rfl,[544],[],_,by decide,rfl,?_⟩;(try simp (disch:=omega) only [push_cast,seval,↓Ahz,↓Aez,↓List.map_cons,↓List.map_nil,hp,ht]);(first|done|(show AV.own _ _ _=_∧_)))
 | (refine Adz ⟨.inr rfl,[560],[],_,by decide,rfl,?_⟩;(try simp (disch:=omega) only [push_cast,seval,↓Ahz,↓Aez,↓List.map_cons,↓List.map_nil,hp,ht]);(first|done|(show AV.own _ _ _=_∧_)))))
    refine ⟨k+1,by omega,by omega,?_⟩
    (refine Sub.of_lists ?_ ?_ ?_ ?_ ?_<;>simp [Vw.mkS,Vw.lk,Vw.hk,AV.inn,innL,Apz,Anz,Asz,-List.map_set,-List.getD_eq_getElem?_getD,nums_succ,Int.add_mul,Int.add_assoc])
   ·have hn:¬ 0<c:=by omega
    (repeat' (first
 | (first|refine Afz ?_|refine Abz ?_)
 | ((first|refine Agz ?_|refine Acz ?_|refine Amz ?_);simp (disch:=omega) only [push_cast,seval,hp,hn,ht])
 | (refine Adz ⟨.inr rfl,[80],[],_,by decide,rfl,?_⟩;(try simp (disch:=omega) only [push_cast,seval,↓Ahz,↓Aez,↓List.map_cons,↓List.map_nil,hp,hn,ht]);(first|done|(show AV.own _ _ _=_∧_)))
 | (refine Adz ⟨.inr rfl,[544],[],_,by decide,rfl,?_⟩;(try simp (disch:=omega) only [push_cast,seval,↓Ahz,↓Aez,↓List.map_cons,↓List.map_nil,hp,hn,ht]);(first|done|(show AV.own _ _ _=_∧_)))
 | (refine Adz ⟨.inr rfl,[560],[],_,by decide,rfl,?_⟩;(try simp (disch:=omega) only [push_cast,seval,↓Ahz,↓Aez,↓List.map_cons,↓List.map_nil,hp,hn,ht]);(first|done|(show AV.own _ _ _=_∧_)))))
    refine ⟨k+1,by omega,by omega,?_⟩
    (refine Sub.of_lists ?_ ?_ ?_ ?_ ?_<;>simp [Vw.mkS,Vw.lk,Vw.hk,AV.inn,innL,Apz,Anz,Asz,-List.map_set,-List.getD_eq_getElem?_getD,nums_succ,Int.add_mul,Int.add_assoc])
  ·have hk':k=cntN a b c:=by omega
   have hno:=fun h=>hlt (hiff.2 h)
   by_cases hp:0<c
   ·have hn:¬ c<0:=by omega
    have ht:¬ a+(k:Int)*c<b:=fun h=>hno (.inl ⟨hp,h⟩)
    (repeat' (first
 | (first|refine Afz ?_|refine Abz ?_)
 | ((first|refine Agz ?_|refine Acz ?_|refine Azz ?_);simp (disch:=omega) only [push_cast,seval,hp,hn,ht])
 | (refine Adz ⟨.inr rfl,[80],[],_,by decide,rfl,?_⟩;(try simp (disch:=omega) only [push_cast,seval,↓Ahz,↓Aez,↓List.map_cons,↓List.map_nil,hp,hn,ht]);(first|done|(show AV.own _ _ _=_∧_)))
 | (refine Adz ⟨.inr rfl,[544],[],_,by decide,rfl,?_⟩;(try simp (disch:=omega) only [push_cast,seval,↓Ahz,↓Aez,↓List.map_cons,↓List.map_nil,hp,hn,ht]);(first|done|(show AV.own _ _ _=_∧_)))
 | (refine Adz ⟨.inr rfl,[560],[],_,by decide,rfl,?_⟩;(try simp (disch:=omega) only [push_cast,seval,↓Ahz,↓Aez,↓List.map_cons,↓List.map_nil,hp,hn,ht]);(first|done|(show AV.own _ _ _=_∧_)))))
    all_goals simp [← hk']
   ·have hn:c<0:=by omega
    have ht:¬ b<a+(k:Int)*c:=fun h=>hno (.inr ⟨hn,h⟩)
    (repeat' (first
 | (first|refine Afz ?_|refine Abz ?_)
 | ((first|refine Agz ?_|refine Acz ?_|refine Azz ?_);simp (disch:=omega) only [push_cast,seval,hp,hn,ht])
 | (refine Adz ⟨.inr rfl,[80],[],_,by decide,rfl,?_⟩;(try simp (disch:=omega) only [push_cast,seval,↓Ahz,↓Aez,↓List.map_cons,↓List.map_nil,hp,hn,ht]);(first|done|(show AV.own _ _ _=_∧_)))
 | (refine Adz ⟨.inr rfl,[544],[],_,by decide,rfl,?_⟩;(try simp (disch:=omega) only [push_cast,seval,↓Ahz,↓Aez,↓List.map_cons,↓List.map_nil,hp,hn,ht]);(first|done|(show AV.own _ _ _=_∧_)))
 | (refine Adz ⟨.inr rfl,[560],[],_,by decide,rfl,?_⟩;(try simp (disch:=omega) only [push_cast,seval,↓Ahz,↓Aez,↓List.map_cons,↓List.map_nil,hp,hn,ht]);(first|done|(show AV.own _ _ _=_∧_)))))
    all_goals simp [← hk']

end Go.Proofs.YtfccepgibbdfaaaGreatDoor
namespace Go.Proofs.YtfccepgibbdfaaaGreatDoor
open VwM Vw Go
variable [SentA]
variable [PowA]

theorem sbound_ok (n x b:Int)(hn:0≤n∧n≤60)(hx:-100≤x∧x≤100):PCall Tryz.prog 166 [.int .i64 n,.int .i64 x,.int .i64 b] (fun r=>r=.int .i64 (endI x n b)):=by
 refine Atz l166_eq rfl ?_
 unfold endI
 by_cases h:b<0
 ·by_cases h1:x<0
  ·(repeat' (first
 | (first|refine Afz ?_|refine Abz ?_)
 | ((first|refine Agz ?_|refine Acz ?_);simp (disch:=omega) only [push_cast,seval,h,h1])
 | (refine Adz ⟨.inr rfl,_,rfl,?_⟩;(try simp (disch:=omega) only [push_cast,seval,h,h1]))))
   all_goals (refine congrArg (AV.int _) ?_;omega)
  ·(repeat' (first
 | (first|refine Afz ?_|refine Abz ?_)
 | ((first|refine Agz ?_|refine Acz ?_|refine Amz ?_);simp (disch:=omega) only [push_cast,seval,h,h1])
 | (refine Adz ⟨.inr rfl,_,rfl,?_⟩;(try simp (disch:=omega) only [push_cast,seval,h,h1]))))
   all_goals (refine congrArg (AV.int _) ?_;omega)
 ·by_cases h1:x<0
  ·(repeat' (first
 | (first|refine Afz ?_|refine Abz ?_)
 | ((first|refine Agz ?_|refine Acz ?_|refine Amz ?_);simp (disch:=omega) only [push_cast,seval,h,h1])
 | (refine Adz ⟨.inr rfl,_,rfl,?_⟩;(try simp (disch:=omega) only [push_cast,seval,h,h1]))))
   all_goals (refine congrArg (AV.int _) ?_;omega)
  ·(repeat' (first
 | (first|refine Afz ?_|refine Abz ?_)
 | ((first|refine Agz ?_|refine Acz ?_|refine Amz ?_);simp (disch:=omega) only [push_cast,seval,h,h1])
 | (refine Adz ⟨.inr rfl,_,rfl,?_⟩;(try simp (disch:=omega) only [push_cast,seval,h,h1]))))
   all_goals (refine congrArg (AV.int _) ?_;omega)


theorem endOf_ok (x n l h:Int)(hn:0≤n∧n≤60)(hx:-100≤x∧x≤100):PCall Tryz.prog 145 [.int .i64 x,.int .i64 n,.int .i64 l,.int .i64 h] (fun r=>r=.int .i64 (min (max l (if x<0 then x+n else x)) h)):=by
 refine Atz l145_eq rfl ?_
 by_cases h1:x<0
 ·(repeat' (first
 | (first|refine Afz ?_|refine Abz ?_)
 | ((first|refine Agz ?_|refine Acz ?_);simp (disch:=omega) only [push_cast,seval,h1])
 | (refine Adz ⟨.inr rfl,_,rfl,?_⟩;(try simp (disch:=omega) only [push_cast,seval,h1]))))
  all_goals (first|rfl|(simp_all;done)|(simp_all;omega)|(simp;omega)|(simp;grind)|(simp_all;grind)|skip)
 ·(repeat' (first
 | (first|refine Afz ?_|refine Abz ?_)
 | ((first|refine Agz ?_|refine Acz ?_|refine Amz ?_);simp (disch:=omega) only [push_cast,seval,h1])
 | (refine Adz ⟨.inr rfl,_,rfl,?_⟩;(try simp (disch:=omega) only [push_cast,seval,h1]))))
  all_goals (first|rfl|(simp_all;done)|(simp_all;omega)|(simp;omega)|(simp;grind)|(simp_all;grind)|skip)


theorem F4z (f t b n:Int)(hf ht:Bool)(hn:0≤n∧n≤60)(hs:vS f t b hf ht=true):PCall Tryz.prog 125 [slc f t b hf ht,.int .i64 n] (fun r=>r=rng (sFrom f n b hf) (sTo t n b ht) b):=by
 obtain ⟨h1,h2,h3,h4,-,-⟩:=Iaz.1 hs
 refine Atz l125_eq rfl ?_
 unfold sFrom sTo endI
 by_cases h:b<0<;>cases hf<;>cases ht<;>simp only [h,Bool.false_eq_true,reduceIte,if_true,if_false]
 all_goals first | ((repeat' (first
 | (first|refine Afz ?_|refine Abz ?_)
 | ((first|refine Agz ?_|refine Acz ?_|refine Amz ?_);simp (disch:=omega) only [push_cast,seval,h])
 | ((first|refine Ajz false ?_);simp (disch:=omega) only [push_cast,seval,h])
 | ((first|(refine Aiz (Akz (endOf_ok _ _ _ _ ?_ ?_)) ?_;(iterate 2 (exact sd));rintro _ _ ⟨rfl,rfl⟩))<;>(try simp (disch:=omega) only [push_cast,seval,h]))
 | (refine Adz ⟨.inr rfl,_,rfl,?_⟩;(try simp (disch:=omega) only [push_cast,seval,h]))));done)|skip


theorem Coz (n f t b:Int)(hf ht:Bool)(hn:0≤n∧n≤60)(hs:vS f t b hf ht=true):BCall Tryz.prog 154 [.int .i64 n,slc f t b hf ht] [] (OI (nums (sFrom f n b hf) b (cntN (sFrom f n b hf) (sTo t n b ht) b))):=by
 obtain ⟨h1,h2,h3,h4,-,-⟩:=Iaz.1 hs
 have hv:=Giz hn hs
 refine Avz (pins:=[]) (pin:=0) l154_eq rfl rfl rfl ?_
 by_cases h:b<0<;>cases hf<;>cases ht<;>simp only [sFrom,sTo,h,if_true,if_false,Bool.false_eq_true,reduceIte] at hv ⊢
 all_goals (repeat' ((first
 | (first|refine Afz ?_|refine Abz ?_)
 | (first|refine Agz ?_|refine Acz ?_|refine Amz ?_)
 | (first|refine Ajz false ?_)
 | (first|(refine Aiz (Akz (sbound_ok _ _ _ ?_ ?_)) ?_;(iterate 2 (exact sd));rintro _ _ ⟨rfl,rfl⟩)|(refine Aiz (Ccz _ _ _ ?_) ?_;(exact sd);rintro _ _ ⟨rfl,rfl⟩))
 | (refine Adz ⟨.inr rfl,[320],[],_,by decide,rfl,?_⟩;(try simp (disch:=omega) only [push_cast,seval,↓Ahz,↓Aez,↓List.map_cons,↓List.map_nil,h]);(first|done|(show AV.own _ _ _=_∧_)))
 | (refine Adz ⟨.inr rfl,[448],[],_,by decide,rfl,?_⟩;(try simp (disch:=omega) only [push_cast,seval,↓Ahz,↓Aez,↓List.map_cons,↓List.map_nil,h]);(first|done|(show AV.own _ _ _=_∧_)))
 | (refine Adz ⟨.inr rfl,[544],[],_,by decide,rfl,?_⟩;(try simp (disch:=omega) only [push_cast,seval,↓Ahz,↓Aez,↓List.map_cons,↓List.map_nil,h]);(first|done|(show AV.own _ _ _=_∧_))))<;>(try simp (disch:=omega) only [push_cast,seval,h])))
 all_goals simp [OI]

end Go.Proofs.YtfccepgibbdfaaaGreatDoor
namespace Go.Proofs.YtfccepgibbdfaaaGreatDoor
open VwM Vw Go
variable [SentA]
variable [PowA]

theorem Bhz (a c:Int)(n:Nat)(hn:n≤1000)(hb:∀ i:Nat,i<n→-1000≤a+(i:Int)*c∧a+(i:Int)*c≤1000):PCall Tryz.prog 153 [.rows false (IL (nums a c n)) n] (fun r=>r=PR a c n):=by
 refine Atz l153_eq rfl ?_
 by_cases hz:n=0
 ·subst hz
  (repeat' (first
 | (first|refine Afz ?_|refine Abz ?_)
 | ((first|refine Agz ?_|refine Acz ?_);simp (disch:=omega) only [push_cast,seval,nums_zero])
 | (refine Adz ⟨.inr rfl,_,rfl,?_⟩;(try simp (disch:=omega) only [push_cast,seval,nums_zero]))))
  all_goals simp [pS,pE,pC]
 have b0:=hb 0 (by omega)
 simp only [Int.natCast_zero,Int.zero_mul,Int.add_zero] at b0
 have g0:(nums a c n).getD 0 0=a:=by rw [Jzz a c n 0 (by omega)];simp
 by_cases ho:n=1
 ·subst ho
  (repeat' (first
 | (first|refine Afz ?_|refine Abz ?_)
 | ((first|refine Agz ?_|refine Arz (mid:=l153r5a) (post:=l153r5b) mixed (by decide) ?_|refine Acz ?_);simp (disch:=omega) only [push_cast,seval,g0])
 | (refine Adz ⟨.inr rfl,_,rfl,?_⟩;(try simp (disch:=omega) only [push_cast,seval,g0]))))
  all_goals simp [pS,pE,pC]
 have b1:=hb 1 (by omega)
 simp only [Int.natCast_one,Int.one_mul] at b1
 have bl:=hb (n-1) (by omega)
 rw [show (((n-1:Nat):Nat):Int)=(n:Int)-1 by omega] at bl
 have ho':¬ (n:Int)=1:=by omega
 have hz':¬ (n:Int)=0:=by omega
 have g1:(nums a c n).getD 1 0=a+c:=by rw [Jzz a c n 1 (by omega)];simp
 have gl:(nums a c n).getD ((n:Int)-1).toNat 0=a+((n:Int)-1)*c:=by
  rw [Jzz a c n _ (by omega)]
  rw [show ((((n:Int)-1).toNat:Nat):Int)=(n:Int)-1 by omega]
 have hlen:0<n∧1<n:=by omega
 have e:a+c-a=c:=by omega
 have p1:¬ (n:Int)<1:=by omega
 have p2:¬ (n:Int)≤1:=by omega
 by_cases hc:c<0
 ·(repeat' (first
 | (first|refine Afz ?_|refine Abz ?_)
 | ((first|refine Agz ?_|refine Arz (mid:=l153r6a) (post:=l153r6b) mixed (by decide) ?_|refine Acz ?_|refine Amz ?_);simp (disch:=omega) only [push_cast,seval,g0,g1,gl,hlen,e,hz',ho',hc])
 | (refine Adz ⟨.inr rfl,_,rfl,?_⟩;(try simp (disch:=omega) only [push_cast,seval,g0,g1,gl,hlen,e,hz',ho',hc]))))
  all_goals simp [pS,pE,pC,p1,p2,ho',hc]
 ·(repeat' (first
 | (first|refine Afz ?_|refine Abz ?_)
 | ((first|refine Agz ?_|refine Arz (mid:=l153r6a) (post:=l153r6b) mixed (by decide) ?_|refine Acz ?_|refine Amz ?_);simp (disch:=omega) only [push_cast,seval,g0,g1,gl,hlen,e,hz',ho',hc])
 | (refine Adz ⟨.inr rfl,_,rfl,?_⟩;(try simp (disch:=omega) only [push_cast,seval,g0,g1,gl,hlen,e,hz',ho',hc]))))
  all_goals simp [pS,pE,pC,p1,p2,ho',hc]

end Go.Proofs.YtfccepgibbdfaaaGreatDoor
namespace Go.Proofs.YtfccepgibbdfaaaGreatDoor
open VwM Vw Go
variable [SentA]
variable [PowA]

end Go.Proofs.YtfccepgibbdfaaaGreatDoor
namespace Go.Proofs.YtfccepgibbdfaaaGreatDoor
open VwM Vw Go
variable [SentA]
variable [PowA]

theorem Dwz (x l:Int):PCall Tryz.prog 51 [.int .i64 x,.int .i64 l] (fun r=>r=.bool (decide (0≤x)&&decide (x≤l))):=by
 refine Atz l51_eq rfl ?_
 (repeat' (first
 | (first|refine Afz ?_|refine Abz ?_)
 | ((first|refine Agz ?_);simp (disch:=omega) only [push_cast,seval])
 | ((first|refine A4z (fun h=>?_) (fun h=>?_))<;>(try simp only [h])<;>(try simp only [bitvec_to_nat] at h)<;>(try simp only [h])<;>(first|(exfalso;omega)|(exfalso;simp_all;done)|(simp (disch:=omega) only [push_cast,seval])|skip))
 | (refine Adz ⟨.inr rfl,_,rfl,?_⟩;(try simp (disch:=omega) only [push_cast,seval]))))
 all_goals (first|rfl|(simp_all;done)|(simp_all;omega)|(simp;omega)|(simp;grind)|(simp_all;grind)|skip)


theorem K5z (xs:List Int)(n:Nat)(hn:xs.length=n)(hg:good4 xs):PCall Tryz.prog 113 [.rows false (IL xs) n] (fun r=>r=.int .i64 (pr xs)):=by
 subst hn
 have hl:=hg.2
 refine Atz l113_eq rfl ?_
 (repeat' (first
 | (first|refine Afz ?_|refine Abz ?_)
 | ((first|refine Agz ?_);simp (disch:=omega) only [push_cast,seval])
 | (refine Adz ⟨.inr rfl,_,rfl,?_⟩;(try simp (disch:=omega) only [push_cast,seval]))))
 refine A5z (fun k:Nat=>mkS [(3,.int .i64 (pr (xs.take k))),(6,RI xs),(7,.int .i64 xs.length),(8,.int .i64 k)] [])
  (fun k=>k≤xs.length) (fun k=>xs.length-k) 0 (Nat.zero_le _) ?_ ?_
 ·(refine Sub.of_lists ?_ ?_ ?_ ?_ ?_<;>simp [Vw.mkS,Vw.lk,Vw.hk,AV.inn,innL,Apz,Anz,Asz,-List.map_set,-List.getD_eq_getElem?_getD,pr_nil])
 ·intro k hk
  by_cases hlt:k<xs.length
  ·have h1:=Dmz (Imz hg (k+1))
   have h2:=Edz xs k hlt
   (repeat' (first
 | (first|refine Afz ?_|refine Abz ?_)
 | ((first|refine Agz ?_|refine Acz ?_|refine Amz ?_);simp (disch:=omega) only [push_cast,seval])
 | ((first|refine Alz (fun h=>?_) (fun h=>?_))<;>(try simp only [h])<;>(try simp only [bitvec_to_nat] at h)<;>(try simp only [h])<;>(first|(exfalso;omega)|(exfalso;simp_all;done)|(simp (disch:=omega) only [push_cast,seval])|skip))
 | (refine Adz ⟨.inr rfl,_,rfl,?_⟩;(try simp (disch:=omega) only [push_cast,seval]))))
   refine ⟨k+1,by omega,by omega,?_⟩
   (refine Sub.of_lists ?_ ?_ ?_ ?_ ?_<;>simp [Vw.mkS,Vw.lk,Vw.hk,AV.inn,innL,Apz,Anz,Asz,-List.map_set,-List.getD_eq_getElem?_getD,h2])
  ·(repeat' (first
 | (first|refine Afz ?_|refine Abz ?_)
 | ((first|refine Agz ?_|refine Acz ?_|refine Azz ?_);simp (disch:=omega) only [push_cast,seval])
 | ((first|refine Alz (fun h=>?_) (fun h=>?_))<;>(try simp only [h])<;>(try simp only [bitvec_to_nat] at h)<;>(try simp only [h])<;>(first|(exfalso;omega)|(exfalso;simp_all;done)|(simp (disch:=omega) only [push_cast,seval])|skip))
 | (refine Adz ⟨.inr rfl,_,rfl,?_⟩;(try simp (disch:=omega) only [push_cast,seval]))))
   rw [List.take_of_length_le (by omega)]


theorem Dqz (xs:List Int)(n:Nat)(hn:xs.length=n)(hg:good4 xs):PCall Tryz.prog 115 [.rows false (IL xs) n] (fun r=>r=.int .i64 (pr xs)):=by
 subst hn
 have hl:=hg.2
 refine Atz l115_eq rfl ?_
 (repeat' (first
 | (first|refine Afz ?_|refine Abz ?_)
 | ((first|refine Agz ?_);simp (disch:=omega) only [push_cast,seval])
 | (refine Adz ⟨.inr rfl,_,rfl,?_⟩;(try simp (disch:=omega) only [push_cast,seval]))))
 refine A5z (fun k:Nat=>mkS [(0,RI xs),(3,.int .i64 (pr (xs.take k))),(4,.int .i64 k)] [])
  (fun k=>k≤xs.length) (fun k=>xs.length-k) 0 (Nat.zero_le _) ?_ ?_
 ·(refine Sub.of_lists ?_ ?_ ?_ ?_ ?_<;>simp [Vw.mkS,Vw.lk,Vw.hk,AV.inn,innL,Apz,Anz,Asz,-List.map_set,-List.getD_eq_getElem?_getD,pr_nil])
 ·intro k hk
  by_cases hlt:k<xs.length
  ·have h1:=Dmz (Imz hg (k+1))
   have h2:=Edz xs k hlt
   (repeat' (first
 | (first|refine Afz ?_|refine Abz ?_)
 | ((first|refine Agz ?_|refine Acz ?_|refine Amz ?_);simp (disch:=omega) only [push_cast,seval])
 | ((first|refine Alz (fun h=>?_) (fun h=>?_))<;>(try simp only [h])<;>(try simp only [bitvec_to_nat] at h)<;>(try simp only [h])<;>(first|(exfalso;omega)|(exfalso;simp_all;done)|(simp (disch:=omega) only [push_cast,seval])|skip))
 | (refine Adz ⟨.inr rfl,_,rfl,?_⟩;(try simp (disch:=omega) only [push_cast,seval]))))
   refine ⟨k+1,by omega,by omega,?_⟩
   (refine Sub.of_lists ?_ ?_ ?_ ?_ ?_<;>simp [Vw.mkS,Vw.lk,Vw.hk,AV.inn,innL,Apz,Anz,Asz,-List.map_set,-List.getD_eq_getElem?_getD,h2])
  ·(repeat' (first
 | (first|refine Afz ?_|refine Abz ?_)
 | ((first|refine Agz ?_|refine Acz ?_|refine Azz ?_);simp (disch:=omega) only [push_cast,seval])
 | ((first|refine Alz (fun h=>?_) (fun h=>?_))<;>(try simp only [h])<;>(try simp only [bitvec_to_nat] at h)<;>(try simp only [h])<;>(first|(exfalso;omega)|(exfalso;simp_all;done)|(simp (disch:=omega) only [push_cast,seval])|skip))
 | (refine Adz ⟨.inr rfl,_,rfl,?_⟩;(try simp (disch:=omega) only [push_cast,seval]))))
   rw [List.take_of_length_le (by omega)]


theorem C1z (xs:List Int)(n:Nat)(l h:Int)(hn:xs.length=n)(hb:n≤1099511627776):PCall Tryz.prog 58 [.rows false (IL xs) n,.int .i64 l,.int .i64 h] (fun r=>r=.bool (allI xs l h)):=by
 subst hn
 refine Atz l58_eq rfl ?_
 (repeat' (first
 | (first|refine Afz ?_|refine Abz ?_)
 | ((first|refine Agz ?_);simp (disch:=omega) only [push_cast,seval])
 | (refine Adz ⟨.inr rfl,_,rfl,?_⟩;(try simp (disch:=omega) only [push_cast,seval]))))
 refine A5z (fun k:Nat=>mkS [(0,RI xs),(1,.int .i64 l),(2,.int .i64 h),(7,.int .i64 k)] []) (fun k=>k≤xs.length∧∀ j:Nat,j<k→l≤xs.getD j 0∧xs.getD j 0≤h) (fun k=>xs.length-k) 0 ⟨Nat.zero_le _,fun j h=>absurd h (Nat.not_lt_zero _)⟩ ?_ ?_
 ·(refine Sub.of_lists ?_ ?_ ?_ ?_ ?_<;>simp [Vw.mkS,Vw.lk,Vw.hk,AV.inn,innL,Apz,Anz,Asz,-List.map_set,-List.getD_eq_getElem?_getD])
 ·rintro k ⟨hk,hj⟩
  (repeat' ((first
 | (first|refine Afz ?_|refine Abz ?_)
 | (first|refine Agz ?_|refine Acz ?_|refine Amz ?_|refine Azz ?_)
 | ((first|refine Alz (fun h=>?_) (fun h=>?_))<;>(try simp only [h])<;>(try simp only [bitvec_to_nat] at h)<;>(try simp only [h])<;>(first|(exfalso;omega)|(exfalso;simp_all;done)|skip))
 | (first|refine Ajz false ?_)
 | (first|(refine Aiz (Akz (A1z _ _ _)) ?_;rintro _ _ ⟨rfl,rfl⟩))
 | (refine Adz ⟨.inr rfl,_,rfl,?_⟩))<;>(try simp (disch:=omega) only [push_cast,seval])))
  ·rw [E3z (j:=k) (by omega) (by assumption)]
  ·refine ⟨k+1,⟨by omega,fun j h=>?_⟩,by omega,?_⟩
   ·by_cases hjk:j=k
    ·subst hjk;assumption
    ·exact hj j (by omega)
   ·(refine Sub.of_lists ?_ ?_ ?_ ?_ ?_<;>simp [Vw.mkS,Vw.lk,Vw.hk,AV.inn,innL,Apz,Anz,Asz,-List.map_set,-List.getD_eq_getElem?_getD])
  ·rw [Gez fun j h=>hj j (by omega)]


theorem Czz (xs:List Int)(n:Nat)(hn:xs.length=n)(hb:n≤1099511627776):PCall Tryz.prog 88 [.rows false (IL xs) n] (fun r=>r=.bool (vSh xs)):=by
 subst hn
 refine Atz l88_eq rfl ?_
 (repeat' (first
 | (first|refine Afz ?_|refine Abz ?_)
 | ((first|refine Agz ?_|refine Acz ?_|refine Amz ?_);simp (disch:=omega) only [push_cast,seval])
 | ((first|refine Alz (fun h=>?_) (fun h=>?_))<;>(try simp only [h])<;>(try simp only [bitvec_to_nat] at h)<;>(try simp only [h])<;>(first|(exfalso;omega)|(exfalso;simp_all;done)|(simp (disch:=omega) only [push_cast,seval])|skip))
 | (refine Adz ⟨.inr rfl,_,rfl,?_⟩;(try simp (disch:=omega) only [push_cast,seval]))))
 ·have:¬ xs.length≤4:=by omega
  simp [vSh,this]
 have h4:xs.length≤4:=by omega
 refine A5z (fun k:Nat=>mkS [(0,RI xs),(8,RI xs),(9,.int .i64 xs.length),(10,.int .i64 k)] []) (fun k=>k≤xs.length∧∀ j:Nat,j<k→0≤xs.getD j 0∧xs.getD j 0≤60) (fun k=>xs.length-k) 0 ⟨Nat.zero_le _,fun j h=>absurd h (Nat.not_lt_zero _)⟩ ?_ ?_
 ·(refine Sub.of_lists ?_ ?_ ?_ ?_ ?_<;>simp [Vw.mkS,Vw.lk,Vw.hk,AV.inn,innL,Apz,Anz,Asz,-List.map_set,-List.getD_eq_getElem?_getD])
 ·rintro k ⟨hk,hj⟩
  by_cases hlt:k<xs.length
  ·(repeat' ((first
 | (first|refine Afz ?_|refine Abz ?_)
 | (first|refine Agz ?_|refine Acz ?_|refine Amz ?_)
 | ((first|refine Alz (fun h=>?_) (fun h=>?_))<;>(try simp only [h])<;>(try simp only [bitvec_to_nat] at h)<;>(try simp only [h])<;>(first|(exfalso;omega)|(exfalso;simp_all;done)|skip))
 | (first|refine Ajz false ?_)
 | (first|(refine Aiz (Akz (Dwz _ _)) ?_;rintro _ _ ⟨rfl,rfl⟩))
 | (refine Adz ⟨.inr rfl,_,rfl,?_⟩))<;>(try simp (disch:=omega) only [push_cast,seval])))
   ·have:allI xs 0 60=false:=E3z (j:=k) hlt (by assumption)
    simp [vSh,this]
   ·refine ⟨k+1,⟨by omega,fun j h=>?_⟩,by omega,?_⟩
    ·by_cases hjk:j=k
     ·subst hjk;assumption
     ·exact hj j (by omega)
    ·(refine Sub.of_lists ?_ ?_ ?_ ?_ ?_<;>simp [Vw.mkS,Vw.lk,Vw.hk,AV.inn,innL,Apz,Anz,Asz,-List.map_set,-List.getD_eq_getElem?_getD])
  ·have ha:allI xs 0 60=true:=Gez fun j h=>hj j (by omega)
   have hg:good4 xs:=⟨Cxz.1 ha,h4⟩
   (repeat' ((first
 | (first|refine Afz ?_|refine Abz ?_)
 | (first|refine Agz ?_|refine Acz ?_|refine Azz ?_)
 | ((first|refine Alz (fun h=>?_) (fun h=>?_))<;>(try simp only [h])<;>(try simp only [bitvec_to_nat] at h)<;>(try simp only [h])<;>(first|(exfalso;omega)|(exfalso;simp_all;done)|skip))
 | (first|refine Ajz false ?_)
 | (first|(refine Aiz (Akz (K5z _ _ ?_ ?_)) ?_;(iterate 2 (exact sd));rintro _ _ ⟨rfl,rfl⟩))
 | (refine Adz ⟨.inr rfl,_,rfl,?_⟩))<;>(try simp (disch:=omega) only [push_cast,seval])))
   simp [vSh,ha,h4]


theorem Cjz (xs:List Int)(n:Nat)(hn:xs.length=n)(hb:n≤1099511627776):PCall Tryz.prog 114 [.rows false (IL xs) n] (fun r=>r=.bool (vSh xs)):=by
 subst hn
 refine Atz l114_eq rfl ?_
 by_cases h4:xs.length≤4
 ·cases ha:allI xs 0 60 with
  | false =>
   (repeat' ((first
 | (first|refine Afz ?_|refine Abz ?_)
 | (first|refine Agz ?_)
 | ((first|refine A4z (fun h=>?_) (fun h=>?_))<;>(try simp only [h])<;>(try simp only [bitvec_to_nat] at h)<;>(try simp only [h])<;>(first|(exfalso;omega)|(exfalso;simp_all;done)|skip))
 | (first|refine Ajz false ?_)
 | (first|(refine Aiz (Akz (C1z _ _ _ _ ?_ ?_)) ?_;(iterate 2 (exact sd));rintro _ _ ⟨rfl,rfl⟩))
 | (refine Adz ⟨.inr rfl,_,rfl,?_⟩))<;>(try simp (disch:=omega) only [push_cast,seval,ha])))
   simp [vSh,ha]
  | true =>
   have hg:good4 xs:=⟨Cxz.1 ha,h4⟩
   (repeat' ((first
 | (first|refine Afz ?_|refine Abz ?_)
 | (first|refine Agz ?_)
 | ((first|refine A4z (fun h=>?_) (fun h=>?_))<;>(try simp only [h])<;>(try simp only [bitvec_to_nat] at h)<;>(try simp only [h])<;>(first|(exfalso;omega)|(exfalso;simp_all;done)|skip))
 | (first|refine Ajz false ?_)
 | (first|(refine Aiz (Akz (C1z _ _ _ _ ?_ ?_)) ?_;(iterate 2 (exact sd));rintro _ _ ⟨rfl,rfl⟩)|(refine Aiz (Akz (Dqz _ _ ?_ ?_)) ?_;(iterate 2 (exact sd));rintro _ _ ⟨rfl,rfl⟩))
 | (refine Adz ⟨.inr rfl,_,rfl,?_⟩))<;>(try simp (disch:=omega) only [push_cast,seval,ha])))
   simp [vSh,ha,h4]
 ·(repeat' (first
 | (first|refine Afz ?_|refine Abz ?_)
 | ((first|refine Agz ?_);simp (disch:=omega) only [push_cast,seval])
 | ((first|refine A4z (fun h=>?_) (fun h=>?_))<;>(try simp only [h])<;>(try simp only [bitvec_to_nat] at h)<;>(try simp only [h])<;>(first|(exfalso;omega)|(exfalso;simp_all;done)|(simp (disch:=omega) only [push_cast,seval])|skip))
 | (refine Adz ⟨.inr rfl,_,rfl,?_⟩;(try simp (disch:=omega) only [push_cast,seval]))))
  simp [vSh,h4]

end Go.Proofs.YtfccepgibbdfaaaGreatDoor
namespace Go.Proofs.YtfccepgibbdfaaaGreatDoor
open VwM Vw Go
variable [SentA]
variable [PowA]

theorem unrank_ok (xs:List Int)(n:Nat)(k:Int)(hn:xs.length=n)(hg:good4 xs∧0≤k∧k<pr xs):BCall Tryz.prog 122 [.rows false (IL xs) n,.int .i64 k] [] (OI (unr xs k)):=by
 subst hn
 obtain ⟨hg,hk0,hk1⟩:=hg
 have hl:=hg.2
 have hprb:=Dmz hg
 have hp:=D5z hg (by omega)
 refine Avz (pins:=[]) (pin:=0) l122_eq rfl rfl rfl ?_
 (repeat' (first
 | (first|refine Afz ?_|refine Abz ?_)
 | ((first|refine Agz ?_);simp (disch:=omega) only [push_cast,seval])
 | (refine Adz ⟨.inr rfl,[144],[],_,by decide,rfl,?_⟩;(try simp (disch:=omega) only [push_cast,seval,↓Ahz,↓Aez,↓List.map_cons,↓List.map_nil]);(first|done|(show AV.own _ _ _=_∧_)))))
 refine A5z (fun j:Nat=>mkS [(0,RI xs),(6,.int .i64 ((xs.length:Int)-1-(j:Int))),(1,.int .i64 (kS xs k j)),(5,.own 144 xs.length 1)] [(144,IL (filledD (dig xs k) xs.length j))])
  (fun j=>j≤xs.length) (fun j=>xs.length-j) 0 (Nat.zero_le _) ?_ ?_
 ·(refine Sub.of_lists ?_ ?_ ?_ ?_ ?_<;>simp [Vw.mkS,Vw.lk,Vw.hk,AV.inn,innL,Apz,Anz,Asz,-List.map_set,-List.getD_eq_getElem?_getD,filledD_zero,kS])
 ·intro j hj
  by_cases hlt:j<xs.length
  ·have e1:=down_nat xs.length j hlt
   have h1:=Gqz hk0 hp j hj
   have h2:=Gqz hk0 hp (j+1) hlt
   have h3:=hp (xs.length-1-j) (by omega)
   have h4:¬ xs.getD (xs.length-1-j) 0=0:=by omega
   simp only [kS] at h2
   have e3:=filledD_set (dig xs k) xs.length j hlt
   have e6:dig xs k (xs.length-1-j)=(kS xs k j).tmod (xs.getD (xs.length-1-j) 0):=by
    unfold dig
    rw [show xs.length-1-(xs.length-1-j)=j by omega]
   rw [e6] at e3
   (repeat' (first
 | (first|refine Afz ?_|refine Abz ?_)
 | ((first|refine Agz ?_|refine Acz ?_|refine Amz ?_);simp (disch:=omega) only [push_cast,seval,e1,h4])
 | ((first|refine Alz (fun h=>?_) (fun h=>?_))<;>(try simp only [h])<;>(try simp only [bitvec_to_nat] at h)<;>(try simp only [h])<;>(first|(exfalso;omega)|(exfalso;simp_all;done)|(simp (disch:=omega) only [push_cast,seval,e1,h4])|skip))
 | (refine Adz ⟨.inr rfl,[144],[],_,by decide,rfl,?_⟩;(try simp (disch:=omega) only [push_cast,seval,↓Ahz,↓Aez,↓List.map_cons,↓List.map_nil,e1,h4]);(first|done|(show AV.own _ _ _=_∧_)))))
   refine ⟨j+1,by omega,by omega,?_⟩
   have e4:(xs.length:Int)-1-((j:Int)+1)=(xs.length:Int)-1-(j:Int)-1:=by omega
   (refine Sub.of_lists ?_ ?_ ?_ ?_ ?_<;>simp [Vw.mkS,Vw.lk,Vw.hk,AV.inn,innL,Apz,Anz,Asz,-List.map_set,-List.getD_eq_getElem?_getD,A2z,e3,e4,kS])
  ·(repeat' (first
 | (first|refine Afz ?_|refine Abz ?_)
 | ((first|refine Agz ?_|refine Acz ?_|refine Azz ?_);simp (disch:=omega) only [push_cast,seval])
 | ((first|refine Alz (fun h=>?_) (fun h=>?_))<;>(try simp only [h])<;>(try simp only [bitvec_to_nat] at h)<;>(try simp only [h])<;>(first|(exfalso;omega)|(exfalso;simp_all;done)|(simp (disch:=omega) only [push_cast,seval])|skip))
 | (refine Adz ⟨.inr rfl,[144],[],_,by decide,rfl,?_⟩;(try simp (disch:=omega) only [push_cast,seval,↓Ahz,↓Aez,↓List.map_cons,↓List.map_nil]);(first|done|(show AV.own _ _ _=_∧_)))))
   have e:j=xs.length:=by omega
   rw [e,filledD_all]
   simp [OI,unr]


theorem placesAt_ok (xs:List Int)(n:Nat)(k:Int)(hn:xs.length=n)(hg:good4 xs∧0≤k∧k<pr xs):PCall Tryz.prog 159 [.rows false (IL xs) n,.int .i64 k] (fun r=>r=AP (digP xs k)):=by
 subst hn
 obtain ⟨hg,hk0,hk1⟩:=hg
 have hl:=hg.2
 have hprb:=Dmz hg
 have hp:=D5z hg (by omega)
 refine Atz l159_eq rfl ?_
 (repeat' (first
 | (first|refine Afz ?_|refine Abz ?_)
 | ((first|refine Agz ?_);simp (disch:=omega) only [push_cast,seval])
 | (refine Adz ⟨.inr rfl,_,rfl,?_⟩;(try simp (disch:=omega) only [push_cast,seval]))))
 refine A5z (fun j:Nat=>mkS [(0,RI xs),(4,.ref 64 4 0),(5,.ref 80 4 0),(6,.int .i64 ((xs.length:Int)-1-(j:Int))),(1,.int .i64 (kS xs k j))] [(64,IL (pad4 fun _=>0)),(80,IL (pad4 (padD xs k j)))])
  (fun j=>j≤xs.length) (fun j=>xs.length-j) 0 (Nat.zero_le _) ?_ ?_
 ·have e:pad4 (padD xs k 0)=pad4 fun _=>0:=Ihz fun i _=>by unfold padD;rw [if_neg (by omega)]
  rw [e]
  (refine Sub.of_lists ?_ ?_ ?_ ?_ ?_<;>simp [Vw.mkS,Vw.lk,Vw.hk,AV.inn,innL,Apz,Anz,Asz,-List.map_set,-List.getD_eq_getElem?_getD,pad4,kS])
 ·intro j hj
  by_cases hlt:j<xs.length
  ·have e1:=down_nat xs.length j hlt
   have h1:=Gqz hk0 hp j hj
   have h2:=Gqz hk0 hp (j+1) hlt
   have h3:=hp (xs.length-1-j) (by omega)
   have h4:¬ xs.getD (xs.length-1-j) 0=0:=by omega
   simp only [kS] at h2
   have e6:dig xs k (xs.length-1-j)=(kS xs k j).tmod (xs.getD (xs.length-1-j) 0):=by
    unfold dig
    rw [show xs.length-1-(xs.length-1-j)=j by omega]
   have e3:(pad4 (padD xs k j)).set (xs.length-1-j) ((kS xs k j).tmod (xs.getD (xs.length-1-j) 0))=pad4 (padD xs k (j+1)):=by
    rw [pad4_set _ _ _ (by omega),← e6]
    refine Ihz fun i hi=>?_
    unfold padD
    by_cases h:i=xs.length-1-j
    ·subst h;rw [if_pos rfl,if_pos (by omega)]
    ·rw [if_neg h]
     by_cases h5:i<xs.length∧xs.length-j≤i
     ·rw [if_pos h5,if_pos (by omega)]
     ·rw [if_neg h5,if_neg (by omega)]
   (repeat' (first
 | (first|refine Afz ?_|refine Abz ?_)
 | ((first|refine Agz ?_|refine Acz ?_|refine Amz ?_);simp (disch:=omega) only [push_cast,seval,e1,h4])
 | ((first|refine Alz (fun h=>?_) (fun h=>?_))<;>(try simp only [h])<;>(try simp only [bitvec_to_nat] at h)<;>(try simp only [h])<;>(first|(exfalso;omega)|(exfalso;simp_all;done)|(simp (disch:=omega) only [push_cast,seval,e1,h4])|skip))
 | (refine Adz ⟨.inr rfl,_,rfl,?_⟩;(try simp (disch:=omega) only [push_cast,seval,e1,h4]))))
   refine ⟨j+1,by omega,by omega,?_⟩
   have e4:(xs.length:Int)-1-((j:Int)+1)=(xs.length:Int)-1-(j:Int)-1:=by omega
   (refine Sub.of_lists ?_ ?_ ?_ ?_ ?_<;>simp [Vw.mkS,Vw.lk,Vw.hk,AV.inn,innL,Apz,Anz,Asz,-List.map_set,-List.getD_eq_getElem?_getD,A2z,e3,e4,kS])
  ·have e:j=xs.length:=by omega
   (repeat' (first
 | (first|refine Afz ?_|refine Abz ?_)
 | ((first|refine Agz ?_|refine Acz ?_|refine Azz ?_);simp (disch:=omega) only [push_cast,seval])
 | ((first|refine Alz (fun h=>?_) (fun h=>?_))<;>(try simp only [h])<;>(try simp only [bitvec_to_nat] at h)<;>(try simp only [h])<;>(first|(exfalso;omega)|(exfalso;simp_all;done)|(simp (disch:=omega) only [push_cast,seval])|skip))
 | (refine Adz ⟨.inr rfl,_,rfl,?_⟩;(try simp (disch:=omega) only [push_cast,seval]))))
   subst e
   have e2:pad4 (padD xs k xs.length)=pad4 (digP xs k):=Ihz fun i _=>by
    unfold digP padD
    by_cases h:i<xs.length
    ·rw [if_pos ⟨h,by omega⟩,if_pos h]
    ·rw [if_neg (fun hh=>h hh.1),if_neg h]
   rw [e2]


theorem Jez (xs:List Int)(n:Nat)(hn:xs.length=n)(hb:n≤1099511627776):BCall Tryz.prog 74 [.rows false (IL xs) n] [] (OI xs):=by
 subst hn
 refine Avz (pins:=[]) (pin:=0) l74_eq rfl rfl rfl ?_
 (repeat' (first
 | (first|refine Afz ?_|refine Abz ?_)
 | ((first|refine Agz ?_);simp (disch:=omega) only [push_cast,seval])
 | (refine Adz ⟨.inr rfl,[80],[],_,by decide,rfl,?_⟩;(try simp (disch:=omega) only [push_cast,seval,↓Ahz,↓Aez,↓List.map_cons,↓List.map_nil]);(first|done|(show AV.own _ _ _=_∧_)))
 | (refine Adz ⟨.inr rfl,[112],[],_,by decide,rfl,?_⟩;(try simp (disch:=omega) only [push_cast,seval,↓Ahz,↓Aez,↓List.map_cons,↓List.map_nil]);(first|done|(show AV.own _ _ _=_∧_)))))
 refine nil_split (fun h0=>?_) ?_
 ·(try simp (disch:=omega) only [push_cast,seval])
  (repeat' (first
 | (first|refine Afz ?_|refine Abz ?_)
 | ((first|refine Agz ?_|refine Acz ?_);simp (disch:=omega) only [push_cast,seval])
 | (refine Adz ⟨.inr rfl,[16000],[(16000,1)],_,by decide,rfl,?_⟩;(try simp (disch:=omega) only [push_cast,seval,↓Ahz,↓Aez,↓List.map_cons,↓List.map_nil]))))
  have:xs=[]:=List.eq_nil_of_length_eq_zero h0
  simp [OI,this]
 ·(try simp (disch:=omega) only [push_cast,seval])
  (repeat' (first
 | (first|refine Afz ?_|refine Abz ?_)
 | ((first|refine Agz ?_|refine Acz ?_|refine Amz ?_);simp (disch:=omega) only [push_cast,seval])
 | (refine Adz ⟨.inr rfl,[80],[],_,by decide,rfl,?_⟩;(try simp (disch:=omega) only [push_cast,seval,↓Ahz,↓Aez,↓List.map_cons,↓List.map_nil]);(first|done|(show AV.own _ _ _=_∧_)))
 | (refine Adz ⟨.inr rfl,[112],[],_,by decide,rfl,?_⟩;(try simp (disch:=omega) only [push_cast,seval,↓Ahz,↓Aez,↓List.map_cons,↓List.map_nil]);(first|done|(show AV.own _ _ _=_∧_)))))
  all_goals simp [OI]

end Go.Proofs.YtfccepgibbdfaaaGreatDoor
namespace Go.Proofs.YtfccepgibbdfaaaGreatDoor
open VwM Vw Go
variable [SentA]
variable [PowA]

theorem along_ok (f:Nat→Int)(st:List Int)(n:Nat)(hn:st.length=n)(hb:n≤4∧∀ i,i<n→(-60≤f i∧f i≤60)∧-12960000≤st.getD i 0∧st.getD i 0≤12960000):PCall Tryz.prog 167 [AP f,.rows false (IL st) n] (fun r=>r=.int .i64 (dot f st n)):=by
 subst hn
 obtain ⟨hl,hb⟩:=hb
 refine Atz l167_eq rfl ?_
 (repeat' (first
 | (first|refine Afz ?_|refine Abz ?_)
 | ((first|refine Agz ?_);simp (disch:=omega) only [push_cast,seval])
 | (refine Adz ⟨.inr rfl,_,rfl,?_⟩;(try simp (disch:=omega) only [push_cast,seval]))))
 refine A5z (fun k:Nat=>mkS [(2,.ref 32 4 0),(5,.int .i64 (dot f st k)),(8,RI st),(9,.int .i64 st.length),(10,.int .i64 k)] [(32,IL (pad4 f))]) (fun k=>k≤st.length) (fun k=>st.length-k) 0 (Nat.zero_le _) ?_ ?_
 ·(refine Sub.of_lists ?_ ?_ ?_ ?_ ?_<;>simp [Vw.mkS,Vw.lk,Vw.hk,AV.inn,innL,Apz,Anz,Asz,-List.map_set,-List.getD_eq_getElem?_getD,dot,pad4])
 ·intro k hk
  by_cases hlt:k<st.length
  ·have h1:=H5z (f:=f) (st:=st) (B:=60) (C:=12960000) k fun i hi=>hb i (by omega)
   have h2:=Fez (hb k hlt).1 (hb k hlt).2
   have h3:=pad4_getD f k (by omega)
   (repeat' (first
 | (first|refine Afz ?_|refine Abz ?_)
 | ((first|refine Agz ?_|refine Acz ?_|refine Amz ?_);simp (disch:=omega) only [push_cast,seval,h3])
 | ((first|refine Alz (fun h=>?_) (fun h=>?_))<;>(try simp only [h])<;>(try simp only [bitvec_to_nat] at h)<;>(try simp only [h])<;>(first|(exfalso;omega)|(exfalso;simp_all;done)|(simp (disch:=omega) only [push_cast,seval,h3])|skip))
 | (refine Adz ⟨.inr rfl,_,rfl,?_⟩;(try simp (disch:=omega) only [push_cast,seval,h3]))))
   refine ⟨k+1,by omega,by omega,?_⟩
   (refine Sub.of_lists ?_ ?_ ?_ ?_ ?_<;>simp [Vw.mkS,Vw.lk,Vw.hk,AV.inn,innL,Apz,Anz,Asz,-List.map_set,-List.getD_eq_getElem?_getD,dot])
  ·(repeat' (first
 | (first|refine Afz ?_|refine Abz ?_)
 | ((first|refine Agz ?_|refine Acz ?_|refine Azz ?_);simp (disch:=omega) only [push_cast,seval])
 | ((first|refine Alz (fun h=>?_) (fun h=>?_))<;>(try simp only [h])<;>(try simp only [bitvec_to_nat] at h)<;>(try simp only [h])<;>(first|(exfalso;omega)|(exfalso;simp_all;done)|(simp (disch:=omega) only [push_cast,seval])|skip))
 | (refine Adz ⟨.inr rfl,_,rfl,?_⟩;(try simp (disch:=omega) only [push_cast,seval]))))
   rw [show k=st.length by omega]

end Go.Proofs.YtfccepgibbdfaaaGreatDoor
namespace Go.Proofs.YtfccepgibbdfaaaGreatDoor
open VwM Vw Go
variable [SentA]
variable [PowA]

theorem C8z (b:Int)(sh:List Int)(n:Nat)(cs:List AV)(m:Nat)(fr:Bool)(hn:sh.length=n)(hg:good4 sh):PCall Tryz.prog 90 [.agg [.int .i64 b,.rows false (IL sh) n,.rows fr cs m]] (fun r=>r=.int .i64 (pr sh)):=by
 subst hn
 refine Atz l90_eq rfl ?_
 (repeat' ((first
 | (first|refine Afz ?_|refine Abz ?_)
 | (first|refine Agz ?_)
 | (first|refine Ajz false ?_)
 | (first|(refine Aiz (Akz (K5z _ _ ?_ ?_)) ?_;(iterate 2 (exact sd));rintro _ _ ⟨rfl,rfl⟩))
 | (refine Adz ⟨.inr rfl,_,rfl,?_⟩))<;>(try simp (disch:=omega) only [push_cast,seval])))

end Go.Proofs.YtfccepgibbdfaaaGreatDoor
