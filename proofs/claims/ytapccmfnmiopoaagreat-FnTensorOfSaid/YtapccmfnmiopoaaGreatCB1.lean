/- Texts of this verifier. -/
import Derived.Test.YtapccmfnmiopoaaGreatCLow
import Derived.Test.YtapccmfnmiopoaaGreatCM1
set_option maxHeartbeats 4000000
set_option linter.unusedSimpArgs false
set_option linter.unusedVariables false
set_option maxRecDepth 4000
namespace Go.Proofs.YtapccmfnmiopoaaGreat
open VwM Vw Go

theorem Bfz:Tryz.prog.follows .mixedOrders=true:=by kernel_rfl


theorem within_ok (x l:Int)(h0:0≤l)(h1:l≤1000):PCall Tryz.prog 50 [.int .i64 x,.int .i64 l] (fun r=>r=.bool (decide (-l≤x)&&decide (x≤l))):=by
 refine Axz l50_eq rfl ?_
 (repeat' (first
 | (first|refine Afz ?_|refine Aaz ?_)
 | ((first|refine Agz ?_);simp (disch:=omega) only [push_cast,seval])
 | ((first|refine Bgz (fun h=>?_) (fun h=>?_))<;>(try simp only [h])<;>(try simp only [bitvec_to_nat] at h)<;>(try simp only [h])<;>(first|(exfalso;omega)|(exfalso;simp_all;done)|(simp (disch:=omega) only [push_cast,seval])|skip))
 | (refine Acz ⟨.inr rfl,_,rfl,?_⟩;(try simp (disch:=omega) only [push_cast,seval]))))
 all_goals (first|rfl|(simp_all;done)|(simp_all;omega)|(simp;omega)|(simp;grind)|(simp_all;grind)|skip)


theorem Bvz (x l h:Int):PCall Tryz.prog 66 [.int .i64 x,.int .i64 l,.int .i64 h] (fun r=>r=.bool (decide (l≤x)&&decide (x≤h))):=by
 refine Axz l66_eq rfl ?_
 (repeat' (first
 | (first|refine Afz ?_|refine Aaz ?_)
 | ((first|refine Agz ?_);simp (disch:=omega) only [push_cast,seval])
 | ((first|refine Bgz (fun h=>?_) (fun h=>?_))<;>(try simp only [h])<;>(try simp only [bitvec_to_nat] at h)<;>(try simp only [h])<;>(first|(exfalso;omega)|(exfalso;simp_all;done)|(simp (disch:=omega) only [push_cast,seval])|skip))
 | (refine Acz ⟨.inr rfl,_,rfl,?_⟩;(try simp (disch:=omega) only [push_cast,seval]))))
 all_goals (first|rfl|(simp_all;done)|(simp_all;omega)|(simp;omega)|(simp;grind)|(simp_all;grind)|skip)


theorem Fjz (f t b:Int)(hf ht:Bool):PCall Tryz.prog 97 [slc f t b hf ht] (fun r=>r=.bool (vS f t b hf ht)):=by
 refine Axz l97_eq rfl ?_
 (repeat' ((first
 | (first|refine Afz ?_|refine Aaz ?_)
 | (first|refine Agz ?_)
 | ((first|refine Bgz (fun h=>?_) (fun h=>?_))<;>(try simp only [h])<;>(try simp only [bitvec_to_nat] at h)<;>(try simp only [h])<;>(first|(exfalso;omega)|(exfalso;simp_all;done)|skip))
 | (first|refine Anz false ?_)
 | (first|(refine Akz (Apz (Bvz _ _ _)) ?_;rintro _ _ ⟨rfl,rfl⟩))
 | (refine Acz ⟨.inr rfl,_,rfl,?_⟩))<;>(try simp (disch:=omega) only [push_cast,seval])))
 all_goals (first|rfl|(simp_all [vS];done)|(simp_all [vS];omega)|(simp [vS];omega)|(simp [vS];grind)|(simp_all [vS];grind)|skip)


theorem F8z (n:Int):PCall Tryz.prog 61 [.int .i64 n] (fun r=>r=.bool (decide (0≤n)&&decide (n≤60))):=by
 refine Axz l61_eq rfl ?_
 (repeat' (first
 | (first|refine Afz ?_|refine Aaz ?_)
 | ((first|refine Agz ?_);simp (disch:=omega) only [push_cast,seval])
 | ((first|refine Bgz (fun h=>?_) (fun h=>?_))<;>(try simp only [h])<;>(try simp only [bitvec_to_nat] at h)<;>(try simp only [h])<;>(first|(exfalso;omega)|(exfalso;simp_all;done)|(simp (disch:=omega) only [push_cast,seval])|skip))
 | (refine Acz ⟨.inr rfl,_,rfl,?_⟩;(try simp (disch:=omega) only [push_cast,seval]))))
 all_goals (first|rfl|(simp_all;done)|(simp_all;omega)|(simp;omega)|(simp;grind)|(simp_all;grind)|skip)


theorem Ctz (xs:List Int)(n:Nat)(hn:xs.length=n)(hb:n≤1099511627776):BCall Tryz.prog 20 [.rows false (IL xs) n] [] (OI xs):=by
 subst hn
 refine Awz (pins:=[]) (pin:=0) l20_eq rfl rfl rfl ?_
 (repeat' (first
 | (first|refine Afz ?_|refine Aaz ?_)
 | ((first|refine Agz ?_);simp (disch:=omega) only [push_cast,seval])
 | (refine Acz ⟨.inr rfl,[48],[],_,by decide,rfl,?_⟩;(try simp (disch:=omega) only [push_cast,seval,↓Adz,↓Abz,↓List.map_cons,↓List.map_nil]);(first|done|(show AV.own _ _ _=_∧_)))
 | (refine Acz ⟨.inr rfl,[80],[],_,by decide,rfl,?_⟩;(try simp (disch:=omega) only [push_cast,seval,↓Adz,↓Abz,↓List.map_cons,↓List.map_nil]);(first|done|(show AV.own _ _ _=_∧_)))))
 all_goals simp [OI]

end Go.Proofs.YtapccmfnmiopoaaGreat
namespace Go.Proofs.YtapccmfnmiopoaaGreat
open VwM Vw Go

theorem at_ok (a b c i:Int)(h1:-1000000≤a∧a≤1000000)(h2:-1000000000000≤i*c∧i*c≤1000000000000):PCall Tryz.prog 52 [rng a b c,.int .i64 i] (fun r=>r=.int .i64 (a+i*c)):=by
 refine Axz l52_eq rfl ?_
 (repeat' (first
 | (first|refine Afz ?_|refine Aaz ?_)
 | ((first|refine Agz ?_);simp (disch:=omega) only [push_cast,seval])
 | (refine Acz ⟨.inr rfl,_,rfl,?_⟩;(try simp (disch:=omega) only [push_cast,seval]))))


theorem count_ok (a b c:Int)(hv:vR a b c=true):PCall Tryz.prog 51 [rng a b c] (fun r=>r=.int .i64 (cntI a b c)):=by
 obtain ⟨ha,hb,hc,h0⟩:=Dez.1 hv
 refine Axz l51_eq rfl ?_
 have hq1:c<0→¬ (0-(b-a)≤0)→0≤(0-(b-a)+(0-c)-1).tdiv (0-c)∧(0-(b-a)+(0-c)-1).tdiv (0-c)≤1000:=fun h1 h2=>by
  have:=Cqz (x:=0-(b-a)+(0-c)-1) (y:=0-c) (by omega) (by omega);omega
 have hq2:¬ c<0→¬ (b-a≤0)→0≤(b-a+c-1).tdiv c∧(b-a+c-1).tdiv c≤1000:=fun h1 h2=>by
  have:=Cqz (x:=b-a+c-1) (y:=c) (by omega) (by omega);omega
 unfold cntI
 by_cases h:c<0
 ·by_cases h1:0-(b-a)≤0
  ·(repeat' (first
 | (first|refine Afz ?_|refine Aaz ?_)
 | ((first|refine Agz ?_|refine Auz (mid:=l51r1a) (post:=l51r1b) Bfz (by decide) ?_|refine Aez ?_);simp (disch:=omega) only [push_cast,seval,h,h1])
 | (refine Acz ⟨.inr rfl,_,rfl,?_⟩;(try simp (disch:=omega) only [push_cast,seval,h,h1]))))
  ·have:=hq1 h h1
   (repeat' (first
 | (first|refine Afz ?_|refine Aaz ?_)
 | ((first|refine Agz ?_|refine Auz (mid:=l51r1a) (post:=l51r1b) Bfz (by decide) ?_|refine Aez ?_|refine Aoz ?_);simp (disch:=omega) only [push_cast,seval,h,h1])
 | (refine Acz ⟨.inr rfl,_,rfl,?_⟩;(try simp (disch:=omega) only [push_cast,seval,h,h1]))))
 ·by_cases h1:b-a≤0
  ·(repeat' (first
 | (first|refine Afz ?_|refine Aaz ?_)
 | ((first|refine Agz ?_|refine Auz (mid:=l51r1a) (post:=l51r1b) Bfz (by decide) ?_|refine Aez ?_|refine Aoz ?_);simp (disch:=omega) only [push_cast,seval,h,h1])
 | (refine Acz ⟨.inr rfl,_,rfl,?_⟩;(try simp (disch:=omega) only [push_cast,seval,h,h1]))))
  ·have:=hq2 h h1
   (repeat' (first
 | (first|refine Afz ?_|refine Aaz ?_)
 | ((first|refine Agz ?_|refine Auz (mid:=l51r1a) (post:=l51r1b) Bfz (by decide) ?_|refine Aez ?_|refine Aoz ?_);simp (disch:=omega) only [push_cast,seval,h,h1])
 | (refine Acz ⟨.inr rfl,_,rfl,?_⟩;(try simp (disch:=omega) only [push_cast,seval,h,h1]))))


theorem Bzz (a b c:Int)(hv:vR a b c=true):BCall Tryz.prog 106 [rng a b c] [] (OI (nums a c (cntN a b c))):=by
 obtain ⟨ha,hb,hc,h0⟩:=Dez.1 hv
 refine Awz (pins:=[]) (pin:=0) l106_eq rfl rfl rfl ?_
 (repeat' (first
 | (first|refine Afz ?_|refine Aaz ?_)
 | ((first|refine Agz ?_);simp (disch:=omega) only [push_cast,seval])
 | (refine Acz ⟨.inr rfl,[80],[],_,by decide,rfl,?_⟩;(try simp (disch:=omega) only [push_cast,seval,↓Adz,↓Abz,↓List.map_cons,↓List.map_nil]);(first|done|(show AV.own _ _ _=_∧_)))
 | (refine Acz ⟨.inr rfl,[544],[],_,by decide,rfl,?_⟩;(try simp (disch:=omega) only [push_cast,seval,↓Adz,↓Abz,↓List.map_cons,↓List.map_nil]);(first|done|(show AV.own _ _ _=_∧_)))
 | (refine Acz ⟨.inr rfl,[560],[],_,by decide,rfl,?_⟩;(try simp (disch:=omega) only [push_cast,seval,↓Adz,↓Abz,↓List.map_cons,↓List.map_nil]);(first|done|(show AV.own _ _ _=_∧_)))))
 refine A0z (fun k:Nat=>mkS [(1,.ref 16 3 0),(4,.int .i64 (a+(k:Int)*c)),(3,.own 80 k 1)] [(16,[.int .i64 a,.int .i64 b,.int .i64 c]),(80,IL (nums a c k))])
  (fun k=>k≤cntN a b c) (fun k=>cntN a b c-k) 0 (Nat.zero_le _) ?_ ?_
 ·(refine Sub.of_lists ?_ ?_ ?_ ?_ ?_<;>simp [Vw.mkS,Vw.lk,Vw.hk,AV.inn,innL,Ajz,Ahz,Alz,-List.map_set,-List.getD_eq_getElem?_getD,nums])
 ·intro k hk
  have hb1:=Jxz hv hk
  have hb3:(cntN a b c:Int)≤500:=by rw [Izz hv];exact (Iyz hv).2
  have hiff:=cntN_lt hv k
  by_cases hlt:k<cntN a b c
  ·have hb2:=num_bound hv hlt
   rcases hiff.1 hlt with ⟨hp,ht⟩|⟨hp,ht⟩
   ·(repeat' (first
 | (first|refine Afz ?_|refine Aaz ?_)
 | ((first|refine Agz ?_|refine Aez ?_|refine Aoz ?_);simp (disch:=omega) only [push_cast,seval,hp,ht])
 | (refine Acz ⟨.inr rfl,[80],[],_,by decide,rfl,?_⟩;(try simp (disch:=omega) only [push_cast,seval,↓Adz,↓Abz,↓List.map_cons,↓List.map_nil,hp,ht]);(first|done|(show AV.own _ _ _=_∧_)))
 | (refine Acz ⟨.inr rfl,[544],[],_,by decide,rfl,?_⟩;(try simp (disch:=omega) only [push_cast,seval,↓Adz,↓Abz,↓List.map_cons,↓List.map_nil,hp,ht]);(first|done|(show AV.own _ _ _=_∧_)))
 | (refine Acz ⟨.inr rfl,[560],[],_,by decide,rfl,?_⟩;(try simp (disch:=omega) only [push_cast,seval,↓Adz,↓Abz,↓List.map_cons,↓List.map_nil,hp,ht]);(first|done|(show AV.own _ _ _=_∧_)))))
    refine ⟨k+1,by omega,by omega,?_⟩
    (refine Sub.of_lists ?_ ?_ ?_ ?_ ?_<;>simp [Vw.mkS,Vw.lk,Vw.hk,AV.inn,innL,Ajz,Ahz,Alz,-List.map_set,-List.getD_eq_getElem?_getD,Glz,Int.add_mul,Int.add_assoc])
   ·have hn:¬ 0<c:=by omega
    (repeat' (first
 | (first|refine Afz ?_|refine Aaz ?_)
 | ((first|refine Agz ?_|refine Aez ?_|refine Aoz ?_);simp (disch:=omega) only [push_cast,seval,hp,hn,ht])
 | (refine Acz ⟨.inr rfl,[80],[],_,by decide,rfl,?_⟩;(try simp (disch:=omega) only [push_cast,seval,↓Adz,↓Abz,↓List.map_cons,↓List.map_nil,hp,hn,ht]);(first|done|(show AV.own _ _ _=_∧_)))
 | (refine Acz ⟨.inr rfl,[544],[],_,by decide,rfl,?_⟩;(try simp (disch:=omega) only [push_cast,seval,↓Adz,↓Abz,↓List.map_cons,↓List.map_nil,hp,hn,ht]);(first|done|(show AV.own _ _ _=_∧_)))
 | (refine Acz ⟨.inr rfl,[560],[],_,by decide,rfl,?_⟩;(try simp (disch:=omega) only [push_cast,seval,↓Adz,↓Abz,↓List.map_cons,↓List.map_nil,hp,hn,ht]);(first|done|(show AV.own _ _ _=_∧_)))))
    refine ⟨k+1,by omega,by omega,?_⟩
    (refine Sub.of_lists ?_ ?_ ?_ ?_ ?_<;>simp [Vw.mkS,Vw.lk,Vw.hk,AV.inn,innL,Ajz,Ahz,Alz,-List.map_set,-List.getD_eq_getElem?_getD,Glz,Int.add_mul,Int.add_assoc])
  ·have hk':k=cntN a b c:=by omega
   have hno:=fun h=>hlt (hiff.2 h)
   by_cases hp:0<c
   ·have hn:¬ c<0:=by omega
    have ht:¬ a+(k:Int)*c<b:=fun h=>hno (.inl ⟨hp,h⟩)
    (repeat' (first
 | (first|refine Afz ?_|refine Aaz ?_)
 | ((first|refine Agz ?_|refine Aez ?_|refine Atz ?_);simp (disch:=omega) only [push_cast,seval,hp,hn,ht])
 | (refine Acz ⟨.inr rfl,[80],[],_,by decide,rfl,?_⟩;(try simp (disch:=omega) only [push_cast,seval,↓Adz,↓Abz,↓List.map_cons,↓List.map_nil,hp,hn,ht]);(first|done|(show AV.own _ _ _=_∧_)))
 | (refine Acz ⟨.inr rfl,[544],[],_,by decide,rfl,?_⟩;(try simp (disch:=omega) only [push_cast,seval,↓Adz,↓Abz,↓List.map_cons,↓List.map_nil,hp,hn,ht]);(first|done|(show AV.own _ _ _=_∧_)))
 | (refine Acz ⟨.inr rfl,[560],[],_,by decide,rfl,?_⟩;(try simp (disch:=omega) only [push_cast,seval,↓Adz,↓Abz,↓List.map_cons,↓List.map_nil,hp,hn,ht]);(first|done|(show AV.own _ _ _=_∧_)))))
    all_goals simp [← hk']
   ·have hn:c<0:=by omega
    have ht:¬ b<a+(k:Int)*c:=fun h=>hno (.inr ⟨hn,h⟩)
    (repeat' (first
 | (first|refine Afz ?_|refine Aaz ?_)
 | ((first|refine Agz ?_|refine Aez ?_|refine Atz ?_);simp (disch:=omega) only [push_cast,seval,hp,hn,ht])
 | (refine Acz ⟨.inr rfl,[80],[],_,by decide,rfl,?_⟩;(try simp (disch:=omega) only [push_cast,seval,↓Adz,↓Abz,↓List.map_cons,↓List.map_nil,hp,hn,ht]);(first|done|(show AV.own _ _ _=_∧_)))
 | (refine Acz ⟨.inr rfl,[544],[],_,by decide,rfl,?_⟩;(try simp (disch:=omega) only [push_cast,seval,↓Adz,↓Abz,↓List.map_cons,↓List.map_nil,hp,hn,ht]);(first|done|(show AV.own _ _ _=_∧_)))
 | (refine Acz ⟨.inr rfl,[560],[],_,by decide,rfl,?_⟩;(try simp (disch:=omega) only [push_cast,seval,↓Adz,↓Abz,↓List.map_cons,↓List.map_nil,hp,hn,ht]);(first|done|(show AV.own _ _ _=_∧_)))))
    all_goals simp [← hk']


theorem inumbers_ok (a b c:Int)(hv:vR a b c=true):BCall Tryz.prog 28 [rng a b c] [] (OI (nums a c (cntN a b c))):=by
 obtain ⟨ha,hb,hc,h0⟩:=Dez.1 hv
 have h2:=Izz hv
 have h3:=Iyz hv
 have h4:(cntI a b c).toNat=cntN a b c:=rfl
 refine Awz (pins:=[]) (pin:=0) l28_eq rfl rfl rfl ?_
 (repeat' ((first
 | (first|refine Afz ?_|refine Aaz ?_)
 | (first|refine Agz ?_)
 | (first|refine Anz false ?_)
 | (first|(refine Akz (Apz (count_ok _ _ _ ?_)) ?_;(exact sd);rintro _ _ ⟨rfl,rfl⟩))
 | (refine Acz ⟨.inr rfl,[96],[],_,by decide,rfl,?_⟩;(try simp (disch:=omega) only [push_cast,seval,↓Adz,↓Abz,↓List.map_cons,↓List.map_nil,h4]);(first|done|(show AV.own _ _ _=_∧_)))
 | (refine Acz ⟨.inr rfl,[112],[],_,by decide,rfl,?_⟩;(try simp (disch:=omega) only [push_cast,seval,↓Adz,↓Abz,↓List.map_cons,↓List.map_nil,h4]);(first|done|(show AV.own _ _ _=_∧_)))
 | (refine Acz ⟨.inr rfl,[272],[],_,by decide,rfl,?_⟩;(try simp (disch:=omega) only [push_cast,seval,↓Adz,↓Abz,↓List.map_cons,↓List.map_nil,h4]);(first|done|(show AV.own _ _ _=_∧_))))<;>(try simp (disch:=omega) only [push_cast,seval,h4])))
 refine A0z (fun k:Nat=>mkS [(1,.ref 16 3 0),(10,.int .i64 k),(9,.int .i64 (cntN a b c)),(3,.own 112 (cntN a b c) 1)] [(16,[.int .i64 a,.int .i64 b,.int .i64 c]),(112,IL (filled (fun i:Nat=>a+(i:Int)*c) (cntN a b c) k))])
  (fun k=>k≤cntN a b c) (fun k=>cntN a b c-k) 0 (Nat.zero_le _) ?_ ?_
 ·(refine Sub.of_lists ?_ ?_ ?_ ?_ ?_<;>simp [Vw.mkS,Vw.lk,Vw.hk,AV.inn,innL,Ajz,Ahz,Alz,-List.map_set,-List.getD_eq_getElem?_getD,Dcz])
 ·intro k hk
  have hb1:=Jxz hv hk
  (repeat' ((first
 | (first|refine Afz ?_|refine Aaz ?_)
 | (first|refine Agz ?_|refine Aez ?_|refine Aoz ?_|refine Atz ?_)
 | ((first|refine Aiz (fun h=>?_) (fun h=>?_))<;>(try simp only [h])<;>(try simp only [bitvec_to_nat] at h)<;>(try simp only [h])<;>(first|(exfalso;omega)|(exfalso;simp_all;done)|skip))
 | (first|refine Anz false ?_)
 | (first|(refine Akz (Apz (at_ok _ _ _ _ ?_ ?_)) ?_;(iterate 2 (exact sd));rintro _ _ ⟨rfl,rfl⟩))
 | (refine Acz ⟨.inr rfl,[96],[],_,by decide,rfl,?_⟩;(try simp (disch:=omega) only [push_cast,seval,↓Adz,↓Abz,↓List.map_cons,↓List.map_nil,h4]);(first|done|(show AV.own _ _ _=_∧_)))
 | (refine Acz ⟨.inr rfl,[112],[],_,by decide,rfl,?_⟩;(try simp (disch:=omega) only [push_cast,seval,↓Adz,↓Abz,↓List.map_cons,↓List.map_nil,h4]);(first|done|(show AV.own _ _ _=_∧_)))
 | (refine Acz ⟨.inr rfl,[272],[],_,by decide,rfl,?_⟩;(try simp (disch:=omega) only [push_cast,seval,↓Adz,↓Abz,↓List.map_cons,↓List.map_nil,h4]);(first|done|(show AV.own _ _ _=_∧_))))<;>(try simp (disch:=omega) only [push_cast,seval,h4])))
  ·refine ⟨k+1,by omega,by omega,?_⟩
   have e:=C4z (fun i:Nat=>a+(i:Int)*c) (cntN a b c) k (by omega)
   (refine Sub.of_lists ?_ ?_ ?_ ?_ ?_<;>simp [Vw.mkS,Vw.lk,Vw.hk,AV.inn,innL,Ajz,Ahz,Alz,-List.map_set,-List.getD_eq_getElem?_getD,Ayz,e])
  ·have e:k=cntN a b c:=by omega
   rw [e,Ffz]
   simp [nums]

end Go.Proofs.YtapccmfnmiopoaaGreat
namespace Go.Proofs.YtapccmfnmiopoaaGreat
open VwM Vw Go

theorem sbound_ok (n x b:Int)(hn:0≤n∧n≤60)(hx:-100≤x∧x≤100):PCall Tryz.prog 109 [.int .i64 n,.int .i64 x,.int .i64 b] (fun r=>r=.int .i64 (endI x n b)):=by
 refine Axz l109_eq rfl ?_
 unfold endI
 by_cases h:b<0
 ·by_cases h1:x<0
  ·(repeat' (first
 | (first|refine Afz ?_|refine Aaz ?_)
 | ((first|refine Agz ?_|refine Aez ?_);simp (disch:=omega) only [push_cast,seval,h,h1])
 | (refine Acz ⟨.inr rfl,_,rfl,?_⟩;(try simp (disch:=omega) only [push_cast,seval,h,h1]))))
   all_goals (refine congrArg (AV.int _) ?_;omega)
  ·(repeat' (first
 | (first|refine Afz ?_|refine Aaz ?_)
 | ((first|refine Agz ?_|refine Aez ?_|refine Aoz ?_);simp (disch:=omega) only [push_cast,seval,h,h1])
 | (refine Acz ⟨.inr rfl,_,rfl,?_⟩;(try simp (disch:=omega) only [push_cast,seval,h,h1]))))
   all_goals (refine congrArg (AV.int _) ?_;omega)
 ·by_cases h1:x<0
  ·(repeat' (first
 | (first|refine Afz ?_|refine Aaz ?_)
 | ((first|refine Agz ?_|refine Aez ?_|refine Aoz ?_);simp (disch:=omega) only [push_cast,seval,h,h1])
 | (refine Acz ⟨.inr rfl,_,rfl,?_⟩;(try simp (disch:=omega) only [push_cast,seval,h,h1]))))
   all_goals (refine congrArg (AV.int _) ?_;omega)
  ·(repeat' (first
 | (first|refine Afz ?_|refine Aaz ?_)
 | ((first|refine Agz ?_|refine Aez ?_|refine Aoz ?_);simp (disch:=omega) only [push_cast,seval,h,h1])
 | (refine Acz ⟨.inr rfl,_,rfl,?_⟩;(try simp (disch:=omega) only [push_cast,seval,h,h1]))))
   all_goals (refine congrArg (AV.int _) ?_;omega)


theorem B4z (n f t b:Int)(hf ht:Bool)(hn:0≤n∧n≤60)(hs:vS f t b hf ht=true):BCall Tryz.prog 105 [.int .i64 n,slc f t b hf ht] [] (OI (nums (sFrom f n b hf) b (cntN (sFrom f n b hf) (sTo t n b ht) b))):=by
 obtain ⟨h1,h2,h3,h4,-,-⟩:=Kez.1 hs
 have hv:=Jvz hn hs
 refine Awz (pins:=[]) (pin:=0) l105_eq rfl rfl rfl ?_
 by_cases h:b<0<;>cases hf<;>cases ht<;>simp only [sFrom,sTo,h,if_true,if_false,Bool.false_eq_true,reduceIte] at hv ⊢
 all_goals (repeat' ((first
 | (first|refine Afz ?_|refine Aaz ?_)
 | (first|refine Agz ?_|refine Aez ?_|refine Aoz ?_)
 | (first|refine Anz false ?_)
 | (first|(refine Akz (Apz (sbound_ok _ _ _ ?_ ?_)) ?_;(iterate 2 (exact sd));rintro _ _ ⟨rfl,rfl⟩)|(refine Akz (Bzz _ _ _ ?_) ?_;(exact sd);rintro _ _ ⟨rfl,rfl⟩))
 | (refine Acz ⟨.inr rfl,[320],[],_,by decide,rfl,?_⟩;(try simp (disch:=omega) only [push_cast,seval,↓Adz,↓Abz,↓List.map_cons,↓List.map_nil,h]);(first|done|(show AV.own _ _ _=_∧_)))
 | (refine Acz ⟨.inr rfl,[448],[],_,by decide,rfl,?_⟩;(try simp (disch:=omega) only [push_cast,seval,↓Adz,↓Abz,↓List.map_cons,↓List.map_nil,h]);(first|done|(show AV.own _ _ _=_∧_)))
 | (refine Acz ⟨.inr rfl,[544],[],_,by decide,rfl,?_⟩;(try simp (disch:=omega) only [push_cast,seval,↓Adz,↓Abz,↓List.map_cons,↓List.map_nil,h]);(first|done|(show AV.own _ _ _=_∧_))))<;>(try simp (disch:=omega) only [push_cast,seval,h])))
 all_goals simp [OI]

end Go.Proofs.YtapccmfnmiopoaaGreat
namespace Go.Proofs.YtapccmfnmiopoaaGreat
open VwM Vw Go

theorem Jaz (a c k:Int)(h1:-100000≤a∧a≤100000∧-100000≤c∧c≤100000∧-1000≤k∧k≤1000)(h2:1≤k→-1000000≤(k-1)*c∧(k-1)*c≤1000000):PCall Tryz.prog 27 [.int .i64 a,.int .i64 c,.int .i64 k] (fun r=>r=PR a c k):=by
 obtain ⟨h3,h4,h5,h6,h7,h8⟩:=h1
 refine Axz l27_eq rfl ?_
 by_cases g1:k<1
 ·(repeat' (first
 | (first|refine Afz ?_|refine Aaz ?_)
 | ((first|refine Agz ?_|refine Aez ?_);simp (disch:=omega) only [push_cast,seval,g1])
 | (refine Acz ⟨.inr rfl,_,rfl,?_⟩;(try simp (disch:=omega) only [push_cast,seval,g1]))))
  all_goals (have:k≤1:=by omega);simp [pS,pE,pC,g1,this]
 ·have h2:=h2 (by omega)
  by_cases g2:k=1
  ·subst g2
   (repeat' (first
 | (first|refine Afz ?_|refine Aaz ?_)
 | ((first|refine Agz ?_|refine Aez ?_|refine Aoz ?_);simp (disch:=omega) only [push_cast,seval])
 | (refine Acz ⟨.inr rfl,_,rfl,?_⟩;(try simp (disch:=omega) only [push_cast,seval]))))
   all_goals simp [pS,pE,pC]
  ·have g3:¬ k≤1:=by omega
   by_cases g4:c<0
   ·(repeat' (first
 | (first|refine Afz ?_|refine Aaz ?_)
 | ((first|refine Agz ?_|refine Aez ?_|refine Aoz ?_);simp (disch:=omega) only [push_cast,seval,g1,g2,g4])
 | (refine Acz ⟨.inr rfl,_,rfl,?_⟩;(try simp (disch:=omega) only [push_cast,seval,g1,g2,g4]))))
    all_goals simp [pS,pE,pC,g1,g2,g3,g4]
   ·(repeat' (first
 | (first|refine Afz ?_|refine Aaz ?_)
 | ((first|refine Agz ?_|refine Aez ?_|refine Aoz ?_);simp (disch:=omega) only [push_cast,seval,g1,g2,g4])
 | (refine Acz ⟨.inr rfl,_,rfl,?_⟩;(try simp (disch:=omega) only [push_cast,seval,g1,g2,g4]))))
    all_goals simp [pS,pE,pC,g1,g2,g3,g4]


theorem Bkz (a c:Int)(n:Nat)(hn:n≤1000)(hb:∀ i:Nat,i<n→-1000≤a+(i:Int)*c∧a+(i:Int)*c≤1000):PCall Tryz.prog 104 [.rows false (IL (nums a c n)) n] (fun r=>r=PR a c n):=by
 refine Axz l104_eq rfl ?_
 by_cases hz:n=0
 ·subst hz
  (repeat' (first
 | (first|refine Afz ?_|refine Aaz ?_)
 | ((first|refine Agz ?_|refine Aez ?_);simp (disch:=omega) only [push_cast,seval,Gkz])
 | (refine Acz ⟨.inr rfl,_,rfl,?_⟩;(try simp (disch:=omega) only [push_cast,seval,Gkz]))))
  all_goals simp [pS,pE,pC]
 have b0:=hb 0 (by omega)
 simp only [Int.natCast_zero,Int.zero_mul,Int.add_zero] at b0
 have g0:(nums a c n).getD 0 0=a:=by rw [B6z a c n 0 (by omega)];simp
 by_cases ho:n=1
 ·subst ho
  (repeat' (first
 | (first|refine Afz ?_|refine Aaz ?_)
 | ((first|refine Agz ?_|refine Auz (mid:=l104r5a) (post:=l104r5b) Bfz (by decide) ?_|refine Aez ?_);simp (disch:=omega) only [push_cast,seval,g0])
 | (refine Acz ⟨.inr rfl,_,rfl,?_⟩;(try simp (disch:=omega) only [push_cast,seval,g0]))))
  all_goals simp [pS,pE,pC]
 have b1:=hb 1 (by omega)
 simp only [Int.natCast_one,Int.one_mul] at b1
 have bl:=hb (n-1) (by omega)
 rw [show (((n-1:Nat):Nat):Int)=(n:Int)-1 by omega] at bl
 have ho':¬ (n:Int)=1:=by omega
 have hz':¬ (n:Int)=0:=by omega
 have g1:(nums a c n).getD 1 0=a+c:=by rw [B6z a c n 1 (by omega)];simp
 have gl:(nums a c n).getD ((n:Int)-1).toNat 0=a+((n:Int)-1)*c:=by
  rw [B6z a c n _ (by omega)]
  rw [show ((((n:Int)-1).toNat:Nat):Int)=(n:Int)-1 by omega]
 have hlen:0<n∧1<n:=by omega
 have e:a+c-a=c:=by omega
 have p1:¬ (n:Int)<1:=by omega
 have p2:¬ (n:Int)≤1:=by omega
 by_cases hc:c<0
 ·(repeat' (first
 | (first|refine Afz ?_|refine Aaz ?_)
 | ((first|refine Agz ?_|refine Auz (mid:=l104r6a) (post:=l104r6b) Bfz (by decide) ?_|refine Aez ?_|refine Aoz ?_);simp (disch:=omega) only [push_cast,seval,g0,g1,gl,hlen,e,hz',ho',hc])
 | (refine Acz ⟨.inr rfl,_,rfl,?_⟩;(try simp (disch:=omega) only [push_cast,seval,g0,g1,gl,hlen,e,hz',ho',hc]))))
  all_goals simp [pS,pE,pC,p1,p2,ho',hc]
 ·(repeat' (first
 | (first|refine Afz ?_|refine Aaz ?_)
 | ((first|refine Agz ?_|refine Auz (mid:=l104r6a) (post:=l104r6b) Bfz (by decide) ?_|refine Aez ?_|refine Aoz ?_);simp (disch:=omega) only [push_cast,seval,g0,g1,gl,hlen,e,hz',ho',hc])
 | (refine Acz ⟨.inr rfl,_,rfl,?_⟩;(try simp (disch:=omega) only [push_cast,seval,g0,g1,gl,hlen,e,hz',ho',hc]))))
  all_goals simp [pS,pE,pC,p1,p2,ho',hc]

end Go.Proofs.YtapccmfnmiopoaaGreat
namespace Go.Proofs.YtapccmfnmiopoaaGreat
open VwM Vw Go

theorem Jtz (xs:List Int)(n:Nat)(x:Int)(hn:xs.length=n)(hb:n≤1099511627776):PCall Tryz.prog 110 [.rows false (IL xs) n,.int .i64 x] (fun r=>r=.int .i64 (placeI xs x)):=by
 subst hn
 refine Axz l110_eq rfl ?_
 (repeat' (first
 | (first|refine Afz ?_|refine Aaz ?_)
 | ((first|refine Agz ?_);simp (disch:=omega) only [push_cast,seval])
 | (refine Acz ⟨.inr rfl,_,rfl,?_⟩;(try simp (disch:=omega) only [push_cast,seval]))))
 refine A0z (fun k:Nat=>mkS [(0,RI xs),(1,.int .i64 x),(5,.int .i64 k)] []) (fun k=>k≤xs.length∧∀ j:Nat,j<k→xs.getD j 0≠x) (fun k=>xs.length-k) 0 ⟨Nat.zero_le _,fun j h=>absurd h (Nat.not_lt_zero _)⟩ ?_ ?_
 ·(refine Sub.of_lists ?_ ?_ ?_ ?_ ?_<;>simp [Vw.mkS,Vw.lk,Vw.hk,AV.inn,innL,Ajz,Ahz,Alz,-List.map_set,-List.getD_eq_getElem?_getD])
 ·rintro k ⟨hk,hj⟩
  (repeat' (first
 | (first|refine Afz ?_|refine Aaz ?_)
 | ((first|refine Agz ?_|refine Aez ?_|refine Aoz ?_|refine Atz ?_);simp (disch:=omega) only [push_cast,seval])
 | ((first|refine Aiz (fun h=>?_) (fun h=>?_))<;>(try simp only [h])<;>(try simp only [bitvec_to_nat] at h)<;>(try simp only [h])<;>(first|(exfalso;omega)|(exfalso;simp_all;done)|(simp (disch:=omega) only [push_cast,seval])|skip))
 | (refine Acz ⟨.inr rfl,_,rfl,?_⟩;(try simp (disch:=omega) only [push_cast,seval]))))
  ·rw [H7z (j:=k) (by omega) (by assumption) hj]
  ·refine ⟨k+1,⟨by omega,fun j h=>?_⟩,by omega,?_⟩
   ·by_cases hjk:j=k
    ·subst hjk;assumption
    ·exact hj j (by omega)
   ·(refine Sub.of_lists ?_ ?_ ?_ ?_ ?_<;>simp [Vw.mkS,Vw.lk,Vw.hk,AV.inn,innL,Ajz,Ahz,Alz,-List.map_set,-List.getD_eq_getElem?_getD])
  ·rw [H8z fun j h=>hj j (by omega)]


theorem Hhz (xs:List Int)(n:Nat)(hn:xs.length=n)(hb:n≤1099511627776):BCall Tryz.prog 86 [.rows false (IL xs) n] [] (OI xs.reverse):=by
 subst hn
 refine Awz (pins:=[]) (pin:=0) l86_eq rfl rfl rfl ?_
 (repeat' (first
 | (first|refine Afz ?_|refine Aaz ?_)
 | ((first|refine Agz ?_);simp (disch:=omega) only [push_cast,seval])
 | (refine Acz ⟨.inr rfl,[80],[],_,by decide,rfl,?_⟩;(try simp (disch:=omega) only [push_cast,seval,↓Adz,↓Abz,↓List.map_cons,↓List.map_nil]);(first|done|(show AV.own _ _ _=_∧_)))
 | (refine Acz ⟨.inr rfl,[288],[],_,by decide,rfl,?_⟩;(try simp (disch:=omega) only [push_cast,seval,↓Adz,↓Abz,↓List.map_cons,↓List.map_nil]);(first|done|(show AV.own _ _ _=_∧_)))
 | (refine Acz ⟨.inr rfl,[304],[],_,by decide,rfl,?_⟩;(try simp (disch:=omega) only [push_cast,seval,↓Adz,↓Abz,↓List.map_cons,↓List.map_nil]);(first|done|(show AV.own _ _ _=_∧_)))))
 refine A0z (fun k:Nat=>mkS [(0,RI xs),(4,.int .i64 ((xs.length:Int)-1-(k:Int))),(3,.own 80 k 1)] [(80,IL (revT xs k))])
  (fun k=>k≤xs.length) (fun k=>xs.length-k) 0 (Nat.zero_le _) ?_ ?_
 ·(refine Sub.of_lists ?_ ?_ ?_ ?_ ?_<;>simp [Vw.mkS,Vw.lk,Vw.hk,AV.inn,innL,Ajz,Ahz,Alz,-List.map_set,-List.getD_eq_getElem?_getD,revT_zero])
 ·intro k hk
  have e3:=H1z xs k hk
  by_cases hlt:k<xs.length
  ·have e1:=Guz xs.length k hlt
   have e2:=revT_succ xs k hlt
   (repeat' (first
 | (first|refine Afz ?_|refine Aaz ?_)
 | ((first|refine Agz ?_|refine Aez ?_|refine Aoz ?_);simp (disch:=omega) only [push_cast,seval,e1])
 | ((first|refine Aiz (fun h=>?_) (fun h=>?_))<;>(try simp only [h])<;>(try simp only [bitvec_to_nat] at h)<;>(try simp only [h])<;>(first|(exfalso;omega)|(exfalso;simp_all;done)|(simp (disch:=omega) only [push_cast,seval,e1])|skip))
 | (refine Acz ⟨.inr rfl,[80],[],_,by decide,rfl,?_⟩;(try simp (disch:=omega) only [push_cast,seval,↓Adz,↓Abz,↓List.map_cons,↓List.map_nil,e1]);(first|done|(show AV.own _ _ _=_∧_)))
 | (refine Acz ⟨.inr rfl,[288],[],_,by decide,rfl,?_⟩;(try simp (disch:=omega) only [push_cast,seval,↓Adz,↓Abz,↓List.map_cons,↓List.map_nil,e1]);(first|done|(show AV.own _ _ _=_∧_)))
 | (refine Acz ⟨.inr rfl,[304],[],_,by decide,rfl,?_⟩;(try simp (disch:=omega) only [push_cast,seval,↓Adz,↓Abz,↓List.map_cons,↓List.map_nil,e1]);(first|done|(show AV.own _ _ _=_∧_)))))
   refine ⟨k+1,by omega,by omega,?_⟩
   have e4:(xs.length:Int)-1-((k:Int)+1)=(xs.length:Int)-1-(k:Int)-1:=by omega
   (refine Sub.of_lists ?_ ?_ ?_ ?_ ?_<;>simp [Vw.mkS,Vw.lk,Vw.hk,AV.inn,innL,Ajz,Ahz,Alz,-List.map_set,-List.getD_eq_getElem?_getD,e2,e4])
  ·(repeat' (first
 | (first|refine Afz ?_|refine Aaz ?_)
 | ((first|refine Agz ?_|refine Aez ?_|refine Atz ?_);simp (disch:=omega) only [push_cast,seval])
 | ((first|refine Aiz (fun h=>?_) (fun h=>?_))<;>(try simp only [h])<;>(try simp only [bitvec_to_nat] at h)<;>(try simp only [h])<;>(first|(exfalso;omega)|(exfalso;simp_all;done)|(simp (disch:=omega) only [push_cast,seval])|skip))
 | (refine Acz ⟨.inr rfl,[80],[],_,by decide,rfl,?_⟩;(try simp (disch:=omega) only [push_cast,seval,↓Adz,↓Abz,↓List.map_cons,↓List.map_nil]);(first|done|(show AV.own _ _ _=_∧_)))
 | (refine Acz ⟨.inr rfl,[288],[],_,by decide,rfl,?_⟩;(try simp (disch:=omega) only [push_cast,seval,↓Adz,↓Abz,↓List.map_cons,↓List.map_nil]);(first|done|(show AV.own _ _ _=_∧_)))
 | (refine Acz ⟨.inr rfl,[304],[],_,by decide,rfl,?_⟩;(try simp (disch:=omega) only [push_cast,seval,↓Adz,↓Abz,↓List.map_cons,↓List.map_nil]);(first|done|(show AV.own _ _ _=_∧_)))))
   have e:k=xs.length:=by omega
   rw [e,revT_all]
   simp [OI]


end Go.Proofs.YtapccmfnmiopoaaGreat
namespace Go.Proofs.YtapccmfnmiopoaaGreat
open VwM Vw Go

theorem Dvz (x l:Int):PCall Tryz.prog 44 [.int .i64 x,.int .i64 l] (fun r=>r=.bool (decide (0≤x)&&decide (x≤l))):=by
 refine Axz l44_eq rfl ?_
 (repeat' (first
 | (first|refine Afz ?_|refine Aaz ?_)
 | ((first|refine Agz ?_);simp (disch:=omega) only [push_cast,seval])
 | ((first|refine Bgz (fun h=>?_) (fun h=>?_))<;>(try simp only [h])<;>(try simp only [bitvec_to_nat] at h)<;>(try simp only [h])<;>(first|(exfalso;omega)|(exfalso;simp_all;done)|(simp (disch:=omega) only [push_cast,seval])|skip))
 | (refine Acz ⟨.inr rfl,_,rfl,?_⟩;(try simp (disch:=omega) only [push_cast,seval]))))
 all_goals (first|rfl|(simp_all;done)|(simp_all;omega)|(simp;omega)|(simp;grind)|(simp_all;grind)|skip)


theorem Dmz (xs:List Int)(n:Nat)(hn:xs.length=n)(hg:good4 xs):PCall Tryz.prog 49 [.rows false (IL xs) n] (fun r=>r=.int .i64 (pr xs)):=by
 subst hn
 have hl:=hg.2
 refine Axz l49_eq rfl ?_
 (repeat' (first
 | (first|refine Afz ?_|refine Aaz ?_)
 | ((first|refine Agz ?_);simp (disch:=omega) only [push_cast,seval])
 | (refine Acz ⟨.inr rfl,_,rfl,?_⟩;(try simp (disch:=omega) only [push_cast,seval]))))
 refine A0z (fun k:Nat=>mkS [(3,.int .i64 (pr (xs.take k))),(6,RI xs),(7,.int .i64 xs.length),(8,.int .i64 k)] [])
  (fun k=>k≤xs.length) (fun k=>xs.length-k) 0 (Nat.zero_le _) ?_ ?_
 ·(refine Sub.of_lists ?_ ?_ ?_ ?_ ?_<;>simp [Vw.mkS,Vw.lk,Vw.hk,AV.inn,innL,Ajz,Ahz,Alz,-List.map_set,-List.getD_eq_getElem?_getD,Flz])
 ·intro k hk
  by_cases hlt:k<xs.length
  ·have h1:=Cmz (Hbz hg (k+1))
   have h2:=Cjz xs k hlt
   (repeat' (first
 | (first|refine Afz ?_|refine Aaz ?_)
 | ((first|refine Agz ?_|refine Aez ?_|refine Aoz ?_);simp (disch:=omega) only [push_cast,seval])
 | ((first|refine Aiz (fun h=>?_) (fun h=>?_))<;>(try simp only [h])<;>(try simp only [bitvec_to_nat] at h)<;>(try simp only [h])<;>(first|(exfalso;omega)|(exfalso;simp_all;done)|(simp (disch:=omega) only [push_cast,seval])|skip))
 | (refine Acz ⟨.inr rfl,_,rfl,?_⟩;(try simp (disch:=omega) only [push_cast,seval]))))
   refine ⟨k+1,by omega,by omega,?_⟩
   (refine Sub.of_lists ?_ ?_ ?_ ?_ ?_<;>simp [Vw.mkS,Vw.lk,Vw.hk,AV.inn,innL,Ajz,Ahz,Alz,-List.map_set,-List.getD_eq_getElem?_getD,h2])
  ·(repeat' (first
 | (first|refine Afz ?_|refine Aaz ?_)
 | ((first|refine Agz ?_|refine Aez ?_|refine Atz ?_);simp (disch:=omega) only [push_cast,seval])
 | ((first|refine Aiz (fun h=>?_) (fun h=>?_))<;>(try simp only [h])<;>(try simp only [bitvec_to_nat] at h)<;>(try simp only [h])<;>(first|(exfalso;omega)|(exfalso;simp_all;done)|(simp (disch:=omega) only [push_cast,seval])|skip))
 | (refine Acz ⟨.inr rfl,_,rfl,?_⟩;(try simp (disch:=omega) only [push_cast,seval]))))
   rw [List.take_of_length_le (by omega)]


theorem B1z (xs:List Int)(n:Nat)(hn:xs.length=n)(hg:good4 xs):PCall Tryz.prog 67 [.rows false (IL xs) n] (fun r=>r=.int .i64 (pr xs)):=by
 subst hn
 have hl:=hg.2
 refine Axz l67_eq rfl ?_
 (repeat' (first
 | (first|refine Afz ?_|refine Aaz ?_)
 | ((first|refine Agz ?_);simp (disch:=omega) only [push_cast,seval])
 | (refine Acz ⟨.inr rfl,_,rfl,?_⟩;(try simp (disch:=omega) only [push_cast,seval]))))
 refine A0z (fun k:Nat=>mkS [(0,RI xs),(3,.int .i64 (pr (xs.take k))),(4,.int .i64 k)] [])
  (fun k=>k≤xs.length) (fun k=>xs.length-k) 0 (Nat.zero_le _) ?_ ?_
 ·(refine Sub.of_lists ?_ ?_ ?_ ?_ ?_<;>simp [Vw.mkS,Vw.lk,Vw.hk,AV.inn,innL,Ajz,Ahz,Alz,-List.map_set,-List.getD_eq_getElem?_getD,Flz])
 ·intro k hk
  by_cases hlt:k<xs.length
  ·have h1:=Cmz (Hbz hg (k+1))
   have h2:=Cjz xs k hlt
   (repeat' (first
 | (first|refine Afz ?_|refine Aaz ?_)
 | ((first|refine Agz ?_|refine Aez ?_|refine Aoz ?_);simp (disch:=omega) only [push_cast,seval])
 | ((first|refine Aiz (fun h=>?_) (fun h=>?_))<;>(try simp only [h])<;>(try simp only [bitvec_to_nat] at h)<;>(try simp only [h])<;>(first|(exfalso;omega)|(exfalso;simp_all;done)|(simp (disch:=omega) only [push_cast,seval])|skip))
 | (refine Acz ⟨.inr rfl,_,rfl,?_⟩;(try simp (disch:=omega) only [push_cast,seval]))))
   refine ⟨k+1,by omega,by omega,?_⟩
   (refine Sub.of_lists ?_ ?_ ?_ ?_ ?_<;>simp [Vw.mkS,Vw.lk,Vw.hk,AV.inn,innL,Ajz,Ahz,Alz,-List.map_set,-List.getD_eq_getElem?_getD,h2])
  ·(repeat' (first
 | (first|refine Afz ?_|refine Aaz ?_)
 | ((first|refine Agz ?_|refine Aez ?_|refine Atz ?_);simp (disch:=omega) only [push_cast,seval])
 | ((first|refine Aiz (fun h=>?_) (fun h=>?_))<;>(try simp only [h])<;>(try simp only [bitvec_to_nat] at h)<;>(try simp only [h])<;>(first|(exfalso;omega)|(exfalso;simp_all;done)|(simp (disch:=omega) only [push_cast,seval])|skip))
 | (refine Acz ⟨.inr rfl,_,rfl,?_⟩;(try simp (disch:=omega) only [push_cast,seval]))))
   rw [List.take_of_length_le (by omega)]


theorem Cvz (xs:List Int)(n:Nat)(l h:Int)(hn:xs.length=n)(hb:n≤1099511627776):PCall Tryz.prog 64 [.rows false (IL xs) n,.int .i64 l,.int .i64 h] (fun r=>r=.bool (allI xs l h)):=by
 subst hn
 refine Axz l64_eq rfl ?_
 (repeat' (first
 | (first|refine Afz ?_|refine Aaz ?_)
 | ((first|refine Agz ?_);simp (disch:=omega) only [push_cast,seval])
 | (refine Acz ⟨.inr rfl,_,rfl,?_⟩;(try simp (disch:=omega) only [push_cast,seval]))))
 refine A0z (fun k:Nat=>mkS [(0,RI xs),(1,.int .i64 l),(2,.int .i64 h),(7,.int .i64 k)] []) (fun k=>k≤xs.length∧∀ j:Nat,j<k→l≤xs.getD j 0∧xs.getD j 0≤h) (fun k=>xs.length-k) 0 ⟨Nat.zero_le _,fun j h=>absurd h (Nat.not_lt_zero _)⟩ ?_ ?_
 ·(refine Sub.of_lists ?_ ?_ ?_ ?_ ?_<;>simp [Vw.mkS,Vw.lk,Vw.hk,AV.inn,innL,Ajz,Ahz,Alz,-List.map_set,-List.getD_eq_getElem?_getD])
 ·rintro k ⟨hk,hj⟩
  (repeat' ((first
 | (first|refine Afz ?_|refine Aaz ?_)
 | (first|refine Agz ?_|refine Aez ?_|refine Aoz ?_|refine Atz ?_)
 | ((first|refine Aiz (fun h=>?_) (fun h=>?_))<;>(try simp only [h])<;>(try simp only [bitvec_to_nat] at h)<;>(try simp only [h])<;>(first|(exfalso;omega)|(exfalso;simp_all;done)|skip))
 | (first|refine Anz false ?_)
 | (first|(refine Akz (Apz (Bvz _ _ _)) ?_;rintro _ _ ⟨rfl,rfl⟩))
 | (refine Acz ⟨.inr rfl,_,rfl,?_⟩))<;>(try simp (disch:=omega) only [push_cast,seval])))
  ·rw [C5z (j:=k) (by omega) (by assumption)]
  ·refine ⟨k+1,⟨by omega,fun j h=>?_⟩,by omega,?_⟩
   ·by_cases hjk:j=k
    ·subst hjk;assumption
    ·exact hj j (by omega)
   ·(refine Sub.of_lists ?_ ?_ ?_ ?_ ?_<;>simp [Vw.mkS,Vw.lk,Vw.hk,AV.inn,innL,Ajz,Ahz,Alz,-List.map_set,-List.getD_eq_getElem?_getD])
  ·rw [Drz fun j h=>hj j (by omega)]


theorem Baz (xs:List Int)(n:Nat)(hn:xs.length=n)(hb:n≤1099511627776):PCall Tryz.prog 42 [.rows false (IL xs) n] (fun r=>r=.bool (vSh xs)):=by
 subst hn
 refine Axz l42_eq rfl ?_
 (repeat' (first
 | (first|refine Afz ?_|refine Aaz ?_)
 | ((first|refine Agz ?_|refine Aez ?_|refine Aoz ?_);simp (disch:=omega) only [push_cast,seval])
 | ((first|refine Aiz (fun h=>?_) (fun h=>?_))<;>(try simp only [h])<;>(try simp only [bitvec_to_nat] at h)<;>(try simp only [h])<;>(first|(exfalso;omega)|(exfalso;simp_all;done)|(simp (disch:=omega) only [push_cast,seval])|skip))
 | (refine Acz ⟨.inr rfl,_,rfl,?_⟩;(try simp (disch:=omega) only [push_cast,seval]))))
 ·have:¬ xs.length≤4:=by omega
  simp [vSh,this]
 have h4:xs.length≤4:=by omega
 refine A0z (fun k:Nat=>mkS [(0,RI xs),(8,RI xs),(9,.int .i64 xs.length),(10,.int .i64 k)] []) (fun k=>k≤xs.length∧∀ j:Nat,j<k→0≤xs.getD j 0∧xs.getD j 0≤60) (fun k=>xs.length-k) 0 ⟨Nat.zero_le _,fun j h=>absurd h (Nat.not_lt_zero _)⟩ ?_ ?_
 ·(refine Sub.of_lists ?_ ?_ ?_ ?_ ?_<;>simp [Vw.mkS,Vw.lk,Vw.hk,AV.inn,innL,Ajz,Ahz,Alz,-List.map_set,-List.getD_eq_getElem?_getD])
 ·rintro k ⟨hk,hj⟩
  by_cases hlt:k<xs.length
  ·(repeat' ((first
 | (first|refine Afz ?_|refine Aaz ?_)
 | (first|refine Agz ?_|refine Aez ?_|refine Aoz ?_)
 | ((first|refine Aiz (fun h=>?_) (fun h=>?_))<;>(try simp only [h])<;>(try simp only [bitvec_to_nat] at h)<;>(try simp only [h])<;>(first|(exfalso;omega)|(exfalso;simp_all;done)|skip))
 | (first|refine Anz false ?_)
 | (first|(refine Akz (Apz (Dvz _ _)) ?_;rintro _ _ ⟨rfl,rfl⟩))
 | (refine Acz ⟨.inr rfl,_,rfl,?_⟩))<;>(try simp (disch:=omega) only [push_cast,seval])))
   ·have:allI xs 0 60=false:=C5z (j:=k) hlt (by assumption)
    simp [vSh,this]
   ·refine ⟨k+1,⟨by omega,fun j h=>?_⟩,by omega,?_⟩
    ·by_cases hjk:j=k
     ·subst hjk;assumption
     ·exact hj j (by omega)
    ·(refine Sub.of_lists ?_ ?_ ?_ ?_ ?_<;>simp [Vw.mkS,Vw.lk,Vw.hk,AV.inn,innL,Ajz,Ahz,Alz,-List.map_set,-List.getD_eq_getElem?_getD])
  ·have ha:allI xs 0 60=true:=Drz fun j h=>hj j (by omega)
   have hg:good4 xs:=⟨Boz.1 ha,h4⟩
   (repeat' ((first
 | (first|refine Afz ?_|refine Aaz ?_)
 | (first|refine Agz ?_|refine Aez ?_|refine Atz ?_)
 | ((first|refine Aiz (fun h=>?_) (fun h=>?_))<;>(try simp only [h])<;>(try simp only [bitvec_to_nat] at h)<;>(try simp only [h])<;>(first|(exfalso;omega)|(exfalso;simp_all;done)|skip))
 | (first|refine Anz false ?_)
 | (first|(refine Akz (Apz (Dmz _ _ ?_ ?_)) ?_;(iterate 2 (exact sd));rintro _ _ ⟨rfl,rfl⟩))
 | (refine Acz ⟨.inr rfl,_,rfl,?_⟩))<;>(try simp (disch:=omega) only [push_cast,seval])))
   simp [vSh,ha,h4]


theorem Bhz (xs:List Int)(n:Nat)(hn:xs.length=n)(hb:n≤1099511627776):PCall Tryz.prog 65 [.rows false (IL xs) n] (fun r=>r=.bool (vSh xs)):=by
 subst hn
 refine Axz l65_eq rfl ?_
 by_cases h4:xs.length≤4
 ·cases ha:allI xs 0 60 with
  | false =>
   (repeat' ((first
 | (first|refine Afz ?_|refine Aaz ?_)
 | (first|refine Agz ?_)
 | ((first|refine Bgz (fun h=>?_) (fun h=>?_))<;>(try simp only [h])<;>(try simp only [bitvec_to_nat] at h)<;>(try simp only [h])<;>(first|(exfalso;omega)|(exfalso;simp_all;done)|skip))
 | (first|refine Anz false ?_)
 | (first|(refine Akz (Apz (Cvz _ _ _ _ ?_ ?_)) ?_;(iterate 2 (exact sd));rintro _ _ ⟨rfl,rfl⟩))
 | (refine Acz ⟨.inr rfl,_,rfl,?_⟩))<;>(try simp (disch:=omega) only [push_cast,seval,ha])))
   simp [vSh,ha]
  | true =>
   have hg:good4 xs:=⟨Boz.1 ha,h4⟩
   (repeat' ((first
 | (first|refine Afz ?_|refine Aaz ?_)
 | (first|refine Agz ?_)
 | ((first|refine Bgz (fun h=>?_) (fun h=>?_))<;>(try simp only [h])<;>(try simp only [bitvec_to_nat] at h)<;>(try simp only [h])<;>(first|(exfalso;omega)|(exfalso;simp_all;done)|skip))
 | (first|refine Anz false ?_)
 | (first|(refine Akz (Apz (Cvz _ _ _ _ ?_ ?_)) ?_;(iterate 2 (exact sd));rintro _ _ ⟨rfl,rfl⟩)|(refine Akz (Apz (B1z _ _ ?_ ?_)) ?_;(iterate 2 (exact sd));rintro _ _ ⟨rfl,rfl⟩))
 | (refine Acz ⟨.inr rfl,_,rfl,?_⟩))<;>(try simp (disch:=omega) only [push_cast,seval,ha])))
   simp [vSh,ha,h4]
 ·(repeat' (first
 | (first|refine Afz ?_|refine Aaz ?_)
 | ((first|refine Agz ?_);simp (disch:=omega) only [push_cast,seval])
 | ((first|refine Bgz (fun h=>?_) (fun h=>?_))<;>(try simp only [h])<;>(try simp only [bitvec_to_nat] at h)<;>(try simp only [h])<;>(first|(exfalso;omega)|(exfalso;simp_all;done)|(simp (disch:=omega) only [push_cast,seval])|skip))
 | (refine Acz ⟨.inr rfl,_,rfl,?_⟩;(try simp (disch:=omega) only [push_cast,seval]))))
  simp [vSh,h4]

end Go.Proofs.YtapccmfnmiopoaaGreat
