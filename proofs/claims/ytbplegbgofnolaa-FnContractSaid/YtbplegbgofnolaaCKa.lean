import Derived.Test.YtbplegbgofnolaaCLow
import Derived.Test.YtbplegbgofnolaaCM1

set_option linter.unusedSimpArgs false
set_option linter.unusedVariables false
set_option maxRecDepth 4000
set_option maxHeartbeats 4000000
namespace Go.Proofs.Ytbplegbgofnolaa
open VwM Vw Go

theorem Awz:Try.prog.follows .mixedOrders=true:=by kernel_rfl


theorem inRange_ok (x l h:Int):PCall Try.prog 69 [.int .i64 x,.int .i64 l,.int .i64 h] (fun r=>r=.bool (decide (l ≤ x) && decide (x ≤ h))):=by
  refine A2z l69_eq rfl ?_
  (repeat' (first
 | (first|refine Anz ?_|refine Agz ?_)
 | ((first|refine Aoz ?_|refine Afz ?_|refine Ahz ?_|refine Aiz ?_);simp (disch:=omega) only [push_cast,seval,l69r0,l69r1])
 | ((first|refine Acz ?_ ?_|refine Aez ?_ ?_|refine Adz ?_ ?_)<;>intro h<;>(try simp only [h])<;>(try simp only [bitvec_to_nat] at h)<;>(try simp only [h])<;>(first|(exfalso;omega)|(exfalso;simp_all;done)|(simp (disch:=omega) only [push_cast,seval])|skip))
 | (refine Akz ⟨.inr rfl,_,rfl,?_⟩;(try simp (disch:=omega) only [push_cast,seval]))))
  all_goals (first|rfl|(simp_all;done)|(simp_all;omega)|(simp;omega)|(simp;grind)|(simp_all;grind)|skip)


theorem Cnz (xs:List Int) (n:Nat) (hn:xs.length=n) (hb:n ≤ 1099511627776):BCall Try.prog 83 [.rows false (IL xs) n] [] (OI xs):=by
  subst hn
  refine A3z (pins:=[]) (pin:=0) l83_eq rfl rfl rfl ?_
  (repeat' (first
 | (first|refine Anz ?_|refine Agz ?_)
 | ((first|refine Aoz ?_|refine Afz ?_|refine Ahz ?_|refine Aiz ?_);simp (disch:=omega) only [push_cast,seval,l83r0,l83r1])
 | ((first|refine Acz ?_ ?_|refine Aez ?_ ?_|refine Adz ?_ ?_)<;>intro h<;>(try simp only [h])<;>(try simp only [bitvec_to_nat] at h)<;>(try simp only [h])<;>(first|(exfalso;omega)|(exfalso;simp_all;done)|(simp (disch:=omega) only [push_cast,seval])|skip))
 | (refine Akz ⟨.inr rfl,[48],[],_,by decide,rfl,?_⟩;(try simp (disch:=omega) only [push_cast,seval,↓Alz,↓Ajz,↓List.map_cons,↓List.map_nil]);(first|done|(show AV.own _ _ _=_ ∧ _)))
 | (refine Akz ⟨.inr rfl,[80],[],_,by decide,rfl,?_⟩;(try simp (disch:=omega) only [push_cast,seval,↓Alz,↓Ajz,↓List.map_cons,↓List.map_nil]);(first|done|(show AV.own _ _ _=_ ∧ _)))))
  all_goals simp [OI]

end Go.Proofs.Ytbplegbgofnolaa
