import Derived.Test.YtbplegbgofnolaaCKv
import Derived.Test.YtbplegbgofnolaaCM1
import Derived.Test.YtbplegbgofnolaaCW3
set_option linter.unusedSimpArgs false
set_option linter.unusedVariables false
set_option maxRecDepth 4000
set_option maxHeartbeats 4000000
namespace Go.Proofs.Ytbplegbgofnolaa
open VwM Vw Go

theorem sinsert_ok (xs:List Int) (n:Nat) (k:Nat) (x:Int) (hn:xs.length=n) (hb:k ≤ n ∧ n ≤ 1099511000000):BCall Try.prog 79 [.rows false (IL xs) n,.int .i64 k,.int .i64 x] [] (OI (ins xs k x)):=by
  subst hn
  obtain ⟨hb1,hb2⟩:=hb
  have hl:=H4z x hb1
  refine A3z (pins:=[]) (pin:=0) l79_eq rfl rfl rfl ?_
  have hmin:min k xs.length=k:=by omega
  have hl2:(xs.take k).length=k:=by simp;omega
  have hl3:(xs.drop k).length=xs.length - k:=by simp
  have hl5:(List.map (AV.int .i64) (xs.take k) ++ [AV.int .i64 x]).length=k + 1:=by simp;omega
  have hl6:∀ ys:List Int,List.map (AV.int .i64) ys ++ [AV.int .i64 x]=List.map (AV.int .i64) (ys ++ [x]):=fun ys=>by simp
  have hl7:(xs.take k ++ [x]).length=k + 1:=by simp;omega
  (repeat' (first
 | (first|refine Anz ?_|refine Agz ?_)
 | ((first|refine Aoz ?_|refine Blz (mid:=l79r1a) (post:=l79r1b) [112] Awz (by decide) ?_|refine Afz ?_|refine Ahz ?_|refine Aiz ?_);simp (disch:=omega) only [push_cast,seval,l79r0,l79r1a,l79r1b,l79r1,Coz,I9z,Nat.sub_zero,hmin,hl2,hl3,hl5,hl6,hl7,← List.map_append])
 | ((first|refine Acz ?_ ?_|refine Aez ?_ ?_|refine Adz ?_ ?_)<;>intro h<;>(try simp only [h])<;>(try simp only [bitvec_to_nat] at h)<;>(try simp only [h])<;>(first|(exfalso;omega)|(exfalso;simp_all;done)|(simp (disch:=omega) only [push_cast,seval,Coz,I9z,Nat.sub_zero,hmin,hl2,hl3,hl5,hl6,hl7,← List.map_append])|skip))
 | (refine Akz ⟨.inr rfl,[112],[],_,by decide,rfl,?_⟩;(try simp (disch:=omega) only [push_cast,seval,↓Alz,↓Ajz,↓List.map_cons,↓List.map_nil,Coz,I9z,Nat.sub_zero,hmin,hl2,hl3,hl5,hl6,hl7,← List.map_append]))))
  have hl4:xs.take k ++ [x] ++ xs.drop k=ins xs k x:=by simp [ins]
  all_goals simp only [OI,hl4,hl]
  all_goals (refine ⟨?_,trivial⟩;congr 1;omega)

end Go.Proofs.Ytbplegbgofnolaa
