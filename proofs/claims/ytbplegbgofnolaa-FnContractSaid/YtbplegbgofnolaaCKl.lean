import Derived.Test.YtbplegbgofnolaaCKh
import Derived.Test.YtbplegbgofnolaaCM1
set_option linter.unusedSimpArgs false
set_option linter.unusedVariables false
set_option maxRecDepth 4000
set_option maxHeartbeats 4000000
namespace Go.Proofs.Ytbplegbgofnolaa
open VwM Vw Go

theorem placeIn_ok (xs:List Int) (n:Nat) (x:Int) (hn:xs.length=n) (hb:n ≤ 1099511627776):PCall Try.prog 89 [.rows false (IL xs) n,.int .i64 x] (fun r=>r=.int .i64 (placeI xs x)):=by
  subst hn
  refine A2z l89_eq rfl ?_
  (repeat' (first
 | (first|refine Anz ?_|refine Agz ?_)
 | ((first|refine Aoz ?_|refine Afz ?_|refine Ahz ?_|refine Aiz ?_);simp (disch:=omega) only [push_cast,seval,l89r0,l89r1,l89r2,l89r3,l89r4,l89r5,l89r6])
 | ((first|refine Acz ?_ ?_|refine Aez ?_ ?_|refine Adz ?_ ?_)<;>intro h<;>(try simp only [h])<;>(try simp only [bitvec_to_nat] at h)<;>(try simp only [h])<;>(first|(exfalso;omega)|(exfalso;simp_all;done)|(simp (disch:=omega) only [push_cast,seval])|skip))
 | (refine Akz ⟨.inr rfl,_,rfl,?_⟩;(try simp (disch:=omega) only [push_cast,seval]))))
  refine Azz (fun k:Nat=>mkS [(0,RI xs),(1,.int .i64 x),(5,.int .i64 k)] []) (fun k=>k ≤ xs.length ∧ ∀ j:Nat,j < k → xs.getD j 0 ≠ x) (fun k=>xs.length - k) 0 ⟨Nat.zero_le _,fun j h=>absurd h (Nat.not_lt_zero _)⟩ ?_ ?_
  · (refine Sub.of_lists ?_ ?_ ?_ ?_ ?_<;>simp [Vw.mkS,Vw.lk,Vw.hk,AV.inn,innL,Arz,Amz,Atz,-List.map_set,-List.getD_eq_getElem?_getD])
  · rintro k ⟨hk,hj⟩
    (repeat' (first
 | (first|refine Anz ?_|refine Agz ?_)
 | ((first|refine Aoz ?_|refine Afz ?_|refine Ahz ?_|refine Aiz ?_);simp (disch:=omega) only [push_cast,seval,l89r0,l89r1,l89r2,l89r3,l89r4,l89r5,l89r6])
 | ((first|refine Acz ?_ ?_|refine Aez ?_ ?_|refine Adz ?_ ?_)<;>intro h<;>(try simp only [h])<;>(try simp only [bitvec_to_nat] at h)<;>(try simp only [h])<;>(first|(exfalso;omega)|(exfalso;simp_all;done)|(simp (disch:=omega) only [push_cast,seval])|skip))
 | (refine Akz ⟨.inr rfl,_,rfl,?_⟩;(try simp (disch:=omega) only [push_cast,seval]))))
    · rw [Gtz (j:=k) (by omega) (by assumption) hj]
    · refine ⟨k + 1,⟨by omega,fun j h=>?_⟩,by omega,?_⟩
      · by_cases hjk:j=k
        · subst hjk;assumption
        · exact hj j (by omega)
      · (refine Sub.of_lists ?_ ?_ ?_ ?_ ?_<;>simp [Vw.mkS,Vw.lk,Vw.hk,AV.inn,innL,Arz,Amz,Atz,-List.map_set,-List.getD_eq_getElem?_getD])
    · rw [Guz fun j h=>hj j (by omega)]

end Go.Proofs.Ytbplegbgofnolaa
