/- Texts of this verifier. -/
import Derived.Test.YtfccepgibbdfaaaDoorCLow
import Derived.Test.YtfccepgibbdfaaaDoorCM1
set_option maxHeartbeats 4000000
set_option linter.unusedSimpArgs false
set_option linter.unusedSectionVars false
set_option linter.unusedVariables false
set_option maxRecDepth 4000
namespace Go.Proofs.YtfccepgibbdfaaaDoor
open VwM Vw Go
variable [PowA]

theorem mixed:Tryd.prog.follows .mixedOrders=true:=by kernel_rfl


theorem Bez (x l h:Int):PCall Tryd.prog 25 [.int .i64 x,.int .i64 l,.int .i64 h] (fun r=>r=.bool (decide (l ≤ x) && decide (x ≤ h))):=by
  refine A1z l25_eq rfl ?_
  (repeat' (first
 | (first|refine Acz ?_|refine Aaz ?_)
 | ((first|refine Aez ?_);simp (disch:=omega) only [push_cast,seval,l25r0,l25r1])
 | ((first|refine Efz (fun h=>?_) (fun h=>?_))<;>(try simp only [h])<;>(try simp only [bitvec_to_nat] at h)<;>(try simp only [h])<;>(first|(exfalso;omega)|(exfalso;simp_all;done)|(simp (disch:=omega) only [push_cast,seval])|skip))
 | (refine Adz ⟨.inr rfl,_,rfl,?_⟩;(try simp (disch:=omega) only [push_cast,seval]))))
  all_goals (first|rfl|(simp_all;done)|(simp_all;omega)|(simp;omega)|(simp;grind)|(simp_all;grind)|skip)


theorem eqIntS_ok (xs ys:List Int) (n m:Nat) (hn:xs.length=n) (hm:ys.length=m) (hb:n ≤ 1099511627776):PCall Tryd.prog 19 [.rows false (IL xs) n,.rows false (IL ys) m] (fun r=>r=.bool (decide (xs=ys))):=by
  subst hn hm
  refine A1z l19_eq rfl ?_
  (repeat' (first
 | (first|refine Acz ?_|refine Aaz ?_)
 | ((first|refine Aez ?_|refine Abz ?_|refine Akz ?_);simp (disch:=omega) only [push_cast,seval,l19r0,l19r1,l19r2,l19r3,l19r4,l19r5a,l19r5b,l19r5,l19r6,l19r7,l19r8])
 | ((first|refine Ajz (fun h=>?_) (fun h=>?_))<;>(try simp only [h])<;>(try simp only [bitvec_to_nat] at h)<;>(try simp only [h])<;>(first|(exfalso;omega)|(exfalso;simp_all;done)|(simp (disch:=omega) only [push_cast,seval])|skip))
 | (refine Adz ⟨.inr rfl,_,rfl,?_⟩;(try simp (disch:=omega) only [push_cast,seval]))))
  · simp;rintro rfl;omega
  · refine Baz (fun k:Nat=>mkS [(0,RI xs),(1,RI ys),(5,.int .i64 k)] []) (fun k=>k ≤ xs.length ∧ ∀ j:Nat,j < k → xs.getD j 0=ys.getD j 0) (fun k=>xs.length - k) 0 ⟨Nat.zero_le _,fun j h=>absurd h (Nat.not_lt_zero _)⟩ ?_ ?_
    · (refine Sub.of_lists ?_ ?_ ?_ ?_ ?_<;>simp [Vw.mkS,Vw.lk,Vw.hk,AV.inn,innL,Arz,Anz,Awz,-List.map_set,-List.getD_eq_getElem?_getD])
    · rintro k ⟨hk,hj⟩
      have hl:xs.length=ys.length:=by omega
      (repeat' (first
 | (first|refine Acz ?_|refine Aaz ?_)
 | ((first|refine Aez ?_|refine Aoz (mid:=l19r5a) (post:=l19r5b) mixed (by decide) ?_|refine Abz ?_|refine Akz ?_|refine Bbz ?_);simp (disch:=omega) only [push_cast,seval,l19r0,l19r1,l19r2,l19r3,l19r4,l19r5a,l19r5b,l19r5,l19r6,l19r7,l19r8])
 | ((first|refine Ajz (fun h=>?_) (fun h=>?_))<;>(try simp only [h])<;>(try simp only [bitvec_to_nat] at h)<;>(try simp only [h])<;>(first|(exfalso;omega)|(exfalso;simp_all;done)|(simp (disch:=omega) only [push_cast,seval])|skip))
 | (refine Adz ⟨.inr rfl,_,rfl,?_⟩;(try simp (disch:=omega) only [push_cast,seval]))))
      · simp;rintro rfl;exact absurd rfl ‹_›
      · refine ⟨k + 1,⟨by omega,fun j h=>?_⟩,by omega,?_⟩
        · by_cases hjk:j=k
          · subst hjk;assumption
          · exact hj j (by omega)
        · (refine Sub.of_lists ?_ ?_ ?_ ?_ ?_<;>simp [Vw.mkS,Vw.lk,Vw.hk,AV.inn,innL,Arz,Anz,Awz,-List.map_set,-List.getD_eq_getElem?_getD])
      · have:xs=ys:=list_eq_of hl fun j h=>hj j (by omega)
        simp [this]

end Go.Proofs.YtfccepgibbdfaaaDoor
namespace Go.Proofs.YtfccepgibbdfaaaDoor
open VwM Vw Go
variable [PowA]

theorem toIntS_ok (xs:List Int) (n:Nat) (hn:xs.length=n) (hb:n ≤ 1099511627776):BCall Tryd.prog 17 [.rows false (IL xs) n] [] (OI xs):=by
  subst hn
  refine Fvz (pins:=[]) (pin:=0) l17_eq rfl rfl rfl ?_
  (repeat' (first
 | (first|refine Acz ?_|refine Aaz ?_)
 | ((first|refine Aez ?_);simp (disch:=omega) only [push_cast,seval,l17r0,l17r1,l17r2,l17r3,l17r4,l17r5,l17r6])
 | (refine Adz ⟨.inr rfl,[112],[],_,by decide,rfl,?_⟩;(try simp (disch:=omega) only [push_cast,seval,↓Cnz,↓B3z,↓List.map_cons,↓List.map_nil]);(first|done|(show AV.own _ _ _=_ ∧ _)))))
  refine Baz (fun k:Nat=>mkS [(0,RI xs),(4,.int .i64 k),(3,.own 112 xs.length 1)] [(112,IL (filled (fun i:Nat=>xs.getD i 0) xs.length k))])
    (fun k=>k ≤ xs.length) (fun k=>xs.length - k) 0 (Nat.zero_le _) ?_ ?_
  · (refine Sub.of_lists ?_ ?_ ?_ ?_ ?_<;>simp [Vw.mkS,Vw.lk,Vw.hk,AV.inn,innL,Arz,Anz,Awz,-List.map_set,-List.getD_eq_getElem?_getD,filled_zero])
  · intro k hk
    (repeat' (first
 | (first|refine Acz ?_|refine Aaz ?_)
 | ((first|refine Aez ?_|refine Abz ?_|refine Akz ?_|refine Bbz ?_);simp (disch:=omega) only [push_cast,seval,l17r0,l17r1,l17r2,l17r3,l17r4,l17r5,l17r6])
 | ((first|refine Ajz (fun h=>?_) (fun h=>?_))<;>(try simp only [h])<;>(try simp only [bitvec_to_nat] at h)<;>(try simp only [h])<;>(first|(exfalso;omega)|(exfalso;simp_all;done)|(simp (disch:=omega) only [push_cast,seval])|skip))
 | (refine Adz ⟨.inr rfl,[112],[],_,by decide,rfl,?_⟩;(try simp (disch:=omega) only [push_cast,seval,↓Cnz,↓B3z,↓List.map_cons,↓List.map_nil]);(first|done|(show AV.own _ _ _=_ ∧ _)))))
    · refine ⟨k + 1,by omega,by omega,?_⟩
      have e:=filled_set (fun i:Nat=>xs.getD i 0) xs.length k (by omega)
      (refine Sub.of_lists ?_ ?_ ?_ ?_ ?_<;>simp [Vw.mkS,Vw.lk,Vw.hk,AV.inn,innL,Arz,Anz,Awz,-List.map_set,-List.getD_eq_getElem?_getD,IL_set,e])
    · have e:k=xs.length:=by omega
      rw [e,filled_all,filled_getD]
      simp [OI]


theorem Avz (x l:Int):PCall Tryd.prog 23 [.int .i64 x,.int .i64 l] (fun r=>r=.bool (decide (0 ≤ x) && decide (x ≤ l))):=by
  refine A1z l23_eq rfl ?_
  (repeat' (first
 | (first|refine Acz ?_|refine Aaz ?_)
 | ((first|refine Aez ?_);simp (disch:=omega) only [push_cast,seval,l23r0,l23r1])
 | ((first|refine Efz (fun h=>?_) (fun h=>?_))<;>(try simp only [h])<;>(try simp only [bitvec_to_nat] at h)<;>(try simp only [h])<;>(first|(exfalso;omega)|(exfalso;simp_all;done)|(simp (disch:=omega) only [push_cast,seval])|skip))
 | (refine Adz ⟨.inr rfl,_,rfl,?_⟩;(try simp (disch:=omega) only [push_cast,seval]))))
  all_goals (first|rfl|(simp_all;done)|(simp_all;omega)|(simp;omega)|(simp;grind)|(simp_all;grind)|skip)


theorem allIn_ok (xs:List Int) (n:Nat) (l h:Int) (hn:xs.length=n) (hb:n ≤ 1099511627776):PCall Tryd.prog 27 [.rows false (IL xs) n,.int .i64 l,.int .i64 h] (fun r=>r=.bool (allI xs l h)):=by
  subst hn
  refine A1z l27_eq rfl ?_
  (repeat' (first
 | (first|refine Acz ?_|refine Aaz ?_)
 | ((first|refine Aez ?_);simp (disch:=omega) only [push_cast,seval,l27r0,l27r1,l27r2,l27r3,l27r4,l27r5,l27r6])
 | (refine Adz ⟨.inr rfl,_,rfl,?_⟩;(try simp (disch:=omega) only [push_cast,seval]))))
  refine Baz (fun k:Nat=>mkS [(0,RI xs),(1,.int .i64 l),(2,.int .i64 h),(7,.int .i64 k)] []) (fun k=>k ≤ xs.length ∧ ∀ j:Nat,j < k → l ≤ xs.getD j 0 ∧ xs.getD j 0 ≤ h) (fun k=>xs.length - k) 0 ⟨Nat.zero_le _,fun j h=>absurd h (Nat.not_lt_zero _)⟩ ?_ ?_
  · (refine Sub.of_lists ?_ ?_ ?_ ?_ ?_<;>simp [Vw.mkS,Vw.lk,Vw.hk,AV.inn,innL,Arz,Anz,Awz,-List.map_set,-List.getD_eq_getElem?_getD])
  · rintro k ⟨hk,hj⟩
    (repeat' (first
 | (first|refine Acz ?_|refine Aaz ?_)
 | ((first|refine Aez ?_|refine Abz ?_|refine Akz ?_|refine Bbz ?_);simp (disch:=omega) only [push_cast,seval,l27r0,l27r1,l27r2,l27r3,l27r4,l27r5,l27r6])
 | ((first|refine Ajz (fun h=>?_) (fun h=>?_))<;>(try simp only [h])<;>(try simp only [bitvec_to_nat] at h)<;>(try simp only [h])<;>(first|(exfalso;omega)|(exfalso;simp_all;done)|(simp (disch:=omega) only [push_cast,seval])|skip))
 | ((first|refine Alz false ?_);simp (disch:=omega) only [push_cast,seval])
 | ((first|((first|refine Ahz (Agz (Bez _ _ _)) ?_|refine Afz (Agz (Bez _ _ _)) ⟨_,_,rfl,rfl⟩ ?_);rintro _ _ ⟨rfl,rfl⟩))<;>(try simp (disch:=omega) only [push_cast,seval]))
 | (refine Adz ⟨.inr rfl,_,rfl,?_⟩;(try simp (disch:=omega) only [push_cast,seval]))))
    · rw [Bcz (j:=k) (by omega) (by assumption)]
    · refine ⟨k + 1,⟨by omega,fun j h=>?_⟩,by omega,?_⟩
      · by_cases hjk:j=k
        · subst hjk;assumption
        · exact hj j (by omega)
      · (refine Sub.of_lists ?_ ?_ ?_ ?_ ?_<;>simp [Vw.mkS,Vw.lk,Vw.hk,AV.inn,innL,Arz,Anz,Awz,-List.map_set,-List.getD_eq_getElem?_getD])
    · rw [Bhz fun j h=>hj j (by omega)]

end Go.Proofs.YtfccepgibbdfaaaDoor
namespace Go.Proofs.YtfccepgibbdfaaaDoor
open VwM Vw Go
variable [PowA]

theorem C4z (cs:List AV) (n:Nat) (l:Int) (hl:0 ≤ l ∧ l ≤ 1048576) (hb:n ≤ 9223372036854775807):PCall Tryd.prog 13 [.rows false cs n,.int .i64 l] (fun r=>r=.int .i64 (if l - n < 0 then -1 else l - n)):=by
  refine A1z l13_eq rfl ?_
  by_cases h:l - (n:Int) < 0
  · (repeat' (first
 | (first|refine Acz ?_|refine Aaz ?_)
 | ((first|refine Aez ?_|refine Abz ?_);simp (disch:=omega) only [push_cast,seval,l13r0,l13r1,l13r2,l13r3,l13r4,h])
 | (refine Adz ⟨.inr rfl,_,rfl,?_⟩;(try simp (disch:=omega) only [push_cast,seval,h]))))
  · (repeat' (first
 | (first|refine Acz ?_|refine Aaz ?_)
 | ((first|refine Aez ?_|refine Abz ?_|refine Akz ?_);simp (disch:=omega) only [push_cast,seval,l13r0,l13r1,l13r2,l13r3,l13r4,h])
 | (refine Adz ⟨.inr rfl,_,rfl,?_⟩;(try simp (disch:=omega) only [push_cast,seval,h]))))


end Go.Proofs.YtfccepgibbdfaaaDoor
