/- Texts of this verifier. -/
import Derived.Test.YtpicoecbbiiaoaaCLow
import Derived.Test.YtpicoecbbiiaoaaCM1
set_option linter.unusedSimpArgs false
set_option linter.unusedVariables false
set_option maxRecDepth 4000
set_option maxHeartbeats 4000000
namespace Go.Proofs.Ytpicoecbbiiaoaa
open VwM Vw Go

theorem Csz:Try.prog.follows .mixedOrders=true:=by kernel_rfl


theorem Bsz (x l:Int) (h0:0 ≤ l) (h1:l ≤ 1000):PCall Try.prog 91 [.int .i64 x,.int .i64 l] (fun r=>r=.bool (decide (-l ≤ x) && decide (x ≤ l))):=by
  refine Axz l91_eq rfl ?_
  (repeat' (first
 | (first|refine Ajz ?_|refine Afz ?_)
 | ((first|refine Akz ?_|refine Aez ?_|refine Agz ?_|refine Ahz ?_);simp (disch:=omega) only [push_cast,seval,l91r0,l91r1])
 | ((first|refine Abz ?_ ?_|refine Adz ?_ ?_|refine Acz ?_ ?_)<;>intro h<;>(try simp only [h])<;>(try simp only [bitvec_to_nat] at h)<;>(try simp only [h])<;>(first|(exfalso;omega)|(exfalso;simp_all;done)|(simp (disch:=omega) only [push_cast,seval])|skip))
 | (refine Aiz ⟨.inr rfl,_,rfl,?_⟩;(try simp (disch:=omega) only [push_cast,seval]))))
  all_goals (first|rfl|(simp_all;done)|(simp_all;omega)|(simp;omega)|(simp;grind)|(simp_all;grind)|skip)


theorem inRange_ok (x l h:Int):PCall Try.prog 54 [.int .i64 x,.int .i64 l,.int .i64 h] (fun r=>r=.bool (decide (l ≤ x) && decide (x ≤ h))):=by
  refine Axz l54_eq rfl ?_
  (repeat' (first
 | (first|refine Ajz ?_|refine Afz ?_)
 | ((first|refine Akz ?_|refine Aez ?_|refine Agz ?_|refine Ahz ?_);simp (disch:=omega) only [push_cast,seval,l54r0,l54r1])
 | ((first|refine Abz ?_ ?_|refine Adz ?_ ?_|refine Acz ?_ ?_)<;>intro h<;>(try simp only [h])<;>(try simp only [bitvec_to_nat] at h)<;>(try simp only [h])<;>(first|(exfalso;omega)|(exfalso;simp_all;done)|(simp (disch:=omega) only [push_cast,seval])|skip))
 | (refine Aiz ⟨.inr rfl,_,rfl,?_⟩;(try simp (disch:=omega) only [push_cast,seval]))))
  all_goals (first|rfl|(simp_all;done)|(simp_all;omega)|(simp;omega)|(simp;grind)|(simp_all;grind)|skip)


theorem eqIntS_ok (xs ys:List Int) (n m:Nat) (hn:xs.length=n) (hm:ys.length=m) (hb:n ≤ 1099511627776):PCall Try.prog 12 [.rows false (IL xs) n,.rows false (IL ys) m] (fun r=>r=.bool (decide (xs=ys))):=by
  subst hn hm
  refine Axz l12_eq rfl ?_
  (repeat' (first
 | (first|refine Ajz ?_|refine Afz ?_)
 | ((first|refine Akz ?_|refine A5z (mid:=l12r5a) (post:=l12r5b) Csz (by decide) ?_|refine Aez ?_|refine Agz ?_|refine Ahz ?_);simp (disch:=omega) only [push_cast,seval,l12r0,l12r1,l12r2,l12r3,l12r4,l12r5a,l12r5b,l12r5,l12r6,l12r7,l12r8])
 | ((first|refine Abz ?_ ?_|refine Adz ?_ ?_|refine Acz ?_ ?_)<;>intro h<;>(try simp only [h])<;>(try simp only [bitvec_to_nat] at h)<;>(try simp only [h])<;>(first|(exfalso;omega)|(exfalso;simp_all;done)|(simp (disch:=omega) only [push_cast,seval])|skip))
 | (refine Aiz ⟨.inr rfl,_,rfl,?_⟩;(try simp (disch:=omega) only [push_cast,seval]))))
  · simp;rintro rfl;omega
  · refine Azz (fun k:Nat=>mkS [(0,RI xs),(1,RI ys),(5,.int .i64 k)] []) (fun k=>k ≤ xs.length ∧ ∀ j:Nat,j < k → xs.getD j 0=ys.getD j 0) (fun k=>xs.length - k) 0 ⟨Nat.zero_le _,fun j h=>absurd h (Nat.not_lt_zero _)⟩ ?_ ?_
    · (refine Sub.of_lists ?_ ?_ ?_ ?_ ?_<;>simp [Vw.mkS,Vw.lk,Vw.hk,AV.inn,innL,Aqz,Anz,Asz,-List.map_set,-List.getD_eq_getElem?_getD])
    · rintro k ⟨hk,hj⟩
      have hl:xs.length=ys.length:=by omega
      (repeat' (first
 | (first|refine Ajz ?_|refine Afz ?_)
 | ((first|refine Akz ?_|refine A5z (mid:=l12r5a) (post:=l12r5b) Csz (by decide) ?_|refine Aez ?_|refine Agz ?_|refine Ahz ?_);simp (disch:=omega) only [push_cast,seval,l12r0,l12r1,l12r2,l12r3,l12r4,l12r5a,l12r5b,l12r5,l12r6,l12r7,l12r8])
 | ((first|refine Abz ?_ ?_|refine Adz ?_ ?_|refine Acz ?_ ?_)<;>intro h<;>(try simp only [h])<;>(try simp only [bitvec_to_nat] at h)<;>(try simp only [h])<;>(first|(exfalso;omega)|(exfalso;simp_all;done)|(simp (disch:=omega) only [push_cast,seval])|skip))
 | (refine Aiz ⟨.inr rfl,_,rfl,?_⟩;(try simp (disch:=omega) only [push_cast,seval]))))
      · simp;rintro rfl;exact absurd rfl ‹_›
      · refine ⟨k + 1,⟨by omega,fun j h=>?_⟩,by omega,?_⟩
        · by_cases hjk:j=k
          · subst hjk;assumption
          · exact hj j (by omega)
        · (refine Sub.of_lists ?_ ?_ ?_ ?_ ?_<;>simp [Vw.mkS,Vw.lk,Vw.hk,AV.inn,innL,Aqz,Anz,Asz,-List.map_set,-List.getD_eq_getElem?_getD])
      · have:xs=ys:=list_eq_of hl fun j h=>hj j (by omega)
        simp [this]


theorem Avz (xs:List Int) (n:Nat) (k:Int) (hn:xs.length=n) (hk:(0 ≤ k ∧ k ≤ 4503599627370496) ∧ n ≤ 1099511627776):BCall Try.prog 15 [.own 0 n 1,.int .i64 k] [IL xs] (fun r H'=>r=.int .i64 (k + n) ∧ H'=[IL (upFrom k n)]):=by
  subst hn
  refine Bkz (pins:=[0]) (pin:=1) l15_eq rfl rfl rfl ?_
  (repeat' (first
 | (first|refine Ajz ?_|refine Afz ?_)
 | ((first|refine Akz ?_|refine Aez ?_|refine Agz ?_|refine Ahz ?_);simp (disch:=omega) only [push_cast,seval,l15r0,l15r1,l15r2,l15r3,l15r4,l15r5,l15r6])
 | ((first|refine Abz ?_ ?_|refine Adz ?_ ?_|refine Acz ?_ ?_)<;>intro h<;>(try simp only [h])<;>(try simp only [bitvec_to_nat] at h)<;>(try simp only [h])<;>(first|(exfalso;omega)|(exfalso;simp_all;done)|(simp (disch:=omega) only [push_cast,seval])|skip))
 | (refine Aiz ⟨.inr rfl,[],[],_,by decide,rfl,?_⟩;(try simp (disch:=omega) only [push_cast,seval,↓Aoz,↓Amz,↓List.map_cons,↓List.map_nil]))))
  refine Azz (fun j:Nat=>mkS [(0,.own 0 xs.length 1),(1,.int .i64 (k + j)),(5,.int .i64 j)] [(0,IL (marked k xs j))]) (fun j=>j ≤ xs.length) (fun j=>xs.length - j) 0 (Nat.zero_le _) ?_ ?_
  · (refine Sub.of_lists ?_ ?_ ?_ ?_ ?_<;>simp [Vw.mkS,Vw.lk,Vw.hk,AV.inn,innL,Aqz,Anz,Asz,-List.map_set,-List.getD_eq_getElem?_getD,marked_zero])
  · intro j hj
    have hml:=G9z k xs j hj
    (repeat' (first
 | (first|refine Ajz ?_|refine Afz ?_)
 | ((first|refine Akz ?_|refine Aez ?_|refine Agz ?_|refine Ahz ?_);simp (disch:=omega) only [push_cast,seval,l15r0,l15r1,l15r2,l15r3,l15r4,l15r5,l15r6,hml,List.length_map])
 | ((first|refine Abz ?_ ?_|refine Adz ?_ ?_|refine Acz ?_ ?_)<;>intro h<;>(try simp only [h])<;>(try simp only [bitvec_to_nat] at h)<;>(try simp only [h])<;>(first|(exfalso;omega)|(exfalso;simp_all;done)|(simp (disch:=omega) only [push_cast,seval,hml,List.length_map])|skip))
 | (refine Aiz ⟨.inr rfl,[],[],_,by decide,rfl,?_⟩;(try simp (disch:=omega) only [push_cast,seval,↓Aoz,↓Amz,↓List.map_cons,↓List.map_nil,hml,List.length_map]))))
    · refine ⟨j + 1,by omega,by omega,?_⟩
      have e:=marked_set k xs j (by omega)
      have e2:(IL (marked k xs j)).set j (.int .i64 (k + j))=IL (marked k xs (j + 1)):=by rw [← e,IL,IL,List.map_set]
      (refine Sub.of_lists ?_ ?_ ?_ ?_ ?_<;>simp [Vw.mkS,Vw.lk,Vw.hk,AV.inn,innL,Aqz,Anz,Asz,-List.map_set,-List.getD_eq_getElem?_getD,e2,Int.add_assoc])
    · have e:j=xs.length:=by omega
      subst e
      simp [marked_all]


theorem heldIntS_ok (n:Nat) (k:Int) (hk:(0 ≤ k ∧ k ≤ 1099511627776) ∧ n ≤ 1099511627776):PCall Try.prog 16 [.rows false (IL (upFrom k n)) n,.int .i64 k] (fun r=>r=.int .i64 (k + n)):=by
  refine Axz l16_eq rfl ?_
  (repeat' (first
 | (first|refine Ajz ?_|refine Afz ?_)
 | ((first|refine Akz ?_|refine Aez ?_|refine Agz ?_|refine Ahz ?_);simp (disch:=omega) only [push_cast,seval,l16r0,l16r1,l16r2,l16r3,l16r4,l16r5,l16r6,l16r7])
 | ((first|refine Abz ?_ ?_|refine Adz ?_ ?_|refine Acz ?_ ?_)<;>intro h<;>(try simp only [h])<;>(try simp only [bitvec_to_nat] at h)<;>(try simp only [h])<;>(first|(exfalso;omega)|(exfalso;simp_all;done)|(simp (disch:=omega) only [push_cast,seval])|skip))
 | (refine Aiz ⟨.inr rfl,_,rfl,?_⟩;(try simp (disch:=omega) only [push_cast,seval]))))
  refine Azz (fun j:Nat=>mkS [(0,.rows false (IL (upFrom k n)) n),(1,.int .i64 (k + j)),(5,.int .i64 j)] []) (fun j=>j ≤ n) (fun j=>n - j) 0 (Nat.zero_le _) ?_ ?_
  · (refine Sub.of_lists ?_ ?_ ?_ ?_ ?_<;>simp [Vw.mkS,Vw.lk,Vw.hk,AV.inn,innL,Aqz,Anz,Asz,-List.map_set,-List.getD_eq_getElem?_getD])
  · intro j hj
    (repeat' (first
 | (first|refine Ajz ?_|refine Afz ?_)
 | ((first|refine Akz ?_|refine Aez ?_|refine Agz ?_|refine Ahz ?_);simp (disch:=omega) only [push_cast,seval,l16r0,l16r1,l16r2,l16r3,l16r4,l16r5,l16r6,l16r7])
 | ((first|refine Abz ?_ ?_|refine Adz ?_ ?_|refine Acz ?_ ?_)<;>intro h<;>(try simp only [h])<;>(try simp only [bitvec_to_nat] at h)<;>(try simp only [h])<;>(first|(exfalso;omega)|(exfalso;simp_all;done)|(simp (disch:=omega) only [push_cast,seval])|skip))
 | (refine Aiz ⟨.inr rfl,_,rfl,?_⟩;(try simp (disch:=omega) only [push_cast,seval]))))
    · have:=upFrom_getD k n j (by omega)
      exact absurd this ‹_›
    · refine ⟨j + 1,by omega,by omega,?_⟩
      (refine Sub.of_lists ?_ ?_ ?_ ?_ ?_<;>simp [Vw.mkS,Vw.lk,Vw.hk,AV.inn,innL,Aqz,Anz,Asz,-List.map_set,-List.getD_eq_getElem?_getD,Int.add_assoc])
    · have e:j=n:=by omega
      subst e
      rfl

end Go.Proofs.Ytpicoecbbiiaoaa
set_option linter.unusedSimpArgs false
set_option linter.unusedVariables false
set_option maxRecDepth 4000
set_option maxHeartbeats 4000000
namespace Go.Proofs.Ytpicoecbbiiaoaa
open VwM Vw Go

theorem placeIn_ok (xs:List Int) (n:Nat) (x:Int) (hn:xs.length=n) (hb:n ≤ 1099511627776):PCall Try.prog 39 [.rows false (IL xs) n,.int .i64 x] (fun r=>r=.int .i64 (placeI xs x)):=by
  subst hn
  refine Axz l39_eq rfl ?_
  (repeat' (first
 | (first|refine Ajz ?_|refine Afz ?_)
 | ((first|refine Akz ?_|refine Aez ?_|refine Agz ?_|refine Ahz ?_);simp (disch:=omega) only [push_cast,seval,l39r0,l39r1,l39r2,l39r3,l39r4,l39r5,l39r6])
 | ((first|refine Abz ?_ ?_|refine Adz ?_ ?_|refine Acz ?_ ?_)<;>intro h<;>(try simp only [h])<;>(try simp only [bitvec_to_nat] at h)<;>(try simp only [h])<;>(first|(exfalso;omega)|(exfalso;simp_all;done)|(simp (disch:=omega) only [push_cast,seval])|skip))
 | (refine Aiz ⟨.inr rfl,_,rfl,?_⟩;(try simp (disch:=omega) only [push_cast,seval]))))
  refine Azz (fun k:Nat=>mkS [(0,RI xs),(1,.int .i64 x),(5,.int .i64 k)] []) (fun k=>k ≤ xs.length ∧ ∀ j:Nat,j < k → xs.getD j 0 ≠ x) (fun k=>xs.length - k) 0 ⟨Nat.zero_le _,fun j h=>absurd h (Nat.not_lt_zero _)⟩ ?_ ?_
  · (refine Sub.of_lists ?_ ?_ ?_ ?_ ?_<;>simp [Vw.mkS,Vw.lk,Vw.hk,AV.inn,innL,Aqz,Anz,Asz,-List.map_set,-List.getD_eq_getElem?_getD])
  · rintro k ⟨hk,hj⟩
    (repeat' (first
 | (first|refine Ajz ?_|refine Afz ?_)
 | ((first|refine Akz ?_|refine Aez ?_|refine Agz ?_|refine Ahz ?_);simp (disch:=omega) only [push_cast,seval,l39r0,l39r1,l39r2,l39r3,l39r4,l39r5,l39r6])
 | ((first|refine Abz ?_ ?_|refine Adz ?_ ?_|refine Acz ?_ ?_)<;>intro h<;>(try simp only [h])<;>(try simp only [bitvec_to_nat] at h)<;>(try simp only [h])<;>(first|(exfalso;omega)|(exfalso;simp_all;done)|(simp (disch:=omega) only [push_cast,seval])|skip))
 | (refine Aiz ⟨.inr rfl,_,rfl,?_⟩;(try simp (disch:=omega) only [push_cast,seval]))))
    · rw [placeI_some (j:=k) (by omega) (by assumption) hj]
    · refine ⟨k + 1,⟨by omega,fun j h=>?_⟩,by omega,?_⟩
      · by_cases hjk:j=k
        · subst hjk;assumption
        · exact hj j (by omega)
      · (refine Sub.of_lists ?_ ?_ ?_ ?_ ?_<;>simp [Vw.mkS,Vw.lk,Vw.hk,AV.inn,innL,Aqz,Anz,Asz,-List.map_set,-List.getD_eq_getElem?_getD])
    · rw [placeI_none fun j h=>hj j (by omega)]

end Go.Proofs.Ytpicoecbbiiaoaa
set_option linter.unusedSimpArgs false
set_option linter.unusedVariables false
set_option maxRecDepth 4000
set_option maxHeartbeats 4000000
namespace Go.Proofs.Ytpicoecbbiiaoaa
open VwM Vw Go

end Go.Proofs.Ytpicoecbbiiaoaa
set_option linter.unusedSimpArgs false
set_option linter.unusedVariables false
set_option maxRecDepth 4000
set_option maxHeartbeats 4000000
namespace Go.Proofs.Ytpicoecbbiiaoaa
open VwM Vw Go

theorem toIntS_ok (xs:List Int) (n:Nat) (hn:xs.length=n) (hb:n ≤ 1099511627776):BCall Try.prog 28 [.rows false (IL xs) n] [] (OI xs):=by
  subst hn
  refine Bkz (pins:=[]) (pin:=0) l28_eq rfl rfl rfl ?_
  (repeat' (first
 | (first|refine Ajz ?_|refine Afz ?_)
 | ((first|refine Akz ?_|refine Aez ?_|refine Agz ?_|refine Ahz ?_);simp (disch:=omega) only [push_cast,seval,l28r0,l28r1,l28r2,l28r3,l28r4,l28r5,l28r6])
 | ((first|refine Abz ?_ ?_|refine Adz ?_ ?_|refine Acz ?_ ?_)<;>intro h<;>(try simp only [h])<;>(try simp only [bitvec_to_nat] at h)<;>(try simp only [h])<;>(first|(exfalso;omega)|(exfalso;simp_all;done)|(simp (disch:=omega) only [push_cast,seval])|skip))
 | (refine Aiz ⟨.inr rfl,[112],[],_,by decide,rfl,?_⟩;(try simp (disch:=omega) only [push_cast,seval,↓Aoz,↓Amz,↓List.map_cons,↓List.map_nil]);(first|done|(show AV.own _ _ _=_ ∧ _)))))
  refine Azz (fun k:Nat=>mkS [(0,RI xs),(4,.int .i64 k),(3,.own 112 xs.length 1)] [(112,IL (filled (fun i:Nat=>xs.getD i 0) xs.length k))])
    (fun k=>k ≤ xs.length) (fun k=>xs.length - k) 0 (Nat.zero_le _) ?_ ?_
  · (refine Sub.of_lists ?_ ?_ ?_ ?_ ?_<;>simp [Vw.mkS,Vw.lk,Vw.hk,AV.inn,innL,Aqz,Anz,Asz,-List.map_set,-List.getD_eq_getElem?_getD,F1z])
  · intro k hk
    (repeat' (first
 | (first|refine Ajz ?_|refine Afz ?_)
 | ((first|refine Akz ?_|refine Aez ?_|refine Agz ?_|refine Ahz ?_);simp (disch:=omega) only [push_cast,seval,l28r0,l28r1,l28r2,l28r3,l28r4,l28r5,l28r6])
 | ((first|refine Abz ?_ ?_|refine Adz ?_ ?_|refine Acz ?_ ?_)<;>intro h<;>(try simp only [h])<;>(try simp only [bitvec_to_nat] at h)<;>(try simp only [h])<;>(first|(exfalso;omega)|(exfalso;simp_all;done)|(simp (disch:=omega) only [push_cast,seval])|skip))
 | (refine Aiz ⟨.inr rfl,[112],[],_,by decide,rfl,?_⟩;(try simp (disch:=omega) only [push_cast,seval,↓Aoz,↓Amz,↓List.map_cons,↓List.map_nil]);(first|done|(show AV.own _ _ _=_ ∧ _)))))
    · refine ⟨k + 1,by omega,by omega,?_⟩
      have e:=Gqz (fun i:Nat=>xs.getD i 0) xs.length k (by omega)
      (refine Sub.of_lists ?_ ?_ ?_ ?_ ?_<;>simp [Vw.mkS,Vw.lk,Vw.hk,AV.inn,innL,Aqz,Anz,Asz,-List.map_set,-List.getD_eq_getElem?_getD,IL_set,e])
    · have e:k=xs.length:=by omega
      rw [e,Grz,filled_getD]
      simp [OI]


theorem upTo_ok (x l:Int):PCall Try.prog 80 [.int .i64 x,.int .i64 l] (fun r=>r=.bool (decide (0 ≤ x) && decide (x ≤ l))):=by
  refine Axz l80_eq rfl ?_
  (repeat' (first
 | (first|refine Ajz ?_|refine Afz ?_)
 | ((first|refine Akz ?_|refine Aez ?_|refine Agz ?_|refine Ahz ?_);simp (disch:=omega) only [push_cast,seval,l80r0,l80r1])
 | ((first|refine Abz ?_ ?_|refine Adz ?_ ?_|refine Acz ?_ ?_)<;>intro h<;>(try simp only [h])<;>(try simp only [bitvec_to_nat] at h)<;>(try simp only [h])<;>(first|(exfalso;omega)|(exfalso;simp_all;done)|(simp (disch:=omega) only [push_cast,seval])|skip))
 | (refine Aiz ⟨.inr rfl,_,rfl,?_⟩;(try simp (disch:=omega) only [push_cast,seval]))))
  all_goals (first|rfl|(simp_all;done)|(simp_all;omega)|(simp;omega)|(simp;grind)|(simp_all;grind)|skip)


theorem product_ok (xs:List Int) (n:Nat) (hn:xs.length=n) (hg:good4 xs):PCall Try.prog 86 [.rows false (IL xs) n] (fun r=>r=.int .i64 (pr xs)):=by
  subst hn
  have hl:=hg.2
  refine Axz l86_eq rfl ?_
  (repeat' (first
 | (first|refine Ajz ?_|refine Afz ?_)
 | ((first|refine Akz ?_|refine Aez ?_|refine Agz ?_|refine Ahz ?_);simp (disch:=omega) only [push_cast,seval,l86r0,l86r1,l86r2,l86r3,l86r4,l86r5,l86r6,l86r7])
 | ((first|refine Abz ?_ ?_|refine Adz ?_ ?_|refine Acz ?_ ?_)<;>intro h<;>(try simp only [h])<;>(try simp only [bitvec_to_nat] at h)<;>(try simp only [h])<;>(first|(exfalso;omega)|(exfalso;simp_all;done)|(simp (disch:=omega) only [push_cast,seval])|skip))
 | (refine Aiz ⟨.inr rfl,_,rfl,?_⟩;(try simp (disch:=omega) only [push_cast,seval]))))
  refine Azz (fun k:Nat=>mkS [(3,.int .i64 (pr (xs.take k))),(6,RI xs),(7,.int .i64 xs.length),(8,.int .i64 k)] [])
    (fun k=>k ≤ xs.length) (fun k=>xs.length - k) 0 (Nat.zero_le _) ?_ ?_
  · (refine Sub.of_lists ?_ ?_ ?_ ?_ ?_<;>simp [Vw.mkS,Vw.lk,Vw.hk,AV.inn,innL,Aqz,Anz,Asz,-List.map_set,-List.getD_eq_getElem?_getD,pr_nil])
  · intro k hk
    by_cases hlt:k < xs.length
    · have h1:=Coz (Gpz hg (k + 1))
      have h2:=C4z xs k hlt
      (repeat' (first
 | (first|refine Ajz ?_|refine Afz ?_)
 | ((first|refine Akz ?_|refine Aez ?_|refine Agz ?_|refine Ahz ?_);simp (disch:=omega) only [push_cast,seval,l86r0,l86r1,l86r2,l86r3,l86r4,l86r5,l86r6,l86r7])
 | ((first|refine Abz ?_ ?_|refine Adz ?_ ?_|refine Acz ?_ ?_)<;>intro h<;>(try simp only [h])<;>(try simp only [bitvec_to_nat] at h)<;>(try simp only [h])<;>(first|(exfalso;omega)|(exfalso;simp_all;done)|(simp (disch:=omega) only [push_cast,seval])|skip))
 | (refine Aiz ⟨.inr rfl,_,rfl,?_⟩;(try simp (disch:=omega) only [push_cast,seval]))))
      refine ⟨k + 1,by omega,by omega,?_⟩
      (refine Sub.of_lists ?_ ?_ ?_ ?_ ?_<;>simp [Vw.mkS,Vw.lk,Vw.hk,AV.inn,innL,Aqz,Anz,Asz,-List.map_set,-List.getD_eq_getElem?_getD,h2])
    · (repeat' (first
 | (first|refine Ajz ?_|refine Afz ?_)
 | ((first|refine Akz ?_|refine Aez ?_|refine Agz ?_|refine Ahz ?_);simp (disch:=omega) only [push_cast,seval,l86r0,l86r1,l86r2,l86r3,l86r4,l86r5,l86r6,l86r7])
 | ((first|refine Abz ?_ ?_|refine Adz ?_ ?_|refine Acz ?_ ?_)<;>intro h<;>(try simp only [h])<;>(try simp only [bitvec_to_nat] at h)<;>(try simp only [h])<;>(first|(exfalso;omega)|(exfalso;simp_all;done)|(simp (disch:=omega) only [push_cast,seval])|skip))
 | (refine Aiz ⟨.inr rfl,_,rfl,?_⟩;(try simp (disch:=omega) only [push_cast,seval]))))
      rw [List.take_of_length_le (by omega)]


theorem scount_ok (xs:List Int) (n:Nat) (hn:xs.length=n) (hg:good4 xs):PCall Try.prog 69 [.rows false (IL xs) n] (fun r=>r=.int .i64 (pr xs)):=by
  subst hn
  have hl:=hg.2
  refine Axz l69_eq rfl ?_
  (repeat' (first
 | (first|refine Ajz ?_|refine Afz ?_)
 | ((first|refine Akz ?_|refine Aez ?_|refine Agz ?_|refine Ahz ?_);simp (disch:=omega) only [push_cast,seval,l69r0,l69r1,l69r2,l69r3,l69r4,l69r5,l69r6])
 | ((first|refine Abz ?_ ?_|refine Adz ?_ ?_|refine Acz ?_ ?_)<;>intro h<;>(try simp only [h])<;>(try simp only [bitvec_to_nat] at h)<;>(try simp only [h])<;>(first|(exfalso;omega)|(exfalso;simp_all;done)|(simp (disch:=omega) only [push_cast,seval])|skip))
 | (refine Aiz ⟨.inr rfl,_,rfl,?_⟩;(try simp (disch:=omega) only [push_cast,seval]))))
  refine Azz (fun k:Nat=>mkS [(0,RI xs),(3,.int .i64 (pr (xs.take k))),(4,.int .i64 k)] [])
    (fun k=>k ≤ xs.length) (fun k=>xs.length - k) 0 (Nat.zero_le _) ?_ ?_
  · (refine Sub.of_lists ?_ ?_ ?_ ?_ ?_<;>simp [Vw.mkS,Vw.lk,Vw.hk,AV.inn,innL,Aqz,Anz,Asz,-List.map_set,-List.getD_eq_getElem?_getD,pr_nil])
  · intro k hk
    by_cases hlt:k < xs.length
    · have h1:=Coz (Gpz hg (k + 1))
      have h2:=C4z xs k hlt
      (repeat' (first
 | (first|refine Ajz ?_|refine Afz ?_)
 | ((first|refine Akz ?_|refine Aez ?_|refine Agz ?_|refine Ahz ?_);simp (disch:=omega) only [push_cast,seval,l69r0,l69r1,l69r2,l69r3,l69r4,l69r5,l69r6])
 | ((first|refine Abz ?_ ?_|refine Adz ?_ ?_|refine Acz ?_ ?_)<;>intro h<;>(try simp only [h])<;>(try simp only [bitvec_to_nat] at h)<;>(try simp only [h])<;>(first|(exfalso;omega)|(exfalso;simp_all;done)|(simp (disch:=omega) only [push_cast,seval])|skip))
 | (refine Aiz ⟨.inr rfl,_,rfl,?_⟩;(try simp (disch:=omega) only [push_cast,seval]))))
      refine ⟨k + 1,by omega,by omega,?_⟩
      (refine Sub.of_lists ?_ ?_ ?_ ?_ ?_<;>simp [Vw.mkS,Vw.lk,Vw.hk,AV.inn,innL,Aqz,Anz,Asz,-List.map_set,-List.getD_eq_getElem?_getD,h2])
    · (repeat' (first
 | (first|refine Ajz ?_|refine Afz ?_)
 | ((first|refine Akz ?_|refine Aez ?_|refine Agz ?_|refine Ahz ?_);simp (disch:=omega) only [push_cast,seval,l69r0,l69r1,l69r2,l69r3,l69r4,l69r5,l69r6])
 | ((first|refine Abz ?_ ?_|refine Adz ?_ ?_|refine Acz ?_ ?_)<;>intro h<;>(try simp only [h])<;>(try simp only [bitvec_to_nat] at h)<;>(try simp only [h])<;>(first|(exfalso;omega)|(exfalso;simp_all;done)|(simp (disch:=omega) only [push_cast,seval])|skip))
 | (refine Aiz ⟨.inr rfl,_,rfl,?_⟩;(try simp (disch:=omega) only [push_cast,seval]))))
      rw [List.take_of_length_le (by omega)]


theorem allIn_ok (xs:List Int) (n:Nat) (l h:Int) (hn:xs.length=n) (hb:n ≤ 1099511627776):PCall Try.prog 53 [.rows false (IL xs) n,.int .i64 l,.int .i64 h] (fun r=>r=.bool (allI xs l h)):=by
  subst hn
  refine Axz l53_eq rfl ?_
  (repeat' (first
 | (first|refine Ajz ?_|refine Afz ?_)
 | ((first|refine Akz ?_|refine Aez ?_|refine Agz ?_|refine Ahz ?_);simp (disch:=omega) only [push_cast,seval,l53r0,l53r1,l53r2,l53r3,l53r4,l53r5,l53r6])
 | ((first|refine Abz ?_ ?_|refine Adz ?_ ?_|refine Acz ?_ ?_)<;>intro h<;>(try simp only [h])<;>(try simp only [bitvec_to_nat] at h)<;>(try simp only [h])<;>(first|(exfalso;omega)|(exfalso;simp_all;done)|(simp (disch:=omega) only [push_cast,seval])|skip))
 | ((first|refine Apz false ?_|refine Alz false ?_);simp (disch:=omega) only [push_cast,seval])
 | ((first|((first|refine call0D (BCall.ofP (inRange_ok _ _ _)) ?_|refine qcall0D (BCall.ofP (inRange_ok _ _ _)) ⟨_,_,rfl,rfl⟩ ?_);rintro _ _ ⟨rfl,rfl⟩))<;>(try simp (disch:=omega) only [push_cast,seval]))
 | (refine Aiz ⟨.inr rfl,_,rfl,?_⟩;(try simp (disch:=omega) only [push_cast,seval]))))
  refine Azz (fun k:Nat=>mkS [(0,RI xs),(1,.int .i64 l),(2,.int .i64 h),(7,.int .i64 k)] []) (fun k=>k ≤ xs.length ∧ ∀ j:Nat,j < k → l ≤ xs.getD j 0 ∧ xs.getD j 0 ≤ h) (fun k=>xs.length - k) 0 ⟨Nat.zero_le _,fun j h=>absurd h (Nat.not_lt_zero _)⟩ ?_ ?_
  · (refine Sub.of_lists ?_ ?_ ?_ ?_ ?_<;>simp [Vw.mkS,Vw.lk,Vw.hk,AV.inn,innL,Aqz,Anz,Asz,-List.map_set,-List.getD_eq_getElem?_getD])
  · rintro k ⟨hk,hj⟩
    (repeat' (first
 | (first|refine Ajz ?_|refine Afz ?_)
 | ((first|refine Akz ?_|refine Aez ?_|refine Agz ?_|refine Ahz ?_);simp (disch:=omega) only [push_cast,seval,l53r0,l53r1,l53r2,l53r3,l53r4,l53r5,l53r6])
 | ((first|refine Abz ?_ ?_|refine Adz ?_ ?_|refine Acz ?_ ?_)<;>intro h<;>(try simp only [h])<;>(try simp only [bitvec_to_nat] at h)<;>(try simp only [h])<;>(first|(exfalso;omega)|(exfalso;simp_all;done)|(simp (disch:=omega) only [push_cast,seval])|skip))
 | ((first|refine Apz false ?_|refine Alz false ?_);simp (disch:=omega) only [push_cast,seval])
 | ((first|((first|refine call0D (BCall.ofP (inRange_ok _ _ _)) ?_|refine qcall0D (BCall.ofP (inRange_ok _ _ _)) ⟨_,_,rfl,rfl⟩ ?_);rintro _ _ ⟨rfl,rfl⟩))<;>(try simp (disch:=omega) only [push_cast,seval]))
 | (refine Aiz ⟨.inr rfl,_,rfl,?_⟩;(try simp (disch:=omega) only [push_cast,seval]))))
    · rw [Etz (j:=k) (by omega) (by assumption)]
    · refine ⟨k + 1,⟨by omega,fun j h=>?_⟩,by omega,?_⟩
      · by_cases hjk:j=k
        · subst hjk;assumption
        · exact hj j (by omega)
      · (refine Sub.of_lists ?_ ?_ ?_ ?_ ?_<;>simp [Vw.mkS,Vw.lk,Vw.hk,AV.inn,innL,Aqz,Anz,Asz,-List.map_set,-List.getD_eq_getElem?_getD])
    · rw [F8z fun j h=>hj j (by omega)]


theorem A0z (xs:List Int) (n:Nat) (hn:xs.length=n) (hb:n ≤ 1099511627776):PCall Try.prog 62 [.rows false (IL xs) n] (fun r=>r=.bool (vSh xs)):=by
  subst hn
  refine Axz l62_eq rfl ?_
  (repeat' (first
 | (first|refine Ajz ?_|refine Afz ?_)
 | ((first|refine Akz ?_|refine Aez ?_|refine Agz ?_|refine Ahz ?_);simp (disch:=omega) only [push_cast,seval,l62r0,l62r1,l62r2,l62r3,l62r4,l62r5,l62r6,l62r7,l62r8,l62r9])
 | ((first|refine Abz ?_ ?_|refine Adz ?_ ?_|refine Acz ?_ ?_)<;>intro h<;>(try simp only [h])<;>(try simp only [bitvec_to_nat] at h)<;>(try simp only [h])<;>(first|(exfalso;omega)|(exfalso;simp_all;done)|(simp (disch:=omega) only [push_cast,seval])|skip))
 | ((first|refine Apz false ?_|refine Alz false ?_);simp (disch:=omega) only [push_cast,seval])
 | ((first|((first|refine call0D (BCall.ofP (upTo_ok _ _)) ?_|refine qcall0D (BCall.ofP (upTo_ok _ _)) ⟨_,_,rfl,rfl⟩ ?_);rintro _ _ ⟨rfl,rfl⟩)|((first|refine call0D (BCall.ofP (product_ok _ _ ?_ ?_)) ?_|refine qcall0D (BCall.ofP (product_ok _ _ ?_ ?_)) ⟨_,_,rfl,rfl⟩ ?_);(iterate 2 (exact sd));rintro _ _ ⟨rfl,rfl⟩))<;>(try simp (disch:=omega) only [push_cast,seval]))
 | (refine Aiz ⟨.inr rfl,_,rfl,?_⟩;(try simp (disch:=omega) only [push_cast,seval]))))
  · have:¬ xs.length ≤ 4:=by omega
    simp [vSh,this]
  have h4:xs.length ≤ 4:=by omega
  refine Azz (fun k:Nat=>mkS [(0,RI xs),(8,RI xs),(9,.int .i64 xs.length),(10,.int .i64 k)] []) (fun k=>k ≤ xs.length ∧ ∀ j:Nat,j < k → 0 ≤ xs.getD j 0 ∧ xs.getD j 0 ≤ 60) (fun k=>xs.length - k) 0 ⟨Nat.zero_le _,fun j h=>absurd h (Nat.not_lt_zero _)⟩ ?_ ?_
  · (refine Sub.of_lists ?_ ?_ ?_ ?_ ?_<;>simp [Vw.mkS,Vw.lk,Vw.hk,AV.inn,innL,Aqz,Anz,Asz,-List.map_set,-List.getD_eq_getElem?_getD])
  · rintro k ⟨hk,hj⟩
    by_cases hlt:k < xs.length
    · (repeat' (first
 | (first|refine Ajz ?_|refine Afz ?_)
 | ((first|refine Akz ?_|refine Aez ?_|refine Agz ?_|refine Ahz ?_);simp (disch:=omega) only [push_cast,seval,l62r0,l62r1,l62r2,l62r3,l62r4,l62r5,l62r6,l62r7,l62r8,l62r9])
 | ((first|refine Abz ?_ ?_|refine Adz ?_ ?_|refine Acz ?_ ?_)<;>intro h<;>(try simp only [h])<;>(try simp only [bitvec_to_nat] at h)<;>(try simp only [h])<;>(first|(exfalso;omega)|(exfalso;simp_all;done)|(simp (disch:=omega) only [push_cast,seval])|skip))
 | ((first|refine Apz false ?_|refine Alz false ?_);simp (disch:=omega) only [push_cast,seval])
 | ((first|((first|refine call0D (BCall.ofP (upTo_ok _ _)) ?_|refine qcall0D (BCall.ofP (upTo_ok _ _)) ⟨_,_,rfl,rfl⟩ ?_);rintro _ _ ⟨rfl,rfl⟩)|((first|refine call0D (BCall.ofP (product_ok _ _ ?_ ?_)) ?_|refine qcall0D (BCall.ofP (product_ok _ _ ?_ ?_)) ⟨_,_,rfl,rfl⟩ ?_);(iterate 2 (exact sd));rintro _ _ ⟨rfl,rfl⟩))<;>(try simp (disch:=omega) only [push_cast,seval]))
 | (refine Aiz ⟨.inr rfl,_,rfl,?_⟩;(try simp (disch:=omega) only [push_cast,seval]))))
      · have:allI xs 0 60=false:=Etz (j:=k) hlt (by assumption)
        simp [vSh,this]
      · refine ⟨k + 1,⟨by omega,fun j h=>?_⟩,by omega,?_⟩
        · by_cases hjk:j=k
          · subst hjk;assumption
          · exact hj j (by omega)
        · (refine Sub.of_lists ?_ ?_ ?_ ?_ ?_<;>simp [Vw.mkS,Vw.lk,Vw.hk,AV.inn,innL,Aqz,Anz,Asz,-List.map_set,-List.getD_eq_getElem?_getD])
    · have ha:allI xs 0 60=true:=F8z fun j h=>hj j (by omega)
      have hg:good4 xs:=⟨B3z.1 ha,h4⟩
      (repeat' (first
 | (first|refine Ajz ?_|refine Afz ?_)
 | ((first|refine Akz ?_|refine Aez ?_|refine Agz ?_|refine Ahz ?_);simp (disch:=omega) only [push_cast,seval,l62r0,l62r1,l62r2,l62r3,l62r4,l62r5,l62r6,l62r7,l62r8,l62r9])
 | ((first|refine Abz ?_ ?_|refine Adz ?_ ?_|refine Acz ?_ ?_)<;>intro h<;>(try simp only [h])<;>(try simp only [bitvec_to_nat] at h)<;>(try simp only [h])<;>(first|(exfalso;omega)|(exfalso;simp_all;done)|(simp (disch:=omega) only [push_cast,seval])|skip))
 | ((first|refine Apz false ?_|refine Alz false ?_);simp (disch:=omega) only [push_cast,seval])
 | ((first|((first|refine call0D (BCall.ofP (upTo_ok _ _)) ?_|refine qcall0D (BCall.ofP (upTo_ok _ _)) ⟨_,_,rfl,rfl⟩ ?_);rintro _ _ ⟨rfl,rfl⟩)|((first|refine call0D (BCall.ofP (product_ok _ _ ?_ ?_)) ?_|refine qcall0D (BCall.ofP (product_ok _ _ ?_ ?_)) ⟨_,_,rfl,rfl⟩ ?_);(iterate 2 (exact sd));rintro _ _ ⟨rfl,rfl⟩))<;>(try simp (disch:=omega) only [push_cast,seval]))
 | (refine Aiz ⟨.inr rfl,_,rfl,?_⟩;(try simp (disch:=omega) only [push_cast,seval]))))
      simp [vSh,ha,h4]


theorem Ayz (xs:List Int) (n:Nat) (hn:xs.length=n) (hb:n ≤ 1099511627776):PCall Try.prog 92 [.rows false (IL xs) n] (fun r=>r=.bool (vSh xs)):=by
  subst hn
  refine Axz l92_eq rfl ?_
  by_cases h4:xs.length ≤ 4
  · cases ha:allI xs 0 60 with
    | false =>
      (repeat' (first
 | (first|refine Ajz ?_|refine Afz ?_)
 | ((first|refine Akz ?_|refine Aez ?_|refine Agz ?_|refine Ahz ?_);simp (disch:=omega) only [push_cast,seval,l92r0,l92r1,ha])
 | ((first|refine Abz ?_ ?_|refine Adz ?_ ?_|refine Acz ?_ ?_)<;>intro h<;>(try simp only [h])<;>(try simp only [bitvec_to_nat] at h)<;>(try simp only [h])<;>(first|(exfalso;omega)|(exfalso;simp_all;done)|(simp (disch:=omega) only [push_cast,seval,ha])|skip))
 | ((first|refine Apz false ?_|refine Alz false ?_);simp (disch:=omega) only [push_cast,seval,ha])
 | ((first|((first|refine call0D (BCall.ofP (allIn_ok _ _ _ _ ?_ ?_)) ?_|refine qcall0D (BCall.ofP (allIn_ok _ _ _ _ ?_ ?_)) ⟨_,_,rfl,rfl⟩ ?_);(iterate 2 (exact sd));rintro _ _ ⟨rfl,rfl⟩)|((first|refine call0D (BCall.ofP (scount_ok _ _ ?_ ?_)) ?_|refine qcall0D (BCall.ofP (scount_ok _ _ ?_ ?_)) ⟨_,_,rfl,rfl⟩ ?_);(iterate 2 (exact sd));rintro _ _ ⟨rfl,rfl⟩))<;>(try simp (disch:=omega) only [push_cast,seval,ha]))
 | (refine Aiz ⟨.inr rfl,_,rfl,?_⟩;(try simp (disch:=omega) only [push_cast,seval,ha]))))
      simp [vSh,ha]
    | true =>
      have hg:good4 xs:=⟨B3z.1 ha,h4⟩
      (repeat' (first
 | (first|refine Ajz ?_|refine Afz ?_)
 | ((first|refine Akz ?_|refine Aez ?_|refine Agz ?_|refine Ahz ?_);simp (disch:=omega) only [push_cast,seval,l92r0,l92r1,ha])
 | ((first|refine Abz ?_ ?_|refine Adz ?_ ?_|refine Acz ?_ ?_)<;>intro h<;>(try simp only [h])<;>(try simp only [bitvec_to_nat] at h)<;>(try simp only [h])<;>(first|(exfalso;omega)|(exfalso;simp_all;done)|(simp (disch:=omega) only [push_cast,seval,ha])|skip))
 | ((first|refine Apz false ?_|refine Alz false ?_);simp (disch:=omega) only [push_cast,seval,ha])
 | ((first|((first|refine call0D (BCall.ofP (allIn_ok _ _ _ _ ?_ ?_)) ?_|refine qcall0D (BCall.ofP (allIn_ok _ _ _ _ ?_ ?_)) ⟨_,_,rfl,rfl⟩ ?_);(iterate 2 (exact sd));rintro _ _ ⟨rfl,rfl⟩)|((first|refine call0D (BCall.ofP (scount_ok _ _ ?_ ?_)) ?_|refine qcall0D (BCall.ofP (scount_ok _ _ ?_ ?_)) ⟨_,_,rfl,rfl⟩ ?_);(iterate 2 (exact sd));rintro _ _ ⟨rfl,rfl⟩))<;>(try simp (disch:=omega) only [push_cast,seval,ha]))
 | (refine Aiz ⟨.inr rfl,_,rfl,?_⟩;(try simp (disch:=omega) only [push_cast,seval,ha]))))
      simp [vSh,ha,h4]
  · (repeat' (first
 | (first|refine Ajz ?_|refine Afz ?_)
 | ((first|refine Akz ?_|refine Aez ?_|refine Agz ?_|refine Ahz ?_);simp (disch:=omega) only [push_cast,seval,l92r0,l92r1])
 | ((first|refine Abz ?_ ?_|refine Adz ?_ ?_|refine Acz ?_ ?_)<;>intro h<;>(try simp only [h])<;>(try simp only [bitvec_to_nat] at h)<;>(try simp only [h])<;>(first|(exfalso;omega)|(exfalso;simp_all;done)|(simp (disch:=omega) only [push_cast,seval])|skip))
 | ((first|refine Apz false ?_|refine Alz false ?_);simp (disch:=omega) only [push_cast,seval])
 | ((first|((first|refine call0D (BCall.ofP (allIn_ok _ _ _ _ ?_ ?_)) ?_|refine qcall0D (BCall.ofP (allIn_ok _ _ _ _ ?_ ?_)) ⟨_,_,rfl,rfl⟩ ?_);(iterate 2 (exact sd));rintro _ _ ⟨rfl,rfl⟩)|((first|refine call0D (BCall.ofP (scount_ok _ _ ?_ ?_)) ?_|refine qcall0D (BCall.ofP (scount_ok _ _ ?_ ?_)) ⟨_,_,rfl,rfl⟩ ?_);(iterate 2 (exact sd));rintro _ _ ⟨rfl,rfl⟩))<;>(try simp (disch:=omega) only [push_cast,seval]))
 | (refine Aiz ⟨.inr rfl,_,rfl,?_⟩;(try simp (disch:=omega) only [push_cast,seval]))))
    simp [vSh,h4]

end Go.Proofs.Ytpicoecbbiiaoaa
set_option linter.unusedSimpArgs false
set_option linter.unusedVariables false
set_option maxRecDepth 4000
set_option maxHeartbeats 4000000
namespace Go.Proofs.Ytpicoecbbiiaoaa
open VwM Vw Go

theorem unrank_ok (xs:List Int) (n:Nat) (k:Int) (hn:xs.length=n) (hg:good4 xs ∧ 0 ≤ k ∧ k < pr xs):BCall Try.prog 71 [.rows false (IL xs) n,.int .i64 k] [] (OI (unr xs k)):=by
  subst hn
  obtain ⟨hg,hk0,hk1⟩:=hg
  have hl:=hg.2
  have hprb:=Coz hg
  have hp:=C5z hg (by omega)
  refine Bkz (pins:=[]) (pin:=0) l71_eq rfl rfl rfl ?_
  (repeat' (first
 | (first|refine Ajz ?_|refine Afz ?_)
 | ((first|refine Akz ?_|refine Aez ?_|refine Agz ?_|refine Ahz ?_);simp (disch:=omega) only [push_cast,seval,l71r0,l71r1,l71r2,l71r3,l71r4,l71r5,l71r6,l71r7])
 | ((first|refine Abz ?_ ?_|refine Adz ?_ ?_|refine Acz ?_ ?_)<;>intro h<;>(try simp only [h])<;>(try simp only [bitvec_to_nat] at h)<;>(try simp only [h])<;>(first|(exfalso;omega)|(exfalso;simp_all;done)|(simp (disch:=omega) only [push_cast,seval])|skip))
 | (refine Aiz ⟨.inr rfl,[144],[],_,by decide,rfl,?_⟩;(try simp (disch:=omega) only [push_cast,seval,↓Aoz,↓Amz,↓List.map_cons,↓List.map_nil]);(first|done|(show AV.own _ _ _=_ ∧ _)))))
  refine Azz (fun j:Nat=>mkS [(0,RI xs),(6,.int .i64 ((xs.length:Int) - 1 - (j:Int))),(1,.int .i64 (kS xs k j)),(5,.own 144 xs.length 1)] [(144,IL (filledD (dig xs k) xs.length j))])
    (fun j=>j ≤ xs.length) (fun j=>xs.length - j) 0 (Nat.zero_le _) ?_ ?_
  · (refine Sub.of_lists ?_ ?_ ?_ ?_ ?_<;>simp [Vw.mkS,Vw.lk,Vw.hk,AV.inn,innL,Aqz,Anz,Asz,-List.map_set,-List.getD_eq_getElem?_getD,filledD_zero,kS])
  · intro j hj
    by_cases hlt:j < xs.length
    · have e1:=down_nat xs.length j hlt
      have h1:=Dkz hk0 hp j hj
      have h2:=Dkz hk0 hp (j + 1) hlt
      have h3:=hp (xs.length - 1 - j) (by omega)
      have h4:¬ xs.getD (xs.length - 1 - j) 0=0:=by omega
      simp only [kS] at h2
      have e3:=filledD_set (dig xs k) xs.length j hlt
      have e6:dig xs k (xs.length - 1 - j)=(kS xs k j).tmod (xs.getD (xs.length - 1 - j) 0):=by
        unfold dig
        rw [show xs.length - 1 - (xs.length - 1 - j)=j by omega]
      rw [e6] at e3
      (repeat' (first
 | (first|refine Ajz ?_|refine Afz ?_)
 | ((first|refine Akz ?_|refine Aez ?_|refine Agz ?_|refine Ahz ?_);simp (disch:=omega) only [push_cast,seval,l71r0,l71r1,l71r2,l71r3,l71r4,l71r5,l71r6,l71r7,e1,h4])
 | ((first|refine Abz ?_ ?_|refine Adz ?_ ?_|refine Acz ?_ ?_)<;>intro h<;>(try simp only [h])<;>(try simp only [bitvec_to_nat] at h)<;>(try simp only [h])<;>(first|(exfalso;omega)|(exfalso;simp_all;done)|(simp (disch:=omega) only [push_cast,seval,e1,h4])|skip))
 | (refine Aiz ⟨.inr rfl,[144],[],_,by decide,rfl,?_⟩;(try simp (disch:=omega) only [push_cast,seval,↓Aoz,↓Amz,↓List.map_cons,↓List.map_nil,e1,h4]);(first|done|(show AV.own _ _ _=_ ∧ _)))))
      refine ⟨j + 1,by omega,by omega,?_⟩
      have e4:(xs.length:Int) - 1 - ((j:Int) + 1)=(xs.length:Int) - 1 - (j:Int) - 1:=by omega
      (refine Sub.of_lists ?_ ?_ ?_ ?_ ?_<;>simp [Vw.mkS,Vw.lk,Vw.hk,AV.inn,innL,Aqz,Anz,Asz,-List.map_set,-List.getD_eq_getElem?_getD,IL_set,e3,e4,kS])
    · (repeat' (first
 | (first|refine Ajz ?_|refine Afz ?_)
 | ((first|refine Akz ?_|refine Aez ?_|refine Agz ?_|refine Ahz ?_);simp (disch:=omega) only [push_cast,seval,l71r0,l71r1,l71r2,l71r3,l71r4,l71r5,l71r6,l71r7])
 | ((first|refine Abz ?_ ?_|refine Adz ?_ ?_|refine Acz ?_ ?_)<;>intro h<;>(try simp only [h])<;>(try simp only [bitvec_to_nat] at h)<;>(try simp only [h])<;>(first|(exfalso;omega)|(exfalso;simp_all;done)|(simp (disch:=omega) only [push_cast,seval])|skip))
 | (refine Aiz ⟨.inr rfl,[144],[],_,by decide,rfl,?_⟩;(try simp (disch:=omega) only [push_cast,seval,↓Aoz,↓Amz,↓List.map_cons,↓List.map_nil]);(first|done|(show AV.own _ _ _=_ ∧ _)))))
      have e:j=xs.length:=by omega
      rw [e,filledD_all]
      simp [OI,unr]


theorem placesAt_ok (xs:List Int) (n:Nat) (k:Int) (hn:xs.length=n) (hg:good4 xs ∧ 0 ≤ k ∧ k < pr xs):PCall Try.prog 75 [.rows false (IL xs) n,.int .i64 k] (fun r=>r=AP (digP xs k)):=by
  subst hn
  obtain ⟨hg,hk0,hk1⟩:=hg
  have hl:=hg.2
  have hprb:=Coz hg
  have hp:=C5z hg (by omega)
  refine Axz l75_eq rfl ?_
  (repeat' (first
 | (first|refine Ajz ?_|refine Afz ?_)
 | ((first|refine Akz ?_|refine Aez ?_|refine Agz ?_|refine Ahz ?_);simp (disch:=omega) only [push_cast,seval,l75r0,l75r1,l75r2,l75r3,l75r4,l75r5,l75r6,l75r7])
 | ((first|refine Abz ?_ ?_|refine Adz ?_ ?_|refine Acz ?_ ?_)<;>intro h<;>(try simp only [h])<;>(try simp only [bitvec_to_nat] at h)<;>(try simp only [h])<;>(first|(exfalso;omega)|(exfalso;simp_all;done)|(simp (disch:=omega) only [push_cast,seval])|skip))
 | (refine Aiz ⟨.inr rfl,_,rfl,?_⟩;(try simp (disch:=omega) only [push_cast,seval]))))
  refine Azz (fun j:Nat=>mkS [(0,RI xs),(4,.ref 64 4 0),(5,.ref 80 4 0),(6,.int .i64 ((xs.length:Int) - 1 - (j:Int))),(1,.int .i64 (kS xs k j))] [(64,IL (pad4 fun _=>0)),(80,IL (pad4 (padD xs k j)))])
    (fun j=>j ≤ xs.length) (fun j=>xs.length - j) 0 (Nat.zero_le _) ?_ ?_
  · have e:pad4 (padD xs k 0)=pad4 fun _=>0:=Eoz fun i _=>by unfold padD;rw [if_neg (by omega)]
    rw [e]
    (refine Sub.of_lists ?_ ?_ ?_ ?_ ?_<;>simp [Vw.mkS,Vw.lk,Vw.hk,AV.inn,innL,Aqz,Anz,Asz,-List.map_set,-List.getD_eq_getElem?_getD,pad4,kS])
  · intro j hj
    by_cases hlt:j < xs.length
    · have e1:=down_nat xs.length j hlt
      have h1:=Dkz hk0 hp j hj
      have h2:=Dkz hk0 hp (j + 1) hlt
      have h3:=hp (xs.length - 1 - j) (by omega)
      have h4:¬ xs.getD (xs.length - 1 - j) 0=0:=by omega
      simp only [kS] at h2
      have e6:dig xs k (xs.length - 1 - j)=(kS xs k j).tmod (xs.getD (xs.length - 1 - j) 0):=by
        unfold dig
        rw [show xs.length - 1 - (xs.length - 1 - j)=j by omega]
      have e3:(pad4 (padD xs k j)).set (xs.length - 1 - j) ((kS xs k j).tmod (xs.getD (xs.length - 1 - j) 0))=pad4 (padD xs k (j + 1)):=by
        rw [pad4_set _ _ _ (by omega),← e6]
        refine Eoz fun i hi=>?_
        unfold padD
        by_cases h:i=xs.length - 1 - j
        · subst h;rw [if_pos rfl,if_pos (by omega)]
        · rw [if_neg h]
          by_cases h5:i < xs.length ∧ xs.length - j ≤ i
          · rw [if_pos h5,if_pos (by omega)]
          · rw [if_neg h5,if_neg (by omega)]
      (repeat' (first
 | (first|refine Ajz ?_|refine Afz ?_)
 | ((first|refine Akz ?_|refine Aez ?_|refine Agz ?_|refine Ahz ?_);simp (disch:=omega) only [push_cast,seval,l75r0,l75r1,l75r2,l75r3,l75r4,l75r5,l75r6,l75r7,e1,h4])
 | ((first|refine Abz ?_ ?_|refine Adz ?_ ?_|refine Acz ?_ ?_)<;>intro h<;>(try simp only [h])<;>(try simp only [bitvec_to_nat] at h)<;>(try simp only [h])<;>(first|(exfalso;omega)|(exfalso;simp_all;done)|(simp (disch:=omega) only [push_cast,seval,e1,h4])|skip))
 | (refine Aiz ⟨.inr rfl,_,rfl,?_⟩;(try simp (disch:=omega) only [push_cast,seval,e1,h4]))))
      refine ⟨j + 1,by omega,by omega,?_⟩
      have e4:(xs.length:Int) - 1 - ((j:Int) + 1)=(xs.length:Int) - 1 - (j:Int) - 1:=by omega
      (refine Sub.of_lists ?_ ?_ ?_ ?_ ?_<;>simp [Vw.mkS,Vw.lk,Vw.hk,AV.inn,innL,Aqz,Anz,Asz,-List.map_set,-List.getD_eq_getElem?_getD,IL_set,e3,e4,kS])
    · have e:j=xs.length:=by omega
      (repeat' (first
 | (first|refine Ajz ?_|refine Afz ?_)
 | ((first|refine Akz ?_|refine Aez ?_|refine Agz ?_|refine Ahz ?_);simp (disch:=omega) only [push_cast,seval,l75r0,l75r1,l75r2,l75r3,l75r4,l75r5,l75r6,l75r7])
 | ((first|refine Abz ?_ ?_|refine Adz ?_ ?_|refine Acz ?_ ?_)<;>intro h<;>(try simp only [h])<;>(try simp only [bitvec_to_nat] at h)<;>(try simp only [h])<;>(first|(exfalso;omega)|(exfalso;simp_all;done)|(simp (disch:=omega) only [push_cast,seval])|skip))
 | (refine Aiz ⟨.inr rfl,_,rfl,?_⟩;(try simp (disch:=omega) only [push_cast,seval]))))
      subst e
      have e2:pad4 (padD xs k xs.length)=pad4 (digP xs k):=Eoz fun i _=>by
        unfold digP padD
        by_cases h:i < xs.length
        · rw [if_pos ⟨h,by omega⟩,if_pos h]
        · rw [if_neg (fun hh=>h hh.1),if_neg h]
      rw [e2]

end Go.Proofs.Ytpicoecbbiiaoaa
set_option linter.unusedSimpArgs false
set_option linter.unusedVariables false
set_option maxRecDepth 4000
set_option maxHeartbeats 4000000
namespace Go.Proofs.Ytpicoecbbiiaoaa
open VwM Vw Go

theorem along_ok (f:Nat → Int) (st:List Int) (n:Nat) (hn:st.length=n) (hb:n ≤ 4 ∧ ∀ i,i < n → (-60 ≤ f i ∧ f i ≤ 60) ∧ -12960000 ≤ st.getD i 0 ∧ st.getD i 0 ≤ 12960000):PCall Try.prog 95 [AP f,.rows false (IL st) n] (fun r=>r=.int .i64 (dot f st n)):=by
  subst hn
  obtain ⟨hl,hb⟩:=hb
  refine Axz l95_eq rfl ?_
  (repeat' (first
 | (first|refine Ajz ?_|refine Afz ?_)
 | ((first|refine Akz ?_|refine Aez ?_|refine Agz ?_|refine Ahz ?_);simp (disch:=omega) only [push_cast,seval,l95r0,l95r1,l95r2,l95r3,l95r4,l95r5,l95r6,l95r7])
 | ((first|refine Abz ?_ ?_|refine Adz ?_ ?_|refine Acz ?_ ?_)<;>intro h<;>(try simp only [h])<;>(try simp only [bitvec_to_nat] at h)<;>(try simp only [h])<;>(first|(exfalso;omega)|(exfalso;simp_all;done)|(simp (disch:=omega) only [push_cast,seval])|skip))
 | (refine Aiz ⟨.inr rfl,_,rfl,?_⟩;(try simp (disch:=omega) only [push_cast,seval]))))
  refine Azz (fun k:Nat=>mkS [(2,.ref 32 4 0),(5,.int .i64 (dot f st k)),(8,RI st),(9,.int .i64 st.length),(10,.int .i64 k)] [(32,IL (pad4 f))]) (fun k=>k ≤ st.length) (fun k=>st.length - k) 0 (Nat.zero_le _) ?_ ?_
  · (refine Sub.of_lists ?_ ?_ ?_ ?_ ?_<;>simp [Vw.mkS,Vw.lk,Vw.hk,AV.inn,innL,Aqz,Anz,Asz,-List.map_set,-List.getD_eq_getElem?_getD,dot,pad4])
  · intro k hk
    by_cases hlt:k < st.length
    · have h1:=Ehz (f:=f) (st:=st) (B:=60) (C:=12960000) k fun i hi=>hb i (by omega)
      have h2:=Crz (hb k hlt).1 (hb k hlt).2
      have h3:=pad4_getD f k (by omega)
      (repeat' (first
 | (first|refine Ajz ?_|refine Afz ?_)
 | ((first|refine Akz ?_|refine Aez ?_|refine Agz ?_|refine Ahz ?_);simp (disch:=omega) only [push_cast,seval,l95r0,l95r1,l95r2,l95r3,l95r4,l95r5,l95r6,l95r7,h3])
 | ((first|refine Abz ?_ ?_|refine Adz ?_ ?_|refine Acz ?_ ?_)<;>intro h<;>(try simp only [h])<;>(try simp only [bitvec_to_nat] at h)<;>(try simp only [h])<;>(first|(exfalso;omega)|(exfalso;simp_all;done)|(simp (disch:=omega) only [push_cast,seval,h3])|skip))
 | (refine Aiz ⟨.inr rfl,_,rfl,?_⟩;(try simp (disch:=omega) only [push_cast,seval,h3]))))
      refine ⟨k + 1,by omega,by omega,?_⟩
      (refine Sub.of_lists ?_ ?_ ?_ ?_ ?_<;>simp [Vw.mkS,Vw.lk,Vw.hk,AV.inn,innL,Aqz,Anz,Asz,-List.map_set,-List.getD_eq_getElem?_getD,dot])
    · (repeat' (first
 | (first|refine Ajz ?_|refine Afz ?_)
 | ((first|refine Akz ?_|refine Aez ?_|refine Agz ?_|refine Ahz ?_);simp (disch:=omega) only [push_cast,seval,l95r0,l95r1,l95r2,l95r3,l95r4,l95r5,l95r6,l95r7])
 | ((first|refine Abz ?_ ?_|refine Adz ?_ ?_|refine Acz ?_ ?_)<;>intro h<;>(try simp only [h])<;>(try simp only [bitvec_to_nat] at h)<;>(try simp only [h])<;>(first|(exfalso;omega)|(exfalso;simp_all;done)|(simp (disch:=omega) only [push_cast,seval])|skip))
 | (refine Aiz ⟨.inr rfl,_,rfl,?_⟩;(try simp (disch:=omega) only [push_cast,seval]))))
      rw [show k=st.length by omega]

end Go.Proofs.Ytpicoecbbiiaoaa
set_option linter.unusedSimpArgs false
set_option linter.unusedVariables false
set_option maxRecDepth 4000
set_option maxHeartbeats 4000000
namespace Go.Proofs.Ytpicoecbbiiaoaa
open VwM Vw Go

theorem vcount_ok (b:Int) (sh:List Int) (n:Nat) (cs:List AV) (m:Nat) (fr:Bool) (hn:sh.length=n) (hg:good4 sh):PCall Try.prog 73 [.agg [.int .i64 b,.rows false (IL sh) n,.rows fr cs m]] (fun r=>r=.int .i64 (pr sh)):=by
  subst hn
  refine Axz l73_eq rfl ?_
  (repeat' (first
 | (first|refine Ajz ?_|refine Afz ?_)
 | ((first|refine Akz ?_|refine Aez ?_|refine Agz ?_|refine Ahz ?_);simp (disch:=omega) only [push_cast,seval,l73r0,l73r1])
 | ((first|refine Abz ?_ ?_|refine Adz ?_ ?_|refine Acz ?_ ?_)<;>intro h<;>(try simp only [h])<;>(try simp only [bitvec_to_nat] at h)<;>(try simp only [h])<;>(first|(exfalso;omega)|(exfalso;simp_all;done)|(simp (disch:=omega) only [push_cast,seval])|skip))
 | ((first|refine Apz false ?_|refine Alz false ?_);simp (disch:=omega) only [push_cast,seval])
 | ((first|((first|refine call0D (BCall.ofP (product_ok _ _ ?_ ?_)) ?_|refine qcall0D (BCall.ofP (product_ok _ _ ?_ ?_)) ⟨_,_,rfl,rfl⟩ ?_);(iterate 2 (exact sd));rintro _ _ ⟨rfl,rfl⟩))<;>(try simp (disch:=omega) only [push_cast,seval]))
 | (refine Aiz ⟨.inr rfl,_,rfl,?_⟩;(try simp (disch:=omega) only [push_cast,seval]))))


theorem Cez (b b':Int) (s t s' t':List Int) (n m n' m':Nat) (h1:s.length=n) (h2:t.length=m) (h3:s'.length=n') (h4:t'.length=m') (hb:n ≤ 1099511627776 ∧ m ≤ 1099511627776):PCall Try.prog 45 [.agg [.int .i64 b,.rows false (IL s) n,.rows false (IL t) m],.agg [.int .i64 b',.rows false (IL s') n',.rows false (IL t') m']] (fun r=>r=.bool (decide (b=b') && decide (s=s') && decide (t=t'))):=by
  subst h1 h2 h3 h4
  refine Axz l45_eq rfl ?_
  (repeat' (first
 | (first|refine Ajz ?_|refine Afz ?_)
 | ((first|refine Akz ?_|refine Aez ?_|refine Agz ?_|refine Ahz ?_);simp (disch:=omega) only [push_cast,seval,l45r0,l45r1,l45r2,l45r3,l45r4,l45r5,l45r6,l45r7])
 | ((first|refine Abz ?_ ?_|refine Adz ?_ ?_|refine Acz ?_ ?_)<;>intro h<;>(try simp only [h])<;>(try simp only [bitvec_to_nat] at h)<;>(try simp only [h])<;>(first|(exfalso;omega)|(exfalso;simp_all;done)|(simp (disch:=omega) only [push_cast,seval])|skip))
 | ((first|refine Apz false ?_|refine Alz false ?_);simp (disch:=omega) only [push_cast,seval])
 | ((first|((first|refine call0D (BCall.ofP (eqIntS_ok _ _ _ _ ?_ ?_ ?_)) ?_|refine qcall0D (BCall.ofP (eqIntS_ok _ _ _ _ ?_ ?_ ?_)) ⟨_,_,rfl,rfl⟩ ?_);(iterate 3 (exact sd));rintro _ _ ⟨rfl,rfl⟩))<;>(try simp (disch:=omega) only [push_cast,seval]))
 | (refine Aiz ⟨.inr rfl,_,rfl,?_⟩;(try simp (disch:=omega) only [push_cast,seval]))))
  all_goals (first|rfl|(simp_all;done)|(simp_all;omega)|(simp;omega)|(simp;grind)|(simp_all;grind)|skip)

end Go.Proofs.Ytpicoecbbiiaoaa
