/- Texts of this verifier. -/
import Derived.Test.YtahdlohpncjdbaaGreatDoorCB1
import Derived.Test.YtahdlohpncjdbaaGreatDoorCM1
set_option linter.unusedSimpArgs false
set_option linter.unusedVariables false
set_option maxRecDepth 4000
set_option maxHeartbeats 4000000
namespace Go.Proofs.YtahdlohpncjdbaaGreatDoor
open VwM Vw Go
set_option linter.unusedSectionVars false
variable [SentA]

theorem D1z (xs:List Int) (n:Nat) (hn:xs.length=n) (hb:n ≤ 1099511627776):BCall Tryz.prog 18 [.rows false (IL xs) n] [] (OI xs):=by
  subst hn
  refine A4z (pins:=[]) (pin:=0) l18_eq rfl rfl rfl ?_
  (repeat' (first
 | (first|refine Ajz ?_|refine Afz ?_)
 | ((first|refine Akz ?_|refine Aez ?_|refine Agz ?_|refine Ahz ?_);simp (disch:=omega) only [push_cast,seval,l18r0,l18r1,l18r2,l18r3,l18r4,l18r5,l18r6])
 | ((first|refine Aaz ?_ ?_|refine Adz ?_ ?_|refine Acz ?_ ?_)<;>intro h<;>(try simp only [h])<;>(try simp only [bitvec_to_nat] at h)<;>(try simp only [h])<;>(first|(exfalso;omega)|(exfalso;simp_all;done)|(simp (disch:=omega) only [push_cast,seval])|skip))
 | (refine Aiz ⟨.inr rfl,[112],[],_,by decide,rfl,?_⟩;(try simp (disch:=omega) only [push_cast,seval,↓Apz,↓Anz,↓List.map_cons,↓List.map_nil]);(first|done|(show AV.own _ _ _=_ ∧ _)))))
  refine Bcz (fun k:Nat=>mkS [(0,RI xs),(4,.int .i64 k),(3,.own 112 xs.length 1)] [(112,IL (filled (fun i:Nat=>xs.getD i 0) xs.length k))])
    (fun k=>k ≤ xs.length) (fun k=>xs.length - k) 0 (Nat.zero_le _) ?_ ?_
  · (refine Sub.of_lists ?_ ?_ ?_ ?_ ?_<;>simp [Vw.mkS,Vw.lk,Vw.hk,AV.inn,innL,Asz,Arz,Avz,-List.map_set,-List.getD_eq_getElem?_getD,filled_zero])
  · intro k hk
    (repeat' (first
 | (first|refine Ajz ?_|refine Afz ?_)
 | ((first|refine Akz ?_|refine Aez ?_|refine Agz ?_|refine Ahz ?_);simp (disch:=omega) only [push_cast,seval,l18r0,l18r1,l18r2,l18r3,l18r4,l18r5,l18r6])
 | ((first|refine Aaz ?_ ?_|refine Adz ?_ ?_|refine Acz ?_ ?_)<;>intro h<;>(try simp only [h])<;>(try simp only [bitvec_to_nat] at h)<;>(try simp only [h])<;>(first|(exfalso;omega)|(exfalso;simp_all;done)|(simp (disch:=omega) only [push_cast,seval])|skip))
 | (refine Aiz ⟨.inr rfl,[112],[],_,by decide,rfl,?_⟩;(try simp (disch:=omega) only [push_cast,seval,↓Apz,↓Anz,↓List.map_cons,↓List.map_nil]);(first|done|(show AV.own _ _ _=_ ∧ _)))))
    · refine ⟨k + 1,by omega,by omega,?_⟩
      have e:=filled_set (fun i:Nat=>xs.getD i 0) xs.length k (by omega)
      (refine Sub.of_lists ?_ ?_ ?_ ?_ ?_<;>simp [Vw.mkS,Vw.lk,Vw.hk,AV.inn,innL,Asz,Arz,Avz,-List.map_set,-List.getD_eq_getElem?_getD,Azz,e])
    · have e:k=xs.length:=by omega
      rw [e,filled_all,filled_getD]
      simp [OI]


theorem upTo_ok (x l:Int):PCall Tryz.prog 42 [.int .i64 x,.int .i64 l] (fun r=>r=.bool (decide (0 ≤ x) && decide (x ≤ l))):=by
  refine Auz l42_eq rfl ?_
  (repeat' (first
 | (first|refine Ajz ?_|refine Afz ?_)
 | ((first|refine Akz ?_|refine Aez ?_|refine Agz ?_|refine Ahz ?_);simp (disch:=omega) only [push_cast,seval,l42r0,l42r1])
 | ((first|refine Aaz ?_ ?_|refine Adz ?_ ?_|refine Acz ?_ ?_)<;>intro h<;>(try simp only [h])<;>(try simp only [bitvec_to_nat] at h)<;>(try simp only [h])<;>(first|(exfalso;omega)|(exfalso;simp_all;done)|(simp (disch:=omega) only [push_cast,seval])|skip))
 | (refine Aiz ⟨.inr rfl,_,rfl,?_⟩;(try simp (disch:=omega) only [push_cast,seval]))))
  all_goals (first|rfl|(simp_all;done)|(simp_all;omega)|(simp;omega)|(simp;grind)|(simp_all;grind)|skip)


theorem product_ok (xs:List Int) (n:Nat) (hn:xs.length=n) (hg:good4 xs):PCall Tryz.prog 92 [.rows false (IL xs) n] (fun r=>r=.int .i64 (pr xs)):=by
  subst hn
  have hl:=hg.2
  refine Auz l92_eq rfl ?_
  (repeat' (first
 | (first|refine Ajz ?_|refine Afz ?_)
 | ((first|refine Akz ?_|refine Aez ?_|refine Agz ?_|refine Ahz ?_);simp (disch:=omega) only [push_cast,seval,l92r0,l92r1,l92r2,l92r3,l92r4,l92r5,l92r6,l92r7])
 | ((first|refine Aaz ?_ ?_|refine Adz ?_ ?_|refine Acz ?_ ?_)<;>intro h<;>(try simp only [h])<;>(try simp only [bitvec_to_nat] at h)<;>(try simp only [h])<;>(first|(exfalso;omega)|(exfalso;simp_all;done)|(simp (disch:=omega) only [push_cast,seval])|skip))
 | (refine Aiz ⟨.inr rfl,_,rfl,?_⟩;(try simp (disch:=omega) only [push_cast,seval]))))
  refine Bcz (fun k:Nat=>mkS [(3,.int .i64 (pr (xs.take k))),(6,RI xs),(7,.int .i64 xs.length),(8,.int .i64 k)] [])
    (fun k=>k ≤ xs.length) (fun k=>xs.length - k) 0 (Nat.zero_le _) ?_ ?_
  · (refine Sub.of_lists ?_ ?_ ?_ ?_ ?_<;>simp [Vw.mkS,Vw.lk,Vw.hk,AV.inn,innL,Asz,Arz,Avz,-List.map_set,-List.getD_eq_getElem?_getD,pr_nil])
  · intro k hk
    by_cases hlt:k < xs.length
    · have h1:=Ebz (I6z hg (k + 1))
      have h2:=Erz xs k hlt
      (repeat' (first
 | (first|refine Ajz ?_|refine Afz ?_)
 | ((first|refine Akz ?_|refine Aez ?_|refine Agz ?_|refine Ahz ?_);simp (disch:=omega) only [push_cast,seval,l92r0,l92r1,l92r2,l92r3,l92r4,l92r5,l92r6,l92r7])
 | ((first|refine Aaz ?_ ?_|refine Adz ?_ ?_|refine Acz ?_ ?_)<;>intro h<;>(try simp only [h])<;>(try simp only [bitvec_to_nat] at h)<;>(try simp only [h])<;>(first|(exfalso;omega)|(exfalso;simp_all;done)|(simp (disch:=omega) only [push_cast,seval])|skip))
 | (refine Aiz ⟨.inr rfl,_,rfl,?_⟩;(try simp (disch:=omega) only [push_cast,seval]))))
      refine ⟨k + 1,by omega,by omega,?_⟩
      (refine Sub.of_lists ?_ ?_ ?_ ?_ ?_<;>simp [Vw.mkS,Vw.lk,Vw.hk,AV.inn,innL,Asz,Arz,Avz,-List.map_set,-List.getD_eq_getElem?_getD,h2])
    · (repeat' (first
 | (first|refine Ajz ?_|refine Afz ?_)
 | ((first|refine Akz ?_|refine Aez ?_|refine Agz ?_|refine Ahz ?_);simp (disch:=omega) only [push_cast,seval,l92r0,l92r1,l92r2,l92r3,l92r4,l92r5,l92r6,l92r7])
 | ((first|refine Aaz ?_ ?_|refine Adz ?_ ?_|refine Acz ?_ ?_)<;>intro h<;>(try simp only [h])<;>(try simp only [bitvec_to_nat] at h)<;>(try simp only [h])<;>(first|(exfalso;omega)|(exfalso;simp_all;done)|(simp (disch:=omega) only [push_cast,seval])|skip))
 | (refine Aiz ⟨.inr rfl,_,rfl,?_⟩;(try simp (disch:=omega) only [push_cast,seval]))))
      rw [List.take_of_length_le (by omega)]


theorem scount_ok (xs:List Int) (n:Nat) (hn:xs.length=n) (hg:good4 xs):PCall Tryz.prog 57 [.rows false (IL xs) n] (fun r=>r=.int .i64 (pr xs)):=by
  subst hn
  have hl:=hg.2
  refine Auz l57_eq rfl ?_
  (repeat' (first
 | (first|refine Ajz ?_|refine Afz ?_)
 | ((first|refine Akz ?_|refine Aez ?_|refine Agz ?_|refine Ahz ?_);simp (disch:=omega) only [push_cast,seval,l57r0,l57r1,l57r2,l57r3,l57r4,l57r5,l57r6])
 | ((first|refine Aaz ?_ ?_|refine Adz ?_ ?_|refine Acz ?_ ?_)<;>intro h<;>(try simp only [h])<;>(try simp only [bitvec_to_nat] at h)<;>(try simp only [h])<;>(first|(exfalso;omega)|(exfalso;simp_all;done)|(simp (disch:=omega) only [push_cast,seval])|skip))
 | (refine Aiz ⟨.inr rfl,_,rfl,?_⟩;(try simp (disch:=omega) only [push_cast,seval]))))
  refine Bcz (fun k:Nat=>mkS [(0,RI xs),(3,.int .i64 (pr (xs.take k))),(4,.int .i64 k)] [])
    (fun k=>k ≤ xs.length) (fun k=>xs.length - k) 0 (Nat.zero_le _) ?_ ?_
  · (refine Sub.of_lists ?_ ?_ ?_ ?_ ?_<;>simp [Vw.mkS,Vw.lk,Vw.hk,AV.inn,innL,Asz,Arz,Avz,-List.map_set,-List.getD_eq_getElem?_getD,pr_nil])
  · intro k hk
    by_cases hlt:k < xs.length
    · have h1:=Ebz (I6z hg (k + 1))
      have h2:=Erz xs k hlt
      (repeat' (first
 | (first|refine Ajz ?_|refine Afz ?_)
 | ((first|refine Akz ?_|refine Aez ?_|refine Agz ?_|refine Ahz ?_);simp (disch:=omega) only [push_cast,seval,l57r0,l57r1,l57r2,l57r3,l57r4,l57r5,l57r6])
 | ((first|refine Aaz ?_ ?_|refine Adz ?_ ?_|refine Acz ?_ ?_)<;>intro h<;>(try simp only [h])<;>(try simp only [bitvec_to_nat] at h)<;>(try simp only [h])<;>(first|(exfalso;omega)|(exfalso;simp_all;done)|(simp (disch:=omega) only [push_cast,seval])|skip))
 | (refine Aiz ⟨.inr rfl,_,rfl,?_⟩;(try simp (disch:=omega) only [push_cast,seval]))))
      refine ⟨k + 1,by omega,by omega,?_⟩
      (refine Sub.of_lists ?_ ?_ ?_ ?_ ?_<;>simp [Vw.mkS,Vw.lk,Vw.hk,AV.inn,innL,Asz,Arz,Avz,-List.map_set,-List.getD_eq_getElem?_getD,h2])
    · (repeat' (first
 | (first|refine Ajz ?_|refine Afz ?_)
 | ((first|refine Akz ?_|refine Aez ?_|refine Agz ?_|refine Ahz ?_);simp (disch:=omega) only [push_cast,seval,l57r0,l57r1,l57r2,l57r3,l57r4,l57r5,l57r6])
 | ((first|refine Aaz ?_ ?_|refine Adz ?_ ?_|refine Acz ?_ ?_)<;>intro h<;>(try simp only [h])<;>(try simp only [bitvec_to_nat] at h)<;>(try simp only [h])<;>(first|(exfalso;omega)|(exfalso;simp_all;done)|(simp (disch:=omega) only [push_cast,seval])|skip))
 | (refine Aiz ⟨.inr rfl,_,rfl,?_⟩;(try simp (disch:=omega) only [push_cast,seval]))))
      rw [List.take_of_length_le (by omega)]


theorem allIn_ok (xs:List Int) (n:Nat) (l h:Int) (hn:xs.length=n) (hb:n ≤ 1099511627776):PCall Tryz.prog 55 [.rows false (IL xs) n,.int .i64 l,.int .i64 h] (fun r=>r=.bool (allI xs l h)):=by
  subst hn
  refine Auz l55_eq rfl ?_
  (repeat' (first
 | (first|refine Ajz ?_|refine Afz ?_)
 | ((first|refine Akz ?_|refine Aez ?_|refine Agz ?_|refine Ahz ?_);simp (disch:=omega) only [push_cast,seval,l55r0,l55r1,l55r2,l55r3,l55r4,l55r5,l55r6])
 | ((first|refine Aaz ?_ ?_|refine Adz ?_ ?_|refine Acz ?_ ?_)<;>intro h<;>(try simp only [h])<;>(try simp only [bitvec_to_nat] at h)<;>(try simp only [h])<;>(first|(exfalso;omega)|(exfalso;simp_all;done)|(simp (disch:=omega) only [push_cast,seval])|skip))
 | ((first|refine Amz false ?_|refine Alz false ?_);simp (disch:=omega) only [push_cast,seval])
 | ((first|((first|refine call0D (BCall.ofP (inRange_ok _ _ _)) ?_|refine qcall0D (BCall.ofP (inRange_ok _ _ _)) ⟨_,_,rfl,rfl⟩ ?_);rintro _ _ ⟨rfl,rfl⟩))<;>(try simp (disch:=omega) only [push_cast,seval]))
 | (refine Aiz ⟨.inr rfl,_,rfl,?_⟩;(try simp (disch:=omega) only [push_cast,seval]))))
  refine Bcz (fun k:Nat=>mkS [(0,RI xs),(1,.int .i64 l),(2,.int .i64 h),(7,.int .i64 k)] []) (fun k=>k ≤ xs.length ∧ ∀ j:Nat,j < k → l ≤ xs.getD j 0 ∧ xs.getD j 0 ≤ h) (fun k=>xs.length - k) 0 ⟨Nat.zero_le _,fun j h=>absurd h (Nat.not_lt_zero _)⟩ ?_ ?_
  · (refine Sub.of_lists ?_ ?_ ?_ ?_ ?_<;>simp [Vw.mkS,Vw.lk,Vw.hk,AV.inn,innL,Asz,Arz,Avz,-List.map_set,-List.getD_eq_getElem?_getD])
  · rintro k ⟨hk,hj⟩
    (repeat' (first
 | (first|refine Ajz ?_|refine Afz ?_)
 | ((first|refine Akz ?_|refine Aez ?_|refine Agz ?_|refine Ahz ?_);simp (disch:=omega) only [push_cast,seval,l55r0,l55r1,l55r2,l55r3,l55r4,l55r5,l55r6])
 | ((first|refine Aaz ?_ ?_|refine Adz ?_ ?_|refine Acz ?_ ?_)<;>intro h<;>(try simp only [h])<;>(try simp only [bitvec_to_nat] at h)<;>(try simp only [h])<;>(first|(exfalso;omega)|(exfalso;simp_all;done)|(simp (disch:=omega) only [push_cast,seval])|skip))
 | ((first|refine Amz false ?_|refine Alz false ?_);simp (disch:=omega) only [push_cast,seval])
 | ((first|((first|refine call0D (BCall.ofP (inRange_ok _ _ _)) ?_|refine qcall0D (BCall.ofP (inRange_ok _ _ _)) ⟨_,_,rfl,rfl⟩ ?_);rintro _ _ ⟨rfl,rfl⟩))<;>(try simp (disch:=omega) only [push_cast,seval]))
 | (refine Aiz ⟨.inr rfl,_,rfl,?_⟩;(try simp (disch:=omega) only [push_cast,seval]))))
    · rw [Fcz (j:=k) (by omega) (by assumption)]
    · refine ⟨k + 1,⟨by omega,fun j h=>?_⟩,by omega,?_⟩
      · by_cases hjk:j=k
        · subst hjk;assumption
        · exact hj j (by omega)
      · (refine Sub.of_lists ?_ ?_ ?_ ?_ ?_<;>simp [Vw.mkS,Vw.lk,Vw.hk,AV.inn,innL,Asz,Arz,Avz,-List.map_set,-List.getD_eq_getElem?_getD])
    · rw [Glz fun j h=>hj j (by omega)]


theorem Bdz (xs:List Int) (n:Nat) (hn:xs.length=n) (hb:n ≤ 1099511627776):PCall Tryz.prog 87 [.rows false (IL xs) n] (fun r=>r=.bool (vSh xs)):=by
  subst hn
  refine Auz l87_eq rfl ?_
  (repeat' (first
 | (first|refine Ajz ?_|refine Afz ?_)
 | ((first|refine Akz ?_|refine Aez ?_|refine Agz ?_|refine Ahz ?_);simp (disch:=omega) only [push_cast,seval,l87r0,l87r1,l87r2,l87r3,l87r4,l87r5,l87r6,l87r7,l87r8,l87r9])
 | ((first|refine Aaz ?_ ?_|refine Adz ?_ ?_|refine Acz ?_ ?_)<;>intro h<;>(try simp only [h])<;>(try simp only [bitvec_to_nat] at h)<;>(try simp only [h])<;>(first|(exfalso;omega)|(exfalso;simp_all;done)|(simp (disch:=omega) only [push_cast,seval])|skip))
 | ((first|refine Amz false ?_|refine Alz false ?_);simp (disch:=omega) only [push_cast,seval])
 | ((first|((first|refine call0D (BCall.ofP (upTo_ok _ _)) ?_|refine qcall0D (BCall.ofP (upTo_ok _ _)) ⟨_,_,rfl,rfl⟩ ?_);rintro _ _ ⟨rfl,rfl⟩)|((first|refine call0D (BCall.ofP (product_ok _ _ ?_ ?_)) ?_|refine qcall0D (BCall.ofP (product_ok _ _ ?_ ?_)) ⟨_,_,rfl,rfl⟩ ?_);(iterate 2 (exact sd));rintro _ _ ⟨rfl,rfl⟩))<;>(try simp (disch:=omega) only [push_cast,seval]))
 | (refine Aiz ⟨.inr rfl,_,rfl,?_⟩;(try simp (disch:=omega) only [push_cast,seval]))))
  · have:¬ xs.length ≤ 4:=by omega
    simp [vSh,this]
  have h4:xs.length ≤ 4:=by omega
  refine Bcz (fun k:Nat=>mkS [(0,RI xs),(8,RI xs),(9,.int .i64 xs.length),(10,.int .i64 k)] []) (fun k=>k ≤ xs.length ∧ ∀ j:Nat,j < k → 0 ≤ xs.getD j 0 ∧ xs.getD j 0 ≤ 60) (fun k=>xs.length - k) 0 ⟨Nat.zero_le _,fun j h=>absurd h (Nat.not_lt_zero _)⟩ ?_ ?_
  · (refine Sub.of_lists ?_ ?_ ?_ ?_ ?_<;>simp [Vw.mkS,Vw.lk,Vw.hk,AV.inn,innL,Asz,Arz,Avz,-List.map_set,-List.getD_eq_getElem?_getD])
  · rintro k ⟨hk,hj⟩
    by_cases hlt:k < xs.length
    · (repeat' (first
 | (first|refine Ajz ?_|refine Afz ?_)
 | ((first|refine Akz ?_|refine Aez ?_|refine Agz ?_|refine Ahz ?_);simp (disch:=omega) only [push_cast,seval,l87r0,l87r1,l87r2,l87r3,l87r4,l87r5,l87r6,l87r7,l87r8,l87r9])
 | ((first|refine Aaz ?_ ?_|refine Adz ?_ ?_|refine Acz ?_ ?_)<;>intro h<;>(try simp only [h])<;>(try simp only [bitvec_to_nat] at h)<;>(try simp only [h])<;>(first|(exfalso;omega)|(exfalso;simp_all;done)|(simp (disch:=omega) only [push_cast,seval])|skip))
 | ((first|refine Amz false ?_|refine Alz false ?_);simp (disch:=omega) only [push_cast,seval])
 | ((first|((first|refine call0D (BCall.ofP (upTo_ok _ _)) ?_|refine qcall0D (BCall.ofP (upTo_ok _ _)) ⟨_,_,rfl,rfl⟩ ?_);rintro _ _ ⟨rfl,rfl⟩)|((first|refine call0D (BCall.ofP (product_ok _ _ ?_ ?_)) ?_|refine qcall0D (BCall.ofP (product_ok _ _ ?_ ?_)) ⟨_,_,rfl,rfl⟩ ?_);(iterate 2 (exact sd));rintro _ _ ⟨rfl,rfl⟩))<;>(try simp (disch:=omega) only [push_cast,seval]))
 | (refine Aiz ⟨.inr rfl,_,rfl,?_⟩;(try simp (disch:=omega) only [push_cast,seval]))))
      · have:allI xs 0 60=false:=Fcz (j:=k) hlt (by assumption)
        simp [vSh,this]
      · refine ⟨k + 1,⟨by omega,fun j h=>?_⟩,by omega,?_⟩
        · by_cases hjk:j=k
          · subst hjk;assumption
          · exact hj j (by omega)
        · (refine Sub.of_lists ?_ ?_ ?_ ?_ ?_<;>simp [Vw.mkS,Vw.lk,Vw.hk,AV.inn,innL,Asz,Arz,Avz,-List.map_set,-List.getD_eq_getElem?_getD])
    · have ha:allI xs 0 60=true:=Glz fun j h=>hj j (by omega)
      have hg:good4 xs:=⟨Daz.1 ha,h4⟩
      (repeat' (first
 | (first|refine Ajz ?_|refine Afz ?_)
 | ((first|refine Akz ?_|refine Aez ?_|refine Agz ?_|refine Ahz ?_);simp (disch:=omega) only [push_cast,seval,l87r0,l87r1,l87r2,l87r3,l87r4,l87r5,l87r6,l87r7,l87r8,l87r9])
 | ((first|refine Aaz ?_ ?_|refine Adz ?_ ?_|refine Acz ?_ ?_)<;>intro h<;>(try simp only [h])<;>(try simp only [bitvec_to_nat] at h)<;>(try simp only [h])<;>(first|(exfalso;omega)|(exfalso;simp_all;done)|(simp (disch:=omega) only [push_cast,seval])|skip))
 | ((first|refine Amz false ?_|refine Alz false ?_);simp (disch:=omega) only [push_cast,seval])
 | ((first|((first|refine call0D (BCall.ofP (upTo_ok _ _)) ?_|refine qcall0D (BCall.ofP (upTo_ok _ _)) ⟨_,_,rfl,rfl⟩ ?_);rintro _ _ ⟨rfl,rfl⟩)|((first|refine call0D (BCall.ofP (product_ok _ _ ?_ ?_)) ?_|refine qcall0D (BCall.ofP (product_ok _ _ ?_ ?_)) ⟨_,_,rfl,rfl⟩ ?_);(iterate 2 (exact sd));rintro _ _ ⟨rfl,rfl⟩))<;>(try simp (disch:=omega) only [push_cast,seval]))
 | (refine Aiz ⟨.inr rfl,_,rfl,?_⟩;(try simp (disch:=omega) only [push_cast,seval]))))
      simp [vSh,ha,h4]


theorem A9z (xs:List Int) (n:Nat) (hn:xs.length=n) (hb:n ≤ 1099511627776):PCall Tryz.prog 56 [.rows false (IL xs) n] (fun r=>r=.bool (vSh xs)):=by
  subst hn
  refine Auz l56_eq rfl ?_
  by_cases h4:xs.length ≤ 4
  · cases ha:allI xs 0 60 with
    | false =>
      (repeat' (first
 | (first|refine Ajz ?_|refine Afz ?_)
 | ((first|refine Akz ?_|refine Aez ?_|refine Agz ?_|refine Ahz ?_);simp (disch:=omega) only [push_cast,seval,l56r0,l56r1,ha])
 | ((first|refine Aaz ?_ ?_|refine Adz ?_ ?_|refine Acz ?_ ?_)<;>intro h<;>(try simp only [h])<;>(try simp only [bitvec_to_nat] at h)<;>(try simp only [h])<;>(first|(exfalso;omega)|(exfalso;simp_all;done)|(simp (disch:=omega) only [push_cast,seval,ha])|skip))
 | ((first|refine Amz false ?_|refine Alz false ?_);simp (disch:=omega) only [push_cast,seval,ha])
 | ((first|((first|refine call0D (BCall.ofP (allIn_ok _ _ _ _ ?_ ?_)) ?_|refine qcall0D (BCall.ofP (allIn_ok _ _ _ _ ?_ ?_)) ⟨_,_,rfl,rfl⟩ ?_);(iterate 2 (exact sd));rintro _ _ ⟨rfl,rfl⟩)|((first|refine call0D (BCall.ofP (scount_ok _ _ ?_ ?_)) ?_|refine qcall0D (BCall.ofP (scount_ok _ _ ?_ ?_)) ⟨_,_,rfl,rfl⟩ ?_);(iterate 2 (exact sd));rintro _ _ ⟨rfl,rfl⟩))<;>(try simp (disch:=omega) only [push_cast,seval,ha]))
 | (refine Aiz ⟨.inr rfl,_,rfl,?_⟩;(try simp (disch:=omega) only [push_cast,seval,ha]))))
      simp [vSh,ha]
    | true =>
      have hg:good4 xs:=⟨Daz.1 ha,h4⟩
      (repeat' (first
 | (first|refine Ajz ?_|refine Afz ?_)
 | ((first|refine Akz ?_|refine Aez ?_|refine Agz ?_|refine Ahz ?_);simp (disch:=omega) only [push_cast,seval,l56r0,l56r1,ha])
 | ((first|refine Aaz ?_ ?_|refine Adz ?_ ?_|refine Acz ?_ ?_)<;>intro h<;>(try simp only [h])<;>(try simp only [bitvec_to_nat] at h)<;>(try simp only [h])<;>(first|(exfalso;omega)|(exfalso;simp_all;done)|(simp (disch:=omega) only [push_cast,seval,ha])|skip))
 | ((first|refine Amz false ?_|refine Alz false ?_);simp (disch:=omega) only [push_cast,seval,ha])
 | ((first|((first|refine call0D (BCall.ofP (allIn_ok _ _ _ _ ?_ ?_)) ?_|refine qcall0D (BCall.ofP (allIn_ok _ _ _ _ ?_ ?_)) ⟨_,_,rfl,rfl⟩ ?_);(iterate 2 (exact sd));rintro _ _ ⟨rfl,rfl⟩)|((first|refine call0D (BCall.ofP (scount_ok _ _ ?_ ?_)) ?_|refine qcall0D (BCall.ofP (scount_ok _ _ ?_ ?_)) ⟨_,_,rfl,rfl⟩ ?_);(iterate 2 (exact sd));rintro _ _ ⟨rfl,rfl⟩))<;>(try simp (disch:=omega) only [push_cast,seval,ha]))
 | (refine Aiz ⟨.inr rfl,_,rfl,?_⟩;(try simp (disch:=omega) only [push_cast,seval,ha]))))
      simp [vSh,ha,h4]
  · (repeat' (first
 | (first|refine Ajz ?_|refine Afz ?_)
 | ((first|refine Akz ?_|refine Aez ?_|refine Agz ?_|refine Ahz ?_);simp (disch:=omega) only [push_cast,seval,l56r0,l56r1])
 | ((first|refine Aaz ?_ ?_|refine Adz ?_ ?_|refine Acz ?_ ?_)<;>intro h<;>(try simp only [h])<;>(try simp only [bitvec_to_nat] at h)<;>(try simp only [h])<;>(first|(exfalso;omega)|(exfalso;simp_all;done)|(simp (disch:=omega) only [push_cast,seval])|skip))
 | ((first|refine Amz false ?_|refine Alz false ?_);simp (disch:=omega) only [push_cast,seval])
 | ((first|((first|refine call0D (BCall.ofP (allIn_ok _ _ _ _ ?_ ?_)) ?_|refine qcall0D (BCall.ofP (allIn_ok _ _ _ _ ?_ ?_)) ⟨_,_,rfl,rfl⟩ ?_);(iterate 2 (exact sd));rintro _ _ ⟨rfl,rfl⟩)|((first|refine call0D (BCall.ofP (scount_ok _ _ ?_ ?_)) ?_|refine qcall0D (BCall.ofP (scount_ok _ _ ?_ ?_)) ⟨_,_,rfl,rfl⟩ ?_);(iterate 2 (exact sd));rintro _ _ ⟨rfl,rfl⟩))<;>(try simp (disch:=omega) only [push_cast,seval]))
 | (refine Aiz ⟨.inr rfl,_,rfl,?_⟩;(try simp (disch:=omega) only [push_cast,seval]))))
    simp [vSh,h4]

end Go.Proofs.YtahdlohpncjdbaaGreatDoor
set_option linter.unusedSimpArgs false
set_option linter.unusedVariables false
set_option maxRecDepth 4000
set_option maxHeartbeats 4000000
namespace Go.Proofs.YtahdlohpncjdbaaGreatDoor
open VwM Vw Go
set_option linter.unusedSectionVars false
variable [SentA]

theorem unrank_ok (xs:List Int) (n:Nat) (k:Int) (hn:xs.length=n) (hg:good4 xs ∧ 0 ≤ k ∧ k < pr xs):BCall Tryz.prog 79 [.rows false (IL xs) n,.int .i64 k] [] (OI (unr xs k)):=by
  subst hn
  obtain ⟨hg,hk0,hk1⟩:=hg
  have hl:=hg.2
  have hprb:=Ebz hg
  have hp:=Esz hg (by omega)
  refine A4z (pins:=[]) (pin:=0) l79_eq rfl rfl rfl ?_
  (repeat' (first
 | (first|refine Ajz ?_|refine Afz ?_)
 | ((first|refine Akz ?_|refine Aez ?_|refine Agz ?_|refine Ahz ?_);simp (disch:=omega) only [push_cast,seval,l79r0,l79r1,l79r2,l79r3,l79r4,l79r5,l79r6,l79r7])
 | ((first|refine Aaz ?_ ?_|refine Adz ?_ ?_|refine Acz ?_ ?_)<;>intro h<;>(try simp only [h])<;>(try simp only [bitvec_to_nat] at h)<;>(try simp only [h])<;>(first|(exfalso;omega)|(exfalso;simp_all;done)|(simp (disch:=omega) only [push_cast,seval])|skip))
 | (refine Aiz ⟨.inr rfl,[144],[],_,by decide,rfl,?_⟩;(try simp (disch:=omega) only [push_cast,seval,↓Apz,↓Anz,↓List.map_cons,↓List.map_nil]);(first|done|(show AV.own _ _ _=_ ∧ _)))))
  refine Bcz (fun j:Nat=>mkS [(0,RI xs),(6,.int .i64 ((xs.length:Int) - 1 - (j:Int))),(1,.int .i64 (kS xs k j)),(5,.own 144 xs.length 1)] [(144,IL (filledD (dig xs k) xs.length j))])
    (fun j=>j ≤ xs.length) (fun j=>xs.length - j) 0 (Nat.zero_le _) ?_ ?_
  · (refine Sub.of_lists ?_ ?_ ?_ ?_ ?_<;>simp [Vw.mkS,Vw.lk,Vw.hk,AV.inn,innL,Asz,Arz,Avz,-List.map_set,-List.getD_eq_getElem?_getD,filledD_zero,kS])
  · intro j hj
    by_cases hlt:j < xs.length
    · have e1:=down_nat xs.length j hlt
      have h1:=Hcz hk0 hp j hj
      have h2:=Hcz hk0 hp (j + 1) hlt
      have h3:=hp (xs.length - 1 - j) (by omega)
      have h4:¬ xs.getD (xs.length - 1 - j) 0=0:=by omega
      simp only [kS] at h2
      have e3:=filledD_set (dig xs k) xs.length j hlt
      have e6:dig xs k (xs.length - 1 - j)=(kS xs k j).tmod (xs.getD (xs.length - 1 - j) 0):=by
        unfold dig
        rw [show xs.length - 1 - (xs.length - 1 - j)=j by omega]
      rw [e6] at e3
      (repeat' (first
 | (first|refine Ajz ?_|refine Afz ?_)
 | ((first|refine Akz ?_|refine Aez ?_|refine Agz ?_|refine Ahz ?_);simp (disch:=omega) only [push_cast,seval,l79r0,l79r1,l79r2,l79r3,l79r4,l79r5,l79r6,l79r7,e1,h4])
 | ((first|refine Aaz ?_ ?_|refine Adz ?_ ?_|refine Acz ?_ ?_)<;>intro h<;>(try simp only [h])<;>(try simp only [bitvec_to_nat] at h)<;>(try simp only [h])<;>(first|(exfalso;omega)|(exfalso;simp_all;done)|(simp (disch:=omega) only [push_cast,seval,e1,h4])|skip))
 | (refine Aiz ⟨.inr rfl,[144],[],_,by decide,rfl,?_⟩;(try simp (disch:=omega) only [push_cast,seval,↓Apz,↓Anz,↓List.map_cons,↓List.map_nil,e1,h4]);(first|done|(show AV.own _ _ _=_ ∧ _)))))
      refine ⟨j + 1,by omega,by omega,?_⟩
      have e4:(xs.length:Int) - 1 - ((j:Int) + 1)=(xs.length:Int) - 1 - (j:Int) - 1:=by omega
      (refine Sub.of_lists ?_ ?_ ?_ ?_ ?_<;>simp [Vw.mkS,Vw.lk,Vw.hk,AV.inn,innL,Asz,Arz,Avz,-List.map_set,-List.getD_eq_getElem?_getD,Azz,e3,e4,kS])
    · (repeat' (first
 | (first|refine Ajz ?_|refine Afz ?_)
 | ((first|refine Akz ?_|refine Aez ?_|refine Agz ?_|refine Ahz ?_);simp (disch:=omega) only [push_cast,seval,l79r0,l79r1,l79r2,l79r3,l79r4,l79r5,l79r6,l79r7])
 | ((first|refine Aaz ?_ ?_|refine Adz ?_ ?_|refine Acz ?_ ?_)<;>intro h<;>(try simp only [h])<;>(try simp only [bitvec_to_nat] at h)<;>(try simp only [h])<;>(first|(exfalso;omega)|(exfalso;simp_all;done)|(simp (disch:=omega) only [push_cast,seval])|skip))
 | (refine Aiz ⟨.inr rfl,[144],[],_,by decide,rfl,?_⟩;(try simp (disch:=omega) only [push_cast,seval,↓Apz,↓Anz,↓List.map_cons,↓List.map_nil]);(first|done|(show AV.own _ _ _=_ ∧ _)))))
      have e:j=xs.length:=by omega
      rw [e,filledD_all]
      simp [OI,unr]


theorem Dmz (xs:List Int) (n:Nat) (hn:xs.length=n) (hb:n ≤ 1099511627776):BCall Tryz.prog 76 [.rows false (IL xs) n] [] (OI xs):=by
  subst hn
  refine A4z (pins:=[]) (pin:=0) l76_eq rfl rfl rfl ?_
  (repeat' (first
 | (first|refine Ajz ?_|refine Afz ?_)
 | ((first|refine Akz ?_|refine Aez ?_|refine Agz ?_|refine Ahz ?_);simp (disch:=omega) only [push_cast,seval,l76r0,l76r1,l76r2,l76r3])
 | ((first|refine Aaz ?_ ?_|refine Adz ?_ ?_|refine Acz ?_ ?_)<;>intro h<;>(try simp only [h])<;>(try simp only [bitvec_to_nat] at h)<;>(try simp only [h])<;>(first|(exfalso;omega)|(exfalso;simp_all;done)|(simp (disch:=omega) only [push_cast,seval])|skip))
 | (refine Aiz ⟨.inr rfl,[80],[],_,by decide,rfl,?_⟩;(try simp (disch:=omega) only [push_cast,seval,↓Apz,↓Anz,↓List.map_cons,↓List.map_nil]);(first|done|(show AV.own _ _ _=_ ∧ _)))
 | (refine Aiz ⟨.inr rfl,[112],[],_,by decide,rfl,?_⟩;(try simp (disch:=omega) only [push_cast,seval,↓Apz,↓Anz,↓List.map_cons,↓List.map_nil]);(first|done|(show AV.own _ _ _=_ ∧ _)))))
  refine nil_split (fun h0=>?_) ?_
  · (try simp (disch:=omega) only [push_cast,seval])
    (repeat' (first
 | (first|refine Ajz ?_|refine Afz ?_)
 | ((first|refine Akz ?_|refine Aez ?_|refine Agz ?_|refine Ahz ?_);simp (disch:=omega) only [push_cast,seval,l76r0,l76r1,l76r2,l76r3])
 | ((first|refine Aaz ?_ ?_|refine Adz ?_ ?_|refine Acz ?_ ?_)<;>intro h<;>(try simp only [h])<;>(try simp only [bitvec_to_nat] at h)<;>(try simp only [h])<;>(first|(exfalso;omega)|(exfalso;simp_all;done)|(simp (disch:=omega) only [push_cast,seval])|skip))
 | (refine Aiz ⟨.inr rfl,[16000],[(16000,1)],_,by decide,rfl,?_⟩;(try simp (disch:=omega) only [push_cast,seval,↓Apz,↓Anz,↓List.map_cons,↓List.map_nil]))))
    have:xs=[]:=List.eq_nil_of_length_eq_zero h0
    simp [OI,this]
  · (try simp (disch:=omega) only [push_cast,seval])
    (repeat' (first
 | (first|refine Ajz ?_|refine Afz ?_)
 | ((first|refine Akz ?_|refine Aez ?_|refine Agz ?_|refine Ahz ?_);simp (disch:=omega) only [push_cast,seval,l76r0,l76r1,l76r2,l76r3])
 | ((first|refine Aaz ?_ ?_|refine Adz ?_ ?_|refine Acz ?_ ?_)<;>intro h<;>(try simp only [h])<;>(try simp only [bitvec_to_nat] at h)<;>(try simp only [h])<;>(first|(exfalso;omega)|(exfalso;simp_all;done)|(simp (disch:=omega) only [push_cast,seval])|skip))
 | (refine Aiz ⟨.inr rfl,[80],[],_,by decide,rfl,?_⟩;(try simp (disch:=omega) only [push_cast,seval,↓Apz,↓Anz,↓List.map_cons,↓List.map_nil]);(first|done|(show AV.own _ _ _=_ ∧ _)))
 | (refine Aiz ⟨.inr rfl,[112],[],_,by decide,rfl,?_⟩;(try simp (disch:=omega) only [push_cast,seval,↓Apz,↓Anz,↓List.map_cons,↓List.map_nil]);(first|done|(show AV.own _ _ _=_ ∧ _)))))
    all_goals simp [OI]

end Go.Proofs.YtahdlohpncjdbaaGreatDoor
set_option linter.unusedSimpArgs false
set_option linter.unusedVariables false
set_option maxRecDepth 4000
set_option maxHeartbeats 4000000
namespace Go.Proofs.YtahdlohpncjdbaaGreatDoor
open VwM Vw Go
set_option linter.unusedSectionVars false
variable [SentA]

theorem along_ok (f:Nat → Int) (st:List Int) (n:Nat) (hn:st.length=n) (hb:n ≤ 4 ∧ ∀ i,i < n → (-60 ≤ f i ∧ f i ≤ 60) ∧ -12960000 ≤ st.getD i 0 ∧ st.getD i 0 ≤ 12960000):PCall Tryz.prog 93 [AP f,.rows false (IL st) n] (fun r=>r=.int .i64 (dot f st n)):=by
  subst hn
  obtain ⟨hl,hb⟩:=hb
  refine Auz l93_eq rfl ?_
  (repeat' (first
 | (first|refine Ajz ?_|refine Afz ?_)
 | ((first|refine Akz ?_|refine Aez ?_|refine Agz ?_|refine Ahz ?_);simp (disch:=omega) only [push_cast,seval,l93r0,l93r1,l93r2,l93r3,l93r4,l93r5,l93r6,l93r7])
 | ((first|refine Aaz ?_ ?_|refine Adz ?_ ?_|refine Acz ?_ ?_)<;>intro h<;>(try simp only [h])<;>(try simp only [bitvec_to_nat] at h)<;>(try simp only [h])<;>(first|(exfalso;omega)|(exfalso;simp_all;done)|(simp (disch:=omega) only [push_cast,seval])|skip))
 | (refine Aiz ⟨.inr rfl,_,rfl,?_⟩;(try simp (disch:=omega) only [push_cast,seval]))))
  refine Bcz (fun k:Nat=>mkS [(2,.ref 32 4 0),(5,.int .i64 (dot f st k)),(8,RI st),(9,.int .i64 st.length),(10,.int .i64 k)] [(32,IL (pad4 f))]) (fun k=>k ≤ st.length) (fun k=>st.length - k) 0 (Nat.zero_le _) ?_ ?_
  · (refine Sub.of_lists ?_ ?_ ?_ ?_ ?_<;>simp [Vw.mkS,Vw.lk,Vw.hk,AV.inn,innL,Asz,Arz,Avz,-List.map_set,-List.getD_eq_getElem?_getD,dot,pad4])
  · intro k hk
    by_cases hlt:k < st.length
    · have h1:=Giz (f:=f) (st:=st) (B:=60) (C:=12960000) k fun i hi=>hb i (by omega)
      have h2:=Ecz (hb k hlt).1 (hb k hlt).2
      have h3:=pad4_getD f k (by omega)
      (repeat' (first
 | (first|refine Ajz ?_|refine Afz ?_)
 | ((first|refine Akz ?_|refine Aez ?_|refine Agz ?_|refine Ahz ?_);simp (disch:=omega) only [push_cast,seval,l93r0,l93r1,l93r2,l93r3,l93r4,l93r5,l93r6,l93r7,h3])
 | ((first|refine Aaz ?_ ?_|refine Adz ?_ ?_|refine Acz ?_ ?_)<;>intro h<;>(try simp only [h])<;>(try simp only [bitvec_to_nat] at h)<;>(try simp only [h])<;>(first|(exfalso;omega)|(exfalso;simp_all;done)|(simp (disch:=omega) only [push_cast,seval,h3])|skip))
 | (refine Aiz ⟨.inr rfl,_,rfl,?_⟩;(try simp (disch:=omega) only [push_cast,seval,h3]))))
      refine ⟨k + 1,by omega,by omega,?_⟩
      (refine Sub.of_lists ?_ ?_ ?_ ?_ ?_<;>simp [Vw.mkS,Vw.lk,Vw.hk,AV.inn,innL,Asz,Arz,Avz,-List.map_set,-List.getD_eq_getElem?_getD,dot])
    · (repeat' (first
 | (first|refine Ajz ?_|refine Afz ?_)
 | ((first|refine Akz ?_|refine Aez ?_|refine Agz ?_|refine Ahz ?_);simp (disch:=omega) only [push_cast,seval,l93r0,l93r1,l93r2,l93r3,l93r4,l93r5,l93r6,l93r7])
 | ((first|refine Aaz ?_ ?_|refine Adz ?_ ?_|refine Acz ?_ ?_)<;>intro h<;>(try simp only [h])<;>(try simp only [bitvec_to_nat] at h)<;>(try simp only [h])<;>(first|(exfalso;omega)|(exfalso;simp_all;done)|(simp (disch:=omega) only [push_cast,seval])|skip))
 | (refine Aiz ⟨.inr rfl,_,rfl,?_⟩;(try simp (disch:=omega) only [push_cast,seval]))))
      rw [show k=st.length by omega]

end Go.Proofs.YtahdlohpncjdbaaGreatDoor
set_option linter.unusedSimpArgs false
set_option linter.unusedVariables false
set_option maxRecDepth 4000
set_option maxHeartbeats 4000000
namespace Go.Proofs.YtahdlohpncjdbaaGreatDoor
open VwM Vw Go
set_option linter.unusedSectionVars false
variable [SentA]

theorem vcount_ok (b:Int) (sh:List Int) (n:Nat) (cs:List AV) (m:Nat) (fr:Bool) (hn:sh.length=n) (hg:good4 sh):PCall Tryz.prog 75 [.agg [.int .i64 b,.rows false (IL sh) n,.rows fr cs m]] (fun r=>r=.int .i64 (pr sh)):=by
  subst hn
  refine Auz l75_eq rfl ?_
  (repeat' (first
 | (first|refine Ajz ?_|refine Afz ?_)
 | ((first|refine Akz ?_|refine Aez ?_|refine Agz ?_|refine Ahz ?_);simp (disch:=omega) only [push_cast,seval,l75r0,l75r1])
 | ((first|refine Aaz ?_ ?_|refine Adz ?_ ?_|refine Acz ?_ ?_)<;>intro h<;>(try simp only [h])<;>(try simp only [bitvec_to_nat] at h)<;>(try simp only [h])<;>(first|(exfalso;omega)|(exfalso;simp_all;done)|(simp (disch:=omega) only [push_cast,seval])|skip))
 | ((first|refine Amz false ?_|refine Alz false ?_);simp (disch:=omega) only [push_cast,seval])
 | ((first|((first|refine call0D (BCall.ofP (product_ok _ _ ?_ ?_)) ?_|refine qcall0D (BCall.ofP (product_ok _ _ ?_ ?_)) ⟨_,_,rfl,rfl⟩ ?_);(iterate 2 (exact sd));rintro _ _ ⟨rfl,rfl⟩))<;>(try simp (disch:=omega) only [push_cast,seval]))
 | (refine Aiz ⟨.inr rfl,_,rfl,?_⟩;(try simp (disch:=omega) only [push_cast,seval]))))


theorem eqView_ok (b b':Int) (s t s' t':List Int) (n m n' m':Nat) (h1:s.length=n) (h2:t.length=m) (h3:s'.length=n') (h4:t'.length=m') (hb:n ≤ 1099511627776 ∧ m ≤ 1099511627776):PCall Tryz.prog 77 [.agg [.int .i64 b,.rows false (IL s) n,.rows false (IL t) m],.agg [.int .i64 b',.rows false (IL s') n',.rows false (IL t') m']] (fun r=>r=.bool (decide (b=b') && decide (s=s') && decide (t=t'))):=by
  subst h1 h2 h3 h4
  refine Auz l77_eq rfl ?_
  (repeat' (first
 | (first|refine Ajz ?_|refine Afz ?_)
 | ((first|refine Akz ?_|refine Aez ?_|refine Agz ?_|refine Ahz ?_);simp (disch:=omega) only [push_cast,seval,l77r0,l77r1,l77r2,l77r3,l77r4,l77r5,l77r6,l77r7])
 | ((first|refine Aaz ?_ ?_|refine Adz ?_ ?_|refine Acz ?_ ?_)<;>intro h<;>(try simp only [h])<;>(try simp only [bitvec_to_nat] at h)<;>(try simp only [h])<;>(first|(exfalso;omega)|(exfalso;simp_all;done)|(simp (disch:=omega) only [push_cast,seval])|skip))
 | ((first|refine Amz false ?_|refine Alz false ?_);simp (disch:=omega) only [push_cast,seval])
 | ((first|((first|refine call0D (BCall.ofP (Ggz _ _ _ _ ?_ ?_ ?_)) ?_|refine qcall0D (BCall.ofP (Ggz _ _ _ _ ?_ ?_ ?_)) ⟨_,_,rfl,rfl⟩ ?_);(iterate 3 (exact sd));rintro _ _ ⟨rfl,rfl⟩))<;>(try simp (disch:=omega) only [push_cast,seval]))
 | (refine Aiz ⟨.inr rfl,_,rfl,?_⟩;(try simp (disch:=omega) only [push_cast,seval]))))
  all_goals (first|rfl|(simp_all;done)|(simp_all;omega)|(simp;omega)|(simp;grind)|(simp_all;grind)|skip)

end Go.Proofs.YtahdlohpncjdbaaGreatDoor
