import Derived.Test.YtbplegbgofnolaaCKq
import Derived.Test.YtbplegbgofnolaaCM1
set_option linter.unusedSimpArgs false
set_option linter.unusedVariables false
set_option maxRecDepth 4000
set_option maxHeartbeats 4000000
namespace Go.Proofs.Ytbplegbgofnolaa
open VwM Vw Go

theorem equalInts_ok (xs ys:List Int) (n m:Nat) (hn:xs.length=n) (hm:ys.length=m) (hb:n ≤ 1099511627776 ∧ m ≤ 1099511627776):PCall Try.prog 24 [.rows false (IL xs) n,.rows false (IL ys) m] (fun r=>r=.bool (decide (xs=ys))):=by
  subst hn hm
  refine A2z l24_eq rfl ?_
  by_cases hl:xs.length=ys.length
  · have hl':(xs.length:Int)=ys.length:=by omega
    (repeat' (first
 | (first|refine Anz ?_|refine Agz ?_)
 | ((first|refine Aoz ?_|refine Asz (mid:=l24r5a) (post:=l24r5b) Awz (by decide) ?_|refine Afz ?_|refine Ahz ?_|refine Aiz ?_);simp (disch:=omega) only [push_cast,seval,l24r0,l24r1,l24r2,l24r3,l24r4,l24r5a,l24r5b,l24r5,l24r6,l24r7,l24r8,hl'])
 | ((first|refine Acz ?_ ?_|refine Aez ?_ ?_|refine Adz ?_ ?_)<;>intro h<;>(try simp only [h])<;>(try simp only [bitvec_to_nat] at h)<;>(try simp only [h])<;>(first|(exfalso;omega)|(exfalso;simp_all;done)|(simp (disch:=omega) only [push_cast,seval,hl'])|skip))
 | (refine Akz ⟨.inr rfl,_,rfl,?_⟩;(try simp (disch:=omega) only [push_cast,seval,hl']))))
    refine Azz (fun k:Nat=>mkS [(0,RI xs),(1,RI ys),(5,.int .i64 k)] []) (fun k=>k ≤ xs.length ∧ ∀ j:Nat,j < k → xs.getD j 0=ys.getD j 0) (fun k=>xs.length - k) 0 ⟨Nat.zero_le _,fun j h=>absurd h (Nat.not_lt_zero _)⟩ ?_ ?_
    · (refine Sub.of_lists ?_ ?_ ?_ ?_ ?_<;>simp [Vw.mkS,Vw.lk,Vw.hk,AV.inn,innL,Arz,Amz,Atz,-List.map_set,-List.getD_eq_getElem?_getD,hl])
    · rintro k ⟨hk,hj⟩
      by_cases hlt:k < xs.length
      · (repeat' (first
 | (first|refine Anz ?_|refine Agz ?_)
 | ((first|refine Aoz ?_|refine Asz (mid:=l24r5a) (post:=l24r5b) Awz (by decide) ?_|refine Afz ?_|refine Ahz ?_|refine Aiz ?_);simp (disch:=omega) only [push_cast,seval,l24r0,l24r1,l24r2,l24r3,l24r4,l24r5a,l24r5b,l24r5,l24r6,l24r7,l24r8])
 | ((first|refine Acz ?_ ?_|refine Aez ?_ ?_|refine Adz ?_ ?_)<;>intro h<;>(try simp only [h])<;>(try simp only [bitvec_to_nat] at h)<;>(try simp only [h])<;>(first|(exfalso;omega)|(exfalso;simp_all;done)|(simp (disch:=omega) only [push_cast,seval])|skip))
 | (refine Akz ⟨.inr rfl,_,rfl,?_⟩;(try simp (disch:=omega) only [push_cast,seval]))))
        · simp;rintro rfl;exact absurd rfl ‹_›
        · refine ⟨k + 1,⟨by omega,fun j h=>?_⟩,by omega,?_⟩
          · by_cases hjk:j=k
            · subst hjk;assumption
            · exact hj j (by omega)
          · (refine Sub.of_lists ?_ ?_ ?_ ?_ ?_<;>simp [Vw.mkS,Vw.lk,Vw.hk,AV.inn,innL,Arz,Amz,Atz,-List.map_set,-List.getD_eq_getElem?_getD])
      · (repeat' (first
 | (first|refine Anz ?_|refine Agz ?_)
 | ((first|refine Aoz ?_|refine Asz (mid:=l24r5a) (post:=l24r5b) Awz (by decide) ?_|refine Afz ?_|refine Ahz ?_|refine Aiz ?_);simp (disch:=omega) only [push_cast,seval,l24r0,l24r1,l24r2,l24r3,l24r4,l24r5a,l24r5b,l24r5,l24r6,l24r7,l24r8])
 | ((first|refine Acz ?_ ?_|refine Aez ?_ ?_|refine Adz ?_ ?_)<;>intro h<;>(try simp only [h])<;>(try simp only [bitvec_to_nat] at h)<;>(try simp only [h])<;>(first|(exfalso;omega)|(exfalso;simp_all;done)|(simp (disch:=omega) only [push_cast,seval])|skip))
 | (refine Akz ⟨.inr rfl,_,rfl,?_⟩;(try simp (disch:=omega) only [push_cast,seval]))))
        have:xs=ys:=B2z hl fun j h=>hj j (by omega)
        simp [this]
  · have hl':¬ (xs.length:Int)=ys.length:=by omega
    have:¬ xs=ys:=by rintro rfl;exact hl rfl
    (repeat' (first
 | (first|refine Anz ?_|refine Agz ?_)
 | ((first|refine Aoz ?_|refine Asz (mid:=l24r5a) (post:=l24r5b) Awz (by decide) ?_|refine Afz ?_|refine Ahz ?_|refine Aiz ?_);simp (disch:=omega) only [push_cast,seval,l24r0,l24r1,l24r2,l24r3,l24r4,l24r5a,l24r5b,l24r5,l24r6,l24r7,l24r8,hl'])
 | ((first|refine Acz ?_ ?_|refine Aez ?_ ?_|refine Adz ?_ ?_)<;>intro h<;>(try simp only [h])<;>(try simp only [bitvec_to_nat] at h)<;>(try simp only [h])<;>(first|(exfalso;omega)|(exfalso;simp_all;done)|(simp (disch:=omega) only [push_cast,seval,hl'])|skip))
 | (refine Akz ⟨.inr rfl,_,rfl,?_⟩;(try simp (disch:=omega) only [push_cast,seval,hl']))))
    simp [this]


theorem back_ok (xs:List Int) (n:Nat) (hn:xs.length=n) (hb:n ≤ 1099511627776):BCall Try.prog 23 [.rows false (IL xs) n] [] (OI xs.reverse):=by
  subst hn
  refine A3z (pins:=[]) (pin:=0) l23_eq rfl rfl rfl ?_
  (repeat' (first
 | (first|refine Anz ?_|refine Agz ?_)
 | ((first|refine Aoz ?_|refine Afz ?_|refine Ahz ?_|refine Aiz ?_);simp (disch:=omega) only [push_cast,seval,l23r0,l23r1,l23r2,l23r3,l23r4,l23r5,l23r6])
 | ((first|refine Acz ?_ ?_|refine Aez ?_ ?_|refine Adz ?_ ?_)<;>intro h<;>(try simp only [h])<;>(try simp only [bitvec_to_nat] at h)<;>(try simp only [h])<;>(first|(exfalso;omega)|(exfalso;simp_all;done)|(simp (disch:=omega) only [push_cast,seval])|skip))
 | (refine Akz ⟨.inr rfl,[80],[],_,by decide,rfl,?_⟩;(try simp (disch:=omega) only [push_cast,seval,↓Alz,↓Ajz,↓List.map_cons,↓List.map_nil]);(first|done|(show AV.own _ _ _=_ ∧ _)))
 | (refine Akz ⟨.inr rfl,[288],[],_,by decide,rfl,?_⟩;(try simp (disch:=omega) only [push_cast,seval,↓Alz,↓Ajz,↓List.map_cons,↓List.map_nil]);(first|done|(show AV.own _ _ _=_ ∧ _)))
 | (refine Akz ⟨.inr rfl,[304],[],_,by decide,rfl,?_⟩;(try simp (disch:=omega) only [push_cast,seval,↓Alz,↓Ajz,↓List.map_cons,↓List.map_nil]);(first|done|(show AV.own _ _ _=_ ∧ _)))))
  refine Azz (fun k:Nat=>mkS [(0,RI xs),(4,.int .i64 ((xs.length:Int) - 1 - (k:Int))),(3,.own 80 k 1)] [(80,IL (revT xs k))])
    (fun k=>k ≤ xs.length) (fun k=>xs.length - k) 0 (Nat.zero_le _) ?_ ?_
  · (refine Sub.of_lists ?_ ?_ ?_ ?_ ?_<;>simp [Vw.mkS,Vw.lk,Vw.hk,AV.inn,innL,Arz,Amz,Atz,-List.map_set,-List.getD_eq_getElem?_getD,revT_zero])
  · intro k hk
    have e3:=revT_length xs k hk
    by_cases hlt:k < xs.length
    · have e1:=down_nat xs.length k hlt
      have e2:=revT_succ xs k hlt
      (repeat' (first
 | (first|refine Anz ?_|refine Agz ?_)
 | ((first|refine Aoz ?_|refine Afz ?_|refine Ahz ?_|refine Aiz ?_);simp (disch:=omega) only [push_cast,seval,l23r0,l23r1,l23r2,l23r3,l23r4,l23r5,l23r6,e1])
 | ((first|refine Acz ?_ ?_|refine Aez ?_ ?_|refine Adz ?_ ?_)<;>intro h<;>(try simp only [h])<;>(try simp only [bitvec_to_nat] at h)<;>(try simp only [h])<;>(first|(exfalso;omega)|(exfalso;simp_all;done)|(simp (disch:=omega) only [push_cast,seval,e1])|skip))
 | (refine Akz ⟨.inr rfl,[80],[],_,by decide,rfl,?_⟩;(try simp (disch:=omega) only [push_cast,seval,↓Alz,↓Ajz,↓List.map_cons,↓List.map_nil,e1]);(first|done|(show AV.own _ _ _=_ ∧ _)))
 | (refine Akz ⟨.inr rfl,[288],[],_,by decide,rfl,?_⟩;(try simp (disch:=omega) only [push_cast,seval,↓Alz,↓Ajz,↓List.map_cons,↓List.map_nil,e1]);(first|done|(show AV.own _ _ _=_ ∧ _)))
 | (refine Akz ⟨.inr rfl,[304],[],_,by decide,rfl,?_⟩;(try simp (disch:=omega) only [push_cast,seval,↓Alz,↓Ajz,↓List.map_cons,↓List.map_nil,e1]);(first|done|(show AV.own _ _ _=_ ∧ _)))))
      refine ⟨k + 1,by omega,by omega,?_⟩
      have e4:(xs.length:Int) - 1 - ((k:Int) + 1)=(xs.length:Int) - 1 - (k:Int) - 1:=by omega
      (refine Sub.of_lists ?_ ?_ ?_ ?_ ?_<;>simp [Vw.mkS,Vw.lk,Vw.hk,AV.inn,innL,Arz,Amz,Atz,-List.map_set,-List.getD_eq_getElem?_getD,e2,e4])
    · (repeat' (first
 | (first|refine Anz ?_|refine Agz ?_)
 | ((first|refine Aoz ?_|refine Afz ?_|refine Ahz ?_|refine Aiz ?_);simp (disch:=omega) only [push_cast,seval,l23r0,l23r1,l23r2,l23r3,l23r4,l23r5,l23r6])
 | ((first|refine Acz ?_ ?_|refine Aez ?_ ?_|refine Adz ?_ ?_)<;>intro h<;>(try simp only [h])<;>(try simp only [bitvec_to_nat] at h)<;>(try simp only [h])<;>(first|(exfalso;omega)|(exfalso;simp_all;done)|(simp (disch:=omega) only [push_cast,seval])|skip))
 | (refine Akz ⟨.inr rfl,[80],[],_,by decide,rfl,?_⟩;(try simp (disch:=omega) only [push_cast,seval,↓Alz,↓Ajz,↓List.map_cons,↓List.map_nil]);(first|done|(show AV.own _ _ _=_ ∧ _)))
 | (refine Akz ⟨.inr rfl,[288],[],_,by decide,rfl,?_⟩;(try simp (disch:=omega) only [push_cast,seval,↓Alz,↓Ajz,↓List.map_cons,↓List.map_nil]);(first|done|(show AV.own _ _ _=_ ∧ _)))
 | (refine Akz ⟨.inr rfl,[304],[],_,by decide,rfl,?_⟩;(try simp (disch:=omega) only [push_cast,seval,↓Alz,↓Ajz,↓List.map_cons,↓List.map_nil]);(first|done|(show AV.own _ _ _=_ ∧ _)))))
      have e:k=xs.length:=by omega
      rw [e,revT_all]
      simp [OI]

end Go.Proofs.Ytbplegbgofnolaa
