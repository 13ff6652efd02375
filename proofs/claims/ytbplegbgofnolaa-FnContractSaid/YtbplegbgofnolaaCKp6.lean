import Derived.Test.YtbplegbgofnolaaCKp4
import Derived.Test.YtbplegbgofnolaaCM1
import Derived.Test.YtbplegbgofnolaaCW3
set_option linter.unusedSimpArgs false
set_option linter.unusedVariables false
set_option maxRecDepth 4000
set_option maxHeartbeats 4000000
namespace Go.Proofs.Ytbplegbgofnolaa
open VwM Vw Go

set_option maxHeartbeats 8000000 in
theorem iwithout_ok (xs ys:List Int) (n m:Nat) (hn:xs.length=n) (hm:ys.length=m) (hb:n ≤ 1099511627776 ∧ m ≤ 1099511627776):BCall Try.prog 67 [.rows false (IL xs) n,.rows false (IL ys) m] [] (OI (wiL xs ys)):=by
  subst hn hm
  obtain ⟨hb0,hb1⟩:=hb
  refine A3z (pins:=[]) (pin:=0) l67_eq rfl rfl rfl ?_
  (repeat' (first
 | (first|refine Anz ?_|refine Agz ?_)
 | ((first|refine Aoz ?_|refine Afz ?_|refine Ahz ?_|refine Aiz ?_);simp (disch:=omega) only [push_cast,seval,l67r0,l67r1,l67r2,l67r3,l67r4,l67r5,l67r6,l67r7,l67r8])
 | ((first|refine Acz ?_ ?_|refine Aez ?_ ?_|refine Adz ?_ ?_)<;>intro h<;>(try simp only [h])<;>(try simp only [bitvec_to_nat] at h)<;>(try simp only [h])<;>(first|(exfalso;omega)|(exfalso;simp_all;done)|(simp (disch:=omega) only [push_cast,seval])|skip))
 | ((first|refine Aqz false ?_|refine qcallD_of false ?_);simp (disch:=omega) only [push_cast,seval])
 | ((first|((first|refine call0D (BCall.ofP (A1z _ _ _ ?_ ?_)) ?_|refine qcall0D (BCall.ofP (A1z _ _ _ ?_ ?_)) ⟨_,_,rfl,rfl⟩ ?_);(iterate 2 (exact sd));rintro _ _ ⟨rfl,rfl⟩))<;>(try simp (disch:=omega) only [push_cast,seval]))
 | (refine Akz ⟨.inr rfl,[336],[],_,by decide,rfl,?_⟩;(try simp (disch:=omega) only [push_cast,seval,↓Alz,↓Ajz,↓List.map_cons,↓List.map_nil]))))
  refine Cgz (fun k:Nat=>mkS [(1,RI ys),(5,.own 336 (wiL (xs.take k) ys).length 1),(8,RI xs),(9,.int .i64 xs.length),(10,.int .i64 k)] [(336,IL (wiL (xs.take k) ys))]) (fun k=>k ≤ xs.length) (fun k=>xs.length - k) 0 (Nat.zero_le _) ?_ ?_
  · refine SubW.adopt [5] 336 1 (by simp [Vw.hk]) (SubW.of ?_)
    simp only [adL,List.map_cons,List.map_nil,adA,List.contains_cons,List.contains_nil]
    have e0:wiL [] ys=[]:=rfl
    (refine Sub.of_lists ?_ ?_ ?_ ?_ ?_<;>simp [Vw.mkS,Vw.lk,Vw.hk,AV.inn,innL,Arz,Amz,Atz,-List.map_set,-List.getD_eq_getElem?_getD,e0])
  · intro k hk
    have hwl:=wiL_len (xs.take k) ys
    rw [List.length_take] at hwl
    by_cases hlt:k < xs.length
    · by_cases hin:xs.getD k 0 ∈ ys
      · have e3:=wiL_in hlt hin
        generalize hU:wiL (xs.take k) ys=U at *
        (repeat' (first
 | (first|refine Anz ?_|refine Agz ?_)
 | ((first|refine Aoz ?_|refine Afz ?_|refine Ahz ?_|refine Aiz ?_);simp (disch:=omega) only [push_cast,seval,l67r0,l67r1,l67r2,l67r3,l67r4,l67r5,l67r6,l67r7,l67r8,hin,decide_true])
 | ((first|refine Acz ?_ ?_|refine Aez ?_ ?_|refine Adz ?_ ?_)<;>intro h<;>(try simp only [h])<;>(try simp only [bitvec_to_nat] at h)<;>(try simp only [h])<;>(first|(exfalso;omega)|(exfalso;simp_all;done)|(simp (disch:=omega) only [push_cast,seval,hin,decide_true])|skip))
 | ((first|refine Aqz false ?_|refine qcallD_of false ?_);simp (disch:=omega) only [push_cast,seval,hin,decide_true])
 | ((first|((first|refine call0D (BCall.ofP (A1z _ _ _ ?_ ?_)) ?_|refine qcall0D (BCall.ofP (A1z _ _ _ ?_ ?_)) ⟨_,_,rfl,rfl⟩ ?_);(iterate 2 (exact sd));rintro _ _ ⟨rfl,rfl⟩))<;>(try simp (disch:=omega) only [push_cast,seval,hin,decide_true]))
 | (refine Akz ⟨.inr rfl,[336],[],_,by decide,rfl,?_⟩;(try simp (disch:=omega) only [push_cast,seval,↓Alz,↓Ajz,↓List.map_cons,↓List.map_nil,hin,decide_true]))))
        refine ⟨k + 1,by omega,by omega,SubW.of ?_⟩
        (refine Sub.of_lists ?_ ?_ ?_ ?_ ?_<;>simp [Vw.mkS,Vw.lk,Vw.hk,AV.inn,innL,Arz,Amz,Atz,-List.map_set,-List.getD_eq_getElem?_getD,e3])
      · have e3:=wiL_out hlt hin
        generalize hU:wiL (xs.take k) ys=U at *
        (repeat' (first
 | (first|refine Anz ?_|refine Agz ?_)
 | ((first|refine Aoz ?_|refine Afz ?_|refine Ahz ?_|refine Aiz ?_);simp (disch:=omega) only [push_cast,seval,l67r0,l67r1,l67r2,l67r3,l67r4,l67r5,l67r6,l67r7,l67r8,hin,decide_false,List.length_map])
 | ((first|refine Acz ?_ ?_|refine Aez ?_ ?_|refine Adz ?_ ?_)<;>intro h<;>(try simp only [h])<;>(try simp only [bitvec_to_nat] at h)<;>(try simp only [h])<;>(first|(exfalso;omega)|(exfalso;simp_all;done)|(simp (disch:=omega) only [push_cast,seval,hin,decide_false,List.length_map])|skip))
 | ((first|refine Aqz false ?_|refine qcallD_of false ?_);simp (disch:=omega) only [push_cast,seval,hin,decide_false,List.length_map])
 | ((first|((first|refine call0D (BCall.ofP (A1z _ _ _ ?_ ?_)) ?_|refine qcall0D (BCall.ofP (A1z _ _ _ ?_ ?_)) ⟨_,_,rfl,rfl⟩ ?_);(iterate 2 (exact sd));rintro _ _ ⟨rfl,rfl⟩))<;>(try simp (disch:=omega) only [push_cast,seval,hin,decide_false,List.length_map]))
 | (refine Akz ⟨.inr rfl,[336],[],_,by decide,rfl,?_⟩;(try simp (disch:=omega) only [push_cast,seval,↓Alz,↓Ajz,↓List.map_cons,↓List.map_nil,hin,decide_false,List.length_map]))))
        refine ⟨k + 1,by omega,by omega,SubW.of ?_⟩
        (refine Sub.of_lists ?_ ?_ ?_ ?_ ?_<;>simp [Vw.mkS,Vw.lk,Vw.hk,AV.inn,innL,Arz,Amz,Atz,-List.map_set,-List.getD_eq_getElem?_getD,e3])
    · rw [List.take_of_length_le (by omega)] at hwl ⊢
      (repeat' (first
 | (first|refine Anz ?_|refine Agz ?_)
 | ((first|refine Aoz ?_|refine Afz ?_|refine Ahz ?_|refine Aiz ?_);simp (disch:=omega) only [push_cast,seval,l67r0,l67r1,l67r2,l67r3,l67r4,l67r5,l67r6,l67r7,l67r8,List.length_map])
 | ((first|refine Acz ?_ ?_|refine Aez ?_ ?_|refine Adz ?_ ?_)<;>intro h<;>(try simp only [h])<;>(try simp only [bitvec_to_nat] at h)<;>(try simp only [h])<;>(first|(exfalso;omega)|(exfalso;simp_all;done)|(simp (disch:=omega) only [push_cast,seval,List.length_map])|skip))
 | ((first|refine Aqz false ?_|refine qcallD_of false ?_);simp (disch:=omega) only [push_cast,seval,List.length_map])
 | ((first|((first|refine call0D (BCall.ofP (A1z _ _ _ ?_ ?_)) ?_|refine qcall0D (BCall.ofP (A1z _ _ _ ?_ ?_)) ⟨_,_,rfl,rfl⟩ ?_);(iterate 2 (exact sd));rintro _ _ ⟨rfl,rfl⟩))<;>(try simp (disch:=omega) only [push_cast,seval,List.length_map]))
 | (refine Akz ⟨.inr rfl,[336],[],_,by decide,rfl,?_⟩;(try simp (disch:=omega) only [push_cast,seval,↓Alz,↓Ajz,↓List.map_cons,↓List.map_nil,List.length_map]))))
      all_goals (first|exact ⟨rfl,rfl⟩|skip)


def sumLen (ls:List (List Int)) (k:Nat):Nat:=(ls.take k).flatten.length
theorem costOf2_ok (e a b:List Int) (n m:Nat) (hn:a.length=n) (hm:b.length=m) (hb:e.length=5 ∧ (n ≤ 1099511627776 ∧ m ≤ 1099511627776) ∧ ((∀ x ∈ a,0 ≤ x ∧ x ≤ 4) ∧ ∀ x ∈ b,0 ≤ x ∧ x ≤ 4) ∧ (∀ x ∈ a,0 ≤ gE e x ∧ gE e x ≤ 60) ∧ ∀ x ∈ b,0 ≤ gE e x ∧ gE e x ≤ 60):PCall Try.prog 54 [.agg (IL e),.rows false [.rows false (IL a) n,.rows false (IL b) m] 2] (fun r=>r=.int .i64 (pr ((lbS (a ++ b)).map (gE e)))):=by
  subst hn hm
  have h:=costOf_ok e [a,b] 2 rfl ⟨hb.1,by omega,fun l hl=>by simp at hl;rcases hl with rfl|rfl<;>omega,fun l hl=>by
    simp at hl;rcases hl with rfl|rfl
    · exact hb.2.2.1.1
    · exact hb.2.2.1.2,fun l hl=>by
    simp at hl;rcases hl with rfl|rfl
    · exact hb.2.2.2.1
    · exact hb.2.2.2.2⟩
  have e2:([a,b]:List (List Int)).flatten=a ++ b:=by simp
  rw [e2] at h
  exact h

end Go.Proofs.Ytbplegbgofnolaa
