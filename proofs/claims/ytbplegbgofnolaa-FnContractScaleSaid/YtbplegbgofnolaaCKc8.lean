import Derived.Test.YtbplegbgofnolaaCKc4
import Derived.Test.YtbplegbgofnolaaCM1
import Derived.Test.YtbplegbgofnolaaCW3
set_option linter.unusedSimpArgs false
set_option linter.unusedVariables false
set_option maxRecDepth 4000
set_option maxHeartbeats 4000000
namespace Go.Proofs.Ytbplegbgofnolaa
open VwM Vw Go

theorem slIndex_ok (xs:List Int) (n:Nat) (x:Int) (hn:xs.length=n) (hb:n ≤ 1099511627776):PCall Try.prog 116 [.rows false (IL xs) n,.int .i64 x] (fun r=>r=.int .i64 (placeI xs x)):=by
  subst hn
  refine pcall_of l116_eq rfl ?_
  (repeat' (first
 | (first|refine awp_seq ?_|refine awp_block ?_)
 | ((first|refine awp_reg ?_|refine awp_condB ?_|refine awp_skip ?_|refine awp_exit ?_);simp (disch:=omega) only [push_cast,seval,l116r0,l116r1,l116r2,l116r3,l116r4,l116r5,l116r6,l116r7])
 | ((first|refine condB_split (fun h=>?_) (fun h=>?_)|refine gIf_split (fun h=>?_) (fun h=>?_)|refine qIf_split (fun h=>?_) (fun h=>?_))<;>(try simp only [h])<;>(try simp only [bitvec_to_nat] at h)<;>(try simp only [h])<;>(first|(exfalso;omega)|(focus (exfalso;simp_all;done))|(simp (disch:=omega) only [push_cast,seval])|skip))
 | (refine awp_ret ⟨.inr rfl,_,rfl,?_⟩;(try simp (disch:=omega) only [push_cast,seval]))))
  refine awp_loop (fun k:Nat=>mkS [(0,RI xs),(1,.int .i64 x),(7,.int .i64 xs.length),(8,.int .i64 k)] []) (fun k=>k ≤ xs.length ∧ ∀ j:Nat,j < k → xs.getD j 0 ≠ x) (fun k=>xs.length - k) 0 ⟨Nat.zero_le _,fun j h=>absurd h (Nat.not_lt_zero _)⟩ ?_ ?_
  · (refine Sub.of_lists ?_ ?_ ?_ ?_ ?_<;>simp [Vw.mkS,Vw.lk,Vw.hk,AV.inn,innL,innL_ints,innL_append,innL_rep,-List.map_set,-List.getD_eq_getElem?_getD])
  · rintro k ⟨hk,hj⟩
    by_cases hlt:k < xs.length
    · by_cases he:xs.getD k 0=x
      · have he':(x=xs.getD k 0)=True:=eq_true he.symm
        (repeat' (first
 | (first|refine awp_seq ?_|refine awp_block ?_)
 | ((first|refine awp_reg ?_|refine awp_condB ?_|refine awp_skip ?_|refine awp_exit ?_);simp (disch:=omega) only [push_cast,seval,l116r0,l116r1,l116r2,l116r3,l116r4,l116r5,l116r6,l116r7,he',decide_true])
 | ((first|refine condB_split (fun h=>?_) (fun h=>?_)|refine gIf_split (fun h=>?_) (fun h=>?_)|refine qIf_split (fun h=>?_) (fun h=>?_))<;>(try simp only [h])<;>(try simp only [bitvec_to_nat] at h)<;>(try simp only [h])<;>(first|(exfalso;omega)|(focus (exfalso;simp_all;done))|(simp (disch:=omega) only [push_cast,seval,he',decide_true])|skip))
 | (refine awp_ret ⟨.inr rfl,_,rfl,?_⟩;(try simp (disch:=omega) only [push_cast,seval,he',decide_true]))))
        rw [placeI_some (j:=k) hlt he hj]
      · have he':(x=xs.getD k 0)=False:=eq_false fun h=>he h.symm
        (repeat' (first
 | (first|refine awp_seq ?_|refine awp_block ?_)
 | ((first|refine awp_reg ?_|refine awp_condB ?_|refine awp_skip ?_|refine awp_exit ?_);simp (disch:=omega) only [push_cast,seval,l116r0,l116r1,l116r2,l116r3,l116r4,l116r5,l116r6,l116r7,he',decide_false])
 | ((first|refine condB_split (fun h=>?_) (fun h=>?_)|refine gIf_split (fun h=>?_) (fun h=>?_)|refine qIf_split (fun h=>?_) (fun h=>?_))<;>(try simp only [h])<;>(try simp only [bitvec_to_nat] at h)<;>(try simp only [h])<;>(first|(exfalso;omega)|(focus (exfalso;simp_all;done))|(simp (disch:=omega) only [push_cast,seval,he',decide_false])|skip))
 | (refine awp_ret ⟨.inr rfl,_,rfl,?_⟩;(try simp (disch:=omega) only [push_cast,seval,he',decide_false]))))
        refine ⟨k + 1,⟨by omega,fun j h=>?_⟩,by omega,?_⟩
        · by_cases hjk:j=k
          · subst hjk;assumption
          · exact hj j (by omega)
        · (refine Sub.of_lists ?_ ?_ ?_ ?_ ?_<;>simp [Vw.mkS,Vw.lk,Vw.hk,AV.inn,innL,innL_ints,innL_append,innL_rep,-List.map_set,-List.getD_eq_getElem?_getD])
    · (repeat' (first
 | (first|refine awp_seq ?_|refine awp_block ?_)
 | ((first|refine awp_reg ?_|refine awp_condB ?_|refine awp_skip ?_|refine awp_exit ?_);simp (disch:=omega) only [push_cast,seval,l116r0,l116r1,l116r2,l116r3,l116r4,l116r5,l116r6,l116r7])
 | ((first|refine condB_split (fun h=>?_) (fun h=>?_)|refine gIf_split (fun h=>?_) (fun h=>?_)|refine qIf_split (fun h=>?_) (fun h=>?_))<;>(try simp only [h])<;>(try simp only [bitvec_to_nat] at h)<;>(try simp only [h])<;>(first|(exfalso;omega)|(focus (exfalso;simp_all;done))|(simp (disch:=omega) only [push_cast,seval])|skip))
 | (refine awp_ret ⟨.inr rfl,_,rfl,?_⟩;(try simp (disch:=omega) only [push_cast,seval]))))
      rw [placeI_none fun j h=>hj j (by omega)]


theorem slContains_ok (xs:List Int) (n:Nat) (x:Int) (hn:xs.length=n) (hb:n ≤ 1099511627776):PCall Try.prog 102 [.rows false (IL xs) n,.int .i64 x] (fun r=>r=.bool (decide (x ∈ xs))):=by
  subst hn
  refine pcall_of l102_eq rfl ?_
  by_cases h:x ∈ xs
  · have hp:0 ≤ placeI xs x:=by
      have:=mt (@placeI_neg xs x).1 (fun h'=>h' h)
      omega
    (repeat' (first
 | (first|refine awp_seq ?_|refine awp_block ?_)
 | ((first|refine awp_reg ?_|refine awp_condB ?_|refine awp_skip ?_|refine awp_exit ?_);simp (disch:=omega) only [push_cast,seval,l102r0,l102r1,hp,h])
 | ((first|refine condB_split (fun h=>?_) (fun h=>?_)|refine gIf_split (fun h=>?_) (fun h=>?_)|refine qIf_split (fun h=>?_) (fun h=>?_))<;>(try simp only [h])<;>(try simp only [bitvec_to_nat] at h)<;>(try simp only [h])<;>(first|(exfalso;omega)|(focus (exfalso;simp_all;done))|(simp (disch:=omega) only [push_cast,seval,hp,h])|skip))
 | ((first|refine callD_of false ?_|refine qcallD_of false ?_);simp (disch:=omega) only [push_cast,seval,hp,h])
 | ((first|((first|refine call0D (BCall.ofP (slIndex_ok _ _ _ ?_ ?_)) ?_|refine qcall0D (BCall.ofP (slIndex_ok _ _ _ ?_ ?_)) ⟨_,_,rfl,rfl⟩ ?_);(iterate 2 (exact sd));rintro _ _ ⟨rfl,rfl⟩))<;>(try simp (disch:=omega) only [push_cast,seval,hp,h]))
 | (refine awp_ret ⟨.inr rfl,_,rfl,?_⟩;(try simp (disch:=omega) only [push_cast,seval,hp,h]))))
    all_goals (try simp)
  · have hp:¬ 0 ≤ placeI xs x:=by have:=(@placeI_neg xs x).2 h;omega
    (repeat' (first
 | (first|refine awp_seq ?_|refine awp_block ?_)
 | ((first|refine awp_reg ?_|refine awp_condB ?_|refine awp_skip ?_|refine awp_exit ?_);simp (disch:=omega) only [push_cast,seval,l102r0,l102r1,hp,h])
 | ((first|refine condB_split (fun h=>?_) (fun h=>?_)|refine gIf_split (fun h=>?_) (fun h=>?_)|refine qIf_split (fun h=>?_) (fun h=>?_))<;>(try simp only [h])<;>(try simp only [bitvec_to_nat] at h)<;>(try simp only [h])<;>(first|(exfalso;omega)|(focus (exfalso;simp_all;done))|(simp (disch:=omega) only [push_cast,seval,hp,h])|skip))
 | ((first|refine callD_of false ?_|refine qcallD_of false ?_);simp (disch:=omega) only [push_cast,seval,hp,h])
 | ((first|((first|refine call0D (BCall.ofP (slIndex_ok _ _ _ ?_ ?_)) ?_|refine qcall0D (BCall.ofP (slIndex_ok _ _ _ ?_ ?_)) ⟨_,_,rfl,rfl⟩ ?_);(iterate 2 (exact sd));rintro _ _ ⟨rfl,rfl⟩))<;>(try simp (disch:=omega) only [push_cast,seval,hp,h]))
 | (refine awp_ret ⟨.inr rfl,_,rfl,?_⟩;(try simp (disch:=omega) only [push_cast,seval,hp,h]))))
    all_goals (try simp)


end Go.Proofs.Ytbplegbgofnolaa
