import Derived.Test.YtbplegbgofnolaaCKq
import Derived.Test.YtbplegbgofnolaaCM1
set_option linter.unusedSimpArgs false
set_option linter.unusedVariables false
set_option maxRecDepth 4000
set_option maxHeartbeats 4000000
namespace Go.Proofs.Ytbplegbgofnolaa
open VwM Vw Go

theorem equalInts_ok (xs ys:List Int) (n m:Nat) (hn:xs.length=n) (hm:ys.length=m) (hb:n ≤ 1099511627776 ∧ m ≤ 1099511627776):PCall Try.prog 24 [.rows false (IL xs) n,.rows false (IL ys) m] (fun r=>r=.bool (decide (xs=ys))):=by
  subst hn hm
  refine pcall_of l24_eq rfl ?_
  by_cases hl:xs.length=ys.length
  · have hl':(xs.length:Int)=ys.length:=by omega
    (repeat' (first
 | (first|refine awp_seq ?_|refine awp_block ?_)
 | ((first|refine awp_reg ?_|refine awp_draw (mid:=l24r5a) (post:=l24r5b) mixed (by decide) ?_|refine awp_condB ?_|refine awp_skip ?_|refine awp_exit ?_);simp (disch:=omega) only [push_cast,seval,l24r0,l24r1,l24r2,l24r3,l24r4,l24r5a,l24r5b,l24r5,l24r6,l24r7,l24r8,hl'])
 | ((first|refine condB_split (fun h=>?_) (fun h=>?_)|refine gIf_split (fun h=>?_) (fun h=>?_)|refine qIf_split (fun h=>?_) (fun h=>?_))<;>(try simp only [h])<;>(try simp only [bitvec_to_nat] at h)<;>(try simp only [h])<;>(first|(exfalso;omega)|(focus (exfalso;simp_all;done))|(simp (disch:=omega) only [push_cast,seval,hl'])|skip))
 | (refine awp_ret ⟨.inr rfl,_,rfl,?_⟩;(try simp (disch:=omega) only [push_cast,seval,hl']))))
    refine awp_loop (fun k:Nat=>mkS [(0,RI xs),(1,RI ys),(5,.int .i64 k)] []) (fun k=>k ≤ xs.length ∧ ∀ j:Nat,j < k → xs.getD j 0=ys.getD j 0) (fun k=>xs.length - k) 0 ⟨Nat.zero_le _,fun j h=>absurd h (Nat.not_lt_zero _)⟩ ?_ ?_
    · (refine Sub.of_lists ?_ ?_ ?_ ?_ ?_<;>simp [Vw.mkS,Vw.lk,Vw.hk,AV.inn,innL,innL_ints,innL_append,innL_rep,-List.map_set,-List.getD_eq_getElem?_getD,hl])
    · rintro k ⟨hk,hj⟩
      by_cases hlt:k < xs.length
      · (repeat' (first
 | (first|refine awp_seq ?_|refine awp_block ?_)
 | ((first|refine awp_reg ?_|refine awp_draw (mid:=l24r5a) (post:=l24r5b) mixed (by decide) ?_|refine awp_condB ?_|refine awp_skip ?_|refine awp_exit ?_);simp (disch:=omega) only [push_cast,seval,l24r0,l24r1,l24r2,l24r3,l24r4,l24r5a,l24r5b,l24r5,l24r6,l24r7,l24r8])
 | ((first|refine condB_split (fun h=>?_) (fun h=>?_)|refine gIf_split (fun h=>?_) (fun h=>?_)|refine qIf_split (fun h=>?_) (fun h=>?_))<;>(try simp only [h])<;>(try simp only [bitvec_to_nat] at h)<;>(try simp only [h])<;>(first|(exfalso;omega)|(focus (exfalso;simp_all;done))|(simp (disch:=omega) only [push_cast,seval])|skip))
 | (refine awp_ret ⟨.inr rfl,_,rfl,?_⟩;(try simp (disch:=omega) only [push_cast,seval]))))
        · simp;rintro rfl;exact absurd rfl ‹_›
        · refine ⟨k + 1,⟨by omega,fun j h=>?_⟩,by omega,?_⟩
          · by_cases hjk:j=k
            · subst hjk;assumption
            · exact hj j (by omega)
          · (refine Sub.of_lists ?_ ?_ ?_ ?_ ?_<;>simp [Vw.mkS,Vw.lk,Vw.hk,AV.inn,innL,innL_ints,innL_append,innL_rep,-List.map_set,-List.getD_eq_getElem?_getD])
      · (repeat' (first
 | (first|refine awp_seq ?_|refine awp_block ?_)
 | ((first|refine awp_reg ?_|refine awp_draw (mid:=l24r5a) (post:=l24r5b) mixed (by decide) ?_|refine awp_condB ?_|refine awp_skip ?_|refine awp_exit ?_);simp (disch:=omega) only [push_cast,seval,l24r0,l24r1,l24r2,l24r3,l24r4,l24r5a,l24r5b,l24r5,l24r6,l24r7,l24r8])
 | ((first|refine condB_split (fun h=>?_) (fun h=>?_)|refine gIf_split (fun h=>?_) (fun h=>?_)|refine qIf_split (fun h=>?_) (fun h=>?_))<;>(try simp only [h])<;>(try simp only [bitvec_to_nat] at h)<;>(try simp only [h])<;>(first|(exfalso;omega)|(focus (exfalso;simp_all;done))|(simp (disch:=omega) only [push_cast,seval])|skip))
 | (refine awp_ret ⟨.inr rfl,_,rfl,?_⟩;(try simp (disch:=omega) only [push_cast,seval]))))
        have:xs=ys:=list_eq_of hl fun j h=>hj j (by omega)
        simp [this]
  · have hl':¬ (xs.length:Int)=ys.length:=by omega
    have:¬ xs=ys:=by rintro rfl;exact hl rfl
    (repeat' (first
 | (first|refine awp_seq ?_|refine awp_block ?_)
 | ((first|refine awp_reg ?_|refine awp_draw (mid:=l24r5a) (post:=l24r5b) mixed (by decide) ?_|refine awp_condB ?_|refine awp_skip ?_|refine awp_exit ?_);simp (disch:=omega) only [push_cast,seval,l24r0,l24r1,l24r2,l24r3,l24r4,l24r5a,l24r5b,l24r5,l24r6,l24r7,l24r8,hl'])
 | ((first|refine condB_split (fun h=>?_) (fun h=>?_)|refine gIf_split (fun h=>?_) (fun h=>?_)|refine qIf_split (fun h=>?_) (fun h=>?_))<;>(try simp only [h])<;>(try simp only [bitvec_to_nat] at h)<;>(try simp only [h])<;>(first|(exfalso;omega)|(focus (exfalso;simp_all;done))|(simp (disch:=omega) only [push_cast,seval,hl'])|skip))
 | (refine awp_ret ⟨.inr rfl,_,rfl,?_⟩;(try simp (disch:=omega) only [push_cast,seval,hl']))))
    simp [this]

end Go.Proofs.Ytbplegbgofnolaa
