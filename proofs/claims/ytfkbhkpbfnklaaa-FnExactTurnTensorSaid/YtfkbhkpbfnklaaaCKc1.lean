import Derived.Test.YtfkbhkpbfnklaaaCKv
import Derived.Test.YtfkbhkpbfnklaaaCM1
import Derived.Test.YtfkbhkpbfnklaaaCW3
set_option linter.unusedSimpArgs false
set_option linter.unusedVariables false
set_option maxRecDepth 4000
set_option maxHeartbeats 4000000
namespace Go.Proofs.Ytfkbhkpbfnklaaa
open VwM Vw Go

theorem svalidOrder_ok (xs:List Int) (n:Nat) (k:Nat) (hn:xs.length=n) (hb:n ≤ 1099511627776 ∧ k ≤ 1000):PCall Try.prog 70 [.rows false (IL xs) n,.int .i64 k] (fun r=>r=.bool (decide (n=k) && allI xs 0 ((k:Int) - 1) && decide xs.Nodup)):=by
  subst hn
  obtain ⟨hb1,hb2⟩:=hb
  refine pcall_of l70_eq rfl ?_
  have e:((xs.length:Int)=k)=(xs.length=k):=by simp;omega
  (repeat' (first
 | (first|refine awp_seq ?_|refine awp_block ?_)
 | ((first|refine awp_reg ?_|refine awp_condB ?_|refine awp_skip ?_|refine awp_exit ?_);simp (disch:=omega) only [push_cast,seval,l70r0,l70r1,e])
 | ((first|refine condB_split (fun h=>?_) (fun h=>?_)|refine gIf_split (fun h=>?_) (fun h=>?_)|refine qIf_split (fun h=>?_) (fun h=>?_))<;>(try simp only [h])<;>(try simp only [bitvec_to_nat] at h)<;>(try simp only [h])<;>(first|(exfalso;omega)|(focus (exfalso;simp_all;done))|(simp (disch:=omega) only [push_cast,seval,e])|skip))
 | ((first|refine callD_of false ?_|refine qcallD_of false ?_);simp (disch:=omega) only [push_cast,seval,e])
 | ((first|((first|refine call0D (BCall.ofP (allIn_ok _ _ _ _ ?_ ?_)) ?_|refine qcall0D (BCall.ofP (allIn_ok _ _ _ _ ?_ ?_)) ⟨_,_,rfl,rfl⟩ ?_);(iterate 2 (exact sd));rintro _ _ ⟨rfl,rfl⟩)|((first|refine call0D (BCall.ofP (sdifferent_ok _ _ ?_ ?_)) ?_|refine qcall0D (BCall.ofP (sdifferent_ok _ _ ?_ ?_)) ⟨_,_,rfl,rfl⟩ ?_);(iterate 2 (exact sd));rintro _ _ ⟨rfl,rfl⟩))<;>(try simp (disch:=omega) only [push_cast,seval,e]))
 | (refine awp_ret ⟨.inr rfl,_,rfl,?_⟩;(try simp (disch:=omega) only [push_cast,seval,e]))))
  all_goals simp_all

end Go.Proofs.Ytfkbhkpbfnklaaa
