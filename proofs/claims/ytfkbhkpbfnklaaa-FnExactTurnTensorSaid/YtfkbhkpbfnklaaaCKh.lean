import Derived.Test.YtfkbhkpbfnklaaaCKb
import Derived.Test.YtfkbhkpbfnklaaaCM1

set_option linter.unusedSimpArgs false
set_option linter.unusedVariables false
set_option maxRecDepth 4000
set_option maxHeartbeats 4000000
namespace Go.Proofs.Ytfkbhkpbfnklaaa
open VwM Vw Go

theorem progression_ok (a c k:Int) (h1:-100000 ≤ a ∧ a ≤ 100000 ∧ -100000 ≤ c ∧ c ≤ 100000 ∧ -1000 ≤ k ∧ k ≤ 1000) (h2:1 ≤ k → -1000000 ≤ (k - 1) * c ∧ (k - 1) * c ≤ 1000000):PCall Try.prog 76 [.int .i64 a,.int .i64 c,.int .i64 k] (fun r=>r=PR a c k):=by
  obtain ⟨h3,h4,h5,h6,h7,h8⟩:=h1
  refine pcall_of l76_eq rfl ?_
  by_cases g1:k < 1
  · (repeat' (first
 | (first|refine awp_seq ?_|refine awp_block ?_)
 | ((first|refine awp_reg ?_|refine awp_condB ?_|refine awp_skip ?_|refine awp_exit ?_);simp (disch:=omega) only [push_cast,seval,l76r0,l76r1,l76r2,l76r3,l76r4,l76r5,l76r6,l76r7,l76r8,g1])
 | ((first|refine condB_split (fun h=>?_) (fun h=>?_)|refine gIf_split (fun h=>?_) (fun h=>?_)|refine qIf_split (fun h=>?_) (fun h=>?_))<;>(try simp only [h])<;>(try simp only [bitvec_to_nat] at h)<;>(try simp only [h])<;>(first|(exfalso;omega)|(focus (exfalso;simp_all;done))|(simp (disch:=omega) only [push_cast,seval,g1])|skip))
 | (refine awp_ret ⟨.inr rfl,_,rfl,?_⟩;(try simp (disch:=omega) only [push_cast,seval,g1]))))
    all_goals (have:k ≤ 1:=by omega);simp [pS,pE,pC,g1,this]
  · have h2:=h2 (by omega)
    by_cases g2:k=1
    · subst g2
      (repeat' (first
 | (first|refine awp_seq ?_|refine awp_block ?_)
 | ((first|refine awp_reg ?_|refine awp_condB ?_|refine awp_skip ?_|refine awp_exit ?_);simp (disch:=omega) only [push_cast,seval,l76r0,l76r1,l76r2,l76r3,l76r4,l76r5,l76r6,l76r7,l76r8])
 | ((first|refine condB_split (fun h=>?_) (fun h=>?_)|refine gIf_split (fun h=>?_) (fun h=>?_)|refine qIf_split (fun h=>?_) (fun h=>?_))<;>(try simp only [h])<;>(try simp only [bitvec_to_nat] at h)<;>(try simp only [h])<;>(first|(exfalso;omega)|(focus (exfalso;simp_all;done))|(simp (disch:=omega) only [push_cast,seval])|skip))
 | (refine awp_ret ⟨.inr rfl,_,rfl,?_⟩;(try simp (disch:=omega) only [push_cast,seval]))))
      all_goals simp [pS,pE,pC]
    · have g3:¬ k ≤ 1:=by omega
      by_cases g4:c < 0
      · (repeat' (first
 | (first|refine awp_seq ?_|refine awp_block ?_)
 | ((first|refine awp_reg ?_|refine awp_condB ?_|refine awp_skip ?_|refine awp_exit ?_);simp (disch:=omega) only [push_cast,seval,l76r0,l76r1,l76r2,l76r3,l76r4,l76r5,l76r6,l76r7,l76r8,g1,g2,g4])
 | ((first|refine condB_split (fun h=>?_) (fun h=>?_)|refine gIf_split (fun h=>?_) (fun h=>?_)|refine qIf_split (fun h=>?_) (fun h=>?_))<;>(try simp only [h])<;>(try simp only [bitvec_to_nat] at h)<;>(try simp only [h])<;>(first|(exfalso;omega)|(focus (exfalso;simp_all;done))|(simp (disch:=omega) only [push_cast,seval,g1,g2,g4])|skip))
 | (refine awp_ret ⟨.inr rfl,_,rfl,?_⟩;(try simp (disch:=omega) only [push_cast,seval,g1,g2,g4]))))
        all_goals simp [pS,pE,pC,g1,g2,g3,g4]
      · (repeat' (first
 | (first|refine awp_seq ?_|refine awp_block ?_)
 | ((first|refine awp_reg ?_|refine awp_condB ?_|refine awp_skip ?_|refine awp_exit ?_);simp (disch:=omega) only [push_cast,seval,l76r0,l76r1,l76r2,l76r3,l76r4,l76r5,l76r6,l76r7,l76r8,g1,g2,g4])
 | ((first|refine condB_split (fun h=>?_) (fun h=>?_)|refine gIf_split (fun h=>?_) (fun h=>?_)|refine qIf_split (fun h=>?_) (fun h=>?_))<;>(try simp only [h])<;>(try simp only [bitvec_to_nat] at h)<;>(try simp only [h])<;>(first|(exfalso;omega)|(focus (exfalso;simp_all;done))|(simp (disch:=omega) only [push_cast,seval,g1,g2,g4])|skip))
 | (refine awp_ret ⟨.inr rfl,_,rfl,?_⟩;(try simp (disch:=omega) only [push_cast,seval,g1,g2,g4]))))
        all_goals simp [pS,pE,pC,g1,g2,g3,g4]

end Go.Proofs.Ytfkbhkpbfnklaaa
