import Derived.Test.YtmdocjjciedohaaDoorCLow
import Derived.Test.YtmdocjjciedohaaDoorCM1

set_option linter.unusedSimpArgs false
set_option linter.unusedVariables false
set_option maxRecDepth 4000
set_option maxHeartbeats 4000000
namespace Go.Proofs.YtmdocjjciedohaaDoor
open VwM Vw Go

theorem mixed : Tryd.prog.follows .mixedOrders = true := by kernel_rfl


theorem within_ok (x l : Int) (h0 : 0 ≤ l) (h1 : l ≤ 1000) : PCall Tryd.prog 35 [.int .i64 x,.int .i64 l] (fun r => r = .bool (decide (-l ≤ x) && decide (x ≤ l))) := by
  refine pcall_of l35_eq rfl ?_
  (repeat' (first
 | (first | refine awp_seq ?_ | refine awp_block ?_)
 | ((first | refine awp_reg ?_ | refine awp_condB ?_ | refine awp_skip ?_ | refine awp_exit ?_); simp (disch := omega) only [push_cast,seval,l35r0,l35r1])
 | ((first | refine condB_split (fun h => ?_) (fun h => ?_) | refine gIf_split (fun h => ?_) (fun h => ?_) | refine qIf_split (fun h => ?_) (fun h => ?_)) <;> (try simp only [h]) <;> (try simp only [bitvec_to_nat] at h) <;> (try simp only [h]) <;> (first | (exfalso; omega) | (focus (exfalso; simp_all; done)) | (simp (disch := omega) only [push_cast,seval]) | skip))
 | (refine awp_ret ⟨.inr rfl,_,rfl,?_⟩; (try simp (disch := omega) only [push_cast,seval]))))
  all_goals (first | rfl | (simp_all; done) | (simp_all; omega) | (simp; omega) | (simp; grind) | (simp_all; grind) | skip)


theorem inRange_ok (x l h : Int) : PCall Tryd.prog 16 [.int .i64 x,.int .i64 l,.int .i64 h] (fun r => r = .bool (decide (l ≤ x) && decide (x ≤ h))) := by
  refine pcall_of l16_eq rfl ?_
  (repeat' (first
 | (first | refine awp_seq ?_ | refine awp_block ?_)
 | ((first | refine awp_reg ?_ | refine awp_condB ?_ | refine awp_skip ?_ | refine awp_exit ?_); simp (disch := omega) only [push_cast,seval,l16r0,l16r1])
 | ((first | refine condB_split (fun h => ?_) (fun h => ?_) | refine gIf_split (fun h => ?_) (fun h => ?_) | refine qIf_split (fun h => ?_) (fun h => ?_)) <;> (try simp only [h]) <;> (try simp only [bitvec_to_nat] at h) <;> (try simp only [h]) <;> (first | (exfalso; omega) | (focus (exfalso; simp_all; done)) | (simp (disch := omega) only [push_cast,seval]) | skip))
 | (refine awp_ret ⟨.inr rfl,_,rfl,?_⟩; (try simp (disch := omega) only [push_cast,seval]))))
  all_goals (first | rfl | (simp_all; done) | (simp_all; omega) | (simp; omega) | (simp; grind) | (simp_all; grind) | skip)


theorem validCount_ok (n : Int) : PCall Tryd.prog 13 [.int .i64 n] (fun r => r = .bool (decide (0 ≤ n) && decide (n ≤ 60))) := by
  refine pcall_of l13_eq rfl ?_
  (repeat' (first
 | (first | refine awp_seq ?_ | refine awp_block ?_)
 | ((first | refine awp_reg ?_ | refine awp_condB ?_ | refine awp_skip ?_ | refine awp_exit ?_); simp (disch := omega) only [push_cast,seval,l13r0,l13r1])
 | ((first | refine condB_split (fun h => ?_) (fun h => ?_) | refine gIf_split (fun h => ?_) (fun h => ?_) | refine qIf_split (fun h => ?_) (fun h => ?_)) <;> (try simp only [h]) <;> (try simp only [bitvec_to_nat] at h) <;> (try simp only [h]) <;> (first | (exfalso; omega) | (focus (exfalso; simp_all; done)) | (simp (disch := omega) only [push_cast,seval]) | skip))
 | (refine awp_ret ⟨.inr rfl,_,rfl,?_⟩; (try simp (disch := omega) only [push_cast,seval]))))
  all_goals (first | rfl | (simp_all; done) | (simp_all; omega) | (simp; omega) | (simp; grind) | (simp_all; grind) | skip)

end Go.Proofs.YtmdocjjciedohaaDoor
