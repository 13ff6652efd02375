import Derived.Test.YtmdocjjciedohaaDoorCKm1
import Derived.Test.YtmdocjjciedohaaDoorCM1
import Derived.Test.YtmdocjjciedohaaDoorCW3
set_option linter.unusedSimpArgs false
set_option linter.unusedVariables false
set_option maxRecDepth 4000
set_option maxHeartbeats 4000000
namespace Go.Proofs.YtmdocjjciedohaaDoor
open VwM Vw Go

def nbN (s : Int) : Nat := if 0 ≤ s ∧ s ≤ 60 then s.toNat else 0
theorem nbN_le (s : Int) : nbN s ≤ 60 := by unfold nbN; split <;> omega


theorem vCount_ok (s : Int) : PCall Tryd.prog 13 [.int .i64 s] (fun r => r = .bool (decide (0 ≤ s) && decide (s ≤ 60))) := by
  refine pcall_of l13_eq rfl ?_
  (repeat' (first
 | (first | refine awp_seq ?_ | refine awp_block ?_)
 | ((first | refine awp_reg ?_ | refine awp_condB ?_ | refine awp_skip ?_ | refine awp_exit ?_); simp (disch := omega) only [push_cast,seval,l13r0,l13r1])
 | ((first | refine condB_split (fun h => ?_) (fun h => ?_) | refine gIf_split (fun h => ?_) (fun h => ?_) | refine qIf_split (fun h => ?_) (fun h => ?_)) <;> (try simp only [h]) <;> (try simp only [bitvec_to_nat] at h) <;> (try simp only [h]) <;> (first | (exfalso; omega) | (focus (exfalso; simp_all; done)) | (simp (disch := omega) only [push_cast,seval]) | skip))
 | (refine awp_ret ⟨.inr rfl,_,rfl,?_⟩; (try simp (disch := omega) only [push_cast,seval]))))
  all_goals (first | rfl | (simp_all; done) | (simp_all; omega) | (simp; omega) | (simp; grind) | (simp_all; grind) | skip)


theorem iNewBuf_ok (s : Int) : BCall Tryd.prog 5 [.int .i64 s] [] (fun r H' => r = .agg [.own 0 (nbN s) 1,.own 1 0 5] ∧ H' = [IL (List.replicate (nbN s) 0),[]]) := by
  refine bcall_of (pins := []) (pin := 0) l5_eq rfl rfl rfl ?_
  by_cases h : 0 ≤ s ∧ s ≤ 60
  · have hw : (decide (0 ≤ s) && decide (s ≤ 60)) = true := by rw [Bool.and_eq_true,decide_eq_true_eq,decide_eq_true_eq]; exact h
    have hN : nbN s = s.toNat := if_pos h
    rw [hN]
    obtain ⟨n,rfl⟩ : ∃ n : Nat,s = n := ⟨s.toNat,by omega⟩
    rw [Int.toNat_natCast]
    (repeat' (first
 | (first | refine awp_seq ?_ | refine awp_block ?_)
 | ((first | refine awp_reg ?_ | refine awp_condB ?_ | refine awp_skip ?_ | refine awp_exit ?_); simp (disch := omega) only [push_cast,seval,l5r0,l5r1,l5r2,l5r3,hw])
 | ((first | refine condB_split (fun h => ?_) (fun h => ?_) | refine gIf_split (fun h => ?_) (fun h => ?_) | refine qIf_split (fun h => ?_) (fun h => ?_)) <;> (try simp only [h]) <;> (try simp only [bitvec_to_nat] at h) <;> (try simp only [h]) <;> (first | (exfalso; omega) | (focus (exfalso; simp_all; done)) | (simp (disch := omega) only [push_cast,seval,hw]) | skip))
 | ((first | refine callD_of false ?_ | refine qcallD_of false ?_); simp (disch := omega) only [push_cast,seval,hw])
 | ((first | ((first | refine call0D (BCall.ofP (validCount_ok _)) ?_ | refine qcall0D (BCall.ofP (validCount_ok _)) ⟨_,_,rfl,rfl⟩ ?_); rintro _ _ ⟨rfl,rfl⟩) | ((first | refine call0D (BCall.ofP (vCount_ok _)) ?_ | refine qcall0D (BCall.ofP (vCount_ok _)) ⟨_,_,rfl,rfl⟩ ?_); rintro _ _ ⟨rfl,rfl⟩)) <;> (try simp (disch := omega) only [push_cast,seval,hw]))
 | (refine awp_ret ⟨.inr rfl,[128,16000],[(16000,5)],_,by decide,rfl,?_⟩; (try simp (disch := omega) only [push_cast,seval,↓allMem_nil,↓allMem_cons,↓List.map_cons,↓List.map_nil,hw]))))
    all_goals (try simp)
  · have hw : (decide (0 ≤ s) && decide (s ≤ 60)) = false := by rw [Bool.and_eq_false_iff,decide_eq_false_iff_not,decide_eq_false_iff_not]; omega
    have hN : nbN s = 0 := if_neg h
    rw [hN]
    (repeat' (first
 | (first | refine awp_seq ?_ | refine awp_block ?_)
 | ((first | refine awp_reg ?_ | refine awp_condB ?_ | refine awp_skip ?_ | refine awp_exit ?_); simp (disch := omega) only [push_cast,seval,l5r0,l5r1,l5r2,l5r3,hw])
 | ((first | refine condB_split (fun h => ?_) (fun h => ?_) | refine gIf_split (fun h => ?_) (fun h => ?_) | refine qIf_split (fun h => ?_) (fun h => ?_)) <;> (try simp only [h]) <;> (try simp only [bitvec_to_nat] at h) <;> (try simp only [h]) <;> (first | (exfalso; omega) | (focus (exfalso; simp_all; done)) | (simp (disch := omega) only [push_cast,seval,hw]) | skip))
 | ((first | refine callD_of false ?_ | refine qcallD_of false ?_); simp (disch := omega) only [push_cast,seval,hw])
 | ((first | ((first | refine call0D (BCall.ofP (validCount_ok _)) ?_ | refine qcall0D (BCall.ofP (validCount_ok _)) ⟨_,_,rfl,rfl⟩ ?_); rintro _ _ ⟨rfl,rfl⟩) | ((first | refine call0D (BCall.ofP (vCount_ok _)) ?_ | refine qcall0D (BCall.ofP (vCount_ok _)) ⟨_,_,rfl,rfl⟩ ?_); rintro _ _ ⟨rfl,rfl⟩)) <;> (try simp (disch := omega) only [push_cast,seval,hw]))
 | (refine awp_ret ⟨.inr rfl,[16000,16016],[(16000,1),(16016,5)],_,by decide,rfl,?_⟩; (try simp (disch := omega) only [push_cast,seval,↓allMem_nil,↓allMem_cons,↓List.map_cons,↓List.map_nil,hw]))))
    all_goals (try simp)


theorem sNewBuf_ok (s : Int) : BCall Tryd.prog 7 [.int .i64 s] [] (fun r H' => r = .agg [.own 0 (nbN s) 1,.own 1 0 5] ∧ H' = [IL (List.replicate (nbN s) 0),[]]) := by
  refine bcall_of (pins := []) (pin := 0) l7_eq rfl rfl rfl ?_
  by_cases h : 0 ≤ s ∧ s ≤ 60
  · have hw : (decide (0 ≤ s) && decide (s ≤ 60)) = true := by rw [Bool.and_eq_true,decide_eq_true_eq,decide_eq_true_eq]; exact h
    have hN : nbN s = s.toNat := if_pos h
    rw [hN]
    obtain ⟨n,rfl⟩ : ∃ n : Nat,s = n := ⟨s.toNat,by omega⟩
    rw [Int.toNat_natCast]
    (repeat' (first
 | (first | refine awp_seq ?_ | refine awp_block ?_)
 | ((first | refine awp_reg ?_ | refine awp_condB ?_ | refine awp_skip ?_ | refine awp_exit ?_); simp (disch := omega) only [push_cast,seval,l7r0,l7r1,l7r2,l7r3,hw])
 | ((first | refine condB_split (fun h => ?_) (fun h => ?_) | refine gIf_split (fun h => ?_) (fun h => ?_) | refine qIf_split (fun h => ?_) (fun h => ?_)) <;> (try simp only [h]) <;> (try simp only [bitvec_to_nat] at h) <;> (try simp only [h]) <;> (first | (exfalso; omega) | (focus (exfalso; simp_all; done)) | (simp (disch := omega) only [push_cast,seval,hw]) | skip))
 | ((first | refine callD_of false ?_ | refine qcallD_of false ?_); simp (disch := omega) only [push_cast,seval,hw])
 | ((first | ((first | refine call0D (BCall.ofP (inRange_ok _ _ _)) ?_ | refine qcall0D (BCall.ofP (inRange_ok _ _ _)) ⟨_,_,rfl,rfl⟩ ?_); rintro _ _ ⟨rfl,rfl⟩)) <;> (try simp (disch := omega) only [push_cast,seval,hw]))
 | (refine awp_ret ⟨.inr rfl,[128,16000],[(16000,5)],_,by decide,rfl,?_⟩; (try simp (disch := omega) only [push_cast,seval,↓allMem_nil,↓allMem_cons,↓List.map_cons,↓List.map_nil,hw]))))
    all_goals (try simp)
  · have hw : (decide (0 ≤ s) && decide (s ≤ 60)) = false := by rw [Bool.and_eq_false_iff,decide_eq_false_iff_not,decide_eq_false_iff_not]; omega
    have hN : nbN s = 0 := if_neg h
    rw [hN]
    (repeat' (first
 | (first | refine awp_seq ?_ | refine awp_block ?_)
 | ((first | refine awp_reg ?_ | refine awp_condB ?_ | refine awp_skip ?_ | refine awp_exit ?_); simp (disch := omega) only [push_cast,seval,l7r0,l7r1,l7r2,l7r3,hw])
 | ((first | refine condB_split (fun h => ?_) (fun h => ?_) | refine gIf_split (fun h => ?_) (fun h => ?_) | refine qIf_split (fun h => ?_) (fun h => ?_)) <;> (try simp only [h]) <;> (try simp only [bitvec_to_nat] at h) <;> (try simp only [h]) <;> (first | (exfalso; omega) | (focus (exfalso; simp_all; done)) | (simp (disch := omega) only [push_cast,seval,hw]) | skip))
 | ((first | refine callD_of false ?_ | refine qcallD_of false ?_); simp (disch := omega) only [push_cast,seval,hw])
 | ((first | ((first | refine call0D (BCall.ofP (inRange_ok _ _ _)) ?_ | refine qcall0D (BCall.ofP (inRange_ok _ _ _)) ⟨_,_,rfl,rfl⟩ ?_); rintro _ _ ⟨rfl,rfl⟩)) <;> (try simp (disch := omega) only [push_cast,seval,hw]))
 | (refine awp_ret ⟨.inr rfl,[16000,16016],[(16000,1),(16016,5)],_,by decide,rfl,?_⟩; (try simp (disch := omega) only [push_cast,seval,↓allMem_nil,↓allMem_cons,↓List.map_cons,↓List.map_nil,hw]))))
    all_goals (try simp)

end Go.Proofs.YtmdocjjciedohaaDoor
