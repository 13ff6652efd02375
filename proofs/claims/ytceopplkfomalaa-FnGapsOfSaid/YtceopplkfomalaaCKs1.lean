import Derived.Test.YtceopplkfomalaaCKp
import Derived.Test.YtceopplkfomalaaCM1
set_option linter.unusedSimpArgs false
set_option linter.unusedVariables false
set_option maxRecDepth 4000
set_option maxHeartbeats 4000000
namespace Go.Proofs.Ytceopplkfomalaa
open VwM Vw Go

theorem span_ok (b : Int) (sh st : List Int) (n m : Nat) (hn : sh.length = n) (hm : st.length = m) (hv : vV b sh st = true) : PCall Try.prog 49 [.agg [.int .i64 b,.rows false (IL sh) n,.rows false (IL st) m]] (fun r => r = PR (spS b sh st) 1 (spN b sh st)) := by
  subst hn hm
  obtain ⟨h1,h2,h3,-⟩ := vV_spec.1 hv
  have hg := (vSh_good h1).1
  have q : good4 sh ∧ vSt st sh.length = true ∧ -1000000 ≤ b ∧ b ≤ 1000000 := ⟨hg,h2,by omega⟩
  refine pcall_of l49_eq rfl ?_
  by_cases hz : pr sh = 0
  · have e1 : spS b sh st = 0 := if_pos hz
    have e2 : spN b sh st = 0 := if_pos hz
    rw [e1,e2]
    (repeat' (first
 | (first | refine awp_seq ?_ | refine awp_block ?_)
 | ((first | refine awp_reg ?_ | refine awp_condB ?_ | refine awp_skip ?_ | refine awp_exit ?_); simp (disch := omega) only [push_cast,seval,l49r0,l49r1,l49r2,l49r3,l49r4,hz])
 | ((first | refine condB_split (fun h => ?_) (fun h => ?_) | refine gIf_split (fun h => ?_) (fun h => ?_) | refine qIf_split (fun h => ?_) (fun h => ?_)) <;> (try simp only [h]) <;> (try simp only [bitvec_to_nat] at h) <;> (try simp only [h]) <;> (first | (exfalso; omega) | (focus (exfalso; simp_all; done)) | (simp (disch := omega) only [push_cast,seval,hz]) | skip))
 | ((first | refine callD_of false ?_ | refine qcallD_of false ?_); simp (disch := omega) only [push_cast,seval,hz])
 | ((first | ((first | refine call0D (BCall.ofP (vcount_ok _ _ _ _ _ _ ?_ ?_)) ?_ | refine qcall0D (BCall.ofP (vcount_ok _ _ _ _ _ _ ?_ ?_)) ⟨_,_,rfl,rfl⟩ ?_); (iterate 2 (exact sd)); rintro _ _ ⟨rfl,rfl⟩) | ((first | refine call0D (BCall.ofP (progression_ok _ _ _ ?_ ?_)) ?_ | refine qcall0D (BCall.ofP (progression_ok _ _ _ ?_ ?_)) ⟨_,_,rfl,rfl⟩ ?_); (iterate 2 (exact sd)); rintro _ _ ⟨rfl,rfl⟩) | ((first | refine call0D (BCall.ofP (bounds_ok _ _ _ _ _ ?_ ?_ ?_)) ?_ | refine qcall0D (BCall.ofP (bounds_ok _ _ _ _ _ ?_ ?_ ?_)) ⟨_,_,rfl,rfl⟩ ?_); (iterate 3 (exact sd)); rintro _ _ ⟨rfl,rfl⟩)) <;> (try simp (disch := omega) only [push_cast,seval,hz]))
 | (refine awp_ret ⟨.inr rfl,_,rfl,?_⟩; (try simp (disch := omega) only [push_cast,seval,hz]))))
    all_goals simp
  · have e1 : spS b sh st = bdL b sh st := if_neg hz
    have e2 : ((spN b sh st : Nat) : Int) = bdH b sh st - bdL b sh st + 1 := by
      have := bd_cells hv hz
      unfold spN; rw [if_neg hz]; omega
    have hb := bd_cells hv hz
    rw [e1,e2]
    (repeat' (first
 | (first | refine awp_seq ?_ | refine awp_block ?_)
 | ((first | refine awp_reg ?_ | refine awp_condB ?_ | refine awp_skip ?_ | refine awp_exit ?_); simp (disch := omega) only [push_cast,seval,l49r0,l49r1,l49r2,l49r3,l49r4,hz])
 | ((first | refine condB_split (fun h => ?_) (fun h => ?_) | refine gIf_split (fun h => ?_) (fun h => ?_) | refine qIf_split (fun h => ?_) (fun h => ?_)) <;> (try simp only [h]) <;> (try simp only [bitvec_to_nat] at h) <;> (try simp only [h]) <;> (first | (exfalso; omega) | (focus (exfalso; simp_all; done)) | (simp (disch := omega) only [push_cast,seval,hz]) | skip))
 | ((first | refine callD_of false ?_ | refine qcallD_of false ?_); simp (disch := omega) only [push_cast,seval,hz])
 | ((first | ((first | refine call0D (BCall.ofP (vcount_ok _ _ _ _ _ _ ?_ ?_)) ?_ | refine qcall0D (BCall.ofP (vcount_ok _ _ _ _ _ _ ?_ ?_)) ⟨_,_,rfl,rfl⟩ ?_); (iterate 2 (exact sd)); rintro _ _ ⟨rfl,rfl⟩) | ((first | refine call0D (BCall.ofP (progression_ok _ _ _ ?_ ?_)) ?_ | refine qcall0D (BCall.ofP (progression_ok _ _ _ ?_ ?_)) ⟨_,_,rfl,rfl⟩ ?_); (iterate 2 (exact sd)); rintro _ _ ⟨rfl,rfl⟩) | ((first | refine call0D (BCall.ofP (bounds_ok _ _ _ _ _ ?_ ?_ ?_)) ?_ | refine qcall0D (BCall.ofP (bounds_ok _ _ _ _ _ ?_ ?_ ?_)) ⟨_,_,rfl,rfl⟩ ?_); (iterate 3 (exact sd)); rintro _ _ ⟨rfl,rfl⟩)) <;> (try simp (disch := omega) only [push_cast,seval,hz]))
 | (refine awp_ret ⟨.inr rfl,_,rfl,?_⟩; (try simp (disch := omega) only [push_cast,seval,hz]))))
    all_goals simp

end Go.Proofs.Ytceopplkfomalaa
