import Derived.Test.YtielfbmofoolbaaCKz6
import Derived.Test.YtielfbmofoolbaaCM1
import Derived.Test.YtielfbmofoolbaaCW3
set_option linter.unusedSimpArgs false
set_option linter.unusedVariables false
set_option maxRecDepth 4000
set_option maxHeartbeats 4000000
namespace Go.Proofs.Ytielfbmofoolbaa
open VwM Vw Go











theorem dimOfD_ok (bs : List Int) (p : Int) (hb : okB bs) (hp : 0 ≤ p ∧ p ≤ 600000) : BCall Try.prog 28 [.ref 0 2 0] [RD bs p] (fun r H' => ∃ b sh st d q,(good4 sh ∧ sh.length ≤ 4 ∧ st.length ≤ 5) ∧ (p ≤ q ∧ q ≤ p + 250) ∧ r = .tup [.agg [.int .i64 b,.own 1 sh.length 1,.own 2 st.length 1],.int .i64 d] ∧ H' = [RD bs q,IL sh,IL st]) := by
  refine bcall_of (pins := [0]) (pin := 1) l28_eq rfl rfl rfl ?_
  (repeat' (first
 | (first | refine awp_seq ?_ | refine awp_block ?_)
 | ((first | refine awp_reg ?_ | refine awp_drawX (mid := l28r2a) (post := l28r2b) [0] mixed (by decide) ?_ | refine awp_condB ?_ | refine awp_skip ?_ | refine awp_exit ?_); simp (disch := omega) only [push_cast,seval,l28r0,l28r1,l28r2a,l28r2b,l28r2])
 | ((first | refine condB_split (fun h => ?_) (fun h => ?_) | refine gIf_split (fun h => ?_) (fun h => ?_) | refine qIf_split (fun h => ?_) (fun h => ?_)) <;> (try simp only [h]) <;> (try simp only [decide_eq_true_eq,decide_eq_false_iff_not,Bool.not_eq_true',Bool.not_eq_false',Bool.and_eq_true,Bool.or_eq_true,Bool.and_eq_false_iff,Bool.or_eq_false_iff,bne_iff_ne,ne_eq,beq_iff_eq,Bool.not_eq_true,Bool.not_eq_false] at h) <;> (try simp only [h]) <;> (first | (exfalso; omega) | (focus (exfalso; simp_all; done)) | (simp (disch := omega) only [push_cast,seval]) | skip))
 | ((first | ((with_reducible refine callD_ids (f := 61) [0] true ?_); simp (disch := omega) only [push_cast,seval]; (refine call1D (id := 0) (someView_ok _ _ ?_ ?_) (by (simp (disch := omega) only [push_cast,seval]); rfl) ?_; (iterate 2 (focus (first | assumption | rfl | omega | (simp <;> omega) | (simp_all <;> omega)))); rintro _ _ ⟨b,sh,st,q,⟨hl1,hl9,hl2⟩,hq,rfl,rfl⟩)) | ((with_reducible refine callD_ids (f := 47) [0] true ?_); simp (disch := omega) only [push_cast,seval]; (refine call1D (id := 0) (pick_ok _ _ _ ?_ ?_) (by (simp (disch := omega) only [push_cast,seval]); rfl) ?_; (iterate 2 (focus (first | assumption | rfl | omega | (simp <;> omega) | (simp_all <;> omega)))); rintro _ _ ⟨x,hx0,hx1,rfl,rfl⟩)) | ((with_reducible refine qcallI_of (f := 47) [0] true ?_); simp (disch := omega) only [push_cast,seval]; (refine qcall1D (id := 0) (pick_ok _ _ _ ?_ ?_) (by (simp (disch := omega) only [push_cast,seval]); rfl) (by decide) ⟨_,_,0,by omega,Or.inr (Or.inr rfl),rfl,rfl⟩ ?_; (iterate 2 (focus (first | assumption | rfl | omega | (simp <;> omega) | (simp_all <;> omega)))); rintro _ _ ⟨x,hx0,hx1,rfl,rfl⟩)) | ((with_reducible refine callD_ids (f := 29) (args := [Operand.tmp 8,Operand.tmp 21]) [0,336] true ?_); simp (disch := omega) only [push_cast,seval]; (refine call2D (id := 0) (id' := 336) (by decide) (one_ok _ _ _ _ ?_ ?_ ?_ ?_ ?_) (by (simp (disch := omega) only [push_cast,seval]); rfl) (by (simp (disch := omega) only [push_cast,seval]); rfl) ?_; (iterate 5 (focus (first | assumption | rfl | omega | (simp <;> omega) | (simp_all <;> omega)))); rintro _ _ ⟨x,hx,hx0,rfl,rfl⟩)) | ((with_reducible refine callD_ids (f := 29) [0] true ?_); simp (disch := omega) only [push_cast,seval]; (refine call1D (id := 0) (oneR_ok _ _ _ _ ?_ ?_ ?_ ?_ ?_) (by (simp (disch := omega) only [push_cast,seval]); rfl) ?_; (iterate 5 (focus (first | assumption | rfl | omega | (simp <;> omega) | (simp_all <;> omega)))); rintro _ _ ⟨x,hx,hx0,rfl,rfl⟩)) | ((with_reducible refine qcallI_of (f := 29) [0] true ?_); simp (disch := omega) only [push_cast,seval]; (refine qcall1D (id := 0) (oneR_ok _ _ _ _ ?_ ?_ ?_ ?_ ?_) (by (simp (disch := omega) only [push_cast,seval]); rfl) (by decide) (by simp only [unI_cons,unI_nil];exact ⟨_,_,_,List.mem_cons_self,by omega,rfl,rfl⟩) ?_; (iterate 5 (focus (first | assumption | rfl | omega | (simp <;> omega) | (simp_all <;> omega)))); rintro _ _ ⟨x,hx,hx0,rfl,rfl⟩))) <;> (try simp (disch := omega) only [push_cast,seval]))
 | (refine awp_ret ⟨.inr rfl,[96,97],[],_,by decide,rfl,?_⟩; (try simp (disch := omega) only [push_cast,seval,↓allMem_nil,↓allMem_cons,↓List.map_cons,↓List.map_nil]))))
  all_goals exact ⟨b,sh,st,_,_,⟨by assumption,by omega,by omega⟩,by omega,rfl,rfl⟩

end Go.Proofs.Ytielfbmofoolbaa
