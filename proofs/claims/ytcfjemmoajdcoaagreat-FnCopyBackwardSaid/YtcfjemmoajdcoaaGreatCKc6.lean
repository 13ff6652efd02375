import Derived.Test.YtcfjemmoajdcoaaGreatCKc5
import Derived.Test.YtcfjemmoajdcoaaGreatCM1
import Derived.Test.YtcfjemmoajdcoaaGreatCW3
set_option linter.unusedSimpArgs false
set_option linter.unusedVariables false
set_option maxRecDepth 4000
set_option maxHeartbeats 4000000
namespace Go.Proofs.YtcfjemmoajdcoaaGreat
open VwM Vw Go

set_option maxHeartbeats 8000000 in
theorem someView_ok (bs : List Int) (p : Int) (hb : okB bs) (hp : 0 ≤ p ∧ p ≤ 700000) : BCall Tryz.prog 60 [.ref 0 2 0] [RD bs p] (fun r H' => ∃ b sh st q,(good4 sh ∧ sh.length ≤ 4 ∧ st.length ≤ 5) ∧ (p ≤ q ∧ q ≤ p + 210) ∧ r = .agg [.int .i64 b,.own 1 sh.length 1,.own 2 st.length 1] ∧ H' = [RD bs q,IL sh,IL st]) := by
  refine bcall_of (pins := [0]) (pin := 1) l60_eq rfl rfl rfl ?_
  (repeat' (first
 | (first | refine awp_seq ?_ | refine awp_block ?_)
 | ((first | refine awp_reg ?_ | refine awp_drawX (mid := l60r9a) (post := l60r9b) [0] mixed (by decide) ?_ | refine awp_condB ?_ | refine awp_skip ?_ | refine awp_exit ?_); simp (disch := omega) only [push_cast,seval,l60r0,l60r1,l60r2,l60r3,l60r4,l60r5,l60r6,l60r7,l60r8,l60r9a,l60r9b,l60r9,l60r10,IL_set,IL_snoc,List.length_set])
 | ((first | refine condB_split (fun h => ?_) (fun h => ?_) | refine gIf_split (fun h => ?_) (fun h => ?_) | refine qIf_split (fun h => ?_) (fun h => ?_)) <;> (try simp only [h]) <;> (try simp only [bitvec_to_nat] at h) <;> (try simp only [h]) <;> (first | (exfalso; omega) | (focus (exfalso; simp_all; done)) | (simp (disch := omega) only [push_cast,seval,IL_set,IL_snoc,List.length_set]) | skip))
 | ((first | ((with_reducible refine callD_ids (f := 76) [0] true ?_); simp (disch := omega) only [push_cast,seval,IL_set,IL_snoc,List.length_set]; (refine call1D (id := 0) (goodView_ok _ _ ?_ ?_) (by (simp (disch := omega) only [push_cast,seval,IL_set,IL_snoc,List.length_set]); rfl) ?_; (iterate 2 (exact sd)); rintro _ _ ⟨b,sh,st,q,⟨hl1,hl9,hl2⟩,hq,rfl,rfl⟩)) | ((with_reducible refine callD_ids (f := 59) [0] true ?_); simp (disch := omega) only [push_cast,seval,IL_set,IL_snoc,List.length_set]; (refine call1D (id := 0) (pick_ok _ _ _ ?_ ?_) (by (simp (disch := omega) only [push_cast,seval,IL_set,IL_snoc,List.length_set]); rfl) ?_; (iterate 2 (exact sd)); rintro _ _ ⟨x,hx0,hx1,rfl,rfl⟩)) | ((with_reducible refine qcallI_of (f := 59) [0] true ?_); simp (disch := omega) only [push_cast,seval,IL_set,IL_snoc,List.length_set]; (refine qcall1D (id := 0) (pick_ok _ _ _ ?_ ?_) (by (simp (disch := omega) only [push_cast,seval,IL_set,IL_snoc,List.length_set]); rfl) (by decide) ⟨_,_,0,by omega,Or.inr (Or.inr rfl),rfl,rfl⟩ ?_; (iterate 2 (exact sd)); rintro _ _ ⟨x,hx0,hx1,rfl,rfl⟩)) | ((with_reducible refine callD_ids (f := 58) (args := [Operand.tmp 10,Operand.tmp 11]) [0,176] true ?_); simp (disch := omega) only [push_cast,seval,IL_set,IL_snoc,List.length_set]; (refine call2D (id := 0) (id' := 176) (by decide) (one_ok _ _ _ _ ?_ ?_ ?_ ?_ ?_) (by (simp (disch := omega) only [push_cast,seval,IL_set,IL_snoc,List.length_set]); rfl) (by (simp (disch := omega) only [push_cast,seval,IL_set,IL_snoc,List.length_set]); rfl) ?_; (iterate 5 (exact sd)); rintro _ _ ⟨x,hx,hx0,rfl,rfl⟩)) | ((with_reducible refine callD_ids (f := 58) (args := [Operand.tmp 29,Operand.tmp 30]) [0,480] true ?_); simp (disch := omega) only [push_cast,seval,IL_set,IL_snoc,List.length_set]; (refine call2D (id := 0) (id' := 480) (by decide) (one_ok _ _ _ _ ?_ ?_ ?_ ?_ ?_) (by (simp (disch := omega) only [push_cast,seval,IL_set,IL_snoc,List.length_set]); rfl) (by (simp (disch := omega) only [push_cast,seval,IL_set,IL_snoc,List.length_set]); rfl) ?_; (iterate 5 (exact sd)); rintro _ _ ⟨x,hx,hx0,rfl,rfl⟩)) | ((with_reducible refine callD_ids (f := 58) [0] true ?_); simp (disch := omega) only [push_cast,seval,IL_set,IL_snoc,List.length_set]; (refine call1D (id := 0) (oneR_ok _ _ _ _ ?_ ?_ ?_ ?_ ?_) (by (simp (disch := omega) only [push_cast,seval,IL_set,IL_snoc,List.length_set]); rfl) ?_; (iterate 5 (exact sd)); rintro _ _ ⟨x,hx,hx0,rfl,rfl⟩)) | ((with_reducible refine qcallI_of (f := 58) [0] true ?_); simp (disch := omega) only [push_cast,seval,IL_set,IL_snoc,List.length_set]; (refine qcall1D (id := 0) (oneR_ok _ _ _ _ ?_ ?_ ?_ ?_ ?_) (by (simp (disch := omega) only [push_cast,seval,IL_set,IL_snoc,List.length_set]); rfl) (by decide) (by simp only [unI_cons,unI_nil];exact ⟨_,_,_,List.mem_cons_self,by omega,rfl,rfl⟩) ?_; (iterate 5 (exact sd)); rintro _ _ ⟨x,hx,hx0,rfl,rfl⟩))) <;> (try simp (disch := omega) only [push_cast,seval,IL_set,IL_snoc,List.length_set]))
 | (refine awp_ret ⟨.inr rfl,[80,81],[],_,by decide,rfl,?_⟩; (try simp (disch := omega) only [push_cast,seval,↓allMem_nil,↓allMem_cons,↓List.map_cons,↓List.map_nil,IL_set,IL_snoc,List.length_set]))))
  all_goals first
    | (refine ⟨b,sh,st,q,⟨?_,?_,?_⟩,?_,?_,?_⟩ <;> first | omega | assumption | rfl | (simp; done) | (simp; omega))
    | (refine ⟨b,sh,st ++ [1],q + 1,⟨?_,?_,?_⟩,?_,?_,?_⟩ <;> first | omega | assumption | rfl | (simp; done) | (simp; omega))
    | (refine ⟨b,sh,st.set 0 x,q + 1 + 1,⟨?_,?_,?_⟩,?_,?_,?_⟩ <;> first | omega | assumption | rfl | (simp; done) | (simp; omega))
    | (refine ⟨b,sh,st,q + 1,⟨?_,?_,?_⟩,?_,?_,?_⟩ <;> first | omega | assumption | rfl | (simp; done) | (simp; omega))
    | (refine ⟨b,sh,st,q + 1 + 1,⟨?_,?_,?_⟩,?_,?_,?_⟩ <;> first | omega | assumption | rfl | (simp; done) | (simp; omega))
    | (refine ⟨x,sh,st,q + 1 + 1,⟨?_,?_,?_⟩,?_,?_,?_⟩ <;> first | omega | assumption | rfl | (simp; done) | (simp; omega))

end Go.Proofs.YtcfjemmoajdcoaaGreat
