import Derived.Test.YtahdlohpncjdbaaDoorCKh23
import Derived.Test.YtahdlohpncjdbaaDoorCM1
set_option linter.unusedSimpArgs false
set_option linter.unusedVariables false
set_option maxRecDepth 4000
set_option maxHeartbeats 4000000
namespace Go.Proofs.YtahdlohpncjdbaaDoor
open VwM Vw Go
set_option linter.unusedSectionVars false
variable [SentA]

set_option maxHeartbeats 32000000 in
theorem lFE_ok (cs : List Int) (es : List Ex) (id v : Int) (hm : cs.length ≤ 9223372036854775807) (hn : es.length ≤ 9223372036854775807) (hb : exB 9223372036854775807 es) : PCall Tryd.prog 4 [.agg [.rows false (IL cs) cs.length,.rows false (EL false es) es.length],.int .i64 id,.int .i64 v] (fun r => r = .bool true) := by
  refine pcall_of l4_eq rfl ?_
  have hq : cs.length ≤ 9223372036854775807 ∧ es.length ≤ 9223372036854775807 ∧ exB 9223372036854775807 es := ⟨hm,hn,hb⟩
  (repeat' (first
 | (first | refine awp_seq ?_ | refine awp_block ?_)
 | ((first | refine awp_reg ?_ | refine awp_draw (mid := l4r10a) (post := l4r10b) mixed (by decide) ?_ | refine awp_condB ?_ | refine awp_skip ?_ | refine awp_exit ?_); simp (disch := omega) only [push_cast,seval,l4r0,l4r1,l4r2,l4r3,l4r4,l4r5,l4r6,l4r7,l4r8,l4r9,l4r10a,l4r10b,l4r10,l4r11,l4r12,l4r13,l4r14,l4r15,l4r16,l4r17,l4r18,l4r19,l4r20,l4r21,l4r22,l4r23,l4r24,l4r25,l4r26,l4r27,l4r28,l4r29,l4r30,l4r31,l4r32,l4r33,innL_EL])
 | ((first | refine condB_split (fun h => ?_) (fun h => ?_) | refine gIf_split (fun h => ?_) (fun h => ?_) | refine qIf_split (fun h => ?_) (fun h => ?_)) <;> (try simp only [h]) <;> (try simp only [bitvec_to_nat] at h) <;> (try simp only [h]) <;> (first | (exfalso; omega) | (focus (exfalso; simp_all; done)) | (simp (disch := omega) only [push_cast,seval,innL_EL]) | skip))
 | ((first | ((with_reducible refine callD_of (f := 10) false ?_); simp (disch := omega) only [push_cast,seval,innL_EL]; (refine callFNB (toBufferF_ok _ _ _ _ ?_ ?_ ?_) (by (simp (disch := omega) only [push_cast,seval,innL_EL]); done) ?_; (iterate 3 (exact sd)))) | ((with_reducible refine callD_of (f := 16) false ?_); simp (disch := omega) only [push_cast,seval,innL_EL]; (refine callFNT (iFE_ok _ _ _ _ _ _ ?_ ?_ ?_) (by (simp (disch := omega) only [push_cast,seval,innL_EL]); done) ?_; (iterate 3 (exact sd)))) | ((with_reducible refine callE_of (f := 13) ?_); simp (disch := omega) only [push_cast,seval,innL_EL]; (refine callFMX (markBufferX_ok _ _ _ _ _ ?_ ?_ ?_ ?_) (by first | ((simp (disch := omega) only [push_cast,seval,innL_EL]); done) | ((simp (disch := omega) only [push_cast,seval,innL_EL]); rfl)) (by first | ((simp (disch := omega) only [push_cast,seval,innL_EL]); done) | ((simp (disch := omega) only [push_cast,seval,innL_EL]); rfl)) (by first | ((simp (disch := omega) only [push_cast,seval,innL_EL]); done) | omega) (by first | ((simp (disch := omega) only [push_cast,seval,innL_EL]); done) | ((simp (disch := omega) only [push_cast,seval,innL_EL]); assumption)) (by rw [upFrom_len] <;> omega) (like_mkE _ _) ?_; (iterate 4 (exact sd))))) <;> (try simp (disch := omega) only [push_cast,seval,innL_EL]))
 | ((first | refine callD_of false ?_ | refine qcallD_of false ?_); simp (disch := omega) only [push_cast,seval,innL_EL])
 | ((first | (refine call0D (BCall.ofP (szBuffer_ok _ _ _ _ _ ?_ ?_ ?_ ?_)) ?_; (iterate 4 (exact sd)); rintro _ _ ⟨⟨z3,hz3,rfl⟩,rfl⟩) | ((first | refine call0D (BCall.ofP (toBufferP_ok _ _ _ _ ?_ ?_ ?_)) ?_ | refine qcall0D (BCall.ofP (toBufferP_ok _ _ _ _ ?_ ?_ ?_)) ⟨_,_,rfl,rfl⟩ ?_); (iterate 3 (exact sd)); rintro _ _ ⟨rfl,rfl⟩) | ((first | refine call0D (sFE_ok _ _ _ _ _ _ ?_ ?_ ?_) ?_ | refine qcall0D (sFE_ok _ _ _ _ _ _ ?_ ?_ ?_) ⟨_,_,rfl,rfl⟩ ?_); (iterate 3 (exact sd)); rintro _ _ ⟨rfl,rfl⟩) | ((first | refine call0D (BCall.ofP (eqBuffer_ok _ _ _ _ ?_ ?_ ?_)) ?_ | refine qcall0D (BCall.ofP (eqBuffer_ok _ _ _ _ ?_ ?_ ?_)) ⟨_,_,rfl,rfl⟩ ?_); (iterate 3 (exact sd)); rintro _ _ ⟨rfl,rfl⟩) | ((first | refine call0D (BCall.ofP (heldBuffer_ok _ _ _ _ ?_ ?_ ?_)) ?_ | refine qcall0D (BCall.ofP (heldBuffer_ok _ _ _ _ ?_ ?_ ?_)) ⟨_,_,rfl,rfl⟩ ?_); (iterate 3 (exact sd)); rintro _ _ ⟨rfl,rfl⟩)) <;> (try simp (disch := omega) only [push_cast,seval,innL_EL]))
 | (refine awp_ret ⟨.inr rfl,_,rfl,?_⟩; (try simp (disch := omega) only [push_cast,seval,innL_EL]))))
  obtain ⟨hz5,hz6,hz7,hz8⟩ := hz3 (by assumption)
  have q1 : cs.length ≤ 1048576 ∧ es.length ≤ 1048576 ∧ exB 1048576 es := ⟨hz6,hz7,hz8⟩
  have q2 : cs.length ≤ 1099511627776 ∧ es.length ≤ 1099511627776 ∧ exB 1099511627776 es := ⟨by omega,by omega,fun e he => by have := hz8 e he; omega⟩
  have q3 : cs.length ≤ 1048576 ∧ es.length ≤ 1048576 ∧ ∀ j,(exR es j).length ≤ 1048576 := ⟨hz6,hz7,exR_b hz8⟩
  have hC : (xfC cs es id v).length = cs.length := filL_length ..
  have hE : exB 1048576 es := hz8
  have c1 := ifB_le (xfG cs es id v) (xfC cs es id v)
  have c2 := ifB_le (xfG cs es id v) (es)
  have q5 : (ifB (xfG cs es id v) (xfC cs es id v)).length ≤ 1048576 ∧ (ifB (xfG cs es id v) (es)).length ≤ 1048576 ∧ exB 1048576 (ifB (xfG cs es id v) (es)) := ⟨by omega,by omega,exB_ifB _ hE⟩
  have q4 : (ifB (xfG cs es id v) (xfC cs es id v)).length ≤ 1048576 ∧ (ifB (xfG cs es id v) (es)).length ≤ 1048576 ∧ ∀ j,(exR (ifB (xfG cs es id v) (es)) j).length ≤ 1048576 := ⟨by omega,by omega,exR_b q5.2.2⟩
  generalize hW1 : ifB (xfG cs es id v) (xfC cs es id v) = W1 at *
  generalize hW2 : ifB (xfG cs es id v) (es) = W2 at *
  generalize hW3 : xfG cs es id v = W3 at *
  have k1 := kA_le (k := 1 + (cs.length : Int)) q3.2.2 es.length
  have k2 := kA_le (k := 1 + (W1.length : Int)) q4.2.2 W2.length
  (repeat' (first
 | (first | refine awp_seq ?_ | refine awp_block ?_)
 | ((first | refine awp_reg ?_ | refine awp_draw (mid := l4r10a) (post := l4r10b) mixed (by decide) ?_ | refine awp_condB ?_ | refine awp_skip ?_ | refine awp_exit ?_); simp (disch := omega) only [push_cast,seval,l4r0,l4r1,l4r2,l4r3,l4r4,l4r5,l4r6,l4r7,l4r8,l4r9,l4r10a,l4r10b,l4r10,l4r11,l4r12,l4r13,l4r14,l4r15,l4r16,l4r17,l4r18,l4r19,l4r20,l4r21,l4r22,l4r23,l4r24,l4r25,l4r26,l4r27,l4r28,l4r29,l4r30,l4r31,l4r32,l4r33,innL_EL,decide_true,hW1,hW2,hW3,bne_self_eq_false,mkE_length])
 | ((first | refine condB_split (fun h => ?_) (fun h => ?_) | refine gIf_split (fun h => ?_) (fun h => ?_) | refine qIf_split (fun h => ?_) (fun h => ?_)) <;> (try simp only [h]) <;> (try simp only [bitvec_to_nat] at h) <;> (try simp only [h]) <;> (first | (exfalso; omega) | (focus (exfalso; simp_all; done)) | (simp (disch := omega) only [push_cast,seval,innL_EL,decide_true,hW1,hW2,hW3,bne_self_eq_false,mkE_length]) | skip))
 | ((first | ((with_reducible refine callD_of (f := 10) false ?_); simp (disch := omega) only [push_cast,seval,innL_EL,decide_true,hW1,hW2,hW3,bne_self_eq_false,mkE_length]; (refine callFNB (toBufferF_ok _ _ _ _ ?_ ?_ ?_) (by (simp (disch := omega) only [push_cast,seval,innL_EL,decide_true,hW1,hW2,hW3,bne_self_eq_false,mkE_length]); done) ?_; (iterate 3 (exact sd)))) | ((with_reducible refine callD_of (f := 16) false ?_); simp (disch := omega) only [push_cast,seval,innL_EL,decide_true,hW1,hW2,hW3,bne_self_eq_false,mkE_length]; (refine callFNT (iFE_ok _ _ _ _ _ _ ?_ ?_ ?_) (by (simp (disch := omega) only [push_cast,seval,innL_EL,decide_true,hW1,hW2,hW3,bne_self_eq_false,mkE_length]); done) ?_; (iterate 3 (exact sd)))) | ((with_reducible refine callE_of (f := 13) ?_); simp (disch := omega) only [push_cast,seval,innL_EL,decide_true,hW1,hW2,hW3,bne_self_eq_false,mkE_length]; (refine callFMX (markBufferX_ok _ _ _ _ _ ?_ ?_ ?_ ?_) (by first | ((simp (disch := omega) only [push_cast,seval,innL_EL,decide_true,hW1,hW2,hW3,bne_self_eq_false,mkE_length]); done) | ((simp (disch := omega) only [push_cast,seval,innL_EL,decide_true,hW1,hW2,hW3,bne_self_eq_false,mkE_length]); rfl)) (by first | ((simp (disch := omega) only [push_cast,seval,innL_EL,decide_true,hW1,hW2,hW3,bne_self_eq_false,mkE_length]); done) | ((simp (disch := omega) only [push_cast,seval,innL_EL,decide_true,hW1,hW2,hW3,bne_self_eq_false,mkE_length]); rfl)) (by first | ((simp (disch := omega) only [push_cast,seval,innL_EL,decide_true,hW1,hW2,hW3,bne_self_eq_false,mkE_length]); done) | omega) (by first | ((simp (disch := omega) only [push_cast,seval,innL_EL,decide_true,hW1,hW2,hW3,bne_self_eq_false,mkE_length]); done) | ((simp (disch := omega) only [push_cast,seval,innL_EL,decide_true,hW1,hW2,hW3,bne_self_eq_false,mkE_length]); assumption)) (by rw [upFrom_len] <;> omega) (like_mkE _ _) ?_; (iterate 4 (exact sd))))) <;> (try simp (disch := omega) only [push_cast,seval,innL_EL,decide_true,hW1,hW2,hW3,bne_self_eq_false,mkE_length]))
 | ((first | refine callD_of false ?_ | refine qcallD_of false ?_); simp (disch := omega) only [push_cast,seval,innL_EL,decide_true,hW1,hW2,hW3,bne_self_eq_false,mkE_length])
 | ((first | (refine call0D (BCall.ofP (szBuffer_ok _ _ _ _ _ ?_ ?_ ?_ ?_)) ?_; (iterate 4 (exact sd)); rintro _ _ ⟨⟨z3,hz3,rfl⟩,rfl⟩) | ((first | refine call0D (BCall.ofP (toBufferP_ok _ _ _ _ ?_ ?_ ?_)) ?_ | refine qcall0D (BCall.ofP (toBufferP_ok _ _ _ _ ?_ ?_ ?_)) ⟨_,_,rfl,rfl⟩ ?_); (iterate 3 (exact sd)); rintro _ _ ⟨rfl,rfl⟩) | ((first | refine call0D (sFE_ok _ _ _ _ _ _ ?_ ?_ ?_) ?_ | refine qcall0D (sFE_ok _ _ _ _ _ _ ?_ ?_ ?_) ⟨_,_,rfl,rfl⟩ ?_); (iterate 3 (exact sd)); rintro _ _ ⟨rfl,rfl⟩) | ((first | refine call0D (BCall.ofP (eqBuffer_ok _ _ _ _ ?_ ?_ ?_)) ?_ | refine qcall0D (BCall.ofP (eqBuffer_ok _ _ _ _ ?_ ?_ ?_)) ⟨_,_,rfl,rfl⟩ ?_); (iterate 3 (exact sd)); rintro _ _ ⟨rfl,rfl⟩) | ((first | refine call0D (BCall.ofP (heldBuffer_ok _ _ _ _ ?_ ?_ ?_)) ?_ | refine qcall0D (BCall.ofP (heldBuffer_ok _ _ _ _ ?_ ?_ ?_)) ⟨_,_,rfl,rfl⟩ ?_); (iterate 3 (exact sd)); rintro _ _ ⟨rfl,rfl⟩)) <;> (try simp (disch := omega) only [push_cast,seval,innL_EL,decide_true,hW1,hW2,hW3,bne_self_eq_false,mkE_length]))
 | (refine awp_ret ⟨.inr rfl,_,rfl,?_⟩; (try simp (disch := omega) only [push_cast,seval,innL_EL,decide_true,hW1,hW2,hW3,bne_self_eq_false,mkE_length]))))
theorem lFE2_ok (x0 : List Int) (x1 : List ExT) (g : Vw.goodS Vw.goodI x0 ∧ Vw.goodS (fun p : ExT => Vw.goodI p.1 ∧ (Vw.goodI p.2.1.1 ∧ Vw.goodS Vw.goodI p.2.1.2.1 ∧ Vw.goodS Vw.goodI p.2.1.2.2.1 ∧ True) ∧ True ∧ True) x1 ∧ True) (id v : Int) :
    PCall Tryd.prog 4 [.agg (Vw.enS Vw.enI x0 ++ (Vw.enS (fun p : ExT => Vw.enI p.1 ++ ((Vw.enI p.2.1.1 ++ (Vw.enS Vw.enI p.2.1.2.1 ++ (Vw.enS Vw.enI p.2.1.2.2.1 ++ []))) ++ (Vw.enB p.2.2.1 ++ []))) x1 ++ [])),.int .i64 id,.int .i64 v] (fun r => r = .bool true) := by
  have h := lFE_ok x0 (x1.map exT) id v g.1.2 (by simpa using g.2.1.2) (exB_T g.2.1.1)
  rw [en_B]
  exact h

end Go.Proofs.YtahdlohpncjdbaaDoor
