import Derived.Test.YtahdlohpncjdbaaDoorCKh23
import Derived.Test.YtahdlohpncjdbaaDoorCM1
set_option linter.unusedSimpArgs false
set_option linter.unusedVariables false
set_option maxRecDepth 4000
set_option maxHeartbeats 4000000
namespace Go.Proofs.YtahdlohpncjdbaaDoor
open VwM Vw Go
set_option linter.unusedSectionVars false
variable [SentA]

theorem zz_len60 {cs : List Int} {es : List Ex} {s : Int} : (ifB (rzG cs es s) (zz cs s.toNat)).length ≤ 60 := by
  cases h : rzG cs es s with
  | false => exact Nat.zero_le _
  | true =>
    unfold rzG at h
    simp only [Bool.and_eq_true,decide_eq_true_eq] at h
    rw [ifB_true,zz_length]
    omega


set_option maxHeartbeats 32000000 in
theorem lRZ_ok (cs : List Int) (es : List Ex) (s : Int) (hm : cs.length ≤ 9223372036854775807) (hn : es.length ≤ 9223372036854775807) (hb : exB 9223372036854775807 es) : PCall Tryd.prog 6 [.agg [.rows false (IL cs) cs.length,.rows false (EL false es) es.length],.int .i64 s] (fun r => r = .bool true) := by
  refine pcall_of l6_eq rfl ?_
  have hq : cs.length ≤ 9223372036854775807 ∧ es.length ≤ 9223372036854775807 ∧ exB 9223372036854775807 es := ⟨hm,hn,hb⟩
  (repeat' (first
 | (first | refine awp_seq ?_ | refine awp_block ?_)
 | ((first | refine awp_reg ?_ | refine awp_draw (mid := l6r10a) (post := l6r10b) mixed (by decide) ?_ | refine awp_condB ?_ | refine awp_skip ?_ | refine awp_exit ?_); simp (disch := omega) only [push_cast,seval,l6r0,l6r1,l6r2,l6r3,l6r4,l6r5,l6r6,l6r7,l6r8,l6r9,l6r10a,l6r10b,l6r10,l6r11,l6r12,l6r13,l6r14,l6r15,l6r16,l6r17,l6r18,l6r19,l6r20,l6r21,l6r22,l6r23,l6r24,l6r25,l6r26,l6r27,l6r28,l6r29,l6r30,l6r31,l6r32,l6r33,innL_EL])
 | ((first | refine condB_split (fun h => ?_) (fun h => ?_) | refine gIf_split (fun h => ?_) (fun h => ?_) | refine qIf_split (fun h => ?_) (fun h => ?_)) <;> (try simp only [h]) <;> (try simp only [bitvec_to_nat] at h) <;> (try simp only [h]) <;> (first | (exfalso; omega) | (focus (exfalso; simp_all; done)) | (simp (disch := omega) only [push_cast,seval,innL_EL]) | skip))
 | ((first | ((with_reducible refine callD_of (f := 10) false ?_); simp (disch := omega) only [push_cast,seval,innL_EL]; (refine callFNB (toBufferF_ok _ _ _ _ ?_ ?_ ?_) (by (simp (disch := omega) only [push_cast,seval,innL_EL]); done) ?_; (iterate 3 (exact sd)))) | ((with_reducible refine callD_of (f := 20) false ?_); simp (disch := omega) only [push_cast,seval,innL_EL]; (refine callFNT (iRz_ok _ _ _ _ _ ?_ ?_ ?_) (by (simp (disch := omega) only [push_cast,seval,innL_EL]); done) ?_; (iterate 3 (exact sd)))) | ((with_reducible refine callE_of (f := 13) ?_); simp (disch := omega) only [push_cast,seval,innL_EL]; (refine callFMX (markBufferX_ok _ _ _ _ _ ?_ ?_ ?_ ?_) (by first | ((simp (disch := omega) only [push_cast,seval,innL_EL]); done) | ((simp (disch := omega) only [push_cast,seval,innL_EL]); rfl)) (by first | ((simp (disch := omega) only [push_cast,seval,innL_EL]); done) | ((simp (disch := omega) only [push_cast,seval,innL_EL]); rfl)) (by first | ((simp (disch := omega) only [push_cast,seval,innL_EL]); done) | omega) (by first | ((simp (disch := omega) only [push_cast,seval,innL_EL]); done) | ((simp (disch := omega) only [push_cast,seval,innL_EL]); assumption)) (by rw [upFrom_len] <;> omega) (like_mkE _ _) ?_; (iterate 4 (exact sd))))) <;> (try simp (disch := omega) only [push_cast,seval,innL_EL]))
 | ((first | refine callD_of false ?_ | refine qcallD_of false ?_); simp (disch := omega) only [push_cast,seval,innL_EL])
 | ((first | (refine call0D (BCall.ofP (szBuffer_ok _ _ _ _ _ ?_ ?_ ?_ ?_)) ?_; (iterate 4 (exact sd)); rintro _ _ ⟨⟨z3,hz3,rfl⟩,rfl⟩) | ((first | refine call0D (BCall.ofP (toBufferP_ok _ _ _ _ ?_ ?_ ?_)) ?_ | refine qcall0D (BCall.ofP (toBufferP_ok _ _ _ _ ?_ ?_ ?_)) ⟨_,_,rfl,rfl⟩ ?_); (iterate 3 (exact sd)); rintro _ _ ⟨rfl,rfl⟩) | ((first | refine call0D (sRz_ok _ _ _ _ _ ?_ ?_ ?_) ?_ | refine qcall0D (sRz_ok _ _ _ _ _ ?_ ?_ ?_) ⟨_,_,rfl,rfl⟩ ?_); (iterate 3 (exact sd)); rintro _ _ ⟨rfl,rfl⟩) | ((first | refine call0D (BCall.ofP (eqBuffer_ok _ _ _ _ ?_ ?_ ?_)) ?_ | refine qcall0D (BCall.ofP (eqBuffer_ok _ _ _ _ ?_ ?_ ?_)) ⟨_,_,rfl,rfl⟩ ?_); (iterate 3 (exact sd)); rintro _ _ ⟨rfl,rfl⟩) | ((first | refine call0D (BCall.ofP (heldBuffer_ok _ _ _ _ ?_ ?_ ?_)) ?_ | refine qcall0D (BCall.ofP (heldBuffer_ok _ _ _ _ ?_ ?_ ?_)) ⟨_,_,rfl,rfl⟩ ?_); (iterate 3 (exact sd)); rintro _ _ ⟨rfl,rfl⟩)) <;> (try simp (disch := omega) only [push_cast,seval,innL_EL]))
 | (refine awp_ret ⟨.inr rfl,_,rfl,?_⟩; (try simp (disch := omega) only [push_cast,seval,innL_EL]))))
  obtain ⟨hz5,hz6,hz7,hz8⟩ := hz3 (by assumption)
  have q1 : cs.length ≤ 1048576 ∧ es.length ≤ 1048576 ∧ exB 1048576 es := ⟨hz6,hz7,hz8⟩
  have q2 : cs.length ≤ 1099511627776 ∧ es.length ≤ 1099511627776 ∧ exB 1099511627776 es := ⟨by omega,by omega,fun e he => by have := hz8 e he; omega⟩
  have q3 : cs.length ≤ 1048576 ∧ es.length ≤ 1048576 ∧ ∀ j,(exR es j).length ≤ 1048576 := ⟨hz6,hz7,exR_b hz8⟩
  have hC := zz_len60 (cs := cs) (es := es) (s := s)
  have hE : exB 1048576 es := hz8
  have c1 := ifB_le (rzG cs es s) (zz cs s.toNat)
  have c2 := ifB_le (rzG cs es s) (es)
  have q5 : (ifB (rzG cs es s) (zz cs s.toNat)).length ≤ 1048576 ∧ (ifB (rzG cs es s) (es)).length ≤ 1048576 ∧ exB 1048576 (ifB (rzG cs es s) (es)) := ⟨by omega,by omega,exB_ifB _ hE⟩
  have q4 : (ifB (rzG cs es s) (zz cs s.toNat)).length ≤ 1048576 ∧ (ifB (rzG cs es s) (es)).length ≤ 1048576 ∧ ∀ j,(exR (ifB (rzG cs es s) (es)) j).length ≤ 1048576 := ⟨by omega,by omega,exR_b q5.2.2⟩
  generalize hW1 : ifB (rzG cs es s) (zz cs s.toNat) = W1 at *
  generalize hW2 : ifB (rzG cs es s) (es) = W2 at *
  generalize hW3 : rzG cs es s = W3 at *
  have k1 := kA_le (k := 1 + (cs.length : Int)) q3.2.2 es.length
  have k2 := kA_le (k := 1 + (W1.length : Int)) q4.2.2 W2.length
  (repeat' (first
 | (first | refine awp_seq ?_ | refine awp_block ?_)
 | ((first | refine awp_reg ?_ | refine awp_draw (mid := l6r10a) (post := l6r10b) mixed (by decide) ?_ | refine awp_condB ?_ | refine awp_skip ?_ | refine awp_exit ?_); simp (disch := omega) only [push_cast,seval,l6r0,l6r1,l6r2,l6r3,l6r4,l6r5,l6r6,l6r7,l6r8,l6r9,l6r10a,l6r10b,l6r10,l6r11,l6r12,l6r13,l6r14,l6r15,l6r16,l6r17,l6r18,l6r19,l6r20,l6r21,l6r22,l6r23,l6r24,l6r25,l6r26,l6r27,l6r28,l6r29,l6r30,l6r31,l6r32,l6r33,innL_EL,decide_true,hW1,hW2,hW3,bne_self_eq_false,mkE_length])
 | ((first | refine condB_split (fun h => ?_) (fun h => ?_) | refine gIf_split (fun h => ?_) (fun h => ?_) | refine qIf_split (fun h => ?_) (fun h => ?_)) <;> (try simp only [h]) <;> (try simp only [bitvec_to_nat] at h) <;> (try simp only [h]) <;> (first | (exfalso; omega) | (focus (exfalso; simp_all; done)) | (simp (disch := omega) only [push_cast,seval,innL_EL,decide_true,hW1,hW2,hW3,bne_self_eq_false,mkE_length]) | skip))
 | ((first | ((with_reducible refine callD_of (f := 10) false ?_); simp (disch := omega) only [push_cast,seval,innL_EL,decide_true,hW1,hW2,hW3,bne_self_eq_false,mkE_length]; (refine callFNB (toBufferF_ok _ _ _ _ ?_ ?_ ?_) (by (simp (disch := omega) only [push_cast,seval,innL_EL,decide_true,hW1,hW2,hW3,bne_self_eq_false,mkE_length]); done) ?_; (iterate 3 (exact sd)))) | ((with_reducible refine callD_of (f := 20) false ?_); simp (disch := omega) only [push_cast,seval,innL_EL,decide_true,hW1,hW2,hW3,bne_self_eq_false,mkE_length]; (refine callFNT (iRz_ok _ _ _ _ _ ?_ ?_ ?_) (by (simp (disch := omega) only [push_cast,seval,innL_EL,decide_true,hW1,hW2,hW3,bne_self_eq_false,mkE_length]); done) ?_; (iterate 3 (exact sd)))) | ((with_reducible refine callE_of (f := 13) ?_); simp (disch := omega) only [push_cast,seval,innL_EL,decide_true,hW1,hW2,hW3,bne_self_eq_false,mkE_length]; (refine callFMX (markBufferX_ok _ _ _ _ _ ?_ ?_ ?_ ?_) (by first | ((simp (disch := omega) only [push_cast,seval,innL_EL,decide_true,hW1,hW2,hW3,bne_self_eq_false,mkE_length]); done) | ((simp (disch := omega) only [push_cast,seval,innL_EL,decide_true,hW1,hW2,hW3,bne_self_eq_false,mkE_length]); rfl)) (by first | ((simp (disch := omega) only [push_cast,seval,innL_EL,decide_true,hW1,hW2,hW3,bne_self_eq_false,mkE_length]); done) | ((simp (disch := omega) only [push_cast,seval,innL_EL,decide_true,hW1,hW2,hW3,bne_self_eq_false,mkE_length]); rfl)) (by first | ((simp (disch := omega) only [push_cast,seval,innL_EL,decide_true,hW1,hW2,hW3,bne_self_eq_false,mkE_length]); done) | omega) (by first | ((simp (disch := omega) only [push_cast,seval,innL_EL,decide_true,hW1,hW2,hW3,bne_self_eq_false,mkE_length]); done) | ((simp (disch := omega) only [push_cast,seval,innL_EL,decide_true,hW1,hW2,hW3,bne_self_eq_false,mkE_length]); assumption)) (by rw [upFrom_len] <;> omega) (like_mkE _ _) ?_; (iterate 4 (exact sd))))) <;> (try simp (disch := omega) only [push_cast,seval,innL_EL,decide_true,hW1,hW2,hW3,bne_self_eq_false,mkE_length]))
 | ((first | refine callD_of false ?_ | refine qcallD_of false ?_); simp (disch := omega) only [push_cast,seval,innL_EL,decide_true,hW1,hW2,hW3,bne_self_eq_false,mkE_length])
 | ((first | (refine call0D (BCall.ofP (szBuffer_ok _ _ _ _ _ ?_ ?_ ?_ ?_)) ?_; (iterate 4 (exact sd)); rintro _ _ ⟨⟨z3,hz3,rfl⟩,rfl⟩) | ((first | refine call0D (BCall.ofP (toBufferP_ok _ _ _ _ ?_ ?_ ?_)) ?_ | refine qcall0D (BCall.ofP (toBufferP_ok _ _ _ _ ?_ ?_ ?_)) ⟨_,_,rfl,rfl⟩ ?_); (iterate 3 (exact sd)); rintro _ _ ⟨rfl,rfl⟩) | ((first | refine call0D (sRz_ok _ _ _ _ _ ?_ ?_ ?_) ?_ | refine qcall0D (sRz_ok _ _ _ _ _ ?_ ?_ ?_) ⟨_,_,rfl,rfl⟩ ?_); (iterate 3 (exact sd)); rintro _ _ ⟨rfl,rfl⟩) | ((first | refine call0D (BCall.ofP (eqBuffer_ok _ _ _ _ ?_ ?_ ?_)) ?_ | refine qcall0D (BCall.ofP (eqBuffer_ok _ _ _ _ ?_ ?_ ?_)) ⟨_,_,rfl,rfl⟩ ?_); (iterate 3 (exact sd)); rintro _ _ ⟨rfl,rfl⟩) | ((first | refine call0D (BCall.ofP (heldBuffer_ok _ _ _ _ ?_ ?_ ?_)) ?_ | refine qcall0D (BCall.ofP (heldBuffer_ok _ _ _ _ ?_ ?_ ?_)) ⟨_,_,rfl,rfl⟩ ?_); (iterate 3 (exact sd)); rintro _ _ ⟨rfl,rfl⟩)) <;> (try simp (disch := omega) only [push_cast,seval,innL_EL,decide_true,hW1,hW2,hW3,bne_self_eq_false,mkE_length]))
 | (refine awp_ret ⟨.inr rfl,_,rfl,?_⟩; (try simp (disch := omega) only [push_cast,seval,innL_EL,decide_true,hW1,hW2,hW3,bne_self_eq_false,mkE_length]))))
theorem lRZ2_ok (x0 : List Int) (x1 : List ExT) (g : Vw.goodS Vw.goodI x0 ∧ Vw.goodS (fun p : ExT => Vw.goodI p.1 ∧ (Vw.goodI p.2.1.1 ∧ Vw.goodS Vw.goodI p.2.1.2.1 ∧ Vw.goodS Vw.goodI p.2.1.2.2.1 ∧ True) ∧ True ∧ True) x1 ∧ True) (s : Int) :
    PCall Tryd.prog 6 [.agg (Vw.enS Vw.enI x0 ++ (Vw.enS (fun p : ExT => Vw.enI p.1 ++ ((Vw.enI p.2.1.1 ++ (Vw.enS Vw.enI p.2.1.2.1 ++ (Vw.enS Vw.enI p.2.1.2.2.1 ++ []))) ++ (Vw.enB p.2.2.1 ++ []))) x1 ++ [])),.int .i64 s] (fun r => r = .bool true) := by
  have h := lRZ_ok x0 (x1.map exT) s g.1.2 (by simpa using g.2.1.2) (exB_T g.2.1.1)
  rw [en_B]
  exact h

end Go.Proofs.YtahdlohpncjdbaaDoor
