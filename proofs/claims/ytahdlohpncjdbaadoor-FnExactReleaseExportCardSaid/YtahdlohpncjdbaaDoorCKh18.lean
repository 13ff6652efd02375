import Derived.Test.YtahdlohpncjdbaaDoorCKh17
import Derived.Test.YtahdlohpncjdbaaDoorCM1
set_option linter.unusedSimpArgs false
set_option linter.unusedVariables false
set_option maxRecDepth 4000
set_option maxHeartbeats 4000000
namespace Go.Proofs.YtahdlohpncjdbaaDoor
open VwM Vw Go
set_option linter.unusedSectionVars false
variable [SentA]

theorem exR_ifB {es : List Ex} {g : Bool} {n : Nat} (h : ∀ j,(exR es j).length ≤ n) : ∀ j,(exR (ifB g es) j).length ≤ n := fun j => by
  cases g with
  | true => exact h j
  | false =>
    rw [ifB_false,exR_out (Nat.zero_le _)]
    exact Nat.zero_le _
theorem ifB_le {α : Type} (g : Bool) (l : List α) : (ifB g l).length ≤ l.length := by
  cases g
  · exact Nat.zero_le _
  · exact Nat.le_refl _
theorem exB_ifB {n : Nat} {es : List Ex} (g : Bool) (h : exB n es) : exB n (ifB g es) := by
  cases g
  · intro e he; cases he
  · exact h
theorem exB_rel {n : Nat} {es : List Ex} (q : Nat) (h : exB n es) : exB n (relE es q) := by
  unfold relE
  split
  · rename_i e he
    intro f hf
    rcases List.mem_or_eq_of_mem_set hf with h1 | h1
    · exact h f h1
    · subst h1; exact h e (List.mem_of_getElem? he)
  · exact h


set_option maxHeartbeats 32000000 in
theorem lRel_ok (cs : List Int) (es : List Ex) (id : Int) (hm : cs.length ≤ 9223372036854775807) (hn : es.length ≤ 9223372036854775807) (hb : exB 9223372036854775807 es) : PCall Tryd.prog 3 [.agg [.rows false (IL cs) cs.length,.rows false (EL false es) es.length],.int .i64 id] (fun r => r = .bool true) := by
  refine pcall_of l3_eq rfl ?_
  have hq : cs.length ≤ 9223372036854775807 ∧ es.length ≤ 9223372036854775807 ∧ exB 9223372036854775807 es := ⟨hm,hn,hb⟩
  (repeat' (first
 | (first | refine awp_seq ?_ | refine awp_block ?_)
 | ((first | refine awp_reg ?_ | refine awp_draw (mid := l3r10a) (post := l3r10b) mixed (by decide) ?_ | refine awp_condB ?_ | refine awp_skip ?_ | refine awp_exit ?_); simp (disch := omega) only [push_cast,seval,l3r0,l3r1,l3r2,l3r3,l3r4,l3r5,l3r6,l3r7,l3r8,l3r9,l3r10a,l3r10b,l3r10,l3r11,l3r12,l3r13,l3r14,l3r15,l3r16,l3r17,l3r18,l3r19,l3r20,l3r21,l3r22,l3r23,l3r24,l3r25,l3r26,l3r27,l3r28,l3r29,l3r30,l3r31,l3r32,l3r33,innL_EL])
 | ((first | refine condB_split (fun h => ?_) (fun h => ?_) | refine gIf_split (fun h => ?_) (fun h => ?_) | refine qIf_split (fun h => ?_) (fun h => ?_)) <;> (try simp only [h]) <;> (try simp only [bitvec_to_nat] at h) <;> (try simp only [h]) <;> (first | (exfalso; omega) | (focus (exfalso; simp_all; done)) | (simp (disch := omega) only [push_cast,seval,innL_EL]) | skip))
 | ((first | ((with_reducible refine callD_of (f := 10) false ?_); simp (disch := omega) only [push_cast,seval,innL_EL]; (refine callFNB (toBufferF_ok _ _ _ _ ?_ ?_ ?_) (by (simp (disch := omega) only [push_cast,seval,innL_EL]); done) ?_; (iterate 3 (exact sd)))) | ((with_reducible refine callD_of (f := 11) false ?_); simp (disch := omega) only [push_cast,seval,innL_EL]; (refine callFNT (iRel_ok _ _ _ _ _ ?_ ?_ ?_) (by (simp (disch := omega) only [push_cast,seval,innL_EL]); done) ?_; (iterate 3 (exact sd)))) | ((with_reducible refine callE_of (f := 13) ?_); simp (disch := omega) only [push_cast,seval,innL_EL]; (refine callFMX (markBufferX_ok _ _ _ _ _ ?_ ?_ ?_ ?_) (by first | ((simp (disch := omega) only [push_cast,seval,innL_EL]); done) | ((simp (disch := omega) only [push_cast,seval,innL_EL]); rfl)) (by first | ((simp (disch := omega) only [push_cast,seval,innL_EL]); done) | ((simp (disch := omega) only [push_cast,seval,innL_EL]); rfl)) (by first | ((simp (disch := omega) only [push_cast,seval,innL_EL]); done) | omega) (by first | ((simp (disch := omega) only [push_cast,seval,innL_EL]); done) | ((simp (disch := omega) only [push_cast,seval,innL_EL]); assumption)) (by rw [upFrom_len] <;> omega) (like_mkE _ _) ?_; (iterate 4 (exact sd))))) <;> (try simp (disch := omega) only [push_cast,seval,innL_EL]))
 | ((first | refine callD_of false ?_ | refine qcallD_of false ?_); simp (disch := omega) only [push_cast,seval,innL_EL])
 | ((first | (refine call0D (BCall.ofP (szBuffer_ok _ _ _ _ _ ?_ ?_ ?_ ?_)) ?_; (iterate 4 (exact sd)); rintro _ _ ⟨⟨z3,hz3,rfl⟩,rfl⟩) | ((first | refine call0D (BCall.ofP (toBufferP_ok _ _ _ _ ?_ ?_ ?_)) ?_ | refine qcall0D (BCall.ofP (toBufferP_ok _ _ _ _ ?_ ?_ ?_)) ⟨_,_,rfl,rfl⟩ ?_); (iterate 3 (exact sd)); rintro _ _ ⟨rfl,rfl⟩) | ((first | refine call0D (sRel_ok _ _ _ _ _ ?_ ?_ ?_) ?_ | refine qcall0D (sRel_ok _ _ _ _ _ ?_ ?_ ?_) ⟨_,_,rfl,rfl⟩ ?_); (iterate 3 (exact sd)); rintro _ _ ⟨rfl,rfl⟩) | ((first | refine call0D (BCall.ofP (eqBuffer_ok _ _ _ _ ?_ ?_ ?_)) ?_ | refine qcall0D (BCall.ofP (eqBuffer_ok _ _ _ _ ?_ ?_ ?_)) ⟨_,_,rfl,rfl⟩ ?_); (iterate 3 (exact sd)); rintro _ _ ⟨rfl,rfl⟩) | ((first | refine call0D (BCall.ofP (heldBuffer_ok _ _ _ _ ?_ ?_ ?_)) ?_ | refine qcall0D (BCall.ofP (heldBuffer_ok _ _ _ _ ?_ ?_ ?_)) ⟨_,_,rfl,rfl⟩ ?_); (iterate 3 (exact sd)); rintro _ _ ⟨rfl,rfl⟩)) <;> (try simp (disch := omega) only [push_cast,seval,innL_EL]))
 | (refine awp_ret ⟨.inr rfl,_,rfl,?_⟩; (try simp (disch := omega) only [push_cast,seval,innL_EL]))))
  obtain ⟨hz5,hz6,hz7,hz8⟩ := hz3 (by assumption)
  have q1 : cs.length ≤ 1048576 ∧ es.length ≤ 1048576 ∧ exB 1048576 es := ⟨hz6,hz7,hz8⟩
  have q2 : cs.length ≤ 1099511627776 ∧ es.length ≤ 1099511627776 ∧ exB 1099511627776 es := ⟨by omega,by omega,fun e he => by have := hz8 e he; omega⟩
  have q3 : cs.length ≤ 1048576 ∧ es.length ≤ 1048576 ∧ ∀ j,(exR es j).length ≤ 1048576 := ⟨hz6,hz7,exR_b hz8⟩
  have hrR : ∀ j,(exR (relE es id.toNat) j).length ≤ 1048576 := fun j => by
    cases he : es[id.toNat]? with
    | none => simp only [relE,he]; exact exR_b hz8 j
    | some e =>
      have : exR (relE es id.toNat) = exR es := congrArg Fam.rows (relE_F he)
      rw [this]; exact exR_b hz8 j
  have hrl := relE_length es id.toNat
  have c1 := ifB_le (relG cs es id) cs
  have c2 := ifB_le (relG cs es id) (relE es id.toNat)
  have q4 : (ifB (relG cs es id) cs).length ≤ 1048576 ∧ (ifB (relG cs es id) (relE es id.toNat)).length ≤ 1048576 ∧ ∀ j,(exR (ifB (relG cs es id) (relE es id.toNat)) j).length ≤ 1048576 := ⟨by omega,by omega,exR_ifB hrR⟩
  have q5 : (ifB (relG cs es id) cs).length ≤ 1048576 ∧ (ifB (relG cs es id) (relE es id.toNat)).length ≤ 1048576 ∧ exB 1048576 (ifB (relG cs es id) (relE es id.toNat)) := ⟨by omega,by omega,exB_ifB _ (exB_rel _ hz8)⟩
  generalize hW1 : ifB (relG cs es id) cs = W1 at *
  generalize hW2 : ifB (relG cs es id) (relE es id.toNat) = W2 at *
  generalize hW3 : relG cs es id = W3 at *
  have k1 := kA_le (k := 1 + (cs.length : Int)) q3.2.2 es.length
  have k2 := kA_le (k := 1 + (W1.length : Int)) q4.2.2 W2.length
  (repeat' (first
 | (first | refine awp_seq ?_ | refine awp_block ?_)
 | ((first | refine awp_reg ?_ | refine awp_draw (mid := l3r10a) (post := l3r10b) mixed (by decide) ?_ | refine awp_condB ?_ | refine awp_skip ?_ | refine awp_exit ?_); simp (disch := omega) only [push_cast,seval,l3r0,l3r1,l3r2,l3r3,l3r4,l3r5,l3r6,l3r7,l3r8,l3r9,l3r10a,l3r10b,l3r10,l3r11,l3r12,l3r13,l3r14,l3r15,l3r16,l3r17,l3r18,l3r19,l3r20,l3r21,l3r22,l3r23,l3r24,l3r25,l3r26,l3r27,l3r28,l3r29,l3r30,l3r31,l3r32,l3r33,innL_EL,decide_true,hW1,hW2,hW3,bne_self_eq_false,mkE_length])
 | ((first | refine condB_split (fun h => ?_) (fun h => ?_) | refine gIf_split (fun h => ?_) (fun h => ?_) | refine qIf_split (fun h => ?_) (fun h => ?_)) <;> (try simp only [h]) <;> (try simp only [bitvec_to_nat] at h) <;> (try simp only [h]) <;> (first | (exfalso; omega) | (focus (exfalso; simp_all; done)) | (simp (disch := omega) only [push_cast,seval,innL_EL,decide_true,hW1,hW2,hW3,bne_self_eq_false,mkE_length]) | skip))
 | ((first | ((with_reducible refine callD_of (f := 10) false ?_); simp (disch := omega) only [push_cast,seval,innL_EL,decide_true,hW1,hW2,hW3,bne_self_eq_false,mkE_length]; (refine callFNB (toBufferF_ok _ _ _ _ ?_ ?_ ?_) (by (simp (disch := omega) only [push_cast,seval,innL_EL,decide_true,hW1,hW2,hW3,bne_self_eq_false,mkE_length]); done) ?_; (iterate 3 (exact sd)))) | ((with_reducible refine callD_of (f := 11) false ?_); simp (disch := omega) only [push_cast,seval,innL_EL,decide_true,hW1,hW2,hW3,bne_self_eq_false,mkE_length]; (refine callFNT (iRel_ok _ _ _ _ _ ?_ ?_ ?_) (by (simp (disch := omega) only [push_cast,seval,innL_EL,decide_true,hW1,hW2,hW3,bne_self_eq_false,mkE_length]); done) ?_; (iterate 3 (exact sd)))) | ((with_reducible refine callE_of (f := 13) ?_); simp (disch := omega) only [push_cast,seval,innL_EL,decide_true,hW1,hW2,hW3,bne_self_eq_false,mkE_length]; (refine callFMX (markBufferX_ok _ _ _ _ _ ?_ ?_ ?_ ?_) (by first | ((simp (disch := omega) only [push_cast,seval,innL_EL,decide_true,hW1,hW2,hW3,bne_self_eq_false,mkE_length]); done) | ((simp (disch := omega) only [push_cast,seval,innL_EL,decide_true,hW1,hW2,hW3,bne_self_eq_false,mkE_length]); rfl)) (by first | ((simp (disch := omega) only [push_cast,seval,innL_EL,decide_true,hW1,hW2,hW3,bne_self_eq_false,mkE_length]); done) | ((simp (disch := omega) only [push_cast,seval,innL_EL,decide_true,hW1,hW2,hW3,bne_self_eq_false,mkE_length]); rfl)) (by first | ((simp (disch := omega) only [push_cast,seval,innL_EL,decide_true,hW1,hW2,hW3,bne_self_eq_false,mkE_length]); done) | omega) (by first | ((simp (disch := omega) only [push_cast,seval,innL_EL,decide_true,hW1,hW2,hW3,bne_self_eq_false,mkE_length]); done) | ((simp (disch := omega) only [push_cast,seval,innL_EL,decide_true,hW1,hW2,hW3,bne_self_eq_false,mkE_length]); assumption)) (by rw [upFrom_len] <;> omega) (like_mkE _ _) ?_; (iterate 4 (exact sd))))) <;> (try simp (disch := omega) only [push_cast,seval,innL_EL,decide_true,hW1,hW2,hW3,bne_self_eq_false,mkE_length]))
 | ((first | refine callD_of false ?_ | refine qcallD_of false ?_); simp (disch := omega) only [push_cast,seval,innL_EL,decide_true,hW1,hW2,hW3,bne_self_eq_false,mkE_length])
 | ((first | (refine call0D (BCall.ofP (szBuffer_ok _ _ _ _ _ ?_ ?_ ?_ ?_)) ?_; (iterate 4 (exact sd)); rintro _ _ ⟨⟨z3,hz3,rfl⟩,rfl⟩) | ((first | refine call0D (BCall.ofP (toBufferP_ok _ _ _ _ ?_ ?_ ?_)) ?_ | refine qcall0D (BCall.ofP (toBufferP_ok _ _ _ _ ?_ ?_ ?_)) ⟨_,_,rfl,rfl⟩ ?_); (iterate 3 (exact sd)); rintro _ _ ⟨rfl,rfl⟩) | ((first | refine call0D (sRel_ok _ _ _ _ _ ?_ ?_ ?_) ?_ | refine qcall0D (sRel_ok _ _ _ _ _ ?_ ?_ ?_) ⟨_,_,rfl,rfl⟩ ?_); (iterate 3 (exact sd)); rintro _ _ ⟨rfl,rfl⟩) | ((first | refine call0D (BCall.ofP (eqBuffer_ok _ _ _ _ ?_ ?_ ?_)) ?_ | refine qcall0D (BCall.ofP (eqBuffer_ok _ _ _ _ ?_ ?_ ?_)) ⟨_,_,rfl,rfl⟩ ?_); (iterate 3 (exact sd)); rintro _ _ ⟨rfl,rfl⟩) | ((first | refine call0D (BCall.ofP (heldBuffer_ok _ _ _ _ ?_ ?_ ?_)) ?_ | refine qcall0D (BCall.ofP (heldBuffer_ok _ _ _ _ ?_ ?_ ?_)) ⟨_,_,rfl,rfl⟩ ?_); (iterate 3 (exact sd)); rintro _ _ ⟨rfl,rfl⟩)) <;> (try simp (disch := omega) only [push_cast,seval,innL_EL,decide_true,hW1,hW2,hW3,bne_self_eq_false,mkE_length]))
 | (refine awp_ret ⟨.inr rfl,_,rfl,?_⟩; (try simp (disch := omega) only [push_cast,seval,innL_EL,decide_true,hW1,hW2,hW3,bne_self_eq_false,mkE_length]))))
theorem lRel2_ok (x0 : List Int) (x1 : List ExT) (g : Vw.goodS Vw.goodI x0 ∧ Vw.goodS (fun p : ExT => Vw.goodI p.1 ∧ (Vw.goodI p.2.1.1 ∧ Vw.goodS Vw.goodI p.2.1.2.1 ∧ Vw.goodS Vw.goodI p.2.1.2.2.1 ∧ True) ∧ True ∧ True) x1 ∧ True) (id : Int) :
    PCall Tryd.prog 3 [.agg (Vw.enS Vw.enI x0 ++ (Vw.enS (fun p : ExT => Vw.enI p.1 ++ ((Vw.enI p.2.1.1 ++ (Vw.enS Vw.enI p.2.1.2.1 ++ (Vw.enS Vw.enI p.2.1.2.2.1 ++ []))) ++ (Vw.enB p.2.2.1 ++ []))) x1 ++ [])),.int .i64 id] (fun r => r = .bool true) := by
  have h := lRel_ok x0 (x1.map exT) id g.1.2 (by simpa using g.2.1.2) (exB_T g.2.1.1)
  rw [en_B]
  exact h

end Go.Proofs.YtahdlohpncjdbaaDoor
