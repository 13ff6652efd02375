import Derived.Test.YtahdlohpncjdbaaDoorCKh5
import Derived.Test.YtahdlohpncjdbaaDoorCM1
set_option linter.unusedSimpArgs false
set_option linter.unusedVariables false
set_option maxRecDepth 4000
set_option maxHeartbeats 4000000
namespace Go.Proofs.YtahdlohpncjdbaaDoor
open VwM Vw Go
set_option linter.unusedSectionVars false
variable [SentA]

theorem isHeld_ok (n : Nat) : PCall Tryd.prog 36 [.val (heldV n),.val (.iface 137 (.pointer (some SentA.a)))] (fun r => r = .bool (decide (0 < n))) := by
  intro w B vs hB hG hl hd
  obtain ⟨u,v,rfl⟩ : ∃ u v,vs = [u,v] := by
    match vs,hl with
    | [u,v],_ => exact ⟨u,v,rfl⟩
  simp only [DenP,Den] at hd
  obtain ⟨rfl,rfl,_⟩ := hd
  unfold heldV
  by_cases h : 0 < n
  · rw [if_pos h]
    refine (is_same SentA.a w).mono fun e w' ⟨he,hw⟩ => ?_
    subst he hw
    exact ⟨.bool true,_,by simp [h],rfl,by simp [Den],Go.RowKit.Below.refl _ _⟩
  · rw [if_neg h]
    refine (is_nil SentA.a w).mono fun e w' ⟨he,hw⟩ => ?_
    subst he hw
    exact ⟨.bool false,_,by simp [h],rfl,by simp [Den],Go.RowKit.Below.refl _ _⟩


set_option maxHeartbeats 8000000 in
theorem svB_ok (cs : List Int) (es : List Ex) (m n : Nat) (hm : cs.length = m) (hn : es.length = n) (hb : m ≤ 1099511627776 ∧ n ≤ 1099511627776 ∧ exB 1099511627776 es) :
    PCall Tryd.prog 29 [.agg [.rows false (IL cs) m,.rows false (EL false es) n]] (fun r => r = .bool (vB cs es)) := by
  subst hm hn
  have hb0 := hb
  obtain ⟨hb1,hb2,hb3⟩ := hb
  have hel := EL_length false es
  refine pcall_of l29_eq rfl ?_
  unfold vB
  (repeat' (first
 | (first | refine awp_seq ?_ | refine awp_block ?_)
 | ((first | refine awp_reg ?_ | refine awp_condB ?_ | refine awp_skip ?_ | refine awp_exit ?_); simp (disch := omega) only [push_cast,seval,l29r0,l29r1,l29r2,l29r3,l29r4,l29r5,l29r6,innL_EL])
 | ((first | refine condB_split (fun h => ?_) (fun h => ?_) | refine gIf_split (fun h => ?_) (fun h => ?_) | refine qIf_split (fun h => ?_) (fun h => ?_)) <;> (try simp only [h]) <;> (try simp only [bitvec_to_nat] at h) <;> (try simp only [h]) <;> (first | (exfalso; omega) | (focus (exfalso; simp_all; done)) | (simp (disch := omega) only [push_cast,seval,innL_EL]) | skip))
 | ((first | refine callD_of false ?_ | refine qcallD_of false ?_); simp (disch := omega) only [push_cast,seval,innL_EL])
 | ((first | ((first | refine call0D (BCall.ofP (svEx_ok _ _ _ _ _ _ _ _ _ _ ?_ ?_ (by assumption) ?_)) ?_ | refine qcall0D (BCall.ofP (svEx_ok _ _ _ _ _ _ _ _ _ _ ?_ ?_ (by assumption) ?_)) ⟨_,_,rfl,rfl⟩ ?_); (iterate 3 (exact sd)); rintro _ _ ⟨rfl,rfl⟩) | ((first | refine call0D (BCall.ofP (svMem_ok _ _ ?_ ?_)) ?_ | refine qcall0D (BCall.ofP (svMem_ok _ _ ?_ ?_)) ⟨_,_,rfl,rfl⟩ ?_); (iterate 2 (exact sd)); rintro _ _ ⟨rfl,rfl⟩)) <;> (try simp (disch := omega) only [push_cast,seval,innL_EL]))
 | (refine awp_ret ⟨.inr rfl,_,rfl,?_⟩; (try simp (disch := omega) only [push_cast,seval,innL_EL]))))
  refine awp_loop (fun i : Nat => mkS [(1,.ref 16 2 0),(2,.bool false),(3,.int .i64 i)] [(16,[.rows false (IL cs) cs.length,.rows false (EL false es) es.length])]) (fun i => i ≤ es.length ∧ allX (sxV cs.length es) es i = true) (fun i => es.length - i) 0 ⟨Nat.zero_le _,rfl⟩ ?_ ?_
  · (refine Sub.of_lists ?_ ?_ ?_ ?_ ?_ <;> simp [Vw.mkS,Vw.lk,Vw.hk,AV.inn,innL,innL_ints,innL_append,innL_rep,-List.map_set,-List.getD_eq_getElem?_getD,innL_EL])
  · rintro i ⟨hi,hal⟩
    by_cases hlt : i < es.length
    · obtain ⟨p,b,x,y,o,he⟩ := mem_ltH hlt
      cases hs : sxV cs.length es i (p,(b,x,y),o) with
 | false =>
        have hno := allX_no (f := sxV cs.length es) he hs hlt
        (repeat' (first
 | (first | refine awp_seq ?_ | refine awp_block ?_)
 | ((first | refine awp_reg ?_ | refine awp_condB ?_ | refine awp_skip ?_ | refine awp_exit ?_); simp (disch := omega) only [push_cast,seval,l29r0,l29r1,l29r2,l29r3,l29r4,l29r5,l29r6,hel,hs,innL_EL])
 | ((first | refine condB_split (fun h => ?_) (fun h => ?_) | refine gIf_split (fun h => ?_) (fun h => ?_) | refine qIf_split (fun h => ?_) (fun h => ?_)) <;> (try simp only [h]) <;> (try simp only [bitvec_to_nat] at h) <;> (try simp only [h]) <;> (first | (exfalso; omega) | (focus (exfalso; simp_all; done)) | (simp (disch := omega) only [push_cast,seval,hel,hs,innL_EL]) | skip))
 | ((first | refine callD_of false ?_ | refine qcallD_of false ?_); simp (disch := omega) only [push_cast,seval,hel,hs,innL_EL])
 | ((first | ((first | refine call0D (BCall.ofP (svEx_ok _ _ _ _ _ _ _ _ _ _ ?_ ?_ (by assumption) ?_)) ?_ | refine qcall0D (BCall.ofP (svEx_ok _ _ _ _ _ _ _ _ _ _ ?_ ?_ (by assumption) ?_)) ⟨_,_,rfl,rfl⟩ ?_); (iterate 3 (exact sd)); rintro _ _ ⟨rfl,rfl⟩) | ((first | refine call0D (BCall.ofP (svMem_ok _ _ ?_ ?_)) ?_ | refine qcall0D (BCall.ofP (svMem_ok _ _ ?_ ?_)) ⟨_,_,rfl,rfl⟩ ?_); (iterate 2 (exact sd)); rintro _ _ ⟨rfl,rfl⟩)) <;> (try simp (disch := omega) only [push_cast,seval,hel,hs,innL_EL]))
 | (refine awp_ret ⟨.inr rfl,_,rfl,?_⟩; (try simp (disch := omega) only [push_cast,seval,hel,hs,innL_EL]))))
        all_goals (try simp [hno])
 | true =>
        have hyes : allX (sxV cs.length es) es (i + 1) = true := by rw [allX_succ he,hal,hs]; rfl
        (repeat' (first
 | (first | refine awp_seq ?_ | refine awp_block ?_)
 | ((first | refine awp_reg ?_ | refine awp_condB ?_ | refine awp_skip ?_ | refine awp_exit ?_); simp (disch := omega) only [push_cast,seval,l29r0,l29r1,l29r2,l29r3,l29r4,l29r5,l29r6,hel,hs,innL_EL])
 | ((first | refine condB_split (fun h => ?_) (fun h => ?_) | refine gIf_split (fun h => ?_) (fun h => ?_) | refine qIf_split (fun h => ?_) (fun h => ?_)) <;> (try simp only [h]) <;> (try simp only [bitvec_to_nat] at h) <;> (try simp only [h]) <;> (first | (exfalso; omega) | (focus (exfalso; simp_all; done)) | (simp (disch := omega) only [push_cast,seval,hel,hs,innL_EL]) | skip))
 | ((first | refine callD_of false ?_ | refine qcallD_of false ?_); simp (disch := omega) only [push_cast,seval,hel,hs,innL_EL])
 | ((first | ((first | refine call0D (BCall.ofP (svEx_ok _ _ _ _ _ _ _ _ _ _ ?_ ?_ (by assumption) ?_)) ?_ | refine qcall0D (BCall.ofP (svEx_ok _ _ _ _ _ _ _ _ _ _ ?_ ?_ (by assumption) ?_)) ⟨_,_,rfl,rfl⟩ ?_); (iterate 3 (exact sd)); rintro _ _ ⟨rfl,rfl⟩) | ((first | refine call0D (BCall.ofP (svMem_ok _ _ ?_ ?_)) ?_ | refine qcall0D (BCall.ofP (svMem_ok _ _ ?_ ?_)) ⟨_,_,rfl,rfl⟩ ?_); (iterate 2 (exact sd)); rintro _ _ ⟨rfl,rfl⟩)) <;> (try simp (disch := omega) only [push_cast,seval,hel,hs,innL_EL]))
 | (refine awp_ret ⟨.inr rfl,_,rfl,?_⟩; (try simp (disch := omega) only [push_cast,seval,hel,hs,innL_EL]))))
        refine ⟨i + 1,⟨by omega,hyes⟩,by omega,?_⟩
        (refine Sub.of_lists ?_ ?_ ?_ ?_ ?_ <;> simp [Vw.mkS,Vw.lk,Vw.hk,AV.inn,innL,innL_ints,innL_append,innL_rep,-List.map_set,-List.getD_eq_getElem?_getD,innL_EL])
    · have e : i = es.length := by omega
      subst e
      cases hv : vMem cs with
 | false =>
        (repeat' (first
 | (first | refine awp_seq ?_ | refine awp_block ?_)
 | ((first | refine awp_reg ?_ | refine awp_condB ?_ | refine awp_skip ?_ | refine awp_exit ?_); simp (disch := omega) only [push_cast,seval,l29r0,l29r1,l29r2,l29r3,l29r4,l29r5,l29r6,hel,hv,hal,innL_EL])
 | ((first | refine condB_split (fun h => ?_) (fun h => ?_) | refine gIf_split (fun h => ?_) (fun h => ?_) | refine qIf_split (fun h => ?_) (fun h => ?_)) <;> (try simp only [h]) <;> (try simp only [bitvec_to_nat] at h) <;> (try simp only [h]) <;> (first | (exfalso; omega) | (focus (exfalso; simp_all; done)) | (simp (disch := omega) only [push_cast,seval,hel,hv,hal,innL_EL]) | skip))
 | ((first | refine callD_of false ?_ | refine qcallD_of false ?_); simp (disch := omega) only [push_cast,seval,hel,hv,hal,innL_EL])
 | ((first | ((first | refine call0D (BCall.ofP (svEx_ok _ _ _ _ _ _ _ _ _ _ ?_ ?_ (by assumption) ?_)) ?_ | refine qcall0D (BCall.ofP (svEx_ok _ _ _ _ _ _ _ _ _ _ ?_ ?_ (by assumption) ?_)) ⟨_,_,rfl,rfl⟩ ?_); (iterate 3 (exact sd)); rintro _ _ ⟨rfl,rfl⟩) | ((first | refine call0D (BCall.ofP (svMem_ok _ _ ?_ ?_)) ?_ | refine qcall0D (BCall.ofP (svMem_ok _ _ ?_ ?_)) ⟨_,_,rfl,rfl⟩ ?_); (iterate 2 (exact sd)); rintro _ _ ⟨rfl,rfl⟩)) <;> (try simp (disch := omega) only [push_cast,seval,hel,hv,hal,innL_EL]))
 | (refine awp_ret ⟨.inr rfl,_,rfl,?_⟩; (try simp (disch := omega) only [push_cast,seval,hel,hv,hal,innL_EL]))))
        all_goals (try simp)
 | true =>
        (repeat' (first
 | (first | refine awp_seq ?_ | refine awp_block ?_)
 | ((first | refine awp_reg ?_ | refine awp_condB ?_ | refine awp_skip ?_ | refine awp_exit ?_); simp (disch := omega) only [push_cast,seval,l29r0,l29r1,l29r2,l29r3,l29r4,l29r5,l29r6,hel,hv,hal,innL_EL])
 | ((first | refine condB_split (fun h => ?_) (fun h => ?_) | refine gIf_split (fun h => ?_) (fun h => ?_) | refine qIf_split (fun h => ?_) (fun h => ?_)) <;> (try simp only [h]) <;> (try simp only [bitvec_to_nat] at h) <;> (try simp only [h]) <;> (first | (exfalso; omega) | (focus (exfalso; simp_all; done)) | (simp (disch := omega) only [push_cast,seval,hel,hv,hal,innL_EL]) | skip))
 | ((first | refine callD_of false ?_ | refine qcallD_of false ?_); simp (disch := omega) only [push_cast,seval,hel,hv,hal,innL_EL])
 | ((first | ((first | refine call0D (BCall.ofP (svEx_ok _ _ _ _ _ _ _ _ _ _ ?_ ?_ (by assumption) ?_)) ?_ | refine qcall0D (BCall.ofP (svEx_ok _ _ _ _ _ _ _ _ _ _ ?_ ?_ (by assumption) ?_)) ⟨_,_,rfl,rfl⟩ ?_); (iterate 3 (exact sd)); rintro _ _ ⟨rfl,rfl⟩) | ((first | refine call0D (BCall.ofP (svMem_ok _ _ ?_ ?_)) ?_ | refine qcall0D (BCall.ofP (svMem_ok _ _ ?_ ?_)) ⟨_,_,rfl,rfl⟩ ?_); (iterate 2 (exact sd)); rintro _ _ ⟨rfl,rfl⟩)) <;> (try simp (disch := omega) only [push_cast,seval,hel,hv,hal,innL_EL]))
 | (refine awp_ret ⟨.inr rfl,_,rfl,?_⟩; (try simp (disch := omega) only [push_cast,seval,hel,hv,hal,innL_EL]))))
        all_goals (try simp)
        all_goals (try omega)


set_option maxHeartbeats 8000000 in
theorem ivEx_ok (p b : Int) (x y : List Int) (o : Bool) (n m : Nat) (i k : Nat) (hn : x.length = n) (hm : y.length = m) (hb : (n ≤ 1099511627776 ∧ m ≤ 1099511627776) ∧ (i ≤ 1000000 ∧ k ≤ 60)) :
    PCall Tryd.prog 86 [.agg [.int .i64 p,.int .i64 b,.rows false (IL x) n,.rows false (IL y) m,.bool o],.int .i64 i,.int .i64 k] (fun r => r = .bool (exV k i (p,(b,x,y),o))) := by
  subst hn hm
  obtain ⟨⟨hbx,hby⟩,hi,hk⟩ := hb
  refine pcall_of l86_eq rfl ?_
  unfold exV
  simp only
  cases hv : vV b x y with
  | false =>
    (repeat' (first
 | (first | refine awp_seq ?_ | refine awp_block ?_)
 | ((first | refine awp_reg ?_ | refine awp_condB ?_ | refine awp_skip ?_ | refine awp_exit ?_); simp (disch := omega) only [push_cast,seval,l86r0,l86r1,l86r2,l86r3,hv])
 | ((first | refine condB_split (fun h => ?_) (fun h => ?_) | refine gIf_split (fun h => ?_) (fun h => ?_) | refine qIf_split (fun h => ?_) (fun h => ?_)) <;> (try simp only [h]) <;> (try simp only [bitvec_to_nat] at h) <;> (try simp only [h]) <;> (first | (exfalso; omega) | (focus (exfalso; simp_all; done)) | (simp (disch := omega) only [push_cast,seval,hv]) | skip))
 | ((first | refine callD_of false ?_ | refine qcallD_of false ?_); simp (disch := omega) only [push_cast,seval,hv])
 | ((first | ((first | refine call0D (BCall.ofP (iValidView_ok _ _ _ _ _ ?_ ?_ ?_)) ?_ | refine qcall0D (BCall.ofP (iValidView_ok _ _ _ _ _ ?_ ?_ ?_)) ⟨_,_,rfl,rfl⟩ ?_); (iterate 3 (exact sd)); rintro _ _ ⟨rfl,rfl⟩) | ((first | refine call0D (BCall.ofP (iFitsIn_ok _ _ _ _ _ _ ?_ ?_ ?_)) ?_ | refine qcall0D (BCall.ofP (iFitsIn_ok _ _ _ _ _ _ ?_ ?_ ?_)) ⟨_,_,rfl,rfl⟩ ?_); (iterate 3 (exact sd)); rintro _ _ ⟨rfl,rfl⟩)) <;> (try simp (disch := omega) only [push_cast,seval,hv]))
 | (refine awp_ret ⟨.inr rfl,_,rfl,?_⟩; (try simp (disch := omega) only [push_cast,seval,hv]))))
    all_goals (try simp)
  | true =>
    by_cases hp : -1 ≤ p ∧ p ≤ (i : Int) - 1
    · have hpd : (decide (-1 ≤ p) && decide (p ≤ (i : Int) - 1)) = true := by rw [Bool.and_eq_true,decide_eq_true_eq,decide_eq_true_eq]; exact hp
      rw [hpd]
      have hf : fitB b x y k = allI (offs b x y) 0 ((k : Int) - 1) := by
        unfold fitB
        rw [hv]
        have : (decide ((0 : Int) ≤ k) && decide ((k : Int) ≤ 60)) = true := by rw [Bool.and_eq_true,decide_eq_true_eq,decide_eq_true_eq]; omega
        rw [this]; rfl
      have hp3 : (p < -1) = False := eq_false (by omega)
      have hp4 : ((i : Int) ≤ p) = False := eq_false (by omega)
      cases o with
 | false =>
        (repeat' (first
 | (first | refine awp_seq ?_ | refine awp_block ?_)
 | ((first | refine awp_reg ?_ | refine awp_condB ?_ | refine awp_skip ?_ | refine awp_exit ?_); simp (disch := omega) only [push_cast,seval,l86r0,l86r1,l86r2,l86r3,hv,hp3,hp4,decide_false])
 | ((first | refine condB_split (fun h => ?_) (fun h => ?_) | refine gIf_split (fun h => ?_) (fun h => ?_) | refine qIf_split (fun h => ?_) (fun h => ?_)) <;> (try simp only [h]) <;> (try simp only [bitvec_to_nat] at h) <;> (try simp only [h]) <;> (first | (exfalso; omega) | (focus (exfalso; simp_all; done)) | (simp (disch := omega) only [push_cast,seval,hv,hp3,hp4,decide_false]) | skip))
 | ((first | refine callD_of false ?_ | refine qcallD_of false ?_); simp (disch := omega) only [push_cast,seval,hv,hp3,hp4,decide_false])
 | ((first | ((first | refine call0D (BCall.ofP (iValidView_ok _ _ _ _ _ ?_ ?_ ?_)) ?_ | refine qcall0D (BCall.ofP (iValidView_ok _ _ _ _ _ ?_ ?_ ?_)) ⟨_,_,rfl,rfl⟩ ?_); (iterate 3 (exact sd)); rintro _ _ ⟨rfl,rfl⟩) | ((first | refine call0D (BCall.ofP (iFitsIn_ok _ _ _ _ _ _ ?_ ?_ ?_)) ?_ | refine qcall0D (BCall.ofP (iFitsIn_ok _ _ _ _ _ _ ?_ ?_ ?_)) ⟨_,_,rfl,rfl⟩ ?_); (iterate 3 (exact sd)); rintro _ _ ⟨rfl,rfl⟩)) <;> (try simp (disch := omega) only [push_cast,seval,hv,hp3,hp4,decide_false]))
 | (refine awp_ret ⟨.inr rfl,_,rfl,?_⟩; (try simp (disch := omega) only [push_cast,seval,hv,hp3,hp4,decide_false]))))
        all_goals (try simp)
 | true =>
        (repeat' (first
 | (first | refine awp_seq ?_ | refine awp_block ?_)
 | ((first | refine awp_reg ?_ | refine awp_condB ?_ | refine awp_skip ?_ | refine awp_exit ?_); simp (disch := omega) only [push_cast,seval,l86r0,l86r1,l86r2,l86r3,hv,hf,hp3,hp4,decide_false])
 | ((first | refine condB_split (fun h => ?_) (fun h => ?_) | refine gIf_split (fun h => ?_) (fun h => ?_) | refine qIf_split (fun h => ?_) (fun h => ?_)) <;> (try simp only [h]) <;> (try simp only [bitvec_to_nat] at h) <;> (try simp only [h]) <;> (first | (exfalso; omega) | (focus (exfalso; simp_all; done)) | (simp (disch := omega) only [push_cast,seval,hv,hf,hp3,hp4,decide_false]) | skip))
 | ((first | refine callD_of false ?_ | refine qcallD_of false ?_); simp (disch := omega) only [push_cast,seval,hv,hf,hp3,hp4,decide_false])
 | ((first | ((first | refine call0D (BCall.ofP (iValidView_ok _ _ _ _ _ ?_ ?_ ?_)) ?_ | refine qcall0D (BCall.ofP (iValidView_ok _ _ _ _ _ ?_ ?_ ?_)) ⟨_,_,rfl,rfl⟩ ?_); (iterate 3 (exact sd)); rintro _ _ ⟨rfl,rfl⟩) | ((first | refine call0D (BCall.ofP (iFitsIn_ok _ _ _ _ _ _ ?_ ?_ ?_)) ?_ | refine qcall0D (BCall.ofP (iFitsIn_ok _ _ _ _ _ _ ?_ ?_ ?_)) ⟨_,_,rfl,rfl⟩ ?_); (iterate 3 (exact sd)); rintro _ _ ⟨rfl,rfl⟩)) <;> (try simp (disch := omega) only [push_cast,seval,hv,hf,hp3,hp4,decide_false]))
 | (refine awp_ret ⟨.inr rfl,_,rfl,?_⟩; (try simp (disch := omega) only [push_cast,seval,hv,hf,hp3,hp4,decide_false]))))
        all_goals (try simp)
    · have hpd : (decide (-1 ≤ p) && decide (p ≤ (i : Int) - 1)) = false := by rw [Bool.eq_false_iff]; intro h; simp at h; omega
      rw [hpd]
      by_cases hp1 : p < -1
      · have hp3 : (p < -1) = True := eq_true hp1
        (repeat' (first
 | (first | refine awp_seq ?_ | refine awp_block ?_)
 | ((first | refine awp_reg ?_ | refine awp_condB ?_ | refine awp_skip ?_ | refine awp_exit ?_); simp (disch := omega) only [push_cast,seval,l86r0,l86r1,l86r2,l86r3,hv,hp3,decide_true])
 | ((first | refine condB_split (fun h => ?_) (fun h => ?_) | refine gIf_split (fun h => ?_) (fun h => ?_) | refine qIf_split (fun h => ?_) (fun h => ?_)) <;> (try simp only [h]) <;> (try simp only [bitvec_to_nat] at h) <;> (try simp only [h]) <;> (first | (exfalso; omega) | (focus (exfalso; simp_all; done)) | (simp (disch := omega) only [push_cast,seval,hv,hp3,decide_true]) | skip))
 | ((first | refine callD_of false ?_ | refine qcallD_of false ?_); simp (disch := omega) only [push_cast,seval,hv,hp3,decide_true])
 | ((first | ((first | refine call0D (BCall.ofP (iValidView_ok _ _ _ _ _ ?_ ?_ ?_)) ?_ | refine qcall0D (BCall.ofP (iValidView_ok _ _ _ _ _ ?_ ?_ ?_)) ⟨_,_,rfl,rfl⟩ ?_); (iterate 3 (exact sd)); rintro _ _ ⟨rfl,rfl⟩) | ((first | refine call0D (BCall.ofP (iFitsIn_ok _ _ _ _ _ _ ?_ ?_ ?_)) ?_ | refine qcall0D (BCall.ofP (iFitsIn_ok _ _ _ _ _ _ ?_ ?_ ?_)) ⟨_,_,rfl,rfl⟩ ?_); (iterate 3 (exact sd)); rintro _ _ ⟨rfl,rfl⟩)) <;> (try simp (disch := omega) only [push_cast,seval,hv,hp3,decide_true]))
 | (refine awp_ret ⟨.inr rfl,_,rfl,?_⟩; (try simp (disch := omega) only [push_cast,seval,hv,hp3,decide_true]))))
        all_goals (try simp)
      · have hp3 : (p < -1) = False := eq_false hp1
        have hp4 : ((i : Int) ≤ p) = True := eq_true (by omega)
        (repeat' (first
 | (first | refine awp_seq ?_ | refine awp_block ?_)
 | ((first | refine awp_reg ?_ | refine awp_condB ?_ | refine awp_skip ?_ | refine awp_exit ?_); simp (disch := omega) only [push_cast,seval,l86r0,l86r1,l86r2,l86r3,hv,hp3,hp4,decide_false,decide_true])
 | ((first | refine condB_split (fun h => ?_) (fun h => ?_) | refine gIf_split (fun h => ?_) (fun h => ?_) | refine qIf_split (fun h => ?_) (fun h => ?_)) <;> (try simp only [h]) <;> (try simp only [bitvec_to_nat] at h) <;> (try simp only [h]) <;> (first | (exfalso; omega) | (focus (exfalso; simp_all; done)) | (simp (disch := omega) only [push_cast,seval,hv,hp3,hp4,decide_false,decide_true]) | skip))
 | ((first | refine callD_of false ?_ | refine qcallD_of false ?_); simp (disch := omega) only [push_cast,seval,hv,hp3,hp4,decide_false,decide_true])
 | ((first | ((first | refine call0D (BCall.ofP (iValidView_ok _ _ _ _ _ ?_ ?_ ?_)) ?_ | refine qcall0D (BCall.ofP (iValidView_ok _ _ _ _ _ ?_ ?_ ?_)) ⟨_,_,rfl,rfl⟩ ?_); (iterate 3 (exact sd)); rintro _ _ ⟨rfl,rfl⟩) | ((first | refine call0D (BCall.ofP (iFitsIn_ok _ _ _ _ _ _ ?_ ?_ ?_)) ?_ | refine qcall0D (BCall.ofP (iFitsIn_ok _ _ _ _ _ _ ?_ ?_ ?_)) ⟨_,_,rfl,rfl⟩ ?_); (iterate 3 (exact sd)); rintro _ _ ⟨rfl,rfl⟩)) <;> (try simp (disch := omega) only [push_cast,seval,hv,hp3,hp4,decide_false,decide_true]))
 | (refine awp_ret ⟨.inr rfl,_,rfl,?_⟩; (try simp (disch := omega) only [push_cast,seval,hv,hp3,hp4,decide_false,decide_true]))))
        all_goals (try simp)


theorem kid_none {es : List Ex} {p : Int} : ∀ {k : Nat},kidsT es p k = [] ↔ ∀ i e,i < k → es[i]? = some e → ¬ (e.2.2 = true ∧ e.1 = p)
  | 0 => by simp [kidsT]
  | k + 1 => by
    constructor
    · intro h i e hi he
      cases hk : es[k]? with
 | none =>
        by_cases hik : i = k
        · subst hik; rw [hk] at he; cases he
        · simp only [kidsT,hk] at h
          exact kid_none.1 h i e (by omega) he
 | some f =>
        by_cases hf : f.2.2 = true ∧ f.1 = p
        · rw [kidsT_yes hk hf] at h; simp at h
        · rw [kidsT_no hk hf] at h
          by_cases hik : i = k
          · subst hik; rw [hk] at he; injection he with he; subst he; exact hf
          · exact kid_none.1 h i e (by omega) he
    · intro h
      have ih : kidsT es p k = [] := kid_none.2 fun i e hi he => h i e (by omega) he
      cases hk : es[k]? with
 | none => simp only [kidsT,hk]; exact ih
 | some f => rw [kidsT_no hk (h k f (by omega) hk)]; exact ih
/-- No closed export has open ones of its own. -/
def closB (es : List Ex) (n : Nat) (j : Nat) (e : Ex) : Bool := e.2.2 || decide ((kidsT es (j : Int) n).length = 0)
theorem vB_clos {cs : List Int} {es : List Ex} (h1 : vMem cs = true) (h2 : es.length ≤ 8) (h3 : allX (exV cs.length) es es.length = true) : vB cs es = allX (closB es es.length) es es.length := by
  unfold vB
  rw [h1,decide_eq_true h2]
  simp only [Bool.true_and]
  rw [Bool.eq_iff_iff,allX_iff,allX_iff]
  have hp := parOk_of h3
  constructor
  · intro h j e hj he
    unfold closB
    cases ho : e.2.2 with
    | true => rfl
    | false =>
      simp only [Bool.false_or,decide_eq_true_eq,List.length_eq_zero_iff]
      refine kid_none.2 fun i f hi hf ⟨hfo,hfp⟩ => ?_
      have := h i f hi hf
      unfold sxV at this
      rw [hfo,hfp] at this
      simp only [Bool.and_eq_true,Bool.not_true,Bool.false_or,Bool.or_eq_true,decide_eq_true_eq] at this
      rcases this.2 with hx | hx
      · omega
      · simp only [opE,Int.toNat_natCast,he] at hx
        rw [ho] at hx; cases hx
  · intro h i f hi hf
    unfold sxV
    rw [allX_iff.1 h3 i f hi hf]
    simp only [Bool.true_and]
    cases hfo : f.2.2 with
    | false => rfl
    | true =>
      simp only [Bool.not_true,Bool.false_or,Bool.or_eq_true,decide_eq_true_eq]
      have hpp := hp i f hf
      by_cases hneg : f.1 < 0
      · exact .inl hneg
      · right
        obtain ⟨q,hq⟩ : ∃ q : Nat,f.1 = q := ⟨f.1.toNat,by omega⟩
        have hql : q < es.length := by omega
        have hqe := List.getElem?_eq_getElem hql
        have := h q _ hql hqe
        unfold closB at this
        simp only [opE,hq,Int.toNat_natCast,hqe]
        cases ho : es[q].2.2 with
        | true => rfl
        | false =>
          rw [ho] at this
          simp only [Bool.false_or,decide_eq_true_eq,List.length_eq_zero_iff] at this
          exact absurd ⟨hfo,hq⟩ (kid_none.1 this i f hi hf)
theorem vB_no {cs : List Int} {es : List Ex} {i : Nat} {e : Ex} (he : es[i]? = some e) (h : exV cs.length i e = false) : vB cs es = false := by
  unfold vB
  rw [allX_no (f := sxV cs.length es) he (by unfold sxV; rw [h]; rfl) (List.getElem?_eq_some_iff.1 he).1]
  simp


set_option maxHeartbeats 16000000 in
theorem ivBu_ok (cs : List Int) (es : List Ex) (m n : Nat) (hm : cs.length = m) (hn : es.length = n) (hb : m ≤ 1099511627776 ∧ n ≤ 1099511627776 ∧ exB 1099511627776 es) :
    PCall Tryd.prog 53 [.agg [.rows false (IL cs) m,.rows false (EL false es) n]] (fun r => r = .bool (vB cs es)) := by
  subst hm hn
  obtain ⟨hb1,hb2,hb3⟩ := hb
  have hel := EL_length false es
  refine pcall_of l53_eq rfl ?_
  cases hv : vMem cs with
  | false =>
    have hvb : vB cs es = false := by unfold vB; rw [hv]; rfl
    rw [hvb]
    (repeat' (first
 | (first | refine awp_seq ?_ | refine awp_block ?_)
 | ((first | refine awp_reg ?_ | refine awp_draw (mid := l53r12a) (post := l53r12b) mixed (by decide) ?_ | refine awp_condB ?_ | refine awp_skip ?_ | refine awp_exit ?_); simp (disch := omega) only [push_cast,seval,l53r0,l53r1,l53r2,l53r3,l53r4,l53r5,l53r6,l53r7,l53r8,l53r9,l53r10,l53r11,l53r12a,l53r12b,l53r12,l53r13,l53r14,l53r15,hv,hel,innL_EL])
 | ((first | refine condB_split (fun h => ?_) (fun h => ?_) | refine gIf_split (fun h => ?_) (fun h => ?_) | refine qIf_split (fun h => ?_) (fun h => ?_)) <;> (try simp only [h]) <;> (try simp only [bitvec_to_nat] at h) <;> (try simp only [h]) <;> (first | (exfalso; omega) | (focus (exfalso; simp_all; done)) | (simp (disch := omega) only [push_cast,seval,hv,hel,innL_EL]) | skip))
 | ((first | refine callD_of false ?_ | refine qcallD_of false ?_); simp (disch := omega) only [push_cast,seval,hv,hel,innL_EL])
 | ((first | ((first | refine call0D (BCall.ofP (iVMem_ok _ _ ?_ ?_)) ?_ | refine qcall0D (BCall.ofP (iVMem_ok _ _ ?_ ?_)) ⟨_,_,rfl,rfl⟩ ?_); (iterate 2 (exact sd)); rintro _ _ ⟨rfl,rfl⟩) | ((first | refine call0D (BCall.ofP (ivEx_ok _ _ _ _ _ _ _ _ _ ?_ ?_ ?_)) ?_ | refine qcall0D (BCall.ofP (ivEx_ok _ _ _ _ _ _ _ _ _ ?_ ?_ ?_)) ⟨_,_,rfl,rfl⟩ ?_); (iterate 3 (exact sd)); rintro _ _ ⟨rfl,rfl⟩) | ((first | refine call0D (BCall.ofP (nodeP_ok _ _ _ _ _ ?_ ?_ ?_ ?_ ?_)) ?_ | refine qcall0D (BCall.ofP (nodeP_ok _ _ _ _ _ ?_ ?_ ?_ ?_ ?_)) ⟨_,_,rfl,rfl⟩ ?_); (iterate 5 (exact sd)); rintro _ _ ⟨rfl,rfl⟩) | ((first | refine call0D (BCall.ofP (held_ok _ _ ?_ ?_)) ?_ | refine qcall0D (BCall.ofP (held_ok _ _ ?_ ?_)) ⟨_,_,rfl,rfl⟩ ?_); (iterate 2 (exact sd)); rintro _ _ ⟨rfl,rfl⟩) | ((first | refine call0D (BCall.ofP (isHeld_ok _)) ?_ | refine qcall0D (BCall.ofP (isHeld_ok _)) ⟨_,_,rfl,rfl⟩ ?_); rintro _ _ ⟨rfl,rfl⟩)) <;> (try simp (disch := omega) only [push_cast,seval,hv,hel,innL_EL]))
 | (refine awp_ret ⟨.inr rfl,_,rfl,?_⟩; (try simp (disch := omega) only [push_cast,seval,hv,hel,innL_EL]))))
  | true =>
    have hm60 : cs.length ≤ 60 := by unfold vMem at hv; simp at hv; omega
    by_cases h8 : es.length ≤ 8
    · (repeat' (first
 | (first | refine awp_seq ?_ | refine awp_block ?_)
 | ((first | refine awp_reg ?_ | refine awp_draw (mid := l53r12a) (post := l53r12b) mixed (by decide) ?_ | refine awp_condB ?_ | refine awp_skip ?_ | refine awp_exit ?_); simp (disch := omega) only [push_cast,seval,l53r0,l53r1,l53r2,l53r3,l53r4,l53r5,l53r6,l53r7,l53r8,l53r9,l53r10,l53r11,l53r12a,l53r12b,l53r12,l53r13,l53r14,l53r15,hv,hel,innL_EL])
 | ((first | refine condB_split (fun h => ?_) (fun h => ?_) | refine gIf_split (fun h => ?_) (fun h => ?_) | refine qIf_split (fun h => ?_) (fun h => ?_)) <;> (try simp only [h]) <;> (try simp only [bitvec_to_nat] at h) <;> (try simp only [h]) <;> (first | (exfalso; omega) | (focus (exfalso; simp_all; done)) | (simp (disch := omega) only [push_cast,seval,hv,hel,innL_EL]) | skip))
 | ((first | refine callD_of false ?_ | refine qcallD_of false ?_); simp (disch := omega) only [push_cast,seval,hv,hel,innL_EL])
 | ((first | ((first | refine call0D (BCall.ofP (iVMem_ok _ _ ?_ ?_)) ?_ | refine qcall0D (BCall.ofP (iVMem_ok _ _ ?_ ?_)) ⟨_,_,rfl,rfl⟩ ?_); (iterate 2 (exact sd)); rintro _ _ ⟨rfl,rfl⟩) | ((first | refine call0D (BCall.ofP (ivEx_ok _ _ _ _ _ _ _ _ _ ?_ ?_ ?_)) ?_ | refine qcall0D (BCall.ofP (ivEx_ok _ _ _ _ _ _ _ _ _ ?_ ?_ ?_)) ⟨_,_,rfl,rfl⟩ ?_); (iterate 3 (exact sd)); rintro _ _ ⟨rfl,rfl⟩) | ((first | refine call0D (BCall.ofP (nodeP_ok _ _ _ _ _ ?_ ?_ ?_ ?_ ?_)) ?_ | refine qcall0D (BCall.ofP (nodeP_ok _ _ _ _ _ ?_ ?_ ?_ ?_ ?_)) ⟨_,_,rfl,rfl⟩ ?_); (iterate 5 (exact sd)); rintro _ _ ⟨rfl,rfl⟩) | ((first | refine call0D (BCall.ofP (held_ok _ _ ?_ ?_)) ?_ | refine qcall0D (BCall.ofP (held_ok _ _ ?_ ?_)) ⟨_,_,rfl,rfl⟩ ?_); (iterate 2 (exact sd)); rintro _ _ ⟨rfl,rfl⟩) | ((first | refine call0D (BCall.ofP (isHeld_ok _)) ?_ | refine qcall0D (BCall.ofP (isHeld_ok _)) ⟨_,_,rfl,rfl⟩ ?_); rintro _ _ ⟨rfl,rfl⟩)) <;> (try simp (disch := omega) only [push_cast,seval,hv,hel,innL_EL]))
 | (refine awp_ret ⟨.inr rfl,_,rfl,?_⟩; (try simp (disch := omega) only [push_cast,seval,hv,hel,innL_EL]))))
      refine awp_loop (fun i : Nat => mkS [(1,.ref 16 2 0),(2,.bool false),(18,.rows false (EL false es) es.length),(19,.int .i64 es.length),(20,.int .i64 i)] [(16,[.rows false (IL cs) cs.length,.rows false (EL false es) es.length])]) (fun i => i ≤ es.length ∧ allX (exV cs.length) es i = true) (fun i => es.length - i) 0 ⟨Nat.zero_le _,rfl⟩ ?_ ?_
      · (refine Sub.of_lists ?_ ?_ ?_ ?_ ?_ <;> simp [Vw.mkS,Vw.lk,Vw.hk,AV.inn,innL,innL_ints,innL_append,innL_rep,-List.map_set,-List.getD_eq_getElem?_getD,innL_EL])
      · rintro i ⟨hi,hal⟩
        by_cases hlt : i < es.length
        · obtain ⟨p,b,x,y,o,he⟩ := mem_ltH hlt
          obtain ⟨hbx,hby⟩ := exB_get hb3 he
          have hd := EL_drop false es i he
          simp only at hd
          have hil : i * 5 + 5 ≤ es.length * 5 := by omega
          cases hs : exV cs.length i (p,(b,x,y),o) with
          | false =>
            have hno := vB_no he hs
            rw [hno]
            (repeat' (first
 | (first | refine awp_seq ?_ | refine awp_block ?_)
 | ((first | refine awp_reg ?_ | refine awp_draw (mid := l53r12a) (post := l53r12b) mixed (by decide) ?_ | refine awp_condB ?_ | refine awp_skip ?_ | refine awp_exit ?_); simp (disch := omega) only [push_cast,seval,l53r0,l53r1,l53r2,l53r3,l53r4,l53r5,l53r6,l53r7,l53r8,l53r9,l53r10,l53r11,l53r12a,l53r12b,l53r12,l53r13,l53r14,l53r15,hd,hil,hel,hs,innL_EL])
 | ((first | refine condB_split (fun h => ?_) (fun h => ?_) | refine gIf_split (fun h => ?_) (fun h => ?_) | refine qIf_split (fun h => ?_) (fun h => ?_)) <;> (try simp only [h]) <;> (try simp only [bitvec_to_nat] at h) <;> (try simp only [h]) <;> (first | (exfalso; omega) | (focus (exfalso; simp_all; done)) | (simp (disch := omega) only [push_cast,seval,hd,hil,hel,hs,innL_EL]) | skip))
 | ((first | refine callD_of false ?_ | refine qcallD_of false ?_); simp (disch := omega) only [push_cast,seval,hd,hil,hel,hs,innL_EL])
 | ((first | ((first | refine call0D (BCall.ofP (iVMem_ok _ _ ?_ ?_)) ?_ | refine qcall0D (BCall.ofP (iVMem_ok _ _ ?_ ?_)) ⟨_,_,rfl,rfl⟩ ?_); (iterate 2 (exact sd)); rintro _ _ ⟨rfl,rfl⟩) | ((first | refine call0D (BCall.ofP (ivEx_ok _ _ _ _ _ _ _ _ _ ?_ ?_ ?_)) ?_ | refine qcall0D (BCall.ofP (ivEx_ok _ _ _ _ _ _ _ _ _ ?_ ?_ ?_)) ⟨_,_,rfl,rfl⟩ ?_); (iterate 3 (exact sd)); rintro _ _ ⟨rfl,rfl⟩) | ((first | refine call0D (BCall.ofP (nodeP_ok _ _ _ _ _ ?_ ?_ ?_ ?_ ?_)) ?_ | refine qcall0D (BCall.ofP (nodeP_ok _ _ _ _ _ ?_ ?_ ?_ ?_ ?_)) ⟨_,_,rfl,rfl⟩ ?_); (iterate 5 (exact sd)); rintro _ _ ⟨rfl,rfl⟩) | ((first | refine call0D (BCall.ofP (held_ok _ _ ?_ ?_)) ?_ | refine qcall0D (BCall.ofP (held_ok _ _ ?_ ?_)) ⟨_,_,rfl,rfl⟩ ?_); (iterate 2 (exact sd)); rintro _ _ ⟨rfl,rfl⟩) | ((first | refine call0D (BCall.ofP (isHeld_ok _)) ?_ | refine qcall0D (BCall.ofP (isHeld_ok _)) ⟨_,_,rfl,rfl⟩ ?_); rintro _ _ ⟨rfl,rfl⟩)) <;> (try simp (disch := omega) only [push_cast,seval,hd,hil,hel,hs,innL_EL]))
 | (refine awp_ret ⟨.inr rfl,_,rfl,?_⟩; (try simp (disch := omega) only [push_cast,seval,hd,hil,hel,hs,innL_EL]))))
          | true =>
            have hyes : allX (exV cs.length) es (i + 1) = true := by rw [allX_succ he,hal,hs]; rfl
            (repeat' (first
 | (first | refine awp_seq ?_ | refine awp_block ?_)
 | ((first | refine awp_reg ?_ | refine awp_draw (mid := l53r12a) (post := l53r12b) mixed (by decide) ?_ | refine awp_condB ?_ | refine awp_skip ?_ | refine awp_exit ?_); simp (disch := omega) only [push_cast,seval,l53r0,l53r1,l53r2,l53r3,l53r4,l53r5,l53r6,l53r7,l53r8,l53r9,l53r10,l53r11,l53r12a,l53r12b,l53r12,l53r13,l53r14,l53r15,hd,hil,hel,hs,innL_EL])
 | ((first | refine condB_split (fun h => ?_) (fun h => ?_) | refine gIf_split (fun h => ?_) (fun h => ?_) | refine qIf_split (fun h => ?_) (fun h => ?_)) <;> (try simp only [h]) <;> (try simp only [bitvec_to_nat] at h) <;> (try simp only [h]) <;> (first | (exfalso; omega) | (focus (exfalso; simp_all; done)) | (simp (disch := omega) only [push_cast,seval,hd,hil,hel,hs,innL_EL]) | skip))
 | ((first | refine callD_of false ?_ | refine qcallD_of false ?_); simp (disch := omega) only [push_cast,seval,hd,hil,hel,hs,innL_EL])
 | ((first | ((first | refine call0D (BCall.ofP (iVMem_ok _ _ ?_ ?_)) ?_ | refine qcall0D (BCall.ofP (iVMem_ok _ _ ?_ ?_)) ⟨_,_,rfl,rfl⟩ ?_); (iterate 2 (exact sd)); rintro _ _ ⟨rfl,rfl⟩) | ((first | refine call0D (BCall.ofP (ivEx_ok _ _ _ _ _ _ _ _ _ ?_ ?_ ?_)) ?_ | refine qcall0D (BCall.ofP (ivEx_ok _ _ _ _ _ _ _ _ _ ?_ ?_ ?_)) ⟨_,_,rfl,rfl⟩ ?_); (iterate 3 (exact sd)); rintro _ _ ⟨rfl,rfl⟩) | ((first | refine call0D (BCall.ofP (nodeP_ok _ _ _ _ _ ?_ ?_ ?_ ?_ ?_)) ?_ | refine qcall0D (BCall.ofP (nodeP_ok _ _ _ _ _ ?_ ?_ ?_ ?_ ?_)) ⟨_,_,rfl,rfl⟩ ?_); (iterate 5 (exact sd)); rintro _ _ ⟨rfl,rfl⟩) | ((first | refine call0D (BCall.ofP (held_ok _ _ ?_ ?_)) ?_ | refine qcall0D (BCall.ofP (held_ok _ _ ?_ ?_)) ⟨_,_,rfl,rfl⟩ ?_); (iterate 2 (exact sd)); rintro _ _ ⟨rfl,rfl⟩) | ((first | refine call0D (BCall.ofP (isHeld_ok _)) ?_ | refine qcall0D (BCall.ofP (isHeld_ok _)) ⟨_,_,rfl,rfl⟩ ?_); rintro _ _ ⟨rfl,rfl⟩)) <;> (try simp (disch := omega) only [push_cast,seval,hd,hil,hel,hs,innL_EL]))
 | (refine awp_ret ⟨.inr rfl,_,rfl,?_⟩; (try simp (disch := omega) only [push_cast,seval,hd,hil,hel,hs,innL_EL]))))
            refine ⟨i + 1,⟨by omega,hyes⟩,by omega,?_⟩
            (refine Sub.of_lists ?_ ?_ ?_ ?_ ?_ <;> simp [Vw.mkS,Vw.lk,Vw.hk,AV.inn,innL,innL_ints,innL_append,innL_rep,-List.map_set,-List.getD_eq_getElem?_getD,innL_EL])
        · have e : i = es.length := by omega
          subst e
          have hpo := parOk_of hal
          have hvc := vB_clos hv h8 hal
          rw [hvc]
          have hq : cs.length ≤ 1000 ∧ es.length ≤ 1000 := ⟨by omega,by omega⟩
          (repeat' (first
 | (first | refine awp_seq ?_ | refine awp_block ?_)
 | ((first | refine awp_reg ?_ | refine awp_draw (mid := l53r12a) (post := l53r12b) mixed (by decide) ?_ | refine awp_condB ?_ | refine awp_skip ?_ | refine awp_exit ?_); simp (disch := omega) only [push_cast,seval,l53r0,l53r1,l53r2,l53r3,l53r4,l53r5,l53r6,l53r7,l53r8,l53r9,l53r10,l53r11,l53r12a,l53r12b,l53r12,l53r13,l53r14,l53r15,hel,innL_EL])
 | ((first | refine condB_split (fun h => ?_) (fun h => ?_) | refine gIf_split (fun h => ?_) (fun h => ?_) | refine qIf_split (fun h => ?_) (fun h => ?_)) <;> (try simp only [h]) <;> (try simp only [bitvec_to_nat] at h) <;> (try simp only [h]) <;> (first | (exfalso; omega) | (focus (exfalso; simp_all; done)) | (simp (disch := omega) only [push_cast,seval,hel,innL_EL]) | skip))
 | ((first | refine callD_of false ?_ | refine qcallD_of false ?_); simp (disch := omega) only [push_cast,seval,hel,innL_EL])
 | ((first | ((first | refine call0D (BCall.ofP (iVMem_ok _ _ ?_ ?_)) ?_ | refine qcall0D (BCall.ofP (iVMem_ok _ _ ?_ ?_)) ⟨_,_,rfl,rfl⟩ ?_); (iterate 2 (exact sd)); rintro _ _ ⟨rfl,rfl⟩) | ((first | refine call0D (BCall.ofP (ivEx_ok _ _ _ _ _ _ _ _ _ ?_ ?_ ?_)) ?_ | refine qcall0D (BCall.ofP (ivEx_ok _ _ _ _ _ _ _ _ _ ?_ ?_ ?_)) ⟨_,_,rfl,rfl⟩ ?_); (iterate 3 (exact sd)); rintro _ _ ⟨rfl,rfl⟩) | ((first | refine call0D (BCall.ofP (nodeP_ok _ _ _ _ _ ?_ ?_ ?_ ?_ ?_)) ?_ | refine qcall0D (BCall.ofP (nodeP_ok _ _ _ _ _ ?_ ?_ ?_ ?_ ?_)) ⟨_,_,rfl,rfl⟩ ?_); (iterate 5 (exact sd)); rintro _ _ ⟨rfl,rfl⟩) | ((first | refine call0D (BCall.ofP (held_ok _ _ ?_ ?_)) ?_ | refine qcall0D (BCall.ofP (held_ok _ _ ?_ ?_)) ⟨_,_,rfl,rfl⟩ ?_); (iterate 2 (exact sd)); rintro _ _ ⟨rfl,rfl⟩) | ((first | refine call0D (BCall.ofP (isHeld_ok _)) ?_ | refine qcall0D (BCall.ofP (isHeld_ok _)) ⟨_,_,rfl,rfl⟩ ?_); rintro _ _ ⟨rfl,rfl⟩)) <;> (try simp (disch := omega) only [push_cast,seval,hel,innL_EL]))
 | (refine awp_ret ⟨.inr rfl,_,rfl,?_⟩; (try simp (disch := omega) only [push_cast,seval,hel,innL_EL]))))
          refine awp_loop (fun i : Nat => mkS [(1,.ref 16 2 0),(2,.bool false),(34,.rows false (EL false es) es.length),(35,.int .i64 es.length),(36,.int .i64 i)] [(16,[.rows false (IL cs) cs.length,.rows false (EL false es) es.length])]) (fun i => i ≤ es.length ∧ allX (closB es es.length) es i = true) (fun i => es.length - i) 0 ⟨Nat.zero_le _,rfl⟩ ?_ ?_
          · (refine Sub.of_lists ?_ ?_ ?_ ?_ ?_ <;> simp [Vw.mkS,Vw.lk,Vw.hk,AV.inn,innL,innL_ints,innL_append,innL_rep,-List.map_set,-List.getD_eq_getElem?_getD,innL_EL])
          · rintro i ⟨hi,hal2⟩
            by_cases hlt2 : i < es.length
            · obtain ⟨p,b,x,y,o,he⟩ := mem_ltH hlt2
              have hd := EL_drop false es i he
              simp only at hd
              have hil : i * 5 + 5 ≤ es.length * 5 := by omega
              have hkl := kidsT_len es i es.length
              cases o with
              | true =>
                have hyes : allX (closB es es.length) es (i + 1) = true := by rw [allX_succ he,hal2]; rfl
                (repeat' (first
 | (first | refine awp_seq ?_ | refine awp_block ?_)
 | ((first | refine awp_reg ?_ | refine awp_draw (mid := l53r12a) (post := l53r12b) mixed (by decide) ?_ | refine awp_condB ?_ | refine awp_skip ?_ | refine awp_exit ?_); simp (disch := omega) only [push_cast,seval,l53r0,l53r1,l53r2,l53r3,l53r4,l53r5,l53r6,l53r7,l53r8,l53r9,l53r10,l53r11,l53r12a,l53r12b,l53r12,l53r13,l53r14,l53r15,hd,hil,hel,globE,innL_EL])
 | ((first | refine condB_split (fun h => ?_) (fun h => ?_) | refine gIf_split (fun h => ?_) (fun h => ?_) | refine qIf_split (fun h => ?_) (fun h => ?_)) <;> (try simp only [h]) <;> (try simp only [bitvec_to_nat] at h) <;> (try simp only [h]) <;> (first | (exfalso; omega) | (focus (exfalso; simp_all; done)) | (simp (disch := omega) only [push_cast,seval,hd,hil,hel,globE,innL_EL]) | skip))
 | ((first | refine callD_of false ?_ | refine qcallD_of false ?_); simp (disch := omega) only [push_cast,seval,hd,hil,hel,globE,innL_EL])
 | ((first | ((first | refine call0D (BCall.ofP (iVMem_ok _ _ ?_ ?_)) ?_ | refine qcall0D (BCall.ofP (iVMem_ok _ _ ?_ ?_)) ⟨_,_,rfl,rfl⟩ ?_); (iterate 2 (exact sd)); rintro _ _ ⟨rfl,rfl⟩) | ((first | refine call0D (BCall.ofP (ivEx_ok _ _ _ _ _ _ _ _ _ ?_ ?_ ?_)) ?_ | refine qcall0D (BCall.ofP (ivEx_ok _ _ _ _ _ _ _ _ _ ?_ ?_ ?_)) ⟨_,_,rfl,rfl⟩ ?_); (iterate 3 (exact sd)); rintro _ _ ⟨rfl,rfl⟩) | ((first | refine call0D (BCall.ofP (nodeP_ok _ _ _ _ _ ?_ ?_ ?_ ?_ ?_)) ?_ | refine qcall0D (BCall.ofP (nodeP_ok _ _ _ _ _ ?_ ?_ ?_ ?_ ?_)) ⟨_,_,rfl,rfl⟩ ?_); (iterate 5 (exact sd)); rintro _ _ ⟨rfl,rfl⟩) | ((first | refine call0D (BCall.ofP (held_ok _ _ ?_ ?_)) ?_ | refine qcall0D (BCall.ofP (held_ok _ _ ?_ ?_)) ⟨_,_,rfl,rfl⟩ ?_); (iterate 2 (exact sd)); rintro _ _ ⟨rfl,rfl⟩) | ((first | refine call0D (BCall.ofP (isHeld_ok _)) ?_ | refine qcall0D (BCall.ofP (isHeld_ok _)) ⟨_,_,rfl,rfl⟩ ?_); rintro _ _ ⟨rfl,rfl⟩)) <;> (try simp (disch := omega) only [push_cast,seval,hd,hil,hel,globE,innL_EL]))
 | (refine awp_ret ⟨.inr rfl,_,rfl,?_⟩; (try simp (disch := omega) only [push_cast,seval,hd,hil,hel,globE,innL_EL]))))
                refine ⟨i + 1,⟨by omega,hyes⟩,by omega,?_⟩
                (refine Sub.of_lists ?_ ?_ ?_ ?_ ?_ <;> simp [Vw.mkS,Vw.lk,Vw.hk,AV.inn,innL,innL_ints,innL_append,innL_rep,-List.map_set,-List.getD_eq_getElem?_getD,innL_EL])
              | false =>
                by_cases hk : 0 < (kidsT es i es.length).length
                · have hno : allX (closB es es.length) es es.length = false := allX_no (f := closB es es.length) he (by unfold closB; simp; intro h; rw [h] at hk; simp at hk) hlt2
                  rw [hno]
                  have hk2 := decide_eq_true hk
                  generalize hK : kidsT es i es.length = ks at *
                  generalize hKn : ks.length = kn at *
                  (repeat' (first
 | (first | refine awp_seq ?_ | refine awp_block ?_)
 | ((first | refine awp_reg ?_ | refine awp_draw (mid := l53r12a) (post := l53r12b) mixed (by decide) ?_ | refine awp_condB ?_ | refine awp_skip ?_ | refine awp_exit ?_); simp (disch := omega) only [push_cast,seval,l53r0,l53r1,l53r2,l53r3,l53r4,l53r5,l53r6,l53r7,l53r8,l53r9,l53r10,l53r11,l53r12a,l53r12b,l53r12,l53r13,l53r14,l53r15,hd,hil,hel,globE,renHeld,hK,hKn,hk2,innL_EL])
 | ((first | refine condB_split (fun h => ?_) (fun h => ?_) | refine gIf_split (fun h => ?_) (fun h => ?_) | refine qIf_split (fun h => ?_) (fun h => ?_)) <;> (try simp only [h]) <;> (try simp only [bitvec_to_nat] at h) <;> (try simp only [h]) <;> (first | (exfalso; omega) | (focus (exfalso; simp_all; done)) | (simp (disch := omega) only [push_cast,seval,hd,hil,hel,globE,renHeld,hK,hKn,hk2,innL_EL]) | skip))
 | ((first | refine callD_of false ?_ | refine qcallD_of false ?_); simp (disch := omega) only [push_cast,seval,hd,hil,hel,globE,renHeld,hK,hKn,hk2,innL_EL])
 | ((first | ((first | refine call0D (BCall.ofP (iVMem_ok _ _ ?_ ?_)) ?_ | refine qcall0D (BCall.ofP (iVMem_ok _ _ ?_ ?_)) ⟨_,_,rfl,rfl⟩ ?_); (iterate 2 (exact sd)); rintro _ _ ⟨rfl,rfl⟩) | ((first | refine call0D (BCall.ofP (ivEx_ok _ _ _ _ _ _ _ _ _ ?_ ?_ ?_)) ?_ | refine qcall0D (BCall.ofP (ivEx_ok _ _ _ _ _ _ _ _ _ ?_ ?_ ?_)) ⟨_,_,rfl,rfl⟩ ?_); (iterate 3 (exact sd)); rintro _ _ ⟨rfl,rfl⟩) | ((first | refine call0D (BCall.ofP (nodeP_ok _ _ _ _ _ ?_ ?_ ?_ ?_ ?_)) ?_ | refine qcall0D (BCall.ofP (nodeP_ok _ _ _ _ _ ?_ ?_ ?_ ?_ ?_)) ⟨_,_,rfl,rfl⟩ ?_); (iterate 5 (exact sd)); rintro _ _ ⟨rfl,rfl⟩) | ((first | refine call0D (BCall.ofP (held_ok _ _ ?_ ?_)) ?_ | refine qcall0D (BCall.ofP (held_ok _ _ ?_ ?_)) ⟨_,_,rfl,rfl⟩ ?_); (iterate 2 (exact sd)); rintro _ _ ⟨rfl,rfl⟩) | ((first | refine call0D (BCall.ofP (isHeld_ok _)) ?_ | refine qcall0D (BCall.ofP (isHeld_ok _)) ⟨_,_,rfl,rfl⟩ ?_); rintro _ _ ⟨rfl,rfl⟩)) <;> (try simp (disch := omega) only [push_cast,seval,hd,hil,hel,globE,renHeld,hK,hKn,hk2,innL_EL]))
 | (refine awp_ret ⟨.inr rfl,_,rfl,?_⟩; (try simp (disch := omega) only [push_cast,seval,hd,hil,hel,globE,renHeld,hK,hKn,hk2,innL_EL]))))
                · have hyes : allX (closB es es.length) es (i + 1) = true := by rw [allX_succ he,hal2]; simp [closB]; exact List.length_eq_zero_iff.1 (by omega)
                  have hk2 := decide_eq_false hk
                  generalize hK : kidsT es i es.length = ks at *
                  generalize hKn : ks.length = kn at *
                  (repeat' (first
 | (first | refine awp_seq ?_ | refine awp_block ?_)
 | ((first | refine awp_reg ?_ | refine awp_draw (mid := l53r12a) (post := l53r12b) mixed (by decide) ?_ | refine awp_condB ?_ | refine awp_skip ?_ | refine awp_exit ?_); simp (disch := omega) only [push_cast,seval,l53r0,l53r1,l53r2,l53r3,l53r4,l53r5,l53r6,l53r7,l53r8,l53r9,l53r10,l53r11,l53r12a,l53r12b,l53r12,l53r13,l53r14,l53r15,hd,hil,hel,globE,renHeld,hK,hKn,hk2,innL_EL])
 | ((first | refine condB_split (fun h => ?_) (fun h => ?_) | refine gIf_split (fun h => ?_) (fun h => ?_) | refine qIf_split (fun h => ?_) (fun h => ?_)) <;> (try simp only [h]) <;> (try simp only [bitvec_to_nat] at h) <;> (try simp only [h]) <;> (first | (exfalso; omega) | (focus (exfalso; simp_all; done)) | (simp (disch := omega) only [push_cast,seval,hd,hil,hel,globE,renHeld,hK,hKn,hk2,innL_EL]) | skip))
 | ((first | refine callD_of false ?_ | refine qcallD_of false ?_); simp (disch := omega) only [push_cast,seval,hd,hil,hel,globE,renHeld,hK,hKn,hk2,innL_EL])
 | ((first | ((first | refine call0D (BCall.ofP (iVMem_ok _ _ ?_ ?_)) ?_ | refine qcall0D (BCall.ofP (iVMem_ok _ _ ?_ ?_)) ⟨_,_,rfl,rfl⟩ ?_); (iterate 2 (exact sd)); rintro _ _ ⟨rfl,rfl⟩) | ((first | refine call0D (BCall.ofP (ivEx_ok _ _ _ _ _ _ _ _ _ ?_ ?_ ?_)) ?_ | refine qcall0D (BCall.ofP (ivEx_ok _ _ _ _ _ _ _ _ _ ?_ ?_ ?_)) ⟨_,_,rfl,rfl⟩ ?_); (iterate 3 (exact sd)); rintro _ _ ⟨rfl,rfl⟩) | ((first | refine call0D (BCall.ofP (nodeP_ok _ _ _ _ _ ?_ ?_ ?_ ?_ ?_)) ?_ | refine qcall0D (BCall.ofP (nodeP_ok _ _ _ _ _ ?_ ?_ ?_ ?_ ?_)) ⟨_,_,rfl,rfl⟩ ?_); (iterate 5 (exact sd)); rintro _ _ ⟨rfl,rfl⟩) | ((first | refine call0D (BCall.ofP (held_ok _ _ ?_ ?_)) ?_ | refine qcall0D (BCall.ofP (held_ok _ _ ?_ ?_)) ⟨_,_,rfl,rfl⟩ ?_); (iterate 2 (exact sd)); rintro _ _ ⟨rfl,rfl⟩) | ((first | refine call0D (BCall.ofP (isHeld_ok _)) ?_ | refine qcall0D (BCall.ofP (isHeld_ok _)) ⟨_,_,rfl,rfl⟩ ?_); rintro _ _ ⟨rfl,rfl⟩)) <;> (try simp (disch := omega) only [push_cast,seval,hd,hil,hel,globE,renHeld,hK,hKn,hk2,innL_EL]))
 | (refine awp_ret ⟨.inr rfl,_,rfl,?_⟩; (try simp (disch := omega) only [push_cast,seval,hd,hil,hel,globE,renHeld,hK,hKn,hk2,innL_EL]))))
                  refine ⟨i + 1,⟨by omega,hyes⟩,by omega,?_⟩
                  (refine Sub.of_lists ?_ ?_ ?_ ?_ ?_ <;> simp [Vw.mkS,Vw.lk,Vw.hk,AV.inn,innL,innL_ints,innL_append,innL_rep,-List.map_set,-List.getD_eq_getElem?_getD,innL_EL])
            · have e2 : i = es.length := by omega
              subst e2
              (repeat' (first
 | (first | refine awp_seq ?_ | refine awp_block ?_)
 | ((first | refine awp_reg ?_ | refine awp_draw (mid := l53r12a) (post := l53r12b) mixed (by decide) ?_ | refine awp_condB ?_ | refine awp_skip ?_ | refine awp_exit ?_); simp (disch := omega) only [push_cast,seval,l53r0,l53r1,l53r2,l53r3,l53r4,l53r5,l53r6,l53r7,l53r8,l53r9,l53r10,l53r11,l53r12a,l53r12b,l53r12,l53r13,l53r14,l53r15,hel,innL_EL])
 | ((first | refine condB_split (fun h => ?_) (fun h => ?_) | refine gIf_split (fun h => ?_) (fun h => ?_) | refine qIf_split (fun h => ?_) (fun h => ?_)) <;> (try simp only [h]) <;> (try simp only [bitvec_to_nat] at h) <;> (try simp only [h]) <;> (first | (exfalso; omega) | (focus (exfalso; simp_all; done)) | (simp (disch := omega) only [push_cast,seval,hel,innL_EL]) | skip))
 | ((first | refine callD_of false ?_ | refine qcallD_of false ?_); simp (disch := omega) only [push_cast,seval,hel,innL_EL])
 | ((first | ((first | refine call0D (BCall.ofP (iVMem_ok _ _ ?_ ?_)) ?_ | refine qcall0D (BCall.ofP (iVMem_ok _ _ ?_ ?_)) ⟨_,_,rfl,rfl⟩ ?_); (iterate 2 (exact sd)); rintro _ _ ⟨rfl,rfl⟩) | ((first | refine call0D (BCall.ofP (ivEx_ok _ _ _ _ _ _ _ _ _ ?_ ?_ ?_)) ?_ | refine qcall0D (BCall.ofP (ivEx_ok _ _ _ _ _ _ _ _ _ ?_ ?_ ?_)) ⟨_,_,rfl,rfl⟩ ?_); (iterate 3 (exact sd)); rintro _ _ ⟨rfl,rfl⟩) | ((first | refine call0D (BCall.ofP (nodeP_ok _ _ _ _ _ ?_ ?_ ?_ ?_ ?_)) ?_ | refine qcall0D (BCall.ofP (nodeP_ok _ _ _ _ _ ?_ ?_ ?_ ?_ ?_)) ⟨_,_,rfl,rfl⟩ ?_); (iterate 5 (exact sd)); rintro _ _ ⟨rfl,rfl⟩) | ((first | refine call0D (BCall.ofP (held_ok _ _ ?_ ?_)) ?_ | refine qcall0D (BCall.ofP (held_ok _ _ ?_ ?_)) ⟨_,_,rfl,rfl⟩ ?_); (iterate 2 (exact sd)); rintro _ _ ⟨rfl,rfl⟩) | ((first | refine call0D (BCall.ofP (isHeld_ok _)) ?_ | refine qcall0D (BCall.ofP (isHeld_ok _)) ⟨_,_,rfl,rfl⟩ ?_); rintro _ _ ⟨rfl,rfl⟩)) <;> (try simp (disch := omega) only [push_cast,seval,hel,innL_EL]))
 | (refine awp_ret ⟨.inr rfl,_,rfl,?_⟩; (try simp (disch := omega) only [push_cast,seval,hel,innL_EL]))))
              all_goals (try simp [hal2])
    · have hvb : vB cs es = false := by unfold vB; rw [decide_eq_false h8]; simp
      rw [hvb]
      (repeat' (first
 | (first | refine awp_seq ?_ | refine awp_block ?_)
 | ((first | refine awp_reg ?_ | refine awp_draw (mid := l53r12a) (post := l53r12b) mixed (by decide) ?_ | refine awp_condB ?_ | refine awp_skip ?_ | refine awp_exit ?_); simp (disch := omega) only [push_cast,seval,l53r0,l53r1,l53r2,l53r3,l53r4,l53r5,l53r6,l53r7,l53r8,l53r9,l53r10,l53r11,l53r12a,l53r12b,l53r12,l53r13,l53r14,l53r15,hv,hel,innL_EL])
 | ((first | refine condB_split (fun h => ?_) (fun h => ?_) | refine gIf_split (fun h => ?_) (fun h => ?_) | refine qIf_split (fun h => ?_) (fun h => ?_)) <;> (try simp only [h]) <;> (try simp only [bitvec_to_nat] at h) <;> (try simp only [h]) <;> (first | (exfalso; omega) | (focus (exfalso; simp_all; done)) | (simp (disch := omega) only [push_cast,seval,hv,hel,innL_EL]) | skip))
 | ((first | refine callD_of false ?_ | refine qcallD_of false ?_); simp (disch := omega) only [push_cast,seval,hv,hel,innL_EL])
 | ((first | ((first | refine call0D (BCall.ofP (iVMem_ok _ _ ?_ ?_)) ?_ | refine qcall0D (BCall.ofP (iVMem_ok _ _ ?_ ?_)) ⟨_,_,rfl,rfl⟩ ?_); (iterate 2 (exact sd)); rintro _ _ ⟨rfl,rfl⟩) | ((first | refine call0D (BCall.ofP (ivEx_ok _ _ _ _ _ _ _ _ _ ?_ ?_ ?_)) ?_ | refine qcall0D (BCall.ofP (ivEx_ok _ _ _ _ _ _ _ _ _ ?_ ?_ ?_)) ⟨_,_,rfl,rfl⟩ ?_); (iterate 3 (exact sd)); rintro _ _ ⟨rfl,rfl⟩) | ((first | refine call0D (BCall.ofP (nodeP_ok _ _ _ _ _ ?_ ?_ ?_ ?_ ?_)) ?_ | refine qcall0D (BCall.ofP (nodeP_ok _ _ _ _ _ ?_ ?_ ?_ ?_ ?_)) ⟨_,_,rfl,rfl⟩ ?_); (iterate 5 (exact sd)); rintro _ _ ⟨rfl,rfl⟩) | ((first | refine call0D (BCall.ofP (held_ok _ _ ?_ ?_)) ?_ | refine qcall0D (BCall.ofP (held_ok _ _ ?_ ?_)) ⟨_,_,rfl,rfl⟩ ?_); (iterate 2 (exact sd)); rintro _ _ ⟨rfl,rfl⟩) | ((first | refine call0D (BCall.ofP (isHeld_ok _)) ?_ | refine qcall0D (BCall.ofP (isHeld_ok _)) ⟨_,_,rfl,rfl⟩ ?_); rintro _ _ ⟨rfl,rfl⟩)) <;> (try simp (disch := omega) only [push_cast,seval,hv,hel,innL_EL]))
 | (refine awp_ret ⟨.inr rfl,_,rfl,?_⟩; (try simp (disch := omega) only [push_cast,seval,hv,hel,innL_EL]))))

end Go.Proofs.YtahdlohpncjdbaaDoor
