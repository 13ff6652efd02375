import Derived.Test.YtahdlohpncjdbaaDoorCKh7
import Derived.Test.YtahdlohpncjdbaaDoorCM1
import Derived.Test.YtahdlohpncjdbaaDoorCW3
set_option linter.unusedSimpArgs false
set_option linter.unusedVariables false
set_option maxRecDepth 4000
set_option maxHeartbeats 4000000
namespace Go.Proofs.YtahdlohpncjdbaaDoor
open VwM Vw Go
set_option linter.unusedSectionVars false
variable [SentA]

abbrev ExT := Int × (Int × List Int × List Int × Unit) × Bool × Unit
def exT (p : ExT) : Ex := (p.1,(p.2.1.1,p.2.1.2.1,p.2.1.2.2.1),p.2.2.1)
theorem flat_E : ∀ x : List ExT,(x.flatMap fun p => Vw.enI p.1 ++ ((Vw.enI p.2.1.1 ++ (Vw.enS Vw.enI p.2.1.2.1 ++ (Vw.enS Vw.enI p.2.1.2.2.1 ++ []))) ++ (Vw.enB p.2.2.1 ++ []))) = EL false (x.map exT)
  | [] => rfl
  | p :: r => by
    rw [List.flatMap_cons,flat_E r]
    simp [Vw.enI,Vw.enS,Vw.enB,Vw.flat_ints,EL,exT,IL]
theorem exB_T {x : List ExT} (h : ∀ a ∈ x,Vw.goodI a.1 ∧ (Vw.goodI a.2.1.1 ∧ Vw.goodS Vw.goodI a.2.1.2.1 ∧ Vw.goodS Vw.goodI a.2.1.2.2.1 ∧ True) ∧ True ∧ True) : exB 9223372036854775807 (x.map exT) := fun e he => by
  obtain ⟨a,ha,rfl⟩ := List.mem_map.1 he
  have := h a ha
  exact ⟨this.2.1.2.1.2,this.2.1.2.2.1.2⟩


theorem szExport_ok (p b : Int) (x y : List Int) (o : Bool) (n m : Nat) (k : Int) (hn : x.length = n) (hm : y.length = m) (hk : 0 ≤ k ∧ k ≤ 1048576) (hb : n ≤ 9223372036854775807 ∧ m ≤ 9223372036854775807) : PCall Tryd.prog 60 [.agg [.int .i64 p,.int .i64 b,.rows false (IL x) n,.rows false (IL y) m,.bool o],.int .i64 k] (fun r => ∃ z : Int,(0 ≤ z → z ≤ k ∧ x.length ≤ 1048576 ∧ y.length ≤ 1048576) ∧ r = .int .i64 z) := by
  subst hn hm
  obtain ⟨hb1,hb2⟩ := hb
  refine pcall_of l60_eq rfl ?_
  by_cases h : k - (x.length : Int) - y.length < 0
  · (repeat' (first
 | (first | refine awp_seq ?_ | refine awp_block ?_)
 | ((first | refine awp_reg ?_ | refine awp_condB ?_ | refine awp_skip ?_ | refine awp_exit ?_); simp (disch := omega) only [push_cast,seval,l60r0,l60r1,l60r2,l60r3,l60r4,h])
 | ((first | refine condB_split (fun h => ?_) (fun h => ?_) | refine gIf_split (fun h => ?_) (fun h => ?_) | refine qIf_split (fun h => ?_) (fun h => ?_)) <;> (try simp only [h]) <;> (try simp only [bitvec_to_nat] at h) <;> (try simp only [h]) <;> (first | (exfalso; omega) | (focus (exfalso; simp_all; done)) | (simp (disch := omega) only [push_cast,seval,h]) | skip))
 | ((first | refine callD_of false ?_ | refine qcallD_of false ?_); simp (disch := omega) only [push_cast,seval,h])
 | ((first | ((first | refine call0D (BCall.ofP (szView_ok _ _ _ _ _ _ ?_ ?_)) ?_ | refine qcall0D (BCall.ofP (szView_ok _ _ _ _ _ _ ?_ ?_)) ⟨_,_,rfl,rfl⟩ ?_); (iterate 2 (exact sd)); rintro _ _ ⟨rfl,rfl⟩)) <;> (try simp (disch := omega) only [push_cast,seval,h]))
 | (refine awp_ret ⟨.inr rfl,_,rfl,?_⟩; (try simp (disch := omega) only [push_cast,seval,h]))))
    all_goals (refine ⟨_,?_,rfl⟩; omega)
  · (repeat' (first
 | (first | refine awp_seq ?_ | refine awp_block ?_)
 | ((first | refine awp_reg ?_ | refine awp_condB ?_ | refine awp_skip ?_ | refine awp_exit ?_); simp (disch := omega) only [push_cast,seval,l60r0,l60r1,l60r2,l60r3,l60r4,h])
 | ((first | refine condB_split (fun h => ?_) (fun h => ?_) | refine gIf_split (fun h => ?_) (fun h => ?_) | refine qIf_split (fun h => ?_) (fun h => ?_)) <;> (try simp only [h]) <;> (try simp only [bitvec_to_nat] at h) <;> (try simp only [h]) <;> (first | (exfalso; omega) | (focus (exfalso; simp_all; done)) | (simp (disch := omega) only [push_cast,seval,h]) | skip))
 | ((first | refine callD_of false ?_ | refine qcallD_of false ?_); simp (disch := omega) only [push_cast,seval,h])
 | ((first | ((first | refine call0D (BCall.ofP (szView_ok _ _ _ _ _ _ ?_ ?_)) ?_ | refine qcall0D (BCall.ofP (szView_ok _ _ _ _ _ _ ?_ ?_)) ⟨_,_,rfl,rfl⟩ ?_); (iterate 2 (exact sd)); rintro _ _ ⟨rfl,rfl⟩)) <;> (try simp (disch := omega) only [push_cast,seval,h]))
 | (refine awp_ret ⟨.inr rfl,_,rfl,?_⟩; (try simp (disch := omega) only [push_cast,seval,h]))))
    all_goals (refine ⟨_,?_,rfl⟩; omega)


set_option maxHeartbeats 8000000 in
theorem szExportS_ok (es : List Ex) (n : Nat) (k : Int) (hn : es.length = n) (hk : 0 ≤ k ∧ k ≤ 1048576) (hb : n ≤ 9223372036854775807 ∧ exB 9223372036854775807 es) : PCall Tryd.prog 28 [.rows false (EL false es) n,.int .i64 k] (fun r => ∃ z : Int,(0 ≤ z → z ≤ k ∧ es.length ≤ 1048576 ∧ exB 1048576 es) ∧ r = .int .i64 z) := by
  subst hn
  obtain ⟨hb1,hb2⟩ := hb
  refine pcall_of l28_eq rfl ?_
  have hel := EL_length false es
  by_cases h0 : k - (es.length : Int) < 0
  · (repeat' (first
 | (first | refine awp_seq ?_ | refine awp_block ?_)
 | ((first | refine awp_reg ?_ | refine awp_condB ?_ | refine awp_skip ?_ | refine awp_exit ?_); simp (disch := omega) only [push_cast,seval,l28r0,l28r1,l28r2,l28r3,l28r4,l28r5,l28r6,l28r7,l28r8,l28r9,l28r10,h0,innL_EL])
 | ((first | refine condB_split (fun h => ?_) (fun h => ?_) | refine gIf_split (fun h => ?_) (fun h => ?_) | refine qIf_split (fun h => ?_) (fun h => ?_)) <;> (try simp only [h]) <;> (try simp only [bitvec_to_nat] at h) <;> (try simp only [h]) <;> (first | (exfalso; omega) | (focus (exfalso; simp_all; done)) | (simp (disch := omega) only [push_cast,seval,h0,innL_EL]) | skip))
 | ((first | refine callD_of false ?_ | refine qcallD_of false ?_); simp (disch := omega) only [push_cast,seval,h0,innL_EL])
 | ((first | (refine call0D (BCall.ofP (szExport_ok _ _ _ _ _ _ _ _ ?_ ?_ ?_ ?_)) ?_; (iterate 4 (exact sd)); rintro _ _ ⟨⟨z0,hz0,rfl⟩,rfl⟩)) <;> (try simp (disch := omega) only [push_cast,seval,h0,innL_EL]))
 | (refine awp_ret ⟨.inr rfl,_,rfl,?_⟩; (try simp (disch := omega) only [push_cast,seval,h0,innL_EL]))))
    all_goals exact ⟨_,by omega,rfl⟩
  · (repeat' (first
 | (first | refine awp_seq ?_ | refine awp_block ?_)
 | ((first | refine awp_reg ?_ | refine awp_condB ?_ | refine awp_skip ?_ | refine awp_exit ?_); simp (disch := omega) only [push_cast,seval,l28r0,l28r1,l28r2,l28r3,l28r4,l28r5,l28r6,l28r7,l28r8,l28r9,l28r10,h0,innL_EL])
 | ((first | refine condB_split (fun h => ?_) (fun h => ?_) | refine gIf_split (fun h => ?_) (fun h => ?_) | refine qIf_split (fun h => ?_) (fun h => ?_)) <;> (try simp only [h]) <;> (try simp only [bitvec_to_nat] at h) <;> (try simp only [h]) <;> (first | (exfalso; omega) | (focus (exfalso; simp_all; done)) | (simp (disch := omega) only [push_cast,seval,h0,innL_EL]) | skip))
 | ((first | refine callD_of false ?_ | refine qcallD_of false ?_); simp (disch := omega) only [push_cast,seval,h0,innL_EL])
 | ((first | (refine call0D (BCall.ofP (szExport_ok _ _ _ _ _ _ _ _ ?_ ?_ ?_ ?_)) ?_; (iterate 4 (exact sd)); rintro _ _ ⟨⟨z0,hz0,rfl⟩,rfl⟩)) <;> (try simp (disch := omega) only [push_cast,seval,h0,innL_EL]))
 | (refine awp_ret ⟨.inr rfl,_,rfl,?_⟩; (try simp (disch := omega) only [push_cast,seval,h0,innL_EL]))))
    refine awp_loop (fun x : Nat × Int => mkS [(0,.rows false (EL false es) es.length),(1,.int .i64 x.2),(5,.int .i64 x.1)] []) (fun x => x.1 ≤ es.length ∧ (0 ≤ x.2 ∧ x.2 ≤ k) ∧ ∀ j e,j < x.1 → es[j]? = some e → e.2.1.2.1.length ≤ 1048576 ∧ e.2.1.2.2.length ≤ 1048576) (fun x => es.length - x.1) (0,k - es.length) ⟨Nat.zero_le _,by simp only; omega,fun j v h => absurd h (Nat.not_lt_zero _)⟩ ?_ ?_
    · (refine Sub.of_lists ?_ ?_ ?_ ?_ ?_ <;> simp [Vw.mkS,Vw.lk,Vw.hk,AV.inn,innL,innL_ints,innL_append,innL_rep,-List.map_set,-List.getD_eq_getElem?_getD,innL_EL])
    · rintro ⟨i,z⟩ ⟨hi,hz,hall⟩
      simp only at hi hz hall ⊢
      have hzk : 0 ≤ z ∧ z ≤ 1048576 := by omega
      by_cases hlt : i < es.length
      · obtain ⟨p,b,x,y,o,he⟩ := mem_ltH hlt
        have hbb := exB_get hb2 he
        have hd := EL_drop false es i he
        simp only at hd
        have hil : i * 5 + 5 ≤ es.length * 5 := by omega
        (repeat' (first
 | (first | refine awp_seq ?_ | refine awp_block ?_)
 | ((first | refine awp_reg ?_ | refine awp_condB ?_ | refine awp_skip ?_ | refine awp_exit ?_); simp (disch := omega) only [push_cast,seval,l28r0,l28r1,l28r2,l28r3,l28r4,l28r5,l28r6,l28r7,l28r8,l28r9,l28r10,hd,hel,hil,innL_EL])
 | ((first | refine condB_split (fun h => ?_) (fun h => ?_) | refine gIf_split (fun h => ?_) (fun h => ?_) | refine qIf_split (fun h => ?_) (fun h => ?_)) <;> (try simp only [h]) <;> (try simp only [bitvec_to_nat] at h) <;> (try simp only [h]) <;> (first | (exfalso; omega) | (focus (exfalso; simp_all; done)) | (simp (disch := omega) only [push_cast,seval,hd,hel,hil,innL_EL]) | skip))
 | ((first | refine callD_of false ?_ | refine qcallD_of false ?_); simp (disch := omega) only [push_cast,seval,hd,hel,hil,innL_EL])
 | ((first | (refine call0D (BCall.ofP (szExport_ok _ _ _ _ _ _ _ _ ?_ ?_ ?_ ?_)) ?_; (iterate 4 (exact sd)); rintro _ _ ⟨⟨z0,hz0,rfl⟩,rfl⟩)) <;> (try simp (disch := omega) only [push_cast,seval,hd,hel,hil,innL_EL]))
 | (refine awp_ret ⟨.inr rfl,_,rfl,?_⟩; (try simp (disch := omega) only [push_cast,seval,hd,hel,hil,innL_EL]))))
        · exact ⟨_,by omega,rfl⟩
        · obtain ⟨a1,a2,a3⟩ := hz0 (by assumption)
          refine ⟨(i + 1,z0),⟨by simp only; omega,by simp only; omega,fun j v hj hjv => ?_⟩,by simp only; omega,?_⟩
          · simp only at hj
            by_cases e : j = i
            · subst e; rw [he] at hjv; cases hjv; exact ⟨a2,a3⟩
            · exact hall j v (by omega) hjv
          · (refine Sub.of_lists ?_ ?_ ?_ ?_ ?_ <;> simp [Vw.mkS,Vw.lk,Vw.hk,AV.inn,innL,innL_ints,innL_append,innL_rep,-List.map_set,-List.getD_eq_getElem?_getD,innL_EL])
      · (repeat' (first
 | (first | refine awp_seq ?_ | refine awp_block ?_)
 | ((first | refine awp_reg ?_ | refine awp_condB ?_ | refine awp_skip ?_ | refine awp_exit ?_); simp (disch := omega) only [push_cast,seval,l28r0,l28r1,l28r2,l28r3,l28r4,l28r5,l28r6,l28r7,l28r8,l28r9,l28r10,innL_EL])
 | ((first | refine condB_split (fun h => ?_) (fun h => ?_) | refine gIf_split (fun h => ?_) (fun h => ?_) | refine qIf_split (fun h => ?_) (fun h => ?_)) <;> (try simp only [h]) <;> (try simp only [bitvec_to_nat] at h) <;> (try simp only [h]) <;> (first | (exfalso; omega) | (focus (exfalso; simp_all; done)) | (simp (disch := omega) only [push_cast,seval,innL_EL]) | skip))
 | ((first | refine callD_of false ?_ | refine qcallD_of false ?_); simp (disch := omega) only [push_cast,seval,innL_EL])
 | ((first | (refine call0D (BCall.ofP (szExport_ok _ _ _ _ _ _ _ _ ?_ ?_ ?_ ?_)) ?_; (iterate 4 (exact sd)); rintro _ _ ⟨⟨z0,hz0,rfl⟩,rfl⟩)) <;> (try simp (disch := omega) only [push_cast,seval,innL_EL]))
 | (refine awp_ret ⟨.inr rfl,_,rfl,?_⟩; (try simp (disch := omega) only [push_cast,seval,innL_EL]))))
        all_goals (refine ⟨_,fun _ => ⟨by omega,by omega,fun v hv => ?_⟩,rfl⟩; obtain ⟨j,hj,e⟩ := List.mem_iff_getElem.1 hv; exact hall j v (by omega) (by rw [List.getElem?_eq_getElem hj,e]))


theorem szBuffer_ok (cs : List Int) (es : List Ex) (m n : Nat) (k : Int) (hm : cs.length = m) (hn : es.length = n) (hk : 0 ≤ k ∧ k ≤ 1048576) (hb : m ≤ 9223372036854775807 ∧ n ≤ 9223372036854775807 ∧ exB 9223372036854775807 es) : PCall Tryd.prog 8 [.agg [.rows false (IL cs) m,.rows false (EL false es) n],.int .i64 k] (fun r => ∃ z : Int,(0 ≤ z → z ≤ k ∧ cs.length ≤ 1048576 ∧ es.length ≤ 1048576 ∧ exB 1048576 es) ∧ r = .int .i64 z) := by
  subst hm hn
  obtain ⟨hb1,hb2,hb3⟩ := hb
  refine pcall_of l8_eq rfl ?_
  have hq : es.length ≤ 9223372036854775807 ∧ exB 9223372036854775807 es := ⟨hb2,hb3⟩
  by_cases h : k - (cs.length : Int) < 0
  · (repeat' (first
 | (first | refine awp_seq ?_ | refine awp_block ?_)
 | ((first | refine awp_reg ?_ | refine awp_condB ?_ | refine awp_skip ?_ | refine awp_exit ?_); simp (disch := omega) only [push_cast,seval,l8r0,l8r1,l8r2,l8r3,l8r4,l8r5,l8r6,l8r7,h,innL_EL])
 | ((first | refine condB_split (fun h => ?_) (fun h => ?_) | refine gIf_split (fun h => ?_) (fun h => ?_) | refine qIf_split (fun h => ?_) (fun h => ?_)) <;> (try simp only [h]) <;> (try simp only [bitvec_to_nat] at h) <;> (try simp only [h]) <;> (first | (exfalso; omega) | (focus (exfalso; simp_all; done)) | (simp (disch := omega) only [push_cast,seval,h,innL_EL]) | skip))
 | ((first | refine callD_of false ?_ | refine qcallD_of false ?_); simp (disch := omega) only [push_cast,seval,h,innL_EL])
 | ((first | ((first | refine call0D (BCall.ofP (szIntS_ok _ _ _ ?_ ?_)) ?_ | refine qcall0D (BCall.ofP (szIntS_ok _ _ _ ?_ ?_)) ⟨_,_,rfl,rfl⟩ ?_); (iterate 2 (exact sd)); rintro _ _ ⟨rfl,rfl⟩) | (refine call0D (BCall.ofP (szExportS_ok _ _ _ ?_ ?_ ?_)) ?_; (iterate 3 (exact sd)); rintro _ _ ⟨⟨z2,hz2,rfl⟩,rfl⟩)) <;> (try simp (disch := omega) only [push_cast,seval,h,innL_EL]))
 | (refine awp_ret ⟨.inr rfl,_,rfl,?_⟩; (try simp (disch := omega) only [push_cast,seval,h,innL_EL]))))
    all_goals exact ⟨_,by omega,rfl⟩
  · have hzk : 0 ≤ k - (cs.length : Int) ∧ k - (cs.length : Int) ≤ 1048576 := by omega
    (repeat' (first
 | (first | refine awp_seq ?_ | refine awp_block ?_)
 | ((first | refine awp_reg ?_ | refine awp_condB ?_ | refine awp_skip ?_ | refine awp_exit ?_); simp (disch := omega) only [push_cast,seval,l8r0,l8r1,l8r2,l8r3,l8r4,l8r5,l8r6,l8r7,h,innL_EL])
 | ((first | refine condB_split (fun h => ?_) (fun h => ?_) | refine gIf_split (fun h => ?_) (fun h => ?_) | refine qIf_split (fun h => ?_) (fun h => ?_)) <;> (try simp only [h]) <;> (try simp only [bitvec_to_nat] at h) <;> (try simp only [h]) <;> (first | (exfalso; omega) | (focus (exfalso; simp_all; done)) | (simp (disch := omega) only [push_cast,seval,h,innL_EL]) | skip))
 | ((first | refine callD_of false ?_ | refine qcallD_of false ?_); simp (disch := omega) only [push_cast,seval,h,innL_EL])
 | ((first | ((first | refine call0D (BCall.ofP (szIntS_ok _ _ _ ?_ ?_)) ?_ | refine qcall0D (BCall.ofP (szIntS_ok _ _ _ ?_ ?_)) ⟨_,_,rfl,rfl⟩ ?_); (iterate 2 (exact sd)); rintro _ _ ⟨rfl,rfl⟩) | (refine call0D (BCall.ofP (szExportS_ok _ _ _ ?_ ?_ ?_)) ?_; (iterate 3 (exact sd)); rintro _ _ ⟨⟨z2,hz2,rfl⟩,rfl⟩)) <;> (try simp (disch := omega) only [push_cast,seval,h,innL_EL]))
 | (refine awp_ret ⟨.inr rfl,_,rfl,?_⟩; (try simp (disch := omega) only [push_cast,seval,h,innL_EL]))))
    · exact ⟨_,by omega,rfl⟩
    · obtain ⟨a1,a2,a3⟩ := hz2 (by assumption)
      exact ⟨_,fun _ => ⟨by omega,by omega,a2,a3⟩,rfl⟩


set_option maxHeartbeats 8000000 in
theorem toBufferP_ok (cs : List Int) (es : List Ex) (m n : Nat) (hm : cs.length = m) (hn : es.length = n) (hb : m ≤ 1048576 ∧ n ≤ 1048576 ∧ exB 1048576 es) : PCall Tryd.prog 10 [.agg [.rows false (IL cs) m,.rows false (EL false es) n]] (fun r => r = .agg [.rows true (IL cs) m,.rows true (EL true es) n]) := by
  subst hm hn
  obtain ⟨hb1,hb2,hb3⟩ := hb
  have hq : es.length ≤ 1048576 ∧ exB 1099511627776 es := ⟨hb2,fun e he => by have := hb3 e he; omega⟩
  refine pcall_of l10_eq rfl ?_
  (repeat' (first
 | (first | refine awp_seq ?_ | refine awp_block ?_)
 | ((first | refine awp_reg ?_ | refine awp_condB ?_ | refine awp_skip ?_ | refine awp_exit ?_); simp (disch := omega) only [push_cast,seval,l10r0,l10r1,l10r2,l10r3,l10r4,innL_EL,fz_EL,fz_IL])
 | ((first | refine condB_split (fun h => ?_) (fun h => ?_) | refine gIf_split (fun h => ?_) (fun h => ?_) | refine qIf_split (fun h => ?_) (fun h => ?_)) <;> (try simp only [h]) <;> (try simp only [bitvec_to_nat] at h) <;> (try simp only [h]) <;> (first | (exfalso; omega) | (focus (exfalso; simp_all; done)) | (simp (disch := omega) only [push_cast,seval,innL_EL,fz_EL,fz_IL]) | skip))
 | ((first | refine callD_of false ?_ | refine qcallD_of false ?_); simp (disch := omega) only [push_cast,seval,innL_EL,fz_EL,fz_IL])
 | ((first | ((first | refine call0D (toIntS_ok _ _ ?_ ?_) ?_ | refine qcall0D (toIntS_ok _ _ ?_ ?_) ⟨_,_,rfl,rfl⟩ ?_); (iterate 2 (exact sd)); rintro _ _ ⟨rfl,rfl⟩) | ((first | refine call0D (BCall.ofP (toExportSP_ok _ _ ?_ ?_)) ?_ | refine qcall0D (BCall.ofP (toExportSP_ok _ _ ?_ ?_)) ⟨_,_,rfl,rfl⟩ ?_); (iterate 2 (exact sd)); rintro _ _ ⟨rfl,rfl⟩)) <;> (try simp (disch := omega) only [push_cast,seval,innL_EL,fz_EL,fz_IL]))
 | (refine awp_ret ⟨.inr rfl,_,rfl,?_⟩; (try simp (disch := omega) only [push_cast,seval,innL_EL,fz_EL,fz_IL]))))


theorem eqExport_ok (p b p' b' : Int) (x y x' y' : List Int) (o o' : Bool) (n m n' m' : Nat) (h1 : x.length = n) (h2 : y.length = m) (h3 : x'.length = n') (h4 : y'.length = m') (hb : n ≤ 1099511627776 ∧ m ≤ 1099511627776) : PCall Tryd.prog 72 [.agg [.int .i64 p,.int .i64 b,.rows false (IL x) n,.rows false (IL y) m,.bool o],.agg [.int .i64 p',.int .i64 b',.rows false (IL x') n',.rows false (IL y') m',.bool o']] (fun r => r = .bool (decide ((p,(b,x,y),o) = (p',(b',x',y'),o')))) := by
  subst h1 h2 h3 h4
  refine pcall_of l72_eq rfl ?_
  (repeat' (first
 | (first | refine awp_seq ?_ | refine awp_block ?_)
 | ((first | refine awp_reg ?_ | refine awp_condB ?_ | refine awp_skip ?_ | refine awp_exit ?_); simp (disch := omega) only [push_cast,seval,l72r0,l72r1,l72r2,l72r3,l72r4,l72r5,l72r6,l72r7])
 | ((first | refine condB_split (fun h => ?_) (fun h => ?_) | refine gIf_split (fun h => ?_) (fun h => ?_) | refine qIf_split (fun h => ?_) (fun h => ?_)) <;> (try simp only [h]) <;> (try simp only [bitvec_to_nat] at h) <;> (try simp only [h]) <;> (first | (exfalso; omega) | (focus (exfalso; simp_all; done)) | (simp (disch := omega) only [push_cast,seval]) | skip))
 | ((first | refine callD_of false ?_ | refine qcallD_of false ?_); simp (disch := omega) only [push_cast,seval])
 | ((first | ((first | refine call0D (BCall.ofP (eqView_ok _ _ _ _ _ _ _ _ _ _ ?_ ?_ ?_ ?_ ?_)) ?_ | refine qcall0D (BCall.ofP (eqView_ok _ _ _ _ _ _ _ _ _ _ ?_ ?_ ?_ ?_ ?_)) ⟨_,_,rfl,rfl⟩ ?_); (iterate 5 (exact sd)); rintro _ _ ⟨rfl,rfl⟩)) <;> (try simp (disch := omega) only [push_cast,seval]))
 | (refine awp_ret ⟨.inr rfl,_,rfl,?_⟩; (try simp (disch := omega) only [push_cast,seval]))))
  all_goals (try simp_all)
  all_goals (try (intro e1 e2 e3; simp_all))


set_option maxHeartbeats 8000000 in
theorem eqExportS_ok (es : List Ex) (n : Nat) (hn : es.length = n) (hb : n ≤ 1048576 ∧ exB 1048576 es) : PCall Tryd.prog 41 [.rows false (EL false es) n,.rows false (EL false es) n] (fun r => r = .bool true) := by
  subst hn
  obtain ⟨hb1,hb2⟩ := hb
  refine pcall_of l41_eq rfl ?_
  have hel := EL_length false es
  (repeat' (first
 | (first | refine awp_seq ?_ | refine awp_block ?_)
 | ((first | refine awp_reg ?_ | refine awp_draw (mid := l41r5a) (post := l41r5b) mixed (by decide) ?_ | refine awp_condB ?_ | refine awp_skip ?_ | refine awp_exit ?_); simp (disch := omega) only [push_cast,seval,l41r0,l41r1,l41r2,l41r3,l41r4,l41r5a,l41r5b,l41r5,l41r6,l41r7,l41r8,innL_EL,decide_true])
 | ((first | refine condB_split (fun h => ?_) (fun h => ?_) | refine gIf_split (fun h => ?_) (fun h => ?_) | refine qIf_split (fun h => ?_) (fun h => ?_)) <;> (try simp only [h]) <;> (try simp only [bitvec_to_nat] at h) <;> (try simp only [h]) <;> (first | (exfalso; omega) | (focus (exfalso; simp_all; done)) | (simp (disch := omega) only [push_cast,seval,innL_EL,decide_true]) | skip))
 | ((first | refine callD_of false ?_ | refine qcallD_of false ?_); simp (disch := omega) only [push_cast,seval,innL_EL,decide_true])
 | ((first | ((first | refine call0D (BCall.ofP (eqExport_ok _ _ _ _ _ _ _ _ _ _ _ _ _ _ ?_ ?_ ?_ ?_ ?_)) ?_ | refine qcall0D (BCall.ofP (eqExport_ok _ _ _ _ _ _ _ _ _ _ _ _ _ _ ?_ ?_ ?_ ?_ ?_)) ⟨_,_,rfl,rfl⟩ ?_); (iterate 5 (exact sd)); rintro _ _ ⟨rfl,rfl⟩)) <;> (try simp (disch := omega) only [push_cast,seval,innL_EL,decide_true]))
 | (refine awp_ret ⟨.inr rfl,_,rfl,?_⟩; (try simp (disch := omega) only [push_cast,seval,innL_EL,decide_true]))))
  refine awp_loop (fun i : Nat => mkS [(0,.rows false (EL false es) es.length),(1,.rows false (EL false es) es.length),(5,.int .i64 i)] []) (fun i => i ≤ es.length) (fun i => es.length - i) 0 (Nat.zero_le _) ?_ ?_
  · (refine Sub.of_lists ?_ ?_ ?_ ?_ ?_ <;> simp [Vw.mkS,Vw.lk,Vw.hk,AV.inn,innL,innL_ints,innL_append,innL_rep,-List.map_set,-List.getD_eq_getElem?_getD,innL_EL])
  · intro i hi
    by_cases hlt : i < es.length
    · obtain ⟨p,b,x,y,o,he⟩ := mem_ltH hlt
      have hbb := exB_get hb2 he
      have hd := EL_drop false es i he
      simp only at hd
      have hil : i * 5 + 5 ≤ es.length * 5 := by omega
      (repeat' (first
 | (first | refine awp_seq ?_ | refine awp_block ?_)
 | ((first | refine awp_reg ?_ | refine awp_draw (mid := l41r5a) (post := l41r5b) mixed (by decide) ?_ | refine awp_condB ?_ | refine awp_skip ?_ | refine awp_exit ?_); simp (disch := omega) only [push_cast,seval,l41r0,l41r1,l41r2,l41r3,l41r4,l41r5a,l41r5b,l41r5,l41r6,l41r7,l41r8,hd,hel,hil,innL_EL,decide_true])
 | ((first | refine condB_split (fun h => ?_) (fun h => ?_) | refine gIf_split (fun h => ?_) (fun h => ?_) | refine qIf_split (fun h => ?_) (fun h => ?_)) <;> (try simp only [h]) <;> (try simp only [bitvec_to_nat] at h) <;> (try simp only [h]) <;> (first | (exfalso; omega) | (focus (exfalso; simp_all; done)) | (simp (disch := omega) only [push_cast,seval,hd,hel,hil,innL_EL,decide_true]) | skip))
 | ((first | refine callD_of false ?_ | refine qcallD_of false ?_); simp (disch := omega) only [push_cast,seval,hd,hel,hil,innL_EL,decide_true])
 | ((first | ((first | refine call0D (BCall.ofP (eqExport_ok _ _ _ _ _ _ _ _ _ _ _ _ _ _ ?_ ?_ ?_ ?_ ?_)) ?_ | refine qcall0D (BCall.ofP (eqExport_ok _ _ _ _ _ _ _ _ _ _ _ _ _ _ ?_ ?_ ?_ ?_ ?_)) ⟨_,_,rfl,rfl⟩ ?_); (iterate 5 (exact sd)); rintro _ _ ⟨rfl,rfl⟩)) <;> (try simp (disch := omega) only [push_cast,seval,hd,hel,hil,innL_EL,decide_true]))
 | (refine awp_ret ⟨.inr rfl,_,rfl,?_⟩; (try simp (disch := omega) only [push_cast,seval,hd,hel,hil,innL_EL,decide_true]))))
      refine ⟨i + 1,by omega,by omega,?_⟩
      (refine Sub.of_lists ?_ ?_ ?_ ?_ ?_ <;> simp [Vw.mkS,Vw.lk,Vw.hk,AV.inn,innL,innL_ints,innL_append,innL_rep,-List.map_set,-List.getD_eq_getElem?_getD,innL_EL])
    · (repeat' (first
 | (first | refine awp_seq ?_ | refine awp_block ?_)
 | ((first | refine awp_reg ?_ | refine awp_draw (mid := l41r5a) (post := l41r5b) mixed (by decide) ?_ | refine awp_condB ?_ | refine awp_skip ?_ | refine awp_exit ?_); simp (disch := omega) only [push_cast,seval,l41r0,l41r1,l41r2,l41r3,l41r4,l41r5a,l41r5b,l41r5,l41r6,l41r7,l41r8,innL_EL])
 | ((first | refine condB_split (fun h => ?_) (fun h => ?_) | refine gIf_split (fun h => ?_) (fun h => ?_) | refine qIf_split (fun h => ?_) (fun h => ?_)) <;> (try simp only [h]) <;> (try simp only [bitvec_to_nat] at h) <;> (try simp only [h]) <;> (first | (exfalso; omega) | (focus (exfalso; simp_all; done)) | (simp (disch := omega) only [push_cast,seval,innL_EL]) | skip))
 | ((first | refine callD_of false ?_ | refine qcallD_of false ?_); simp (disch := omega) only [push_cast,seval,innL_EL])
 | ((first | ((first | refine call0D (BCall.ofP (eqExport_ok _ _ _ _ _ _ _ _ _ _ _ _ _ _ ?_ ?_ ?_ ?_ ?_)) ?_ | refine qcall0D (BCall.ofP (eqExport_ok _ _ _ _ _ _ _ _ _ _ _ _ _ _ ?_ ?_ ?_ ?_ ?_)) ⟨_,_,rfl,rfl⟩ ?_); (iterate 5 (exact sd)); rintro _ _ ⟨rfl,rfl⟩)) <;> (try simp (disch := omega) only [push_cast,seval,innL_EL]))
 | (refine awp_ret ⟨.inr rfl,_,rfl,?_⟩; (try simp (disch := omega) only [push_cast,seval,innL_EL]))))


theorem eqBuffer_ok (cs : List Int) (es : List Ex) (m n : Nat) (hm : cs.length = m) (hn : es.length = n) (hb : m ≤ 1048576 ∧ n ≤ 1048576 ∧ exB 1048576 es) : PCall Tryd.prog 12 [.agg [.rows false (IL cs) m,.rows false (EL false es) n],.agg [.rows false (IL cs) m,.rows false (EL false es) n]] (fun r => r = .bool true) := by
  subst hm hn
  obtain ⟨hb1,hb2,hb3⟩ := hb
  have hq : es.length ≤ 1048576 ∧ exB 1048576 es := ⟨hb2,hb3⟩
  refine pcall_of l12_eq rfl ?_
  (repeat' (first
 | (first | refine awp_seq ?_ | refine awp_block ?_)
 | ((first | refine awp_reg ?_ | refine awp_condB ?_ | refine awp_skip ?_ | refine awp_exit ?_); simp (disch := omega) only [push_cast,seval,l12r0,l12r1,l12r2,l12r3,l12r4,l12r5,innL_EL,decide_true])
 | ((first | refine condB_split (fun h => ?_) (fun h => ?_) | refine gIf_split (fun h => ?_) (fun h => ?_) | refine qIf_split (fun h => ?_) (fun h => ?_)) <;> (try simp only [h]) <;> (try simp only [bitvec_to_nat] at h) <;> (try simp only [h]) <;> (first | (exfalso; omega) | (focus (exfalso; simp_all; done)) | (simp (disch := omega) only [push_cast,seval,innL_EL,decide_true]) | skip))
 | ((first | refine callD_of false ?_ | refine qcallD_of false ?_); simp (disch := omega) only [push_cast,seval,innL_EL,decide_true])
 | ((first | ((first | refine call0D (BCall.ofP (eqIntS_ok _ _ _ _ ?_ ?_ ?_)) ?_ | refine qcall0D (BCall.ofP (eqIntS_ok _ _ _ _ ?_ ?_ ?_)) ⟨_,_,rfl,rfl⟩ ?_); (iterate 3 (exact sd)); rintro _ _ ⟨rfl,rfl⟩) | ((first | refine call0D (BCall.ofP (eqExportS_ok _ _ ?_ ?_)) ?_ | refine qcall0D (BCall.ofP (eqExportS_ok _ _ ?_ ?_)) ⟨_,_,rfl,rfl⟩ ?_); (iterate 2 (exact sd)); rintro _ _ ⟨rfl,rfl⟩)) <;> (try simp (disch := omega) only [push_cast,seval,innL_EL,decide_true]))
 | (refine awp_ret ⟨.inr rfl,_,rfl,?_⟩; (try simp (disch := omega) only [push_cast,seval,innL_EL,decide_true]))))

end Go.Proofs.YtahdlohpncjdbaaDoor
