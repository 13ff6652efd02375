import Derived.Test.YtielfbmofoolbaaCKc9
import Derived.Test.YtielfbmofoolbaaCM1
import Derived.Test.YtielfbmofoolbaaCW3
set_option linter.unusedSimpArgs false
set_option linter.unusedVariables false
set_option maxRecDepth 4000
set_option maxHeartbeats 4000000
namespace Go.Proofs.Ytielfbmofoolbaa
open VwM Vw Go

set_option maxHeartbeats 8000000 in
theorem iWindowsOf_ok (b : Int) (sh st : List Int) (n m : Nat) (d s : Int) (hn : sh.length = n) (hm : st.length = m) (hb : n ≤ 1099511627776 ∧ m ≤ 1099511627776) :
    BCall Try.prog 22 [.agg [.int .i64 b,.rows false (IL sh) n,.rows false (IL st) m],.int .i64 d,.int .i64 s] [] (MV (wnOk b sh st d s) b (winSh sh d.toNat s) (winSt st d.toNat)) := by
  subst hn hm
  obtain ⟨hb1,hb2⟩ := hb
  refine bcall_of (pins := []) (pin := 0) l22_eq rfl rfl rfl ?_
  cases hv : vV b sh st with
  | false =>
    have e : wnOk b sh st d s = false := by simp [wnOk,hv]
    rw [e]
    (repeat' (first
 | (first | refine awp_seq ?_ | refine awp_block ?_)
 | ((first | refine awp_reg ?_ | refine awp_draw (mid := l22r5a) (post := l22r5b) mixed (by decide) ?_ | refine awp_condB ?_ | refine awp_skip ?_ | refine awp_exit ?_); simp (disch := omega) only [push_cast,seval,l22r0,l22r1,l22r2,l22r3,l22r4,l22r5a,l22r5b,l22r5,l22r6,l22r7,l22r8,l22r9,hv])
 | ((first | refine condB_split (fun h => ?_) (fun h => ?_) | refine gIf_split (fun h => ?_) (fun h => ?_) | refine qIf_split (fun h => ?_) (fun h => ?_)) <;> (try simp only [h]) <;> (try simp only [decide_eq_true_eq,decide_eq_false_iff_not,Bool.not_eq_true',Bool.not_eq_false',Bool.and_eq_true,Bool.or_eq_true,Bool.and_eq_false_iff,Bool.or_eq_false_iff,bne_iff_ne,ne_eq,beq_iff_eq,Bool.not_eq_true,Bool.not_eq_false] at h) <;> (try simp only [h]) <;> (first | (exfalso; omega) | (focus (exfalso; simp_all; done)) | (simp (disch := omega) only [push_cast,seval,hv]) | skip))
 | ((first | ((with_reducible refine callD_of (f := 32) true ?_); simp (disch := omega) only [push_cast,seval,hv]; (refine call0D (wholeOf_ok _ _ _ _ _ ?_ ?_ ?_) ?_; (iterate 3 (focus (first | assumption | rfl | omega | (simp <;> omega) | (simp_all <;> omega)))); rintro _ _ ⟨rfl,rfl⟩))) <;> (try simp (disch := omega) only [push_cast,seval,hv]))
 | ((first | refine callD_of false ?_ | refine qcallD_of false ?_); simp (disch := omega) only [push_cast,seval,hv])
 | ((first | ((first | refine call0D (BCall.ofP (hasDim_ok _ _ _ _ _ _ ?_ ?_ ?_)) ?_ | refine qcall0D (BCall.ofP (hasDim_ok _ _ _ _ _ _ ?_ ?_ ?_)) ⟨_,_,rfl,rfl⟩ ?_); (iterate 3 (focus (first | assumption | rfl | omega | (simp <;> omega) | (simp_all <;> omega)))); rintro _ _ ⟨rfl,rfl⟩) | ((first | refine call0D (partview4_ok _ _ _ _ _ _ _ _ _ _ _ _ ?_ ?_ ?_) ?_ | refine qcall0D (partview4_ok _ _ _ _ _ _ _ _ _ _ _ _ ?_ ?_ ?_) ⟨_,_,rfl,rfl⟩ ?_); (iterate 3 (focus (first | assumption | rfl | omega | (simp <;> omega) | (simp_all <;> omega)))); rintro _ _ ⟨rfl,rfl⟩) | ((first | refine call0D (BCall.ofP (iValidView_ok _ _ _ _ _ ?_ ?_ ?_)) ?_ | refine qcall0D (BCall.ofP (iValidView_ok _ _ _ _ _ ?_ ?_ ?_)) ⟨_,_,rfl,rfl⟩ ?_); (iterate 3 (focus (first | assumption | rfl | omega | (simp <;> omega) | (simp_all <;> omega)))); rintro _ _ ⟨rfl,rfl⟩)) <;> (try simp (disch := omega) only [push_cast,seval,hv]))
 | (refine awp_ret ⟨.inr rfl,[16000,16016],[(16000,1),(16016,1)],_,by decide,rfl,?_⟩; (try simp (disch := omega) only [push_cast,seval,↓allMem_nil,↓allMem_cons,↓List.map_cons,↓List.map_nil,hv]))))
    all_goals simp [MV,MVB,MVL]
  | true =>
  by_cases hd : 0 ≤ d ∧ d ≤ (sh.length : Int) - 1
  · have hd' := tru_and hd
    obtain ⟨j,rfl⟩ : ∃ j : Nat,d = j := ⟨d.toNat,by omega⟩
    have hj : j < sh.length := by omega
    by_cases hs : 1 ≤ s ∧ s ≤ sh.getD j 0
    · have hs' := tru_and hs
      have e : wnOk b sh st j s = vV b (winSh sh j s) (winSt st j) := by simp only [wnOk,hv,hs',hd',Int.toNat_natCast,Bool.true_and]
      rw [e]
      simp only [Int.toNat_natCast]
      obtain ⟨hok,hlen⟩ := okV_valid hv
      have hj2 : j < st.length := by omega
      have hl4 := hok.1.1.2
      have hx := good4_at hok.1.1 hj
      have hq1 : st.length = sh.length ∧ sh.length ≤ 1000 := by omega
      have hs1 : ¬ s < 1 := by omega
      have hs2 : ¬ sh.getD j 0 < s := by omega
      have hdl := dm_length (sh := sh) (st := st) hlen
      have ea : sh.getD j 0 - (s - 1) = sh.getD j 0 - s + 1 := by omega
      have g1 := dm_even hj hlen
      have ds := dm_set_even (sh := sh) (st := st) (k := j) (sh.getD j 0 - s + 1) hj hlen
      have dn := dm_snoc (sh := sh.set j (sh.getD j 0 - s + 1)) (st := st) s (st.getD j 0) (by simp; omega)
      have dl3 : (dm (sh.set j (sh.getD j 0 - s + 1)) st).length = sh.length * 2 := by rw [dm_length (by simp; omega)]; simp
      have dl4 : (dm (sh.set j (sh.getD j 0 - s + 1) ++ [s]) (st ++ [st.getD j 0])).length = (sh.length + 1) * 2 := by rw [dm_length (by simp; omega)]; simp
      have hw1 : (winSt st j).length = (winSh sh j s).length ∧ (winSh sh j s).length = sh.length + 1 := by simp [winSh,winSt]; omega
      have hw2 : (winSh sh j s).length ≤ 1099511627776 ∧ (winSt st j).length ≤ 1099511627776 := by omega
      have ww1 : sh.set j (sh.getD j 0 - s + 1) ++ [s] = winSh sh j s := rfl
      have ww2 : st ++ [st.getD j 0] = winSt st j := rfl
      rw [ww1,ww2] at dn dl4
      have hpv := And.intro (pv_ok hv) (show sh.length + 1 ≤ 1000 by omega)
      have d0 := dot_at4 st st.length
      generalize winSh sh j s = A at *
      generalize winSt st j = B at *
      cases hw : vV b A B with
 | false =>
        (repeat' (first
 | (first | refine awp_seq ?_ | refine awp_block ?_)
 | ((first | refine awp_reg ?_ | refine awp_draw (mid := l22r5a) (post := l22r5b) mixed (by decide) ?_ | refine awp_condB ?_ | refine awp_skip ?_ | refine awp_exit ?_); simp (disch := omega) only [push_cast,seval,l22r0,l22r1,l22r2,l22r3,l22r4,l22r5a,l22r5b,l22r5,l22r6,l22r7,l22r8,l22r9,hv,hd',hs1,hs2,hdl,ea,g1,IL_set,ds,dl3,snoc2,dn,dl4,d0,Int.add_zero,hw])
 | ((first | refine condB_split (fun h => ?_) (fun h => ?_) | refine gIf_split (fun h => ?_) (fun h => ?_) | refine qIf_split (fun h => ?_) (fun h => ?_)) <;> (try simp only [h]) <;> (try simp only [decide_eq_true_eq,decide_eq_false_iff_not,Bool.not_eq_true',Bool.not_eq_false',Bool.and_eq_true,Bool.or_eq_true,Bool.and_eq_false_iff,Bool.or_eq_false_iff,bne_iff_ne,ne_eq,beq_iff_eq,Bool.not_eq_true,Bool.not_eq_false] at h) <;> (try simp only [h]) <;> (first | (exfalso; omega) | (focus (exfalso; simp_all; done)) | (simp (disch := omega) only [push_cast,seval,hv,hd',hs1,hs2,hdl,ea,g1,IL_set,ds,dl3,snoc2,dn,dl4,d0,Int.add_zero,hw]) | skip))
 | ((first | ((with_reducible refine callD_of (f := 32) true ?_); simp (disch := omega) only [push_cast,seval,hv,hd',hs1,hs2,hdl,ea,g1,IL_set,ds,dl3,snoc2,dn,dl4,d0,Int.add_zero,hw]; (refine call0D (wholeOf_ok _ _ _ _ _ ?_ ?_ ?_) ?_; (iterate 3 (focus (first | assumption | rfl | omega | (simp <;> omega) | (simp_all <;> omega)))); rintro _ _ ⟨rfl,rfl⟩))) <;> (try simp (disch := omega) only [push_cast,seval,hv,hd',hs1,hs2,hdl,ea,g1,IL_set,ds,dl3,snoc2,dn,dl4,d0,Int.add_zero,hw]))
 | ((first | refine callD_of false ?_ | refine qcallD_of false ?_); simp (disch := omega) only [push_cast,seval,hv,hd',hs1,hs2,hdl,ea,g1,IL_set,ds,dl3,snoc2,dn,dl4,d0,Int.add_zero,hw])
 | ((first | ((first | refine call0D (BCall.ofP (hasDim_ok _ _ _ _ _ _ ?_ ?_ ?_)) ?_ | refine qcall0D (BCall.ofP (hasDim_ok _ _ _ _ _ _ ?_ ?_ ?_)) ⟨_,_,rfl,rfl⟩ ?_); (iterate 3 (focus (first | assumption | rfl | omega | (simp <;> omega) | (simp_all <;> omega)))); rintro _ _ ⟨rfl,rfl⟩) | ((first | refine call0D (partview4_ok _ _ _ _ _ _ _ _ _ _ _ _ ?_ ?_ ?_) ?_ | refine qcall0D (partview4_ok _ _ _ _ _ _ _ _ _ _ _ _ ?_ ?_ ?_) ⟨_,_,rfl,rfl⟩ ?_); (iterate 3 (focus (first | assumption | rfl | omega | (simp <;> omega) | (simp_all <;> omega)))); rintro _ _ ⟨rfl,rfl⟩) | ((first | refine call0D (BCall.ofP (iValidView_ok _ _ _ _ _ ?_ ?_ ?_)) ?_ | refine qcall0D (BCall.ofP (iValidView_ok _ _ _ _ _ ?_ ?_ ?_)) ⟨_,_,rfl,rfl⟩ ?_); (iterate 3 (focus (first | assumption | rfl | omega | (simp <;> omega) | (simp_all <;> omega)))); rintro _ _ ⟨rfl,rfl⟩)) <;> (try simp (disch := omega) only [push_cast,seval,hv,hd',hs1,hs2,hdl,ea,g1,IL_set,ds,dl3,snoc2,dn,dl4,d0,Int.add_zero,hw]))
 | (refine awp_ret ⟨.inr rfl,[16000,16016],[(16000,1),(16016,1)],_,by decide,rfl,?_⟩; (try simp (disch := omega) only [push_cast,seval,↓allMem_nil,↓allMem_cons,↓List.map_cons,↓List.map_nil,hv,hd',hs1,hs2,hdl,ea,g1,IL_set,ds,dl3,snoc2,dn,dl4,d0,Int.add_zero,hw]))))
        all_goals simp [MV,MVB,MVL]
 | true =>
        (repeat' (first
 | (first | refine awp_seq ?_ | refine awp_block ?_)
 | ((first | refine awp_reg ?_ | refine awp_draw (mid := l22r5a) (post := l22r5b) mixed (by decide) ?_ | refine awp_condB ?_ | refine awp_skip ?_ | refine awp_exit ?_); simp (disch := omega) only [push_cast,seval,l22r0,l22r1,l22r2,l22r3,l22r4,l22r5a,l22r5b,l22r5,l22r6,l22r7,l22r8,l22r9,hv,hd',hs1,hs2,hdl,ea,g1,IL_set,ds,dl3,snoc2,dn,dl4,d0,Int.add_zero,hw])
 | ((first | refine condB_split (fun h => ?_) (fun h => ?_) | refine gIf_split (fun h => ?_) (fun h => ?_) | refine qIf_split (fun h => ?_) (fun h => ?_)) <;> (try simp only [h]) <;> (try simp only [decide_eq_true_eq,decide_eq_false_iff_not,Bool.not_eq_true',Bool.not_eq_false',Bool.and_eq_true,Bool.or_eq_true,Bool.and_eq_false_iff,Bool.or_eq_false_iff,bne_iff_ne,ne_eq,beq_iff_eq,Bool.not_eq_true,Bool.not_eq_false] at h) <;> (try simp only [h]) <;> (first | (exfalso; omega) | (focus (exfalso; simp_all; done)) | (simp (disch := omega) only [push_cast,seval,hv,hd',hs1,hs2,hdl,ea,g1,IL_set,ds,dl3,snoc2,dn,dl4,d0,Int.add_zero,hw]) | skip))
 | ((first | ((with_reducible refine callD_of (f := 32) true ?_); simp (disch := omega) only [push_cast,seval,hv,hd',hs1,hs2,hdl,ea,g1,IL_set,ds,dl3,snoc2,dn,dl4,d0,Int.add_zero,hw]; (refine call0D (wholeOf_ok _ _ _ _ _ ?_ ?_ ?_) ?_; (iterate 3 (focus (first | assumption | rfl | omega | (simp <;> omega) | (simp_all <;> omega)))); rintro _ _ ⟨rfl,rfl⟩))) <;> (try simp (disch := omega) only [push_cast,seval,hv,hd',hs1,hs2,hdl,ea,g1,IL_set,ds,dl3,snoc2,dn,dl4,d0,Int.add_zero,hw]))
 | ((first | refine callD_of false ?_ | refine qcallD_of false ?_); simp (disch := omega) only [push_cast,seval,hv,hd',hs1,hs2,hdl,ea,g1,IL_set,ds,dl3,snoc2,dn,dl4,d0,Int.add_zero,hw])
 | ((first | ((first | refine call0D (BCall.ofP (hasDim_ok _ _ _ _ _ _ ?_ ?_ ?_)) ?_ | refine qcall0D (BCall.ofP (hasDim_ok _ _ _ _ _ _ ?_ ?_ ?_)) ⟨_,_,rfl,rfl⟩ ?_); (iterate 3 (focus (first | assumption | rfl | omega | (simp <;> omega) | (simp_all <;> omega)))); rintro _ _ ⟨rfl,rfl⟩) | ((first | refine call0D (partview4_ok _ _ _ _ _ _ _ _ _ _ _ _ ?_ ?_ ?_) ?_ | refine qcall0D (partview4_ok _ _ _ _ _ _ _ _ _ _ _ _ ?_ ?_ ?_) ⟨_,_,rfl,rfl⟩ ?_); (iterate 3 (focus (first | assumption | rfl | omega | (simp <;> omega) | (simp_all <;> omega)))); rintro _ _ ⟨rfl,rfl⟩) | ((first | refine call0D (BCall.ofP (iValidView_ok _ _ _ _ _ ?_ ?_ ?_)) ?_ | refine qcall0D (BCall.ofP (iValidView_ok _ _ _ _ _ ?_ ?_ ?_)) ⟨_,_,rfl,rfl⟩ ?_); (iterate 3 (focus (first | assumption | rfl | omega | (simp <;> omega) | (simp_all <;> omega)))); rintro _ _ ⟨rfl,rfl⟩)) <;> (try simp (disch := omega) only [push_cast,seval,hv,hd',hs1,hs2,hdl,ea,g1,IL_set,ds,dl3,snoc2,dn,dl4,d0,Int.add_zero,hw]))
 | (refine awp_ret ⟨.inr rfl,[864,865],[],_,by decide,rfl,?_⟩; (try simp (disch := omega) only [push_cast,seval,↓allMem_nil,↓allMem_cons,↓List.map_cons,↓List.map_nil,hv,hd',hs1,hs2,hdl,ea,g1,IL_set,ds,dl3,snoc2,dn,dl4,d0,Int.add_zero,hw]))))
        all_goals exact ⟨rfl,rfl⟩
    · have e : wnOk b sh st j s = false := by simp only [wnOk,fls_and hs,Int.toNat_natCast,Bool.and_false,Bool.false_and]
      rw [e]
      by_cases hs1 : s < 1
      · (repeat' (first
 | (first | refine awp_seq ?_ | refine awp_block ?_)
 | ((first | refine awp_reg ?_ | refine awp_draw (mid := l22r5a) (post := l22r5b) mixed (by decide) ?_ | refine awp_condB ?_ | refine awp_skip ?_ | refine awp_exit ?_); simp (disch := omega) only [push_cast,seval,l22r0,l22r1,l22r2,l22r3,l22r4,l22r5a,l22r5b,l22r5,l22r6,l22r7,l22r8,l22r9,hv,hd',hs1])
 | ((first | refine condB_split (fun h => ?_) (fun h => ?_) | refine gIf_split (fun h => ?_) (fun h => ?_) | refine qIf_split (fun h => ?_) (fun h => ?_)) <;> (try simp only [h]) <;> (try simp only [decide_eq_true_eq,decide_eq_false_iff_not,Bool.not_eq_true',Bool.not_eq_false',Bool.and_eq_true,Bool.or_eq_true,Bool.and_eq_false_iff,Bool.or_eq_false_iff,bne_iff_ne,ne_eq,beq_iff_eq,Bool.not_eq_true,Bool.not_eq_false] at h) <;> (try simp only [h]) <;> (first | (exfalso; omega) | (focus (exfalso; simp_all; done)) | (simp (disch := omega) only [push_cast,seval,hv,hd',hs1]) | skip))
 | ((first | ((with_reducible refine callD_of (f := 32) true ?_); simp (disch := omega) only [push_cast,seval,hv,hd',hs1]; (refine call0D (wholeOf_ok _ _ _ _ _ ?_ ?_ ?_) ?_; (iterate 3 (focus (first | assumption | rfl | omega | (simp <;> omega) | (simp_all <;> omega)))); rintro _ _ ⟨rfl,rfl⟩))) <;> (try simp (disch := omega) only [push_cast,seval,hv,hd',hs1]))
 | ((first | refine callD_of false ?_ | refine qcallD_of false ?_); simp (disch := omega) only [push_cast,seval,hv,hd',hs1])
 | ((first | ((first | refine call0D (BCall.ofP (hasDim_ok _ _ _ _ _ _ ?_ ?_ ?_)) ?_ | refine qcall0D (BCall.ofP (hasDim_ok _ _ _ _ _ _ ?_ ?_ ?_)) ⟨_,_,rfl,rfl⟩ ?_); (iterate 3 (focus (first | assumption | rfl | omega | (simp <;> omega) | (simp_all <;> omega)))); rintro _ _ ⟨rfl,rfl⟩) | ((first | refine call0D (partview4_ok _ _ _ _ _ _ _ _ _ _ _ _ ?_ ?_ ?_) ?_ | refine qcall0D (partview4_ok _ _ _ _ _ _ _ _ _ _ _ _ ?_ ?_ ?_) ⟨_,_,rfl,rfl⟩ ?_); (iterate 3 (focus (first | assumption | rfl | omega | (simp <;> omega) | (simp_all <;> omega)))); rintro _ _ ⟨rfl,rfl⟩) | ((first | refine call0D (BCall.ofP (iValidView_ok _ _ _ _ _ ?_ ?_ ?_)) ?_ | refine qcall0D (BCall.ofP (iValidView_ok _ _ _ _ _ ?_ ?_ ?_)) ⟨_,_,rfl,rfl⟩ ?_); (iterate 3 (focus (first | assumption | rfl | omega | (simp <;> omega) | (simp_all <;> omega)))); rintro _ _ ⟨rfl,rfl⟩)) <;> (try simp (disch := omega) only [push_cast,seval,hv,hd',hs1]))
 | (refine awp_ret ⟨.inr rfl,[16000,16016],[(16000,1),(16016,1)],_,by decide,rfl,?_⟩; (try simp (disch := omega) only [push_cast,seval,↓allMem_nil,↓allMem_cons,↓List.map_cons,↓List.map_nil,hv,hd',hs1]))))
        all_goals simp [MV,MVB,MVL]
      · have hs2 : sh.getD j 0 < s := by omega
        (repeat' (first
 | (first | refine awp_seq ?_ | refine awp_block ?_)
 | ((first | refine awp_reg ?_ | refine awp_draw (mid := l22r5a) (post := l22r5b) mixed (by decide) ?_ | refine awp_condB ?_ | refine awp_skip ?_ | refine awp_exit ?_); simp (disch := omega) only [push_cast,seval,l22r0,l22r1,l22r2,l22r3,l22r4,l22r5a,l22r5b,l22r5,l22r6,l22r7,l22r8,l22r9,hv,hd',hs1,hs2])
 | ((first | refine condB_split (fun h => ?_) (fun h => ?_) | refine gIf_split (fun h => ?_) (fun h => ?_) | refine qIf_split (fun h => ?_) (fun h => ?_)) <;> (try simp only [h]) <;> (try simp only [decide_eq_true_eq,decide_eq_false_iff_not,Bool.not_eq_true',Bool.not_eq_false',Bool.and_eq_true,Bool.or_eq_true,Bool.and_eq_false_iff,Bool.or_eq_false_iff,bne_iff_ne,ne_eq,beq_iff_eq,Bool.not_eq_true,Bool.not_eq_false] at h) <;> (try simp only [h]) <;> (first | (exfalso; omega) | (focus (exfalso; simp_all; done)) | (simp (disch := omega) only [push_cast,seval,hv,hd',hs1,hs2]) | skip))
 | ((first | ((with_reducible refine callD_of (f := 32) true ?_); simp (disch := omega) only [push_cast,seval,hv,hd',hs1,hs2]; (refine call0D (wholeOf_ok _ _ _ _ _ ?_ ?_ ?_) ?_; (iterate 3 (focus (first | assumption | rfl | omega | (simp <;> omega) | (simp_all <;> omega)))); rintro _ _ ⟨rfl,rfl⟩))) <;> (try simp (disch := omega) only [push_cast,seval,hv,hd',hs1,hs2]))
 | ((first | refine callD_of false ?_ | refine qcallD_of false ?_); simp (disch := omega) only [push_cast,seval,hv,hd',hs1,hs2])
 | ((first | ((first | refine call0D (BCall.ofP (hasDim_ok _ _ _ _ _ _ ?_ ?_ ?_)) ?_ | refine qcall0D (BCall.ofP (hasDim_ok _ _ _ _ _ _ ?_ ?_ ?_)) ⟨_,_,rfl,rfl⟩ ?_); (iterate 3 (focus (first | assumption | rfl | omega | (simp <;> omega) | (simp_all <;> omega)))); rintro _ _ ⟨rfl,rfl⟩) | ((first | refine call0D (partview4_ok _ _ _ _ _ _ _ _ _ _ _ _ ?_ ?_ ?_) ?_ | refine qcall0D (partview4_ok _ _ _ _ _ _ _ _ _ _ _ _ ?_ ?_ ?_) ⟨_,_,rfl,rfl⟩ ?_); (iterate 3 (focus (first | assumption | rfl | omega | (simp <;> omega) | (simp_all <;> omega)))); rintro _ _ ⟨rfl,rfl⟩) | ((first | refine call0D (BCall.ofP (iValidView_ok _ _ _ _ _ ?_ ?_ ?_)) ?_ | refine qcall0D (BCall.ofP (iValidView_ok _ _ _ _ _ ?_ ?_ ?_)) ⟨_,_,rfl,rfl⟩ ?_); (iterate 3 (focus (first | assumption | rfl | omega | (simp <;> omega) | (simp_all <;> omega)))); rintro _ _ ⟨rfl,rfl⟩)) <;> (try simp (disch := omega) only [push_cast,seval,hv,hd',hs1,hs2]))
 | (refine awp_ret ⟨.inr rfl,[16000,16016],[(16000,1),(16016,1)],_,by decide,rfl,?_⟩; (try simp (disch := omega) only [push_cast,seval,↓allMem_nil,↓allMem_cons,↓List.map_cons,↓List.map_nil,hv,hd',hs1,hs2]))))
        all_goals simp [MV,MVB,MVL]
  · have hd' := fls_and hd
    have e : wnOk b sh st d s = false := by simp only [wnOk,hd',Bool.and_false,Bool.false_and]
    rw [e]
    (repeat' (first
 | (first | refine awp_seq ?_ | refine awp_block ?_)
 | ((first | refine awp_reg ?_ | refine awp_draw (mid := l22r5a) (post := l22r5b) mixed (by decide) ?_ | refine awp_condB ?_ | refine awp_skip ?_ | refine awp_exit ?_); simp (disch := omega) only [push_cast,seval,l22r0,l22r1,l22r2,l22r3,l22r4,l22r5a,l22r5b,l22r5,l22r6,l22r7,l22r8,l22r9,hv,hd'])
 | ((first | refine condB_split (fun h => ?_) (fun h => ?_) | refine gIf_split (fun h => ?_) (fun h => ?_) | refine qIf_split (fun h => ?_) (fun h => ?_)) <;> (try simp only [h]) <;> (try simp only [decide_eq_true_eq,decide_eq_false_iff_not,Bool.not_eq_true',Bool.not_eq_false',Bool.and_eq_true,Bool.or_eq_true,Bool.and_eq_false_iff,Bool.or_eq_false_iff,bne_iff_ne,ne_eq,beq_iff_eq,Bool.not_eq_true,Bool.not_eq_false] at h) <;> (try simp only [h]) <;> (first | (exfalso; omega) | (focus (exfalso; simp_all; done)) | (simp (disch := omega) only [push_cast,seval,hv,hd']) | skip))
 | ((first | ((with_reducible refine callD_of (f := 32) true ?_); simp (disch := omega) only [push_cast,seval,hv,hd']; (refine call0D (wholeOf_ok _ _ _ _ _ ?_ ?_ ?_) ?_; (iterate 3 (focus (first | assumption | rfl | omega | (simp <;> omega) | (simp_all <;> omega)))); rintro _ _ ⟨rfl,rfl⟩))) <;> (try simp (disch := omega) only [push_cast,seval,hv,hd']))
 | ((first | refine callD_of false ?_ | refine qcallD_of false ?_); simp (disch := omega) only [push_cast,seval,hv,hd'])
 | ((first | ((first | refine call0D (BCall.ofP (hasDim_ok _ _ _ _ _ _ ?_ ?_ ?_)) ?_ | refine qcall0D (BCall.ofP (hasDim_ok _ _ _ _ _ _ ?_ ?_ ?_)) ⟨_,_,rfl,rfl⟩ ?_); (iterate 3 (focus (first | assumption | rfl | omega | (simp <;> omega) | (simp_all <;> omega)))); rintro _ _ ⟨rfl,rfl⟩) | ((first | refine call0D (partview4_ok _ _ _ _ _ _ _ _ _ _ _ _ ?_ ?_ ?_) ?_ | refine qcall0D (partview4_ok _ _ _ _ _ _ _ _ _ _ _ _ ?_ ?_ ?_) ⟨_,_,rfl,rfl⟩ ?_); (iterate 3 (focus (first | assumption | rfl | omega | (simp <;> omega) | (simp_all <;> omega)))); rintro _ _ ⟨rfl,rfl⟩) | ((first | refine call0D (BCall.ofP (iValidView_ok _ _ _ _ _ ?_ ?_ ?_)) ?_ | refine qcall0D (BCall.ofP (iValidView_ok _ _ _ _ _ ?_ ?_ ?_)) ⟨_,_,rfl,rfl⟩ ?_); (iterate 3 (focus (first | assumption | rfl | omega | (simp <;> omega) | (simp_all <;> omega)))); rintro _ _ ⟨rfl,rfl⟩)) <;> (try simp (disch := omega) only [push_cast,seval,hv,hd']))
 | (refine awp_ret ⟨.inr rfl,[16000,16016],[(16000,1),(16016,1)],_,by decide,rfl,?_⟩; (try simp (disch := omega) only [push_cast,seval,↓allMem_nil,↓allMem_cons,↓List.map_cons,↓List.map_nil,hv,hd']))))
    all_goals simp [MV,MVB,MVL]


theorem mv_le {v : Bool} {b : Int} {sh st A B : List Int} (h : v = true → vV b sh st = true ∧ A.length ≤ 5 ∧ B.length ≤ 5) : (MVL v A).length ≤ 5 ∧ (MVL v B).length ≤ 5 := by
  cases v with
  | false => simp [MVL]
  | true => exact ⟨(h rfl).2.1,(h rfl).2.2⟩
theorem vV_l4 {b : Int} {sh st : List Int} (h : vV b sh st = true) : sh.length ≤ 4 ∧ st.length ≤ 4 := by
  obtain ⟨hok,hl⟩ := okV_valid h
  have := hok.1.1.2
  omega

end Go.Proofs.Ytielfbmofoolbaa
