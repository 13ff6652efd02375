import Derived.Test.YtielfbmofoolbaaCKd5
import Derived.Test.YtielfbmofoolbaaCM1
import Derived.Test.YtielfbmofoolbaaCW3
set_option linter.unusedSimpArgs false
set_option linter.unusedVariables false
set_option maxRecDepth 4000
set_option maxHeartbeats 4000000
namespace Go.Proofs.Ytielfbmofoolbaa
open VwM Vw Go

set_option maxHeartbeats 8000000 in
theorem iPermuteDims_ok (b : Int) (sh st order : List Int) (n m p : Nat) (hn : sh.length = n) (hm : st.length = m) (hp : order.length = p) (hb : (n ≤ 1099511627776 ∧ m ≤ 1099511627776) ∧ p ≤ 1099511627776) :
    BCall Try.prog 25 [.agg [.int .i64 b,.rows false (IL sh) n,.rows false (IL st) m],.rows false (IL order) p] [] (MV (pmOk b sh st order) b (permL sh order) (permL st order)) := by
  subst hn hm hp
  obtain ⟨⟨hb1,hb2⟩,hb3⟩ := hb
  refine bcall_of (pins := []) (pin := 0) l25_eq rfl rfl rfl ?_
  cases hv : vV b sh st with
  | false =>
    have e : pmOk b sh st order = false := by simp [pmOk,hv]
    rw [e]
    (repeat' (first
 | (first | refine awp_seq ?_ | refine awp_block ?_)
 | ((first | refine awp_reg ?_ | refine awp_draw (mid := l25r7a) (post := l25r7b) mixed (by decide) ?_ | refine awp_condB ?_ | refine awp_skip ?_ | refine awp_exit ?_); simp (disch := omega) only [push_cast,seval,l25r0,l25r1,l25r2,l25r3,l25r4,l25r5,l25r6,l25r7a,l25r7b,l25r7,l25r8,l25r9,hv])
 | ((first | refine condB_split (fun h => ?_) (fun h => ?_) | refine gIf_split (fun h => ?_) (fun h => ?_) | refine qIf_split (fun h => ?_) (fun h => ?_)) <;> (try simp only [h]) <;> (try simp only [decide_eq_true_eq,decide_eq_false_iff_not,Bool.not_eq_true',Bool.not_eq_false',Bool.and_eq_true,Bool.or_eq_true,Bool.and_eq_false_iff,Bool.or_eq_false_iff,bne_iff_ne,ne_eq,beq_iff_eq,Bool.not_eq_true,Bool.not_eq_false] at h) <;> (try simp only [h]) <;> (first | (exfalso; omega) | (focus (exfalso; simp_all; done)) | (simp (disch := omega) only [push_cast,seval,hv]) | skip))
 | ((first | ((with_reducible refine callD_of (f := 32) true ?_); simp (disch := omega) only [push_cast,seval,hv]; (refine call0D (wholeOf_ok _ _ _ _ _ ?_ ?_ ?_) ?_; (iterate 3 (focus (first | assumption | rfl | omega | (simp <;> omega) | (simp_all <;> omega)))); rintro _ _ ⟨rfl,rfl⟩))) <;> (try simp (disch := omega) only [push_cast,seval,hv]))
 | ((first | refine callD_of false ?_ | refine qcallD_of false ?_); simp (disch := omega) only [push_cast,seval,hv])
 | ((first | ((first | refine call0D (BCall.ofP (iValidView_ok _ _ _ _ _ ?_ ?_ ?_)) ?_ | refine qcall0D (BCall.ofP (iValidView_ok _ _ _ _ _ ?_ ?_ ?_)) ⟨_,_,rfl,rfl⟩ ?_); (iterate 3 (focus (first | assumption | rfl | omega | (simp <;> omega) | (simp_all <;> omega)))); rintro _ _ ⟨rfl,rfl⟩) | ((first | refine call0D (BCall.ofP (isOrder_ok _ _ _ ?_ ?_)) ?_ | refine qcall0D (BCall.ofP (isOrder_ok _ _ _ ?_ ?_)) ⟨_,_,rfl,rfl⟩ ?_); (iterate 2 (focus (first | assumption | rfl | omega | (simp <;> omega) | (simp_all <;> omega)))); rintro _ _ ⟨rfl,rfl⟩) | ((first | refine call0D (partview4_ok _ _ _ _ _ _ _ _ _ _ _ _ ?_ ?_ ?_) ?_ | refine qcall0D (partview4_ok _ _ _ _ _ _ _ _ _ _ _ _ ?_ ?_ ?_) ⟨_,_,rfl,rfl⟩ ?_); (iterate 3 (focus (first | assumption | rfl | omega | (simp <;> omega) | (simp_all <;> omega)))); rintro _ _ ⟨rfl,rfl⟩)) <;> (try simp (disch := omega) only [push_cast,seval,hv]))
 | (refine awp_ret ⟨.inr rfl,[16000,16016],[(16000,1),(16016,1)],_,by decide,rfl,?_⟩; (try simp (disch := omega) only [push_cast,seval,↓allMem_nil,↓allMem_cons,↓List.map_cons,↓List.map_nil,hv]))))
    all_goals simp [MV,MVB,MVL]
  | true =>
    obtain ⟨hok,hlen⟩ := okV_valid hv
    have hl4 := hok.1.1.2
    have hq0 : order.length ≤ 1099511627776 ∧ sh.length ≤ 1000 := by omega
    cases ho : (decide (order.length = sh.length) && allI order 0 ((sh.length : Int) - 1) && decide order.Nodup) with
    | false =>
      have e : pmOk b sh st order = false := by simp only [pmOk,ho,Bool.and_false,Bool.false_and]
      rw [e]
      (repeat' (first
 | (first | refine awp_seq ?_ | refine awp_block ?_)
 | ((first | refine awp_reg ?_ | refine awp_draw (mid := l25r7a) (post := l25r7b) mixed (by decide) ?_ | refine awp_condB ?_ | refine awp_skip ?_ | refine awp_exit ?_); simp (disch := omega) only [push_cast,seval,l25r0,l25r1,l25r2,l25r3,l25r4,l25r5,l25r6,l25r7a,l25r7b,l25r7,l25r8,l25r9,hv,ho])
 | ((first | refine condB_split (fun h => ?_) (fun h => ?_) | refine gIf_split (fun h => ?_) (fun h => ?_) | refine qIf_split (fun h => ?_) (fun h => ?_)) <;> (try simp only [h]) <;> (try simp only [decide_eq_true_eq,decide_eq_false_iff_not,Bool.not_eq_true',Bool.not_eq_false',Bool.and_eq_true,Bool.or_eq_true,Bool.and_eq_false_iff,Bool.or_eq_false_iff,bne_iff_ne,ne_eq,beq_iff_eq,Bool.not_eq_true,Bool.not_eq_false] at h) <;> (try simp only [h]) <;> (first | (exfalso; omega) | (focus (exfalso; simp_all; done)) | (simp (disch := omega) only [push_cast,seval,hv,ho]) | skip))
 | ((first | ((with_reducible refine callD_of (f := 32) true ?_); simp (disch := omega) only [push_cast,seval,hv,ho]; (refine call0D (wholeOf_ok _ _ _ _ _ ?_ ?_ ?_) ?_; (iterate 3 (focus (first | assumption | rfl | omega | (simp <;> omega) | (simp_all <;> omega)))); rintro _ _ ⟨rfl,rfl⟩))) <;> (try simp (disch := omega) only [push_cast,seval,hv,ho]))
 | ((first | refine callD_of false ?_ | refine qcallD_of false ?_); simp (disch := omega) only [push_cast,seval,hv,ho])
 | ((first | ((first | refine call0D (BCall.ofP (iValidView_ok _ _ _ _ _ ?_ ?_ ?_)) ?_ | refine qcall0D (BCall.ofP (iValidView_ok _ _ _ _ _ ?_ ?_ ?_)) ⟨_,_,rfl,rfl⟩ ?_); (iterate 3 (focus (first | assumption | rfl | omega | (simp <;> omega) | (simp_all <;> omega)))); rintro _ _ ⟨rfl,rfl⟩) | ((first | refine call0D (BCall.ofP (isOrder_ok _ _ _ ?_ ?_)) ?_ | refine qcall0D (BCall.ofP (isOrder_ok _ _ _ ?_ ?_)) ⟨_,_,rfl,rfl⟩ ?_); (iterate 2 (focus (first | assumption | rfl | omega | (simp <;> omega) | (simp_all <;> omega)))); rintro _ _ ⟨rfl,rfl⟩) | ((first | refine call0D (partview4_ok _ _ _ _ _ _ _ _ _ _ _ _ ?_ ?_ ?_) ?_ | refine qcall0D (partview4_ok _ _ _ _ _ _ _ _ _ _ _ _ ?_ ?_ ?_) ⟨_,_,rfl,rfl⟩ ?_); (iterate 3 (focus (first | assumption | rfl | omega | (simp <;> omega) | (simp_all <;> omega)))); rintro _ _ ⟨rfl,rfl⟩)) <;> (try simp (disch := omega) only [push_cast,seval,hv,ho]))
 | (refine awp_ret ⟨.inr rfl,[16000,16016],[(16000,1),(16016,1)],_,by decide,rfl,?_⟩; (try simp (disch := omega) only [push_cast,seval,↓allMem_nil,↓allMem_cons,↓List.map_cons,↓List.map_nil,hv,ho]))))
      all_goals simp [MV,MVB,MVL]
    | true =>
      have hord := isOrd_of ho
      have e : pmOk b sh st order = true := by simp only [pmOk,hv,ho,vV_perm hv hord,Bool.and_self]
      rw [e]
      have hq1 : st.length = sh.length ∧ sh.length ≤ 1000 := by omega
      have hol := hord.1
      have hor := hord.2.1
      (repeat' (first
 | (first | refine awp_seq ?_ | refine awp_block ?_)
 | ((first | refine awp_reg ?_ | refine awp_draw (mid := l25r7a) (post := l25r7b) mixed (by decide) ?_ | refine awp_condB ?_ | refine awp_skip ?_ | refine awp_exit ?_); simp (disch := omega) only [push_cast,seval,l25r0,l25r1,l25r2,l25r3,l25r4,l25r5,l25r6,l25r7a,l25r7b,l25r7,l25r8,l25r9,hv,ho])
 | ((first | refine condB_split (fun h => ?_) (fun h => ?_) | refine gIf_split (fun h => ?_) (fun h => ?_) | refine qIf_split (fun h => ?_) (fun h => ?_)) <;> (try simp only [h]) <;> (try simp only [decide_eq_true_eq,decide_eq_false_iff_not,Bool.not_eq_true',Bool.not_eq_false',Bool.and_eq_true,Bool.or_eq_true,Bool.and_eq_false_iff,Bool.or_eq_false_iff,bne_iff_ne,ne_eq,beq_iff_eq,Bool.not_eq_true,Bool.not_eq_false] at h) <;> (try simp only [h]) <;> (first | (exfalso; omega) | (focus (exfalso; simp_all; done)) | (simp (disch := omega) only [push_cast,seval,hv,ho]) | skip))
 | ((first | ((with_reducible refine callD_of (f := 32) true ?_); simp (disch := omega) only [push_cast,seval,hv,ho]; (refine call0D (wholeOf_ok _ _ _ _ _ ?_ ?_ ?_) ?_; (iterate 3 (focus (first | assumption | rfl | omega | (simp <;> omega) | (simp_all <;> omega)))); rintro _ _ ⟨rfl,rfl⟩))) <;> (try simp (disch := omega) only [push_cast,seval,hv,ho]))
 | ((first | refine callD_of false ?_ | refine qcallD_of false ?_); simp (disch := omega) only [push_cast,seval,hv,ho])
 | ((first | ((first | refine call0D (BCall.ofP (iValidView_ok _ _ _ _ _ ?_ ?_ ?_)) ?_ | refine qcall0D (BCall.ofP (iValidView_ok _ _ _ _ _ ?_ ?_ ?_)) ⟨_,_,rfl,rfl⟩ ?_); (iterate 3 (focus (first | assumption | rfl | omega | (simp <;> omega) | (simp_all <;> omega)))); rintro _ _ ⟨rfl,rfl⟩) | ((first | refine call0D (BCall.ofP (isOrder_ok _ _ _ ?_ ?_)) ?_ | refine qcall0D (BCall.ofP (isOrder_ok _ _ _ ?_ ?_)) ⟨_,_,rfl,rfl⟩ ?_); (iterate 2 (focus (first | assumption | rfl | omega | (simp <;> omega) | (simp_all <;> omega)))); rintro _ _ ⟨rfl,rfl⟩) | ((first | refine call0D (partview4_ok _ _ _ _ _ _ _ _ _ _ _ _ ?_ ?_ ?_) ?_ | refine qcall0D (partview4_ok _ _ _ _ _ _ _ _ _ _ _ _ ?_ ?_ ?_) ⟨_,_,rfl,rfl⟩ ?_); (iterate 3 (focus (first | assumption | rfl | omega | (simp <;> omega) | (simp_all <;> omega)))); rintro _ _ ⟨rfl,rfl⟩)) <;> (try simp (disch := omega) only [push_cast,seval,hv,ho]))
 | (refine awp_ret ⟨.inr rfl,[752,753],[],_,by decide,rfl,?_⟩; (try simp (disch := omega) only [push_cast,seval,↓allMem_nil,↓allMem_cons,↓List.map_cons,↓List.map_nil,hv,ho]))))
      refine awp_loop (fun k : Nat => mkS [(2,.ref 32 3 0),(4,.ref 64 3 0),(6,.ref 96 8 0),(23,RI order),(24,.int .i64 order.length),(25,.int .i64 k)] [(32,[.int .i64 b,RI sh,RI st]),(64,[.int .i64 0,.val (.slice none 0 0),.val (.slice none 0 0)]),(96,[.int .i64 b,RI sh,RI st,.int .i64 0,.int .i64 0,.int .i64 0,.int .i64 0,.own 352 sh.length 2]),(352,IL (dm (mixP sh order k) (mixP st order k)))])
        (fun k => k ≤ order.length) (fun k => order.length - k) 0 (Nat.zero_le _) ?_ ?_
      · rw [mixP_zero,mixP_zero]
        (refine Sub.of_lists ?_ ?_ ?_ ?_ ?_ <;> simp [Vw.mkS,Vw.lk,Vw.hk,AV.inn,innL,innL_ints,innL_append,innL_rep,-List.map_set,-List.getD_eq_getElem?_getD])
      · intro k hk
        have ml := mixP_length (xs := sh) (order := order) (k := k) (by omega) (by omega)
        have ml2 := mixP_length (xs := st) (order := order) (k := k) (by omega) (by omega)
        have dl := dm_length (sh := mixP sh order k) (st := mixP st order k) (by omega)
        by_cases hlt : k < order.length
        · have hx := hor _ (getD_mem hlt)
          have s1 := mixP_set (xs := sh) (order := order) (k := k) (by omega) (by omega)
          have s2 := mixP_set (xs := st) (order := order) (k := k) (by omega) (by omega)
          have s3 := dm_set (sh := mixP sh order k) (st := mixP st order k) (k := k) (sh.getD (order.getD k 0).toNat 0) (st.getD (order.getD k 0).toNat 0) (by omega) (by omega)
          obtain ⟨c,hc⟩ : ∃ c : Nat,order.getD k 0 = c := ⟨(order.getD k 0).toNat,by omega⟩
          rw [hc,Int.toNat_natCast] at s1 s2 s3
          rw [hc] at hx
          have hc1 : c < sh.length ∧ c < st.length := by omega
          have hc2 : k < sh.length := by omega
          rw [s1,s2] at s3
          have dl2 : (dm (mixP sh order k) (mixP st order k)).length = sh.length * 2 := by omega
          generalize dm (mixP sh order k) (mixP st order k) = L at *
          (repeat' (first
 | (first | refine awp_seq ?_ | refine awp_block ?_)
 | ((first | refine awp_reg ?_ | refine awp_draw (mid := l25r7a) (post := l25r7b) mixed (by decide) ?_ | refine awp_condB ?_ | refine awp_skip ?_ | refine awp_exit ?_); simp (disch := omega) only [push_cast,seval,l25r0,l25r1,l25r2,l25r3,l25r4,l25r5,l25r6,l25r7a,l25r7b,l25r7,l25r8,l25r9,hc,Int.toNat_natCast,dl2,setRange2])
 | ((first | refine condB_split (fun h => ?_) (fun h => ?_) | refine gIf_split (fun h => ?_) (fun h => ?_) | refine qIf_split (fun h => ?_) (fun h => ?_)) <;> (try simp only [h]) <;> (try simp only [decide_eq_true_eq,decide_eq_false_iff_not,Bool.not_eq_true',Bool.not_eq_false',Bool.and_eq_true,Bool.or_eq_true,Bool.and_eq_false_iff,Bool.or_eq_false_iff,bne_iff_ne,ne_eq,beq_iff_eq,Bool.not_eq_true,Bool.not_eq_false] at h) <;> (try simp only [h]) <;> (first | (exfalso; omega) | (focus (exfalso; simp_all; done)) | (simp (disch := omega) only [push_cast,seval,hc,Int.toNat_natCast,dl2,setRange2]) | skip))
 | ((first | ((with_reducible refine callD_of (f := 32) true ?_); simp (disch := omega) only [push_cast,seval,hc,Int.toNat_natCast,dl2,setRange2]; (refine call0D (wholeOf_ok _ _ _ _ _ ?_ ?_ ?_) ?_; (iterate 3 (focus (first | assumption | rfl | omega | (simp <;> omega) | (simp_all <;> omega)))); rintro _ _ ⟨rfl,rfl⟩))) <;> (try simp (disch := omega) only [push_cast,seval,hc,Int.toNat_natCast,dl2,setRange2]))
 | ((first | refine callD_of false ?_ | refine qcallD_of false ?_); simp (disch := omega) only [push_cast,seval,hc,Int.toNat_natCast,dl2,setRange2])
 | ((first | ((first | refine call0D (BCall.ofP (iValidView_ok _ _ _ _ _ ?_ ?_ ?_)) ?_ | refine qcall0D (BCall.ofP (iValidView_ok _ _ _ _ _ ?_ ?_ ?_)) ⟨_,_,rfl,rfl⟩ ?_); (iterate 3 (focus (first | assumption | rfl | omega | (simp <;> omega) | (simp_all <;> omega)))); rintro _ _ ⟨rfl,rfl⟩) | ((first | refine call0D (BCall.ofP (isOrder_ok _ _ _ ?_ ?_)) ?_ | refine qcall0D (BCall.ofP (isOrder_ok _ _ _ ?_ ?_)) ⟨_,_,rfl,rfl⟩ ?_); (iterate 2 (focus (first | assumption | rfl | omega | (simp <;> omega) | (simp_all <;> omega)))); rintro _ _ ⟨rfl,rfl⟩) | ((first | refine call0D (partview4_ok _ _ _ _ _ _ _ _ _ _ _ _ ?_ ?_ ?_) ?_ | refine qcall0D (partview4_ok _ _ _ _ _ _ _ _ _ _ _ _ ?_ ?_ ?_) ⟨_,_,rfl,rfl⟩ ?_); (iterate 3 (focus (first | assumption | rfl | omega | (simp <;> omega) | (simp_all <;> omega)))); rintro _ _ ⟨rfl,rfl⟩)) <;> (try simp (disch := omega) only [push_cast,seval,hc,Int.toNat_natCast,dl2,setRange2]))
 | (refine awp_ret ⟨.inr rfl,[],[],_,by decide,rfl,?_⟩; (try simp (disch := omega) only [push_cast,seval,↓allMem_nil,↓allMem_cons,↓List.map_cons,↓List.map_nil,hc,Int.toNat_natCast,dl2,setRange2]))))
          refine ⟨k + 1,by omega,by omega,?_⟩
          rw [← s3]
          (refine Sub.of_lists ?_ ?_ ?_ ?_ ?_ <;> simp [Vw.mkS,Vw.lk,Vw.hk,AV.inn,innL,innL_ints,innL_append,innL_rep,-List.map_set,-List.getD_eq_getElem?_getD,dl2,IL_set])
        · have hke : k = sh.length := by omega
          subst hke
          rw [mixP_all (by omega),show mixP st order sh.length = permL st order by rw [← hlen]; exact mixP_all (by omega)] at dl ⊢
          rw [show (permL sh order).length = sh.length by rw [permL_length]; omega] at dl
          have pl1 := permL_length sh order
          have pl2 := permL_length st order
          have pvk : (permL st order).length = (permL sh order).length ∧ (permL sh order).length = sh.length := by omega
          have pvb := And.intro (pv_ok hv) (show sh.length ≤ 1000 by omega)
          have d0 := dot_at4 st st.length
          (repeat' (first
 | (first | refine awp_seq ?_ | refine awp_block ?_)
 | ((first | refine awp_reg ?_ | refine awp_draw (mid := l25r7a) (post := l25r7b) mixed (by decide) ?_ | refine awp_condB ?_ | refine awp_skip ?_ | refine awp_exit ?_); simp (disch := omega) only [push_cast,seval,l25r0,l25r1,l25r2,l25r3,l25r4,l25r5,l25r6,l25r7a,l25r7b,l25r7,l25r8,l25r9,dl,d0,Int.add_zero])
 | ((first | refine condB_split (fun h => ?_) (fun h => ?_) | refine gIf_split (fun h => ?_) (fun h => ?_) | refine qIf_split (fun h => ?_) (fun h => ?_)) <;> (try simp only [h]) <;> (try simp only [decide_eq_true_eq,decide_eq_false_iff_not,Bool.not_eq_true',Bool.not_eq_false',Bool.and_eq_true,Bool.or_eq_true,Bool.and_eq_false_iff,Bool.or_eq_false_iff,bne_iff_ne,ne_eq,beq_iff_eq,Bool.not_eq_true,Bool.not_eq_false] at h) <;> (try simp only [h]) <;> (first | (exfalso; omega) | (focus (exfalso; simp_all; done)) | (simp (disch := omega) only [push_cast,seval,dl,d0,Int.add_zero]) | skip))
 | ((first | ((with_reducible refine callD_of (f := 32) true ?_); simp (disch := omega) only [push_cast,seval,dl,d0,Int.add_zero]; (refine call0D (wholeOf_ok _ _ _ _ _ ?_ ?_ ?_) ?_; (iterate 3 (focus (first | assumption | rfl | omega | (simp <;> omega) | (simp_all <;> omega)))); rintro _ _ ⟨rfl,rfl⟩))) <;> (try simp (disch := omega) only [push_cast,seval,dl,d0,Int.add_zero]))
 | ((first | refine callD_of false ?_ | refine qcallD_of false ?_); simp (disch := omega) only [push_cast,seval,dl,d0,Int.add_zero])
 | ((first | ((first | refine call0D (BCall.ofP (iValidView_ok _ _ _ _ _ ?_ ?_ ?_)) ?_ | refine qcall0D (BCall.ofP (iValidView_ok _ _ _ _ _ ?_ ?_ ?_)) ⟨_,_,rfl,rfl⟩ ?_); (iterate 3 (focus (first | assumption | rfl | omega | (simp <;> omega) | (simp_all <;> omega)))); rintro _ _ ⟨rfl,rfl⟩) | ((first | refine call0D (BCall.ofP (isOrder_ok _ _ _ ?_ ?_)) ?_ | refine qcall0D (BCall.ofP (isOrder_ok _ _ _ ?_ ?_)) ⟨_,_,rfl,rfl⟩ ?_); (iterate 2 (focus (first | assumption | rfl | omega | (simp <;> omega) | (simp_all <;> omega)))); rintro _ _ ⟨rfl,rfl⟩) | ((first | refine call0D (partview4_ok _ _ _ _ _ _ _ _ _ _ _ _ ?_ ?_ ?_) ?_ | refine qcall0D (partview4_ok _ _ _ _ _ _ _ _ _ _ _ _ ?_ ?_ ?_) ⟨_,_,rfl,rfl⟩ ?_); (iterate 3 (focus (first | assumption | rfl | omega | (simp <;> omega) | (simp_all <;> omega)))); rintro _ _ ⟨rfl,rfl⟩)) <;> (try simp (disch := omega) only [push_cast,seval,dl,d0,Int.add_zero]))
 | (refine awp_ret ⟨.inr rfl,[752,753],[],_,by decide,rfl,?_⟩; (try simp (disch := omega) only [push_cast,seval,↓allMem_nil,↓allMem_cons,↓List.map_cons,↓List.map_nil,dl,d0,Int.add_zero]))))
          all_goals exact ⟨rfl,rfl⟩

end Go.Proofs.Ytielfbmofoolbaa
