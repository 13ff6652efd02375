import Derived.Test.YtgkgnphonihheaaCKv2
import Derived.Test.YtgkgnphonihheaaCM1
set_option linter.unusedSimpArgs false
set_option linter.unusedVariables false
set_option maxRecDepth 4000
set_option maxHeartbeats 4000000
namespace Go.Proofs.Ytgkgnphonihheaa
open VwM Vw Go

set_option maxHeartbeats 8000000 in
theorem sWi_ok (b : Int) (sh st : List Int) (b' : Int) (sh' st' : List Int) (n m n' m' : Nat) (hn : sh.length = n) (hm : st.length = m) (hn' : sh'.length = n') (hm' : st'.length = m') (hb : (n ≤ 1099511627776 ∧ m ≤ 1099511627776) ∧ n' ≤ 1099511627776 ∧ m' ≤ 1099511627776) : PCall Try.prog 30 [.agg [.int .i64 b,.rows false (IL sh) n,.rows false (IL st) m],.agg [.int .i64 b',.rows false (IL sh') n',.rows false (IL st') m']] (fun r => r = wiP (doB b sh st b' sh' st') (offs b sh st) (offs b' sh' st')) := by
  subst hn hm hn' hm'
  obtain ⟨⟨hb1,hb2⟩,hb3,hb4⟩ := hb
  refine pcall_of l30_eq rfl ?_
  cases hd : doB b sh st b' sh' st' with
  | false =>
    (repeat' (first
 | (first | refine awp_seq ?_ | refine awp_block ?_)
 | ((first | refine awp_reg ?_ | refine awp_draw (mid := l30r3a) (post := l30r3b) mixed (by decide) ?_ | refine awp_draw (mid := l30r4a) (post := l30r4b) mixed (by decide) ?_ | refine awp_condB ?_ | refine awp_skip ?_ | refine awp_exit ?_); simp (disch := omega) only [push_cast,seval,l30r0,l30r1,l30r2,l30r3a,l30r3b,l30r3,l30r4a,l30r4b,l30r4,hd])
 | ((first | refine condB_split (fun h => ?_) (fun h => ?_) | refine gIf_split (fun h => ?_) (fun h => ?_) | refine qIf_split (fun h => ?_) (fun h => ?_)) <;> (try simp only [h]) <;> (try simp only [bitvec_to_nat] at h) <;> (try simp only [h]) <;> (first | (exfalso; omega) | (focus (exfalso; simp_all; done)) | (simp (disch := omega) only [push_cast,seval,hd]) | skip))
 | ((first | refine callD_of false ?_ | refine qcallD_of false ?_); simp (disch := omega) only [push_cast,seval,hd])
 | ((first | ((first | refine call0D (BCall.ofP (sDo_ok _ _ _ _ _ _ _ _ _ _ ?_ ?_ ?_ ?_ ?_)) ?_ | refine qcall0D (BCall.ofP (sDo_ok _ _ _ _ _ _ _ _ _ _ ?_ ?_ ?_ ?_ ?_)) ⟨_,_,rfl,rfl⟩ ?_); (iterate 5 (exact sd)); rintro _ _ ⟨rfl,rfl⟩) | ((first | refine call0D (soffsets_ok _ _ _ _ _ ?_ ?_ ?_) ?_ | refine qcall0D (soffsets_ok _ _ _ _ _ ?_ ?_ ?_) ⟨_,_,rfl,rfl⟩ ?_); (iterate 3 (exact sd)); rintro _ _ ⟨rfl,rfl⟩) | ((first | refine call0D (sboth_ok _ _ _ _ ?_ ?_ ?_) ?_ | refine qcall0D (sboth_ok _ _ _ _ ?_ ?_ ?_) ⟨_,_,rfl,rfl⟩ ?_); (iterate 3 (exact sd)); rintro _ _ ⟨rfl,rfl⟩) | ((first | refine call0D (BCall.ofP (placeIn_ok _ _ _ ?_ ?_)) ?_ | refine qcall0D (BCall.ofP (placeIn_ok _ _ _ ?_ ?_)) ⟨_,_,rfl,rfl⟩ ?_); (iterate 2 (exact sd)); rintro _ _ ⟨rfl,rfl⟩)) <;> (try simp (disch := omega) only [push_cast,seval,hd]))
 | (refine awp_ret ⟨.inr rfl,_,rfl,?_⟩; (try simp (disch := omega) only [push_cast,seval,hd]))))
    all_goals simp [wiP]
  | true =>
    have hd2 := hd
    unfold doB at hd2
    have hov : ovB b sh st b' sh' st' = true := by
      cases h : ovB b sh st b' sh' st' with
 | true => rfl
 | false => rw [h] at hd2; simp [MVL] at hd2
    rw [hov] at hd2
    have hv : vV b sh st = true := by unfold ovB at hov; simp at hov; exact hov.1
    have hv' : vV b' sh' st' = true := by unfold ovB at hov; simp at hov; exact hov.2
    have hne : 0 < (bothL (offs b sh st) (offs b' sh' st')).length := by simpa [MVL] using hd2
    have hl := bothL_le (offs b sh st) (offs b' sh' st')
    have hok := okV_valid hv
    have hok' := okV_valid hv'
    have hol := offs_length b sh st
    have hol' := offs_length b' sh' st'
    have hp := hok.1.1.2
    have hp' := hok'.1.1.2
    have h60 : (offs b sh st).length ≤ 60 := by omega
    have h60' : (offs b' sh' st').length ≤ 60 := by omega
    generalize hO : offs b sh st = O at *
    generalize hO' : offs b' sh' st' = O' at *
    generalize hB : bothL O O' = B at *
    (repeat' (first
 | (first | refine awp_seq ?_ | refine awp_block ?_)
 | ((first | refine awp_reg ?_ | refine awp_draw (mid := l30r3a) (post := l30r3b) mixed (by decide) ?_ | refine awp_draw (mid := l30r4a) (post := l30r4b) mixed (by decide) ?_ | refine awp_condB ?_ | refine awp_skip ?_ | refine awp_exit ?_); simp (disch := omega) only [push_cast,seval,l30r0,l30r1,l30r2,l30r3a,l30r3b,l30r3,l30r4a,l30r4b,l30r4,hd,hO,hO',hB])
 | ((first | refine condB_split (fun h => ?_) (fun h => ?_) | refine gIf_split (fun h => ?_) (fun h => ?_) | refine qIf_split (fun h => ?_) (fun h => ?_)) <;> (try simp only [h]) <;> (try simp only [bitvec_to_nat] at h) <;> (try simp only [h]) <;> (first | (exfalso; omega) | (focus (exfalso; simp_all; done)) | (simp (disch := omega) only [push_cast,seval,hd,hO,hO',hB]) | skip))
 | ((first | refine callD_of false ?_ | refine qcallD_of false ?_); simp (disch := omega) only [push_cast,seval,hd,hO,hO',hB])
 | ((first | ((first | refine call0D (BCall.ofP (sDo_ok _ _ _ _ _ _ _ _ _ _ ?_ ?_ ?_ ?_ ?_)) ?_ | refine qcall0D (BCall.ofP (sDo_ok _ _ _ _ _ _ _ _ _ _ ?_ ?_ ?_ ?_ ?_)) ⟨_,_,rfl,rfl⟩ ?_); (iterate 5 (exact sd)); rintro _ _ ⟨rfl,rfl⟩) | ((first | refine call0D (soffsets_ok _ _ _ _ _ ?_ ?_ ?_) ?_ | refine qcall0D (BCall.ofP (plainI (soffsets_ok _ _ _ _ _ ?_ ?_ ?_))) ⟨_,_,rfl,rfl⟩ ?_); (iterate 3 (exact sd)); rintro _ _ ⟨rfl,rfl⟩) | ((first | refine call0D (sboth_ok _ _ _ _ ?_ ?_ ?_) ?_ | refine qcall0D (BCall.ofP (plainI (sboth_ok _ _ _ _ ?_ ?_ ?_))) ⟨_,_,rfl,rfl⟩ ?_); (iterate 3 (exact sd)); rintro _ _ ⟨rfl,rfl⟩) | ((first | refine call0D (BCall.ofP (placeIn_ok _ _ _ ?_ ?_)) ?_ | refine qcall0D (BCall.ofP (placeIn_ok _ _ _ ?_ ?_)) ⟨_,_,rfl,rfl⟩ ?_); (iterate 2 (exact sd)); rintro _ _ ⟨rfl,rfl⟩)) <;> (try simp (disch := omega) only [push_cast,seval,hd,hO,hO',hB]))
 | (refine awp_ret ⟨.inr rfl,_,rfl,?_⟩; (try simp (disch := omega) only [push_cast,seval,hd,hO,hO',hB]))))
    all_goals simp [wiP,hB]


set_option maxHeartbeats 8000000 in
theorem iWi_ok (b : Int) (sh st : List Int) (b' : Int) (sh' st' : List Int) (n m n' m' : Nat) (hn : sh.length = n) (hm : st.length = m) (hn' : sh'.length = n') (hm' : st'.length = m') (hb : (n ≤ 1099511627776 ∧ m ≤ 1099511627776) ∧ n' ≤ 1099511627776 ∧ m' ≤ 1099511627776) : PCall Try.prog 29 [.agg [.int .i64 b,.rows false (IL sh) n,.rows false (IL st) m],.agg [.int .i64 b',.rows false (IL sh') n',.rows false (IL st') m']] (fun r => r = wiP (doB b sh st b' sh' st') (offs b sh st) (offs b' sh' st')) := by
  subst hn hm hn' hm'
  obtain ⟨⟨hb1,hb2⟩,hb3,hb4⟩ := hb
  refine pcall_of l29_eq rfl ?_
  cases hd : doB b sh st b' sh' st' with
  | false =>
    have hd2 : ¬ 0 < (MVL (ovB b sh st b' sh' st') (bothL (offs b sh st) (offs b' sh' st'))).length := of_decide_eq_false hd
    have hd3 : MVL (ovB b sh st b' sh' st') (bothL (offs b sh st) (offs b' sh' st')) = [] := List.eq_nil_of_length_eq_zero (by omega)
    (repeat' (first
 | (first | refine awp_seq ?_ | refine awp_block ?_)
 | ((first | refine awp_reg ?_ | refine awp_draw (mid := l29r4a) (post := l29r4b) mixed (by decide) ?_ | refine awp_condB ?_ | refine awp_skip ?_ | refine awp_exit ?_); simp (disch := omega) only [push_cast,seval,l29r0,l29r1,l29r2,l29r3,l29r4a,l29r4b,l29r4,hd3])
 | ((first | refine condB_split (fun h => ?_) (fun h => ?_) | refine gIf_split (fun h => ?_) (fun h => ?_) | refine qIf_split (fun h => ?_) (fun h => ?_)) <;> (try simp only [h]) <;> (try simp only [bitvec_to_nat] at h) <;> (try simp only [h]) <;> (first | (exfalso; omega) | (focus (exfalso; simp_all; done)) | (simp (disch := omega) only [push_cast,seval,hd3]) | skip))
 | ((first | refine callD_of false ?_ | refine qcallD_of false ?_); simp (disch := omega) only [push_cast,seval,hd3])
 | ((first | ((first | refine call0D (iOv_ok _ _ _ _ _ _ _ _ _ _ ?_ ?_ ?_ ?_ ?_) ?_ | refine qcall0D (iOv_ok _ _ _ _ _ _ _ _ _ _ ?_ ?_ ?_ ?_ ?_) ⟨_,_,rfl,rfl⟩ ?_); (iterate 5 (exact sd)); rintro _ _ ⟨rfl,rfl⟩) | ((first | refine call0D (cells_ok _ _ _ _ _ ?_ ?_ ?_) ?_ | refine qcall0D (cells_ok _ _ _ _ _ ?_ ?_ ?_) ⟨_,_,rfl,rfl⟩ ?_); (iterate 3 (exact sd)); rintro _ _ ⟨rfl,rfl⟩) | ((first | refine call0D (BCall.ofP (slIndex_ok _ _ _ ?_ ?_)) ?_ | refine qcall0D (BCall.ofP (slIndex_ok _ _ _ ?_ ?_)) ⟨_,_,rfl,rfl⟩ ?_); (iterate 2 (exact sd)); rintro _ _ ⟨rfl,rfl⟩)) <;> (try simp (disch := omega) only [push_cast,seval,hd3]))
 | (refine awp_ret ⟨.inr rfl,_,rfl,?_⟩; (try simp (disch := omega) only [push_cast,seval,hd3]))))
    all_goals simp [wiP]
  | true =>
    have hd2 := hd
    unfold doB at hd2
    have hov : ovB b sh st b' sh' st' = true := by
      cases h : ovB b sh st b' sh' st' with
 | true => rfl
 | false => rw [h] at hd2; simp [MVL] at hd2
    rw [hov] at hd2
    have hv : vV b sh st = true := by unfold ovB at hov; simp at hov; exact hov.1
    have hv' : vV b' sh' st' = true := by unfold ovB at hov; simp at hov; exact hov.2
    have hne : 0 < (bothL (offs b sh st) (offs b' sh' st')).length := by simpa [MVL] using hd2
    have hl := bothL_le (offs b sh st) (offs b' sh' st')
    have hok := okV_valid hv
    have hok' := okV_valid hv'
    have hol := offs_length b sh st
    have hol' := offs_length b' sh' st'
    have hp := hok.1.1.2
    have hp' := hok'.1.1.2
    have h60 : (offs b sh st).length ≤ 60 := by omega
    have h60' : (offs b' sh' st').length ≤ 60 := by omega
    generalize hO : offs b sh st = O at *
    generalize hO' : offs b' sh' st' = O' at *
    generalize hB : bothL O O' = B at *
    have hm : MVL (ovB b sh st b' sh' st') B = B := by rw [hov]; rfl
    have hnz : ¬ (B.length : Int) = 0 := by omega
    (repeat' (first
 | (first | refine awp_seq ?_ | refine awp_block ?_)
 | ((first | refine awp_reg ?_ | refine awp_draw (mid := l29r4a) (post := l29r4b) mixed (by decide) ?_ | refine awp_condB ?_ | refine awp_skip ?_ | refine awp_exit ?_); simp (disch := omega) only [push_cast,seval,l29r0,l29r1,l29r2,l29r3,l29r4a,l29r4b,l29r4,hO,hO',hB,hm,hnz])
 | ((first | refine condB_split (fun h => ?_) (fun h => ?_) | refine gIf_split (fun h => ?_) (fun h => ?_) | refine qIf_split (fun h => ?_) (fun h => ?_)) <;> (try simp only [h]) <;> (try simp only [bitvec_to_nat] at h) <;> (try simp only [h]) <;> (first | (exfalso; omega) | (focus (exfalso; simp_all; done)) | (simp (disch := omega) only [push_cast,seval,hO,hO',hB,hm,hnz]) | skip))
 | ((first | refine callD_of false ?_ | refine qcallD_of false ?_); simp (disch := omega) only [push_cast,seval,hO,hO',hB,hm,hnz])
 | ((first | ((first | refine call0D (iOv_ok _ _ _ _ _ _ _ _ _ _ ?_ ?_ ?_ ?_ ?_) ?_ | refine qcall0D (BCall.ofP (plainI (iOv_ok _ _ _ _ _ _ _ _ _ _ ?_ ?_ ?_ ?_ ?_))) ⟨_,_,rfl,rfl⟩ ?_); (iterate 5 (exact sd)); rintro _ _ ⟨rfl,rfl⟩) | ((first | refine call0D (cells_ok _ _ _ _ _ ?_ ?_ ?_) ?_ | refine qcall0D (BCall.ofP (plainI (cells_ok _ _ _ _ _ ?_ ?_ ?_))) ⟨_,_,rfl,rfl⟩ ?_); (iterate 3 (exact sd)); rintro _ _ ⟨rfl,rfl⟩) | ((first | refine call0D (BCall.ofP (slIndex_ok _ _ _ ?_ ?_)) ?_ | refine qcall0D (BCall.ofP (slIndex_ok _ _ _ ?_ ?_)) ⟨_,_,rfl,rfl⟩ ?_); (iterate 2 (exact sd)); rintro _ _ ⟨rfl,rfl⟩)) <;> (try simp (disch := omega) only [push_cast,seval,hO,hO',hB,hm,hnz]))
 | (refine awp_ret ⟨.inr rfl,_,rfl,?_⟩; (try simp (disch := omega) only [push_cast,seval,hO,hO',hB,hm,hnz]))))
    all_goals simp [wiP,hB]

end Go.Proofs.Ytgkgnphonihheaa
