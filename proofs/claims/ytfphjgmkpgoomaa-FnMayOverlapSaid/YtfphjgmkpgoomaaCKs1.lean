import Derived.Test.YtfphjgmkpgoomaaCKp
import Derived.Test.YtfphjgmkpgoomaaCM1
set_option linter.unusedSimpArgs false
set_option linter.unusedVariables false
set_option maxRecDepth 4000
set_option maxHeartbeats 4000000
namespace Go.Proofs.Ytfphjgmkpgoomaa
open VwM Vw Go

theorem span_ok (b : Int) (sh st : List Int) (n m : Nat) (hn : sh.length = n) (hm : st.length = m) (hv : vV b sh st = true) : PCall Try.prog 32 [.agg [.int .i64 b,.rows false (IL sh) n,.rows false (IL st) m]] (fun r => r = PR (spS b sh st) 1 (spN b sh st)) := by
  subst hn hm
  obtain ⟨h1,h2,h3,-⟩ := vV_spec.1 hv
  have hg := (vSh_good h1).1
  have q : good4 sh ∧ vSt st sh.length = true ∧ -1000000 ≤ b ∧ b ≤ 1000000 := ⟨hg,h2,by omega⟩
  refine pcall_of l32_eq rfl ?_
  by_cases hz : pr sh = 0
  · have e1 : spS b sh st = 0 := if_pos hz
    have e2 : spN b sh st = 0 := if_pos hz
    rw [e1,e2]
    (repeat' (first
 | (first | refine awp_seq ?_ | refine awp_block ?_)
 | ((first | refine awp_reg ?_ | refine awp_condB ?_ | refine awp_skip ?_ | refine awp_exit ?_); simp (disch := omega) only [push_cast,seval,l32r0,l32r1,l32r2,l32r3,l32r4,hz])
 | ((first | refine condB_split (fun h => ?_) (fun h => ?_) | refine gIf_split (fun h => ?_) (fun h => ?_) | refine qIf_split (fun h => ?_) (fun h => ?_)) <;> (try simp only [h]) <;> (try simp only [bitvec_to_nat] at h) <;> (try simp only [h]) <;> (first | (exfalso; omega) | (focus (exfalso; simp_all; done)) | (simp (disch := omega) only [push_cast,seval,hz]) | skip))
 | ((first | refine callD_of false ?_ | refine qcallD_of false ?_); simp (disch := omega) only [push_cast,seval,hz])
 | ((first | ((first | refine call0D (BCall.ofP (vcount_ok _ _ _ _ _ _ ?_ ?_)) ?_ | refine qcall0D (BCall.ofP (vcount_ok _ _ _ _ _ _ ?_ ?_)) ⟨_,_,rfl,rfl⟩ ?_); (iterate 2 (exact sd)); rintro _ _ ⟨rfl,rfl⟩) | ((first | refine call0D (BCall.ofP (progression_ok _ _ _ ?_ ?_)) ?_ | refine qcall0D (BCall.ofP (progression_ok _ _ _ ?_ ?_)) ⟨_,_,rfl,rfl⟩ ?_); (iterate 2 (exact sd)); rintro _ _ ⟨rfl,rfl⟩) | ((first | refine call0D (BCall.ofP (bounds_ok _ _ _ _ _ ?_ ?_ ?_)) ?_ | refine qcall0D (BCall.ofP (bounds_ok _ _ _ _ _ ?_ ?_ ?_)) ⟨_,_,rfl,rfl⟩ ?_); (iterate 3 (exact sd)); rintro _ _ ⟨rfl,rfl⟩)) <;> (try simp (disch := omega) only [push_cast,seval,hz]))
 | (refine awp_ret ⟨.inr rfl,_,rfl,?_⟩; (try simp (disch := omega) only [push_cast,seval,hz]))))
    all_goals simp
  · have e1 : spS b sh st = bdL b sh st := if_neg hz
    have e2 : ((spN b sh st : Nat) : Int) = bdH b sh st - bdL b sh st + 1 := by
      have := bd_cells hv hz
      unfold spN; rw [if_neg hz]; omega
    have hb := bd_cells hv hz
    rw [e1,e2]
    (repeat' (first
 | (first | refine awp_seq ?_ | refine awp_block ?_)
 | ((first | refine awp_reg ?_ | refine awp_condB ?_ | refine awp_skip ?_ | refine awp_exit ?_); simp (disch := omega) only [push_cast,seval,l32r0,l32r1,l32r2,l32r3,l32r4,hz])
 | ((first | refine condB_split (fun h => ?_) (fun h => ?_) | refine gIf_split (fun h => ?_) (fun h => ?_) | refine qIf_split (fun h => ?_) (fun h => ?_)) <;> (try simp only [h]) <;> (try simp only [bitvec_to_nat] at h) <;> (try simp only [h]) <;> (first | (exfalso; omega) | (focus (exfalso; simp_all; done)) | (simp (disch := omega) only [push_cast,seval,hz]) | skip))
 | ((first | refine callD_of false ?_ | refine qcallD_of false ?_); simp (disch := omega) only [push_cast,seval,hz])
 | ((first | ((first | refine call0D (BCall.ofP (vcount_ok _ _ _ _ _ _ ?_ ?_)) ?_ | refine qcall0D (BCall.ofP (vcount_ok _ _ _ _ _ _ ?_ ?_)) ⟨_,_,rfl,rfl⟩ ?_); (iterate 2 (exact sd)); rintro _ _ ⟨rfl,rfl⟩) | ((first | refine call0D (BCall.ofP (progression_ok _ _ _ ?_ ?_)) ?_ | refine qcall0D (BCall.ofP (progression_ok _ _ _ ?_ ?_)) ⟨_,_,rfl,rfl⟩ ?_); (iterate 2 (exact sd)); rintro _ _ ⟨rfl,rfl⟩) | ((first | refine call0D (BCall.ofP (bounds_ok _ _ _ _ _ ?_ ?_ ?_)) ?_ | refine qcall0D (BCall.ofP (bounds_ok _ _ _ _ _ ?_ ?_ ?_)) ⟨_,_,rfl,rfl⟩ ?_); (iterate 3 (exact sd)); rintro _ _ ⟨rfl,rfl⟩)) <;> (try simp (disch := omega) only [push_cast,seval,hz]))
 | (refine awp_ret ⟨.inr rfl,_,rfl,?_⟩; (try simp (disch := omega) only [push_cast,seval,hz]))))
    all_goals simp


theorem sMayOverlap_ok (b : Int) (sh st : List Int) (b' : Int) (sh' st' : List Int) (n m n' m' : Nat) (hn : sh.length = n) (hm : st.length = m) (hn' : sh'.length = n') (hm' : st'.length = m') (hb : (n ≤ 1099511627776 ∧ m ≤ 1099511627776) ∧ n' ≤ 1099511627776 ∧ m' ≤ 1099511627776) : PCall Try.prog 16 [.agg [.int .i64 b,.rows false (IL sh) n,.rows false (IL st) m],.agg [.int .i64 b',.rows false (IL sh') n',.rows false (IL st') m']] (fun r => r = .bool (mayB b sh st b' sh' st')) := by
  subst hn hm hn' hm'
  obtain ⟨⟨hb1,hb2⟩,hb3,hb4⟩ := hb
  have e : mayB b sh st b' sh' st' = (decide (0 ≤ boL b sh st) && decide (0 ≤ boL b' sh' st') && decide (boL b sh st ≤ boH b' sh' st') && decide (boL b' sh' st' ≤ boH b sh st)) := by
    cases hv : vV b sh st with
    | false => simp [mayB,boL,hv]
    | true =>
    cases hv' : vV b' sh' st' with
    | false => simp [mayB,boL,hv,hv']
    | true =>
      rw [may_iff hv hv']
      simp [boL,boH,hv,hv']
  rw [e]
  refine pcall_of l16_eq rfl ?_
  (repeat' (first
 | (first | refine awp_seq ?_ | refine awp_block ?_)
 | ((first | refine awp_reg ?_ | refine awp_condB ?_ | refine awp_skip ?_ | refine awp_exit ?_); simp (disch := omega) only [push_cast,seval,l16r0,l16r1,l16r2,l16r3])
 | ((first | refine condB_split (fun h => ?_) (fun h => ?_) | refine gIf_split (fun h => ?_) (fun h => ?_) | refine qIf_split (fun h => ?_) (fun h => ?_)) <;> (try simp only [h]) <;> (try simp only [bitvec_to_nat] at h) <;> (try simp only [h]) <;> (first | (exfalso; omega) | (focus (exfalso; simp_all; done)) | (simp (disch := omega) only [push_cast,seval]) | skip))
 | ((first | refine callD_of false ?_ | refine qcallD_of false ?_); simp (disch := omega) only [push_cast,seval])
 | ((first | ((first | refine call0D (BCall.ofP (sBoundsOf_ok _ _ _ _ _ ?_ ?_ ?_)) ?_ | refine qcall0D (BCall.ofP (sBoundsOf_ok _ _ _ _ _ ?_ ?_ ?_)) ⟨_,_,rfl,rfl⟩ ?_); (iterate 3 (exact sd)); rintro _ _ ⟨rfl,rfl⟩)) <;> (try simp (disch := omega) only [push_cast,seval]))
 | (refine awp_ret ⟨.inr rfl,_,rfl,?_⟩; (try simp (disch := omega) only [push_cast,seval]))))
  all_goals simp_all


theorem iMayOverlap_ok (b : Int) (sh st : List Int) (b' : Int) (sh' st' : List Int) (n m n' m' : Nat) (hn : sh.length = n) (hm : st.length = m) (hn' : sh'.length = n') (hm' : st'.length = m') (hb : (n ≤ 1099511627776 ∧ m ≤ 1099511627776) ∧ n' ≤ 1099511627776 ∧ m' ≤ 1099511627776) : PCall Try.prog 15 [.agg [.int .i64 b,.rows false (IL sh) n,.rows false (IL st) m],.agg [.int .i64 b',.rows false (IL sh') n',.rows false (IL st') m']] (fun r => r = .bool (mayB b sh st b' sh' st')) := by
  subst hn hm hn' hm'
  obtain ⟨⟨hb1,hb2⟩,hb3,hb4⟩ := hb
  refine pcall_of l15_eq rfl ?_
  unfold mayB
  cases hv : vV b sh st with
  | false =>
    (repeat' (first
 | (first | refine awp_seq ?_ | refine awp_block ?_)
 | ((first | refine awp_reg ?_ | refine awp_draw (mid := l15r1a) (post := l15r1b) mixed (by decide) ?_ | refine awp_condB ?_ | refine awp_skip ?_ | refine awp_exit ?_); simp (disch := omega) only [push_cast,seval,l15r0,l15r1a,l15r1b,l15r1,hv])
 | ((first | refine condB_split (fun h => ?_) (fun h => ?_) | refine gIf_split (fun h => ?_) (fun h => ?_) | refine qIf_split (fun h => ?_) (fun h => ?_)) <;> (try simp only [h]) <;> (try simp only [bitvec_to_nat] at h) <;> (try simp only [h]) <;> (first | (exfalso; omega) | (focus (exfalso; simp_all; done)) | (simp (disch := omega) only [push_cast,seval,hv]) | skip))
 | ((first | refine callD_of false ?_ | refine qcallD_of false ?_); simp (disch := omega) only [push_cast,seval,hv])
 | ((first | ((first | refine call0D (BCall.ofP (iValidView_ok _ _ _ _ _ ?_ ?_ ?_)) ?_ | refine qcall0D (BCall.ofP (iValidView_ok _ _ _ _ _ ?_ ?_ ?_)) ⟨_,_,rfl,rfl⟩ ?_); (iterate 3 (exact sd)); rintro _ _ ⟨rfl,rfl⟩) | ((first | refine call0D (BCall.ofP (span_ok _ _ _ _ _ ?_ ?_ ?_)) ?_ | refine qcall0D (BCall.ofP (span_ok _ _ _ _ _ ?_ ?_ ?_)) ⟨_,_,rfl,rfl⟩ ?_); (iterate 3 (exact sd)); rintro _ _ ⟨rfl,rfl⟩) | ((first | refine call0D (BCall.ofP (meet_ok _ _ _ _ _ _ ?_ ?_ ?_ ?_)) ?_ | refine qcall0D (BCall.ofP (meet_ok _ _ _ _ _ _ ?_ ?_ ?_ ?_)) ⟨_,_,rfl,rfl⟩ ?_); (iterate 4 (exact sd)); rintro _ _ ⟨rfl,rfl⟩) | ((first | refine call0D (BCall.ofP (count_ok _ _ _ ?_)) ?_ | refine qcall0D (BCall.ofP (count_ok _ _ _ ?_)) ⟨_,_,rfl,rfl⟩ ?_); (exact sd); rintro _ _ ⟨rfl,rfl⟩)) <;> (try simp (disch := omega) only [push_cast,seval,hv]))
 | (refine awp_ret ⟨.inr rfl,_,rfl,?_⟩; (try simp (disch := omega) only [push_cast,seval,hv]))))
    all_goals simp
  | true =>
  cases hv' : vV b' sh' st' with
  | false =>
    (repeat' (first
 | (first | refine awp_seq ?_ | refine awp_block ?_)
 | ((first | refine awp_reg ?_ | refine awp_draw (mid := l15r1a) (post := l15r1b) mixed (by decide) ?_ | refine awp_condB ?_ | refine awp_skip ?_ | refine awp_exit ?_); simp (disch := omega) only [push_cast,seval,l15r0,l15r1a,l15r1b,l15r1,hv,hv'])
 | ((first | refine condB_split (fun h => ?_) (fun h => ?_) | refine gIf_split (fun h => ?_) (fun h => ?_) | refine qIf_split (fun h => ?_) (fun h => ?_)) <;> (try simp only [h]) <;> (try simp only [bitvec_to_nat] at h) <;> (try simp only [h]) <;> (first | (exfalso; omega) | (focus (exfalso; simp_all; done)) | (simp (disch := omega) only [push_cast,seval,hv,hv']) | skip))
 | ((first | refine callD_of false ?_ | refine qcallD_of false ?_); simp (disch := omega) only [push_cast,seval,hv,hv'])
 | ((first | ((first | refine call0D (BCall.ofP (iValidView_ok _ _ _ _ _ ?_ ?_ ?_)) ?_ | refine qcall0D (BCall.ofP (iValidView_ok _ _ _ _ _ ?_ ?_ ?_)) ⟨_,_,rfl,rfl⟩ ?_); (iterate 3 (exact sd)); rintro _ _ ⟨rfl,rfl⟩) | ((first | refine call0D (BCall.ofP (span_ok _ _ _ _ _ ?_ ?_ ?_)) ?_ | refine qcall0D (BCall.ofP (span_ok _ _ _ _ _ ?_ ?_ ?_)) ⟨_,_,rfl,rfl⟩ ?_); (iterate 3 (exact sd)); rintro _ _ ⟨rfl,rfl⟩) | ((first | refine call0D (BCall.ofP (meet_ok _ _ _ _ _ _ ?_ ?_ ?_ ?_)) ?_ | refine qcall0D (BCall.ofP (meet_ok _ _ _ _ _ _ ?_ ?_ ?_ ?_)) ⟨_,_,rfl,rfl⟩ ?_); (iterate 4 (exact sd)); rintro _ _ ⟨rfl,rfl⟩) | ((first | refine call0D (BCall.ofP (count_ok _ _ _ ?_)) ?_ | refine qcall0D (BCall.ofP (count_ok _ _ _ ?_)) ⟨_,_,rfl,rfl⟩ ?_); (exact sd); rintro _ _ ⟨rfl,rfl⟩)) <;> (try simp (disch := omega) only [push_cast,seval,hv,hv']))
 | (refine awp_ret ⟨.inr rfl,_,rfl,?_⟩; (try simp (disch := omega) only [push_cast,seval,hv,hv']))))
    all_goals simp
  | true =>
    have g1 := sp_bound hv
    have g2 := sp_bound hv'
    have e := commL_blocks (spS b sh st) (spS b' sh' st') (spN b sh st) (spN b' sh' st')
    have hbb : ∀ i : Nat,i < spN b sh st → -100 ≤ (spS b sh st) + (i : Int) * 1 ∧ (spS b sh st) + (i : Int) * 1 ≤ 100 := fun i hi => by omega
    have hbb' : ∀ i : Nat,i < (spN b' sh' st') → -100 ≤ (spS b' sh' st') + (i : Int) * 1 ∧ (spS b' sh' st') + (i : Int) * 1 ≤ 100 := fun i hi => by omega
    have hc1 : (1 : Int) ≤ 1 ∧ (1 : Int) ≤ 200 := by omega
    generalize hlo : max (spS b sh st) (spS b' sh' st') = lo at *
    generalize hkk : (min ((spS b sh st) + (spN b sh st)) ((spS b' sh' st') + (spN b' sh' st')) - lo).toNat = kk at *
    have hbl : ∀ i : Nat,i < kk → -100 ≤ lo + (i : Int) * 1 ∧ lo + (i : Int) * 1 ≤ 100 := fun i hi => by omega
    have v := PR_valid (s := lo) (c := 1) (n := kk) (by omega) (by omega) hbl
    have v2 := cntN_cast v
    rw [cntN_PR (by omega) (by omega) hbl] at v2
    have v3 := v2.symm
    have e2 : nrmA (commL (nums (spS b sh st) 1 (spN b sh st)) (nums (spS b' sh' st') 1 (spN b' sh' st'))) = rng (pS lo kk) (pE lo 1 kk) (pC 1 kk) := by rw [e,nrmA_nums]
    rw [e,nums_length]
    clear v2 e hkk hlo hbl
    generalize pS lo kk = A at *
    generalize pE lo 1 kk = B at *
    generalize pC 1 kk = D at *
    (repeat' (first
 | (first | refine awp_seq ?_ | refine awp_block ?_)
 | ((first | refine awp_reg ?_ | refine awp_draw (mid := l15r1a) (post := l15r1b) mixed (by decide) ?_ | refine awp_condB ?_ | refine awp_skip ?_ | refine awp_exit ?_); simp (disch := omega) only [push_cast,seval,l15r0,l15r1a,l15r1b,l15r1,hv,hv',e2,v3])
 | ((first | refine condB_split (fun h => ?_) (fun h => ?_) | refine gIf_split (fun h => ?_) (fun h => ?_) | refine qIf_split (fun h => ?_) (fun h => ?_)) <;> (try simp only [h]) <;> (try simp only [bitvec_to_nat] at h) <;> (try simp only [h]) <;> (first | (exfalso; omega) | (focus (exfalso; simp_all; done)) | (simp (disch := omega) only [push_cast,seval,hv,hv',e2,v3]) | skip))
 | ((first | refine callD_of false ?_ | refine qcallD_of false ?_); simp (disch := omega) only [push_cast,seval,hv,hv',e2,v3])
 | ((first | ((first | refine call0D (BCall.ofP (iValidView_ok _ _ _ _ _ ?_ ?_ ?_)) ?_ | refine qcall0D (BCall.ofP (iValidView_ok _ _ _ _ _ ?_ ?_ ?_)) ⟨_,_,rfl,rfl⟩ ?_); (iterate 3 (exact sd)); rintro _ _ ⟨rfl,rfl⟩) | ((first | refine call0D (BCall.ofP (span_ok _ _ _ _ _ ?_ ?_ ?_)) ?_ | refine qcall0D (BCall.ofP (span_ok _ _ _ _ _ ?_ ?_ ?_)) ⟨_,_,rfl,rfl⟩ ?_); (iterate 3 (exact sd)); rintro _ _ ⟨rfl,rfl⟩) | ((first | refine call0D (BCall.ofP (meet_ok _ _ _ _ _ _ ?_ ?_ ?_ ?_)) ?_ | refine qcall0D (BCall.ofP (meet_ok _ _ _ _ _ _ ?_ ?_ ?_ ?_)) ⟨_,_,rfl,rfl⟩ ?_); (iterate 4 (exact sd)); rintro _ _ ⟨rfl,rfl⟩) | ((first | refine call0D (BCall.ofP (count_ok _ _ _ ?_)) ?_ | refine qcall0D (BCall.ofP (count_ok _ _ _ ?_)) ⟨_,_,rfl,rfl⟩ ?_); (exact sd); rintro _ _ ⟨rfl,rfl⟩)) <;> (try simp (disch := omega) only [push_cast,seval,hv,hv',e2,v3]))
 | (refine awp_ret ⟨.inr rfl,_,rfl,?_⟩; (try simp (disch := omega) only [push_cast,seval,hv,hv',e2,v3]))))
    all_goals simp

end Go.Proofs.Ytfphjgmkpgoomaa
