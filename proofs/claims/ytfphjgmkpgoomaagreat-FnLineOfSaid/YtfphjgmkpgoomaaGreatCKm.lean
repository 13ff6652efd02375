import Derived.Test.YtfphjgmkpgoomaaGreatCKl
import Derived.Test.YtfphjgmkpgoomaaGreatCM1
set_option linter.unusedSimpArgs false
set_option linter.unusedVariables false
set_option maxRecDepth 4000
set_option maxHeartbeats 4000000
namespace Go.Proofs.YtfphjgmkpgoomaaGreat
open VwM Vw Go

theorem meet_ok (s c s' c' : Int) (n n' : Nat) (hc : 1 ≤ c ∧ c ≤ 200) (hc' : 1 ≤ c' ∧ c' ≤ 200) (hb : ∀ i : Nat,i < n → -100 ≤ s + (i : Int) * c ∧ s + (i : Int) * c ≤ 100) (hb' : ∀ i : Nat,i < n' → -100 ≤ s' + (i : Int) * c' ∧ s' + (i : Int) * c' ≤ 100) :
    PCall Tryz.prog 80 [PR s c n,PR s' c' n'] (fun r => r = nrmA (commL (nums s c n) (nums s' c' n'))) := by
  have hv := PR_valid (by omega) (by omega) hb
  have hv' := PR_valid (by omega) (by omega) hb'
  have hN := cntN_PR (by omega) (by omega) hb
  have hN' := cntN_PR (by omega) (by omega) hb'
  have hE := fun h => pE_eq (s := s) (c := c) (n := n) (by omega) h
  have hE' := fun h => pE_eq (s := s') (c := c') (n := n') (by omega) h
  have hp := pC_pos (c := c) (n := n) hc.1
  have hp' := pC_pos (c := c') (n := n') hc'.1
  rw [← nums_PR s c n,← nums_PR s' c' n']
  show PCall Tryz.prog 80 [rng (pS s n) (pE s c n) (pC c n),rng (pS s' n') (pE s' c' n') (pC c' n')] _
  generalize pS s n = S at *
  generalize pE s c n = E at *
  generalize pC c n = C at *
  generalize pS s' n' = S' at *
  generalize pE s' c' n' = E' at *
  generalize pC c' n' = C' at *
  have hI := cntN_cast hv
  have hI' := cntN_cast hv'
  rw [hN] at hI
  rw [hN'] at hI'
  obtain ⟨k1,k2,k3,k4⟩ := vR_spec.1 hv
  obtain ⟨k1',k2',k3',k4'⟩ := vR_spec.1 hv'
  have hB := cnt_bound hv
  have hI2 := hI.symm
  clear hI
  refine pcall_of l80_eq rfl ?_
  (repeat' (first
 | (first | refine awp_seq ?_ | refine awp_block ?_)
 | ((first | refine awp_reg ?_ | refine awp_condB ?_ | refine awp_skip ?_ | refine awp_exit ?_); simp (disch := omega) only [push_cast,seval,l80r0,l80r1,l80r2,l80r3,l80r4,l80r5,l80r6,l80r7,l80r8,l80r9,l80r10,hI2])
 | ((first | refine condB_split (fun h => ?_) (fun h => ?_) | refine gIf_split (fun h => ?_) (fun h => ?_) | refine qIf_split (fun h => ?_) (fun h => ?_)) <;> (try simp only [h]) <;> (try simp only [bitvec_to_nat] at h) <;> (try simp only [h]) <;> (first | (exfalso; omega) | (focus (exfalso; simp_all; done)) | (simp (disch := omega) only [push_cast,seval,hI2]) | skip))
 | ((first | refine callD_of false ?_ | refine qcallD_of false ?_); simp (disch := omega) only [push_cast,seval,hI2])
 | ((first | ((first | refine call0D (BCall.ofP (count_ok _ _ _ ?_)) ?_ | refine qcall0D (BCall.ofP (count_ok _ _ _ ?_)) ⟨_,_,rfl,rfl⟩ ?_); (exact sd); rintro _ _ ⟨rfl,rfl⟩) | ((first | refine call0D (BCall.ofP (at_ok _ _ _ _ ?_ ?_)) ?_ | refine qcall0D (BCall.ofP (at_ok _ _ _ _ ?_ ?_)) ⟨_,_,rfl,rfl⟩ ?_); (iterate 2 (exact sd)); rintro _ _ ⟨rfl,rfl⟩) | ((first | refine call0D (BCall.ofP (place_ok _ _ _ _ ?_)) ?_ | refine qcall0D (BCall.ofP (place_ok _ _ _ _ ?_)) ⟨_,_,rfl,rfl⟩ ?_); (exact sd); rintro _ _ ⟨rfl,rfl⟩) | ((first | refine call0D (BCall.ofP (commonMultiple_ok _ _ ?_ ?_)) ?_ | refine qcall0D (BCall.ofP (commonMultiple_ok _ _ ?_ ?_)) ⟨_,_,rfl,rfl⟩ ?_); (iterate 2 (exact sd)); rintro _ _ ⟨rfl,rfl⟩) | ((first | refine call0D (BCall.ofP (progression_ok _ _ _ ?_ ?_)) ?_ | refine qcall0D (BCall.ofP (progression_ok _ _ _ ?_ ?_)) ⟨_,_,rfl,rfl⟩ ?_); (iterate 2 (exact sd)); rintro _ _ ⟨rfl,rfl⟩)) <;> (try simp (disch := omega) only [push_cast,seval,hI2]))
 | (refine awp_ret ⟨.inr rfl,_,rfl,?_⟩; (try simp (disch := omega) only [push_cast,seval,hI2]))))
  refine awp_loop (fun i : Nat => mkS [(2,.ref 32 3 0),(3,.ref 48 3 0),(4,.ref 64 3 0),(10,.int .i64 n),(11,.int .i64 i)] [(32,[.int .i64 S,.int .i64 E,.int .i64 C]),(48,[.int .i64 S',.int .i64 E',.int .i64 C']),(64,[.int .i64 0,.int .i64 0,.int .i64 0])])
    (fun i => i ≤ n ∧ ∀ j : Nat,j < i → S + (j : Int) * C ∉ nums S' C' n') (fun i => n - i) 0 ⟨Nat.zero_le _,fun j h => absurd h (Nat.not_lt_zero _)⟩ ?_ ?_
  · (refine Sub.of_lists ?_ ?_ ?_ ?_ ?_ <;> simp [Vw.mkS,Vw.lk,Vw.hk,AV.inn,innL,innL_ints,innL_append,innL_rep,-List.map_set,-List.getD_eq_getElem?_getD])
  · rintro i ⟨hi,hno⟩
    by_cases hlt : i < n
    · have hb2 := num_bound hv (i := i) (by omega)
      by_cases hm : S + (i : Int) * C ∈ nums S' C' n'
      · have hpl : ¬ placeI (nums S' C' n') (S + (i : Int) * C) < 0 := fun h => placeI_neg.1 h hm
        have hat := meet_at hp hp' hlt hm hno
        have hlb := lcm_bound (a := C) (b := C') ⟨hp,by omega⟩ ⟨hp',by omega⟩
        have hin := (mem_nums_iff (a := S) (n := n) (x := S + (i : Int) * C) hp).1 (mem_nums.2 ⟨i,hlt,rfl⟩)
        have hin' := (mem_nums_iff hp').1 hm
        have hE1 := hE (by omega)
        have hn' : 1 ≤ n' := by
          obtain ⟨j,hj,_⟩ := mem_nums.1 hm
          omega
        have hE1' := hE' hn'
        rw [← hE1,← hE1'] at hat
        rw [← hE1] at hin
        rw [← hE1'] at hin'
        generalize hL : (Int.lcm C C' : Int) = l at *
        rw [hat,nrmA_nums]
        have q0 : 0 ≤ min E E' - 1 - (S + (i : Int) * C) := by omega
        have q1 := tdiv_bound (x := min E E' - 1 - (S + (i : Int) * C)) (y := l) (by omega) q0
        have q2 := Int.tdiv_eq_ediv_of_nonneg (a := min E E' - 1 - (S + (i : Int) * C)) (b := l) q0
        have q3 := Int.ediv_mul_le (min E E' - 1 - (S + (i : Int) * C)) (b := l) (by omega)
        rw [← q2] at q3 ⊢
        have q4 : 0 ≤ (min E E' - 1 - (S + (i : Int) * C)).tdiv l * l := Int.mul_nonneg (by omega) (by omega)
        rw [show ((((min E E' - 1 - (S + (i : Int) * C)).tdiv l + 1).toNat : Nat) : Int) = (min E E' - 1 - (S + (i : Int) * C)).tdiv l + 1 by omega]
        have q5 : 1 ≤ (min E E' - 1 - (S + (i : Int) * C)).tdiv l + 1 → -1000000 ≤ ((min E E' - 1 - (S + (i : Int) * C)).tdiv l + 1 - 1) * l ∧ ((min E E' - 1 - (S + (i : Int) * C)).tdiv l + 1 - 1) * l ≤ 1000000 := fun _ => by
          rw [Int.add_sub_cancel]; omega
        have l0 : ¬ l = 0 := by omega
        clear hat q2 hE1 hE1' hE hE'
        (repeat' (first
 | (first | refine awp_seq ?_ | refine awp_block ?_)
 | ((first | refine awp_reg ?_ | refine awp_condB ?_ | refine awp_skip ?_ | refine awp_exit ?_); simp (disch := omega) only [push_cast,seval,l80r0,l80r1,l80r2,l80r3,l80r4,l80r5,l80r6,l80r7,l80r8,l80r9,l80r10,hpl,hN',l0,hL])
 | ((first | refine condB_split (fun h => ?_) (fun h => ?_) | refine gIf_split (fun h => ?_) (fun h => ?_) | refine qIf_split (fun h => ?_) (fun h => ?_)) <;> (try simp only [h]) <;> (try simp only [bitvec_to_nat] at h) <;> (try simp only [h]) <;> (first | (exfalso; omega) | (focus (exfalso; simp_all; done)) | (simp (disch := omega) only [push_cast,seval,hpl,hN',l0,hL]) | skip))
 | ((first | refine callD_of false ?_ | refine qcallD_of false ?_); simp (disch := omega) only [push_cast,seval,hpl,hN',l0,hL])
 | ((first | ((first | refine call0D (BCall.ofP (count_ok _ _ _ ?_)) ?_ | refine qcall0D (BCall.ofP (count_ok _ _ _ ?_)) ⟨_,_,rfl,rfl⟩ ?_); (exact sd); rintro _ _ ⟨rfl,rfl⟩) | ((first | refine call0D (BCall.ofP (at_ok _ _ _ _ ?_ ?_)) ?_ | refine qcall0D (BCall.ofP (at_ok _ _ _ _ ?_ ?_)) ⟨_,_,rfl,rfl⟩ ?_); (iterate 2 (exact sd)); rintro _ _ ⟨rfl,rfl⟩) | ((first | refine call0D (BCall.ofP (place_ok _ _ _ _ ?_)) ?_ | refine qcall0D (BCall.ofP (place_ok _ _ _ _ ?_)) ⟨_,_,rfl,rfl⟩ ?_); (exact sd); rintro _ _ ⟨rfl,rfl⟩) | ((first | refine call0D (BCall.ofP (commonMultiple_ok _ _ ?_ ?_)) ?_ | refine qcall0D (BCall.ofP (commonMultiple_ok _ _ ?_ ?_)) ⟨_,_,rfl,rfl⟩ ?_); (iterate 2 (exact sd)); rintro _ _ ⟨rfl,rfl⟩) | ((first | refine call0D (BCall.ofP (progression_ok _ _ _ ?_ ?_)) ?_ | refine qcall0D (BCall.ofP (progression_ok _ _ _ ?_ ?_)) ⟨_,_,rfl,rfl⟩ ?_); (iterate 2 (exact sd)); rintro _ _ ⟨rfl,rfl⟩)) <;> (try simp (disch := omega) only [push_cast,seval,hpl,hN',l0,hL]))
 | (refine awp_ret ⟨.inr rfl,_,rfl,?_⟩; (try simp (disch := omega) only [push_cast,seval,hpl,hN',l0,hL]))))
      · have hpl : placeI (nums S' C' n') (S + (i : Int) * C) < 0 := placeI_neg.2 hm
        (repeat' (first
 | (first | refine awp_seq ?_ | refine awp_block ?_)
 | ((first | refine awp_reg ?_ | refine awp_condB ?_ | refine awp_skip ?_ | refine awp_exit ?_); simp (disch := omega) only [push_cast,seval,l80r0,l80r1,l80r2,l80r3,l80r4,l80r5,l80r6,l80r7,l80r8,l80r9,l80r10,hpl,hN'])
 | ((first | refine condB_split (fun h => ?_) (fun h => ?_) | refine gIf_split (fun h => ?_) (fun h => ?_) | refine qIf_split (fun h => ?_) (fun h => ?_)) <;> (try simp only [h]) <;> (try simp only [bitvec_to_nat] at h) <;> (try simp only [h]) <;> (first | (exfalso; omega) | (focus (exfalso; simp_all; done)) | (simp (disch := omega) only [push_cast,seval,hpl,hN']) | skip))
 | ((first | refine callD_of false ?_ | refine qcallD_of false ?_); simp (disch := omega) only [push_cast,seval,hpl,hN'])
 | ((first | ((first | refine call0D (BCall.ofP (count_ok _ _ _ ?_)) ?_ | refine qcall0D (BCall.ofP (count_ok _ _ _ ?_)) ⟨_,_,rfl,rfl⟩ ?_); (exact sd); rintro _ _ ⟨rfl,rfl⟩) | ((first | refine call0D (BCall.ofP (at_ok _ _ _ _ ?_ ?_)) ?_ | refine qcall0D (BCall.ofP (at_ok _ _ _ _ ?_ ?_)) ⟨_,_,rfl,rfl⟩ ?_); (iterate 2 (exact sd)); rintro _ _ ⟨rfl,rfl⟩) | ((first | refine call0D (BCall.ofP (place_ok _ _ _ _ ?_)) ?_ | refine qcall0D (BCall.ofP (place_ok _ _ _ _ ?_)) ⟨_,_,rfl,rfl⟩ ?_); (exact sd); rintro _ _ ⟨rfl,rfl⟩) | ((first | refine call0D (BCall.ofP (commonMultiple_ok _ _ ?_ ?_)) ?_ | refine qcall0D (BCall.ofP (commonMultiple_ok _ _ ?_ ?_)) ⟨_,_,rfl,rfl⟩ ?_); (iterate 2 (exact sd)); rintro _ _ ⟨rfl,rfl⟩) | ((first | refine call0D (BCall.ofP (progression_ok _ _ _ ?_ ?_)) ?_ | refine qcall0D (BCall.ofP (progression_ok _ _ _ ?_ ?_)) ⟨_,_,rfl,rfl⟩ ?_); (iterate 2 (exact sd)); rintro _ _ ⟨rfl,rfl⟩)) <;> (try simp (disch := omega) only [push_cast,seval,hpl,hN']))
 | (refine awp_ret ⟨.inr rfl,_,rfl,?_⟩; (try simp (disch := omega) only [push_cast,seval,hpl,hN']))))
        refine ⟨i + 1,⟨by omega,fun j h => ?_⟩,by omega,?_⟩
        · by_cases hjk : j = i
          · subst hjk; assumption
          · exact hno j (by omega)
        · (refine Sub.of_lists ?_ ?_ ?_ ?_ ?_ <;> simp [Vw.mkS,Vw.lk,Vw.hk,AV.inn,innL,innL_ints,innL_append,innL_rep,-List.map_set,-List.getD_eq_getElem?_getD])
    · rw [meet_none fun j hj => hno j (by omega)]
      (repeat' (first
 | (first | refine awp_seq ?_ | refine awp_block ?_)
 | ((first | refine awp_reg ?_ | refine awp_condB ?_ | refine awp_skip ?_ | refine awp_exit ?_); simp (disch := omega) only [push_cast,seval,l80r0,l80r1,l80r2,l80r3,l80r4,l80r5,l80r6,l80r7,l80r8,l80r9,l80r10])
 | ((first | refine condB_split (fun h => ?_) (fun h => ?_) | refine gIf_split (fun h => ?_) (fun h => ?_) | refine qIf_split (fun h => ?_) (fun h => ?_)) <;> (try simp only [h]) <;> (try simp only [bitvec_to_nat] at h) <;> (try simp only [h]) <;> (first | (exfalso; omega) | (focus (exfalso; simp_all; done)) | (simp (disch := omega) only [push_cast,seval]) | skip))
 | ((first | refine callD_of false ?_ | refine qcallD_of false ?_); simp (disch := omega) only [push_cast,seval])
 | ((first | ((first | refine call0D (BCall.ofP (count_ok _ _ _ ?_)) ?_ | refine qcall0D (BCall.ofP (count_ok _ _ _ ?_)) ⟨_,_,rfl,rfl⟩ ?_); (exact sd); rintro _ _ ⟨rfl,rfl⟩) | ((first | refine call0D (BCall.ofP (at_ok _ _ _ _ ?_ ?_)) ?_ | refine qcall0D (BCall.ofP (at_ok _ _ _ _ ?_ ?_)) ⟨_,_,rfl,rfl⟩ ?_); (iterate 2 (exact sd)); rintro _ _ ⟨rfl,rfl⟩) | ((first | refine call0D (BCall.ofP (place_ok _ _ _ _ ?_)) ?_ | refine qcall0D (BCall.ofP (place_ok _ _ _ _ ?_)) ⟨_,_,rfl,rfl⟩ ?_); (exact sd); rintro _ _ ⟨rfl,rfl⟩) | ((first | refine call0D (BCall.ofP (commonMultiple_ok _ _ ?_ ?_)) ?_ | refine qcall0D (BCall.ofP (commonMultiple_ok _ _ ?_ ?_)) ⟨_,_,rfl,rfl⟩ ?_); (iterate 2 (exact sd)); rintro _ _ ⟨rfl,rfl⟩) | ((first | refine call0D (BCall.ofP (progression_ok _ _ _ ?_ ?_)) ?_ | refine qcall0D (BCall.ofP (progression_ok _ _ _ ?_ ?_)) ⟨_,_,rfl,rfl⟩ ?_); (iterate 2 (exact sd)); rintro _ _ ⟨rfl,rfl⟩)) <;> (try simp (disch := omega) only [push_cast,seval]))
 | (refine awp_ret ⟨.inr rfl,_,rfl,?_⟩; (try simp (disch := omega) only [push_cast,seval]))))
      all_goals simp [nrmA,pS,pE,pC]


theorem meA_neg {a b c a' b' c' : Int} (h : ¬ (vR a b c = true ∧ vR a' b' c' = true)) : meA a b c a' b' c' = rng 0 0 0 := if_neg h


theorem iMeetRanges_ok (a b c a' b' c' : Int) : PCall Tryz.prog 26 [rng a b c,rng a' b' c'] (fun r => r = meA a b c a' b' c') := by
  refine pcall_of l26_eq rfl ?_
  cases hv : vR a b c with
  | false =>
    rw [meA_neg (by rw [hv]; simp)]
    (repeat' (first
 | (first | refine awp_seq ?_ | refine awp_block ?_)
 | ((first | refine awp_reg ?_ | refine awp_draw (mid := l26r3a) (post := l26r3b) mixed (by decide) ?_ | refine awp_condB ?_ | refine awp_skip ?_ | refine awp_exit ?_); simp (disch := omega) only [push_cast,seval,l26r0,l26r1,l26r2,l26r3a,l26r3b,l26r3,hv])
 | ((first | refine condB_split (fun h => ?_) (fun h => ?_) | refine gIf_split (fun h => ?_) (fun h => ?_) | refine qIf_split (fun h => ?_) (fun h => ?_)) <;> (try simp only [h]) <;> (try simp only [bitvec_to_nat] at h) <;> (try simp only [h]) <;> (first | (exfalso; omega) | (focus (exfalso; simp_all; done)) | (simp (disch := omega) only [push_cast,seval,hv]) | skip))
 | ((first | refine callD_of false ?_ | refine qcallD_of false ?_); simp (disch := omega) only [push_cast,seval,hv])
 | ((first | ((first | refine call0D (BCall.ofP (iValidRange_ok _ _ _)) ?_ | refine qcall0D (BCall.ofP (iValidRange_ok _ _ _)) ⟨_,_,rfl,rfl⟩ ?_); rintro _ _ ⟨rfl,rfl⟩) | ((first | refine call0D (BCall.ofP (iascending_ok _ _ _ ?_)) ?_ | refine qcall0D (BCall.ofP (iascending_ok _ _ _ ?_)) ⟨_,_,rfl,rfl⟩ ?_); (exact sd); rintro _ _ ⟨rfl,rfl⟩) | ((first | refine call0D (BCall.ofP (meet_ok _ _ _ _ _ _ ?_ ?_ ?_ ?_)) ?_ | refine qcall0D (BCall.ofP (meet_ok _ _ _ _ _ _ ?_ ?_ ?_ ?_)) ⟨_,_,rfl,rfl⟩ ?_); (iterate 4 (exact sd)); rintro _ _ ⟨rfl,rfl⟩)) <;> (try simp (disch := omega) only [push_cast,seval,hv]))
 | (refine awp_ret ⟨.inr rfl,_,rfl,?_⟩; (try simp (disch := omega) only [push_cast,seval,hv]))))
  | true =>
  cases hv' : vR a' b' c' with
  | false =>
    rw [meA_neg (by rw [hv']; simp)]
    (repeat' (first
 | (first | refine awp_seq ?_ | refine awp_block ?_)
 | ((first | refine awp_reg ?_ | refine awp_draw (mid := l26r3a) (post := l26r3b) mixed (by decide) ?_ | refine awp_condB ?_ | refine awp_skip ?_ | refine awp_exit ?_); simp (disch := omega) only [push_cast,seval,l26r0,l26r1,l26r2,l26r3a,l26r3b,l26r3,hv,hv'])
 | ((first | refine condB_split (fun h => ?_) (fun h => ?_) | refine gIf_split (fun h => ?_) (fun h => ?_) | refine qIf_split (fun h => ?_) (fun h => ?_)) <;> (try simp only [h]) <;> (try simp only [bitvec_to_nat] at h) <;> (try simp only [h]) <;> (first | (exfalso; omega) | (focus (exfalso; simp_all; done)) | (simp (disch := omega) only [push_cast,seval,hv,hv']) | skip))
 | ((first | refine callD_of false ?_ | refine qcallD_of false ?_); simp (disch := omega) only [push_cast,seval,hv,hv'])
 | ((first | ((first | refine call0D (BCall.ofP (iValidRange_ok _ _ _)) ?_ | refine qcall0D (BCall.ofP (iValidRange_ok _ _ _)) ⟨_,_,rfl,rfl⟩ ?_); rintro _ _ ⟨rfl,rfl⟩) | ((first | refine call0D (BCall.ofP (iascending_ok _ _ _ ?_)) ?_ | refine qcall0D (BCall.ofP (iascending_ok _ _ _ ?_)) ⟨_,_,rfl,rfl⟩ ?_); (exact sd); rintro _ _ ⟨rfl,rfl⟩) | ((first | refine call0D (BCall.ofP (meet_ok _ _ _ _ _ _ ?_ ?_ ?_ ?_)) ?_ | refine qcall0D (BCall.ofP (meet_ok _ _ _ _ _ _ ?_ ?_ ?_ ?_)) ⟨_,_,rfl,rfl⟩ ?_); (iterate 4 (exact sd)); rintro _ _ ⟨rfl,rfl⟩)) <;> (try simp (disch := omega) only [push_cast,seval,hv,hv']))
 | (refine awp_ret ⟨.inr rfl,_,rfl,?_⟩; (try simp (disch := omega) only [push_cast,seval,hv,hv']))))
  | true =>
    unfold meA
    rw [if_pos ⟨hv,hv'⟩]
    obtain ⟨-,-,k3,k4⟩ := vR_spec.1 hv
    obtain ⟨-,-,k3',k4'⟩ := vR_spec.1 hv'
    have hc : 1 ≤ aC c ∧ aC c ≤ 200 := ⟨aC_pos k4,by unfold aC; split <;> omega⟩
    have hc' : 1 ≤ aC c' ∧ aC c' ≤ 200 := ⟨aC_pos k4',by unfold aC; split <;> omega⟩
    have hb := asc_bound hv
    have hb' := asc_bound hv'
    obtain ⟨x,y,z,e⟩ := nrmA_rng (commL (nums (aS a c (cntN a b c)) (aC c) (cntN a b c)) (nums (aS a' c' (cntN a' b' c')) (aC c') (cntN a' b' c')))
    (repeat' (first
 | (first | refine awp_seq ?_ | refine awp_block ?_)
 | ((first | refine awp_reg ?_ | refine awp_draw (mid := l26r3a) (post := l26r3b) mixed (by decide) ?_ | refine awp_condB ?_ | refine awp_skip ?_ | refine awp_exit ?_); simp (disch := omega) only [push_cast,seval,l26r0,l26r1,l26r2,l26r3a,l26r3b,l26r3,hv,hv',e])
 | ((first | refine condB_split (fun h => ?_) (fun h => ?_) | refine gIf_split (fun h => ?_) (fun h => ?_) | refine qIf_split (fun h => ?_) (fun h => ?_)) <;> (try simp only [h]) <;> (try simp only [bitvec_to_nat] at h) <;> (try simp only [h]) <;> (first | (exfalso; omega) | (focus (exfalso; simp_all; done)) | (simp (disch := omega) only [push_cast,seval,hv,hv',e]) | skip))
 | ((first | refine callD_of false ?_ | refine qcallD_of false ?_); simp (disch := omega) only [push_cast,seval,hv,hv',e])
 | ((first | ((first | refine call0D (BCall.ofP (iValidRange_ok _ _ _)) ?_ | refine qcall0D (BCall.ofP (iValidRange_ok _ _ _)) ⟨_,_,rfl,rfl⟩ ?_); rintro _ _ ⟨rfl,rfl⟩) | ((first | refine call0D (BCall.ofP (iascending_ok _ _ _ ?_)) ?_ | refine qcall0D (BCall.ofP (iascending_ok _ _ _ ?_)) ⟨_,_,rfl,rfl⟩ ?_); (exact sd); rintro _ _ ⟨rfl,rfl⟩) | ((first | refine call0D (BCall.ofP (meet_ok _ _ _ _ _ _ ?_ ?_ ?_ ?_)) ?_ | refine qcall0D (BCall.ofP (meet_ok _ _ _ _ _ _ ?_ ?_ ?_ ?_)) ⟨_,_,rfl,rfl⟩ ?_); (iterate 4 (exact sd)); rintro _ _ ⟨rfl,rfl⟩)) <;> (try simp (disch := omega) only [push_cast,seval,hv,hv',e]))
 | (refine awp_ret ⟨.inr rfl,_,rfl,?_⟩; (try simp (disch := omega) only [push_cast,seval,hv,hv',e]))))

end Go.Proofs.YtfphjgmkpgoomaaGreat
