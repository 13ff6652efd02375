import Derived.Test.YtejbfjmiidofcaaCKm
import Derived.Test.YtejbfjmiidofcaaCM1
set_option linter.unusedSimpArgs false
set_option linter.unusedVariables false
set_option maxRecDepth 4000
set_option maxHeartbeats 4000000
namespace Go.Proofs.Ytejbfjmiidofcaa
open VwM Vw Go

theorem dealF_eq {a b c w : Int} {k : Nat} : dealF a b c w k = (pS (a + (k : Int) * c) (cntN k (cntN a b c) w),pE (a + (k : Int) * c) (c * w) (cntN k (cntN a b c) w),pC (c * w) (cntN k (cntN a b c) w)) := rfl


theorem countW_ok (a b c : Int) (hv : -1000 ≤ a ∧ a ≤ 1000 ∧ -1000 ≤ b ∧ b ≤ 1000 ∧ -200 ≤ c ∧ c ≤ 200 ∧ c ≠ 0) : PCall Try.prog 98 [rng a b c] (fun r => r = .int .i64 (cntI a b c)) := by
  refine pcall_of l98_eq rfl ?_
  have hq1 : c < 0 → ¬ (0 - (b - a) ≤ 0) → 0 ≤ (0 - (b - a) + (0 - c) - 1).tdiv (0 - c) ∧ (0 - (b - a) + (0 - c) - 1).tdiv (0 - c) ≤ 3000 := fun h1 h2 => by
    have := tdiv_bound (x := 0 - (b - a) + (0 - c) - 1) (y := 0 - c) (by omega) (by omega); omega
  have hq2 : ¬ c < 0 → ¬ (b - a ≤ 0) → 0 ≤ (b - a + c - 1).tdiv c ∧ (b - a + c - 1).tdiv c ≤ 3000 := fun h1 h2 => by
    have := tdiv_bound (x := b - a + c - 1) (y := c) (by omega) (by omega); omega
  unfold cntI
  by_cases h : c < 0
  · by_cases h1 : 0 - (b - a) ≤ 0
    · (repeat' (first
 | (first | refine awp_seq ?_ | refine awp_block ?_)
 | ((first | refine awp_reg ?_ | refine awp_draw (mid := l98r1a) (post := l98r1b) mixed (by decide) ?_ | refine awp_condB ?_ | refine awp_skip ?_ | refine awp_exit ?_); simp (disch := omega) only [push_cast,seval,l98r0,l98r1a,l98r1b,l98r1,l98r2,l98r3,l98r4,l98r5,l98r6,h,h1])
 | ((first | refine condB_split (fun h => ?_) (fun h => ?_) | refine gIf_split (fun h => ?_) (fun h => ?_) | refine qIf_split (fun h => ?_) (fun h => ?_)) <;> (try simp only [h]) <;> (try simp only [bitvec_to_nat] at h) <;> (try simp only [h]) <;> (first | (exfalso; omega) | (focus (exfalso; simp_all; done)) | (simp (disch := omega) only [push_cast,seval,h,h1]) | skip))
 | (refine awp_ret ⟨.inr rfl,_,rfl,?_⟩; (try simp (disch := omega) only [push_cast,seval,h,h1]))))
    · have := hq1 h h1
      (repeat' (first
 | (first | refine awp_seq ?_ | refine awp_block ?_)
 | ((first | refine awp_reg ?_ | refine awp_draw (mid := l98r1a) (post := l98r1b) mixed (by decide) ?_ | refine awp_condB ?_ | refine awp_skip ?_ | refine awp_exit ?_); simp (disch := omega) only [push_cast,seval,l98r0,l98r1a,l98r1b,l98r1,l98r2,l98r3,l98r4,l98r5,l98r6,h,h1])
 | ((first | refine condB_split (fun h => ?_) (fun h => ?_) | refine gIf_split (fun h => ?_) (fun h => ?_) | refine qIf_split (fun h => ?_) (fun h => ?_)) <;> (try simp only [h]) <;> (try simp only [bitvec_to_nat] at h) <;> (try simp only [h]) <;> (first | (exfalso; omega) | (focus (exfalso; simp_all; done)) | (simp (disch := omega) only [push_cast,seval,h,h1]) | skip))
 | (refine awp_ret ⟨.inr rfl,_,rfl,?_⟩; (try simp (disch := omega) only [push_cast,seval,h,h1]))))
  · by_cases h1 : b - a ≤ 0
    · (repeat' (first
 | (first | refine awp_seq ?_ | refine awp_block ?_)
 | ((first | refine awp_reg ?_ | refine awp_draw (mid := l98r1a) (post := l98r1b) mixed (by decide) ?_ | refine awp_condB ?_ | refine awp_skip ?_ | refine awp_exit ?_); simp (disch := omega) only [push_cast,seval,l98r0,l98r1a,l98r1b,l98r1,l98r2,l98r3,l98r4,l98r5,l98r6,h,h1])
 | ((first | refine condB_split (fun h => ?_) (fun h => ?_) | refine gIf_split (fun h => ?_) (fun h => ?_) | refine qIf_split (fun h => ?_) (fun h => ?_)) <;> (try simp only [h]) <;> (try simp only [bitvec_to_nat] at h) <;> (try simp only [h]) <;> (first | (exfalso; omega) | (focus (exfalso; simp_all; done)) | (simp (disch := omega) only [push_cast,seval,h,h1]) | skip))
 | (refine awp_ret ⟨.inr rfl,_,rfl,?_⟩; (try simp (disch := omega) only [push_cast,seval,h,h1]))))
    · have := hq2 h h1
      (repeat' (first
 | (first | refine awp_seq ?_ | refine awp_block ?_)
 | ((first | refine awp_reg ?_ | refine awp_draw (mid := l98r1a) (post := l98r1b) mixed (by decide) ?_ | refine awp_condB ?_ | refine awp_skip ?_ | refine awp_exit ?_); simp (disch := omega) only [push_cast,seval,l98r0,l98r1a,l98r1b,l98r1,l98r2,l98r3,l98r4,l98r5,l98r6,h,h1])
 | ((first | refine condB_split (fun h => ?_) (fun h => ?_) | refine gIf_split (fun h => ?_) (fun h => ?_) | refine qIf_split (fun h => ?_) (fun h => ?_)) <;> (try simp only [h]) <;> (try simp only [bitvec_to_nat] at h) <;> (try simp only [h]) <;> (first | (exfalso; omega) | (focus (exfalso; simp_all; done)) | (simp (disch := omega) only [push_cast,seval,h,h1]) | skip))
 | (refine awp_ret ⟨.inr rfl,_,rfl,?_⟩; (try simp (disch := omega) only [push_cast,seval,h,h1]))))


theorem sDealRange_ok (a b c w : Int) : BCall Try.prog 94 [rng a b c,.int .i64 w] [] (fun r H' => r = .own 0 (dealN a b c w) 3 ∧ H' = [IL (dealL a b c w)]) := by
  refine bcall_of (pins := []) (pin := 0) l94_eq rfl rfl rfl ?_
  by_cases hg : vR a b c = true ∧ 1 ≤ w ∧ w ≤ 6
  · obtain ⟨hd1,hd2⟩ := deal_pos hg
    obtain ⟨hv,hw1,hw2⟩ := hg
    rw [hd1,hd2]
    obtain ⟨n,rfl⟩ : ∃ n : Nat,w = n := ⟨w.toNat,by omega⟩
    have hN := cntN_cast hv
    have hB := cnt_bound hv
    rw [Int.toNat_natCast]
    have hNb : cntN a b c ≤ 500 := by omega
    clear hN hB
    (repeat' (first
 | (first | refine awp_seq ?_ | refine awp_block ?_)
 | ((first | refine awp_reg ?_ | refine awp_condB ?_ | refine awp_skip ?_ | refine awp_exit ?_); simp (disch := omega) only [push_cast,seval,l94r0,l94r1,l94r2,l94r3,l94r4,l94r5,l94r6,l94r7,l94r8,l94r9,l94r10,l94r11,l94r12,l94r13,l94r14,hv,hw1,hw2])
 | ((first | refine condB_split (fun h => ?_) (fun h => ?_) | refine gIf_split (fun h => ?_) (fun h => ?_) | refine qIf_split (fun h => ?_) (fun h => ?_)) <;> (try simp only [h]) <;> (try simp only [bitvec_to_nat] at h) <;> (try simp only [h]) <;> (first | (exfalso; omega) | (focus (exfalso; simp_all; done)) | (simp (disch := omega) only [push_cast,seval,hv,hw1,hw2]) | skip))
 | ((first | refine callD_of false ?_ | refine qcallD_of false ?_); simp (disch := omega) only [push_cast,seval,hv,hw1,hw2])
 | ((first | ((first | refine call0D (BCall.ofP (svalidRange_ok _ _ _)) ?_ | refine qcall0D (BCall.ofP (svalidRange_ok _ _ _)) ⟨_,_,rfl,rfl⟩ ?_); rintro _ _ ⟨rfl,rfl⟩) | ((first | refine call0D (BCall.ofP (inRange_ok _ _ _)) ?_ | refine qcall0D (BCall.ofP (inRange_ok _ _ _)) ⟨_,_,rfl,rfl⟩ ?_); rintro _ _ ⟨rfl,rfl⟩) | ((first | refine call0D (snumbers_ok _ _ _ ?_) ?_ | refine qcall0D (snumbers_ok _ _ _ ?_) ⟨_,_,rfl,rfl⟩ ?_); (exact sd); rintro _ _ ⟨rfl,rfl⟩) | ((first | refine call0D (BCall.ofP (snormal_ok _ _ _ ?_ ?_)) ?_ | refine qcall0D (BCall.ofP (snormal_ok _ _ _ ?_ ?_)) ⟨_,_,rfl,rfl⟩ ?_); (iterate 2 (exact sd)); rintro _ _ ⟨rfl,rfl⟩) | ((first | refine call0D (BCall.ofP (snormal_ok _ _ _ ?_ ?_)) ?_ | refine qcall0D (BCall.ofP (snormal_ok _ _ _ ?_ ?_)) ⟨_,_,rfl,rfl⟩ ?_); (iterate 2 (exact sd)); rintro _ _ ⟨rfl,rfl⟩) | ((first | refine call0D (BCall.ofP (snormalG_ok _ _ ?_ ?_ ?_)) ?_ | refine qcall0D (BCall.ofP (snormalG_ok _ _ ?_ ?_ ?_)) ⟨_,_,rfl,rfl⟩ ?_); (iterate 3 (exact sd)); rintro _ _ ⟨rfl,rfl⟩)) <;> (try simp (disch := omega) only [push_cast,seval,hv,hw1,hw2]))
 | (refine awp_ret ⟨.inr rfl,[176],[],_,by decide,rfl,?_⟩; (try simp (disch := omega) only [push_cast,seval,↓allMem_nil,↓allMem_cons,↓List.map_cons,↓List.map_nil,hv,hw1,hw2]); (first | done | (show AV.own _ _ _ = _ ∧ _)))
 | (refine awp_ret ⟨.inr rfl,[240],[],_,by decide,rfl,?_⟩; (try simp (disch := omega) only [push_cast,seval,↓allMem_nil,↓allMem_cons,↓List.map_cons,↓List.map_nil,hv,hw1,hw2]); (first | done | (show AV.own _ _ _ = _ ∧ _)))
 | (refine awp_ret ⟨.inr rfl,[288],[],_,by decide,rfl,?_⟩; (try simp (disch := omega) only [push_cast,seval,↓allMem_nil,↓allMem_cons,↓List.map_cons,↓List.map_nil,hv,hw1,hw2]); (first | done | (show AV.own _ _ _ = _ ∧ _)))
 | (refine awp_ret ⟨.inr rfl,[320],[],_,by decide,rfl,?_⟩; (try simp (disch := omega) only [push_cast,seval,↓allMem_nil,↓allMem_cons,↓List.map_cons,↓List.map_nil,hv,hw1,hw2]); (first | done | (show AV.own _ _ _ = _ ∧ _)))
 | (refine awp_ret ⟨.inr rfl,[416],[],_,by decide,rfl,?_⟩; (try simp (disch := omega) only [push_cast,seval,↓allMem_nil,↓allMem_cons,↓List.map_cons,↓List.map_nil,hv,hw1,hw2]); (first | done | (show AV.own _ _ _ = _ ∧ _)))
 | (refine awp_ret ⟨.inr rfl,[640],[],_,by decide,rfl,?_⟩; (try simp (disch := omega) only [push_cast,seval,↓allMem_nil,↓allMem_cons,↓List.map_cons,↓List.map_nil,hv,hw1,hw2]); (first | done | (show AV.own _ _ _ = _ ∧ _)))
 | (refine awp_ret ⟨.inr rfl,[656],[],_,by decide,rfl,?_⟩; (try simp (disch := omega) only [push_cast,seval,↓allMem_nil,↓allMem_cons,↓List.map_cons,↓List.map_nil,hv,hw1,hw2]); (first | done | (show AV.own _ _ _ = _ ∧ _)))
 | (refine awp_ret ⟨.inr rfl,[704],[],_,by decide,rfl,?_⟩; (try simp (disch := omega) only [push_cast,seval,↓allMem_nil,↓allMem_cons,↓List.map_cons,↓List.map_nil,hv,hw1,hw2]); (first | done | (show AV.own _ _ _ = _ ∧ _)))
 | (refine awp_ret ⟨.inr rfl,[720],[],_,by decide,rfl,?_⟩; (try simp (disch := omega) only [push_cast,seval,↓allMem_nil,↓allMem_cons,↓List.map_cons,↓List.map_nil,hv,hw1,hw2]); (first | done | (show AV.own _ _ _ = _ ∧ _)))
 | (refine awp_ret ⟨.inr rfl,[736],[],_,by decide,rfl,?_⟩; (try simp (disch := omega) only [push_cast,seval,↓allMem_nil,↓allMem_cons,↓List.map_cons,↓List.map_nil,hv,hw1,hw2]); (first | done | (show AV.own _ _ _ = _ ∧ _)))))
    refine awp_loop (fun k : Nat => mkS [(1,.int .i64 n),(2,.ref 32 3 0),(5,.own 288 k 3),(6,.own 320 (cntN a b c) 1),(7,.int .i64 k)] [(288,IL (fl3 (dealF a b c n) k)),(320,IL (nums a c (cntN a b c))),(32,[.int .i64 a,.int .i64 b,.int .i64 c])])
      (fun k => k ≤ n) (fun k => n - k) 0 (Nat.zero_le _) ?_ ?_
    · (refine Sub.of_lists ?_ ?_ ?_ ?_ ?_ <;> simp [Vw.mkS,Vw.lk,Vw.hk,AV.inn,innL,innL_ints,innL_append,innL_rep,-List.map_set,-List.getD_eq_getElem?_getD,fl3])
    · intro k hk
      have hfl := fl3_length (dealF a b c n) k
      by_cases hlt : k < n
      · (repeat' (first
 | (first | refine awp_seq ?_ | refine awp_block ?_)
 | ((first | refine awp_reg ?_ | refine awp_condB ?_ | refine awp_skip ?_ | refine awp_exit ?_); simp (disch := omega) only [push_cast,seval,l94r0,l94r1,l94r2,l94r3,l94r4,l94r5,l94r6,l94r7,l94r8,l94r9,l94r10,l94r11,l94r12,l94r13,l94r14])
 | ((first | refine condB_split (fun h => ?_) (fun h => ?_) | refine gIf_split (fun h => ?_) (fun h => ?_) | refine qIf_split (fun h => ?_) (fun h => ?_)) <;> (try simp only [h]) <;> (try simp only [bitvec_to_nat] at h) <;> (try simp only [h]) <;> (first | (exfalso; omega) | (focus (exfalso; simp_all; done)) | (simp (disch := omega) only [push_cast,seval]) | skip))
 | ((first | refine callD_of false ?_ | refine qcallD_of false ?_); simp (disch := omega) only [push_cast,seval])
 | ((first | ((first | refine call0D (BCall.ofP (svalidRange_ok _ _ _)) ?_ | refine qcall0D (BCall.ofP (svalidRange_ok _ _ _)) ⟨_,_,rfl,rfl⟩ ?_); rintro _ _ ⟨rfl,rfl⟩) | ((first | refine call0D (BCall.ofP (inRange_ok _ _ _)) ?_ | refine qcall0D (BCall.ofP (inRange_ok _ _ _)) ⟨_,_,rfl,rfl⟩ ?_); rintro _ _ ⟨rfl,rfl⟩) | ((first | refine call0D (snumbers_ok _ _ _ ?_) ?_ | refine qcall0D (snumbers_ok _ _ _ ?_) ⟨_,_,rfl,rfl⟩ ?_); (exact sd); rintro _ _ ⟨rfl,rfl⟩) | ((first | refine call0D (BCall.ofP (snormal_ok _ _ _ ?_ ?_)) ?_ | refine qcall0D (BCall.ofP (snormal_ok _ _ _ ?_ ?_)) ⟨_,_,rfl,rfl⟩ ?_); (iterate 2 (exact sd)); rintro _ _ ⟨rfl,rfl⟩) | ((first | refine call0D (BCall.ofP (snormal_ok _ _ _ ?_ ?_)) ?_ | refine qcall0D (BCall.ofP (snormal_ok _ _ _ ?_ ?_)) ⟨_,_,rfl,rfl⟩ ?_); (iterate 2 (exact sd)); rintro _ _ ⟨rfl,rfl⟩) | ((first | refine call0D (BCall.ofP (snormalG_ok _ _ ?_ ?_ ?_)) ?_ | refine qcall0D (BCall.ofP (snormalG_ok _ _ ?_ ?_ ?_)) ⟨_,_,rfl,rfl⟩ ?_); (iterate 3 (exact sd)); rintro _ _ ⟨rfl,rfl⟩)) <;> (try simp (disch := omega) only [push_cast,seval]))
 | (refine awp_ret ⟨.inr rfl,[176],[],_,by decide,rfl,?_⟩; (try simp (disch := omega) only [push_cast,seval,↓allMem_nil,↓allMem_cons,↓List.map_cons,↓List.map_nil]); (first | done | (show AV.own _ _ _ = _ ∧ _)))
 | (refine awp_ret ⟨.inr rfl,[240],[],_,by decide,rfl,?_⟩; (try simp (disch := omega) only [push_cast,seval,↓allMem_nil,↓allMem_cons,↓List.map_cons,↓List.map_nil]); (first | done | (show AV.own _ _ _ = _ ∧ _)))
 | (refine awp_ret ⟨.inr rfl,[288],[],_,by decide,rfl,?_⟩; (try simp (disch := omega) only [push_cast,seval,↓allMem_nil,↓allMem_cons,↓List.map_cons,↓List.map_nil]); (first | done | (show AV.own _ _ _ = _ ∧ _)))
 | (refine awp_ret ⟨.inr rfl,[320],[],_,by decide,rfl,?_⟩; (try simp (disch := omega) only [push_cast,seval,↓allMem_nil,↓allMem_cons,↓List.map_cons,↓List.map_nil]); (first | done | (show AV.own _ _ _ = _ ∧ _)))
 | (refine awp_ret ⟨.inr rfl,[416],[],_,by decide,rfl,?_⟩; (try simp (disch := omega) only [push_cast,seval,↓allMem_nil,↓allMem_cons,↓List.map_cons,↓List.map_nil]); (first | done | (show AV.own _ _ _ = _ ∧ _)))
 | (refine awp_ret ⟨.inr rfl,[640],[],_,by decide,rfl,?_⟩; (try simp (disch := omega) only [push_cast,seval,↓allMem_nil,↓allMem_cons,↓List.map_cons,↓List.map_nil]); (first | done | (show AV.own _ _ _ = _ ∧ _)))
 | (refine awp_ret ⟨.inr rfl,[656],[],_,by decide,rfl,?_⟩; (try simp (disch := omega) only [push_cast,seval,↓allMem_nil,↓allMem_cons,↓List.map_cons,↓List.map_nil]); (first | done | (show AV.own _ _ _ = _ ∧ _)))
 | (refine awp_ret ⟨.inr rfl,[704],[],_,by decide,rfl,?_⟩; (try simp (disch := omega) only [push_cast,seval,↓allMem_nil,↓allMem_cons,↓List.map_cons,↓List.map_nil]); (first | done | (show AV.own _ _ _ = _ ∧ _)))
 | (refine awp_ret ⟨.inr rfl,[720],[],_,by decide,rfl,?_⟩; (try simp (disch := omega) only [push_cast,seval,↓allMem_nil,↓allMem_cons,↓List.map_cons,↓List.map_nil]); (first | done | (show AV.own _ _ _ = _ ∧ _)))
 | (refine awp_ret ⟨.inr rfl,[736],[],_,by decide,rfl,?_⟩; (try simp (disch := omega) only [push_cast,seval,↓allMem_nil,↓allMem_cons,↓List.map_cons,↓List.map_nil]); (first | done | (show AV.own _ _ _ = _ ∧ _)))))
        refine awp_loop (fun j : Nat => mkS [(1,.int .i64 n),(2,.ref 32 3 0),(5,.own 288 k 3),(6,.own 320 (cntN a b c) 1),(7,.int .i64 k),(8,.own 416 j 1),(9,.int .i64 ((k : Int) + (j : Int) * n))] [(288,IL (fl3 (dealF a b c n) k)),(320,IL (nums a c (cntN a b c))),(416,IL (nums (a + (k : Int) * c) (c * n) j)),(32,[.int .i64 a,.int .i64 b,.int .i64 c])])
          (fun j => j ≤ cntN k (cntN a b c) n) (fun j => cntN k (cntN a b c) n - j) 0 (Nat.zero_le _) ?_ ?_
        · (refine Sub.of_lists ?_ ?_ ?_ ?_ ?_ <;> simp [Vw.mkS,Vw.lk,Vw.hk,AV.inn,innL,innL_ints,innL_append,innL_rep,-List.map_set,-List.getD_eq_getElem?_getD,nums_zero])
        · intro j hj
          have hmore := deal_more (N := cntN a b c) (n := n) (k := k) (j := j) (by omega)
          by_cases hlj : j < cntN k (cntN a b c) n
          · have h1 := deal_num (k := k) (n := n) (j := j) hv (by omega) hlj
            have h2 := hmore.1 hlj
            have h3 : 0 ≤ (j : Int) * n := Int.mul_nonneg (by omega) (by omega)
            have e1 : ((k : Int) + (j : Int) * n).toNat = k + j * n := by
              have : ((k + j * n : Nat) : Int) = (k : Int) + (j : Int) * n := by simp
              omega
            have g1 := nums_getD a c (cntN a b c) (k + j * n) h1.1
            rw [← h1.2.1] at g1
            have e2 : (k : Int) + (j : Int) * n + n = (k : Int) + ((j : Int) + 1) * n := by rw [Int.add_mul]; omega
            have h4 := h1.1
            have hjb : j ≤ 1000 := by
              have : j * 1 ≤ j * n := Nat.mul_le_mul_left _ (by omega)
              omega
            have hp : 0 ≤ (k : Int) + (j : Int) * n ∧ (k : Int) + (j : Int) * n ≤ 1000 := by omega
            clear h1
            (repeat' (first
 | (first | refine awp_seq ?_ | refine awp_block ?_)
 | ((first | refine awp_reg ?_ | refine awp_condB ?_ | refine awp_skip ?_ | refine awp_exit ?_); simp (disch := omega) only [push_cast,seval,l94r0,l94r1,l94r2,l94r3,l94r4,l94r5,l94r6,l94r7,l94r8,l94r9,l94r10,l94r11,l94r12,l94r13,l94r14,h2,e1,g1])
 | ((first | refine condB_split (fun h => ?_) (fun h => ?_) | refine gIf_split (fun h => ?_) (fun h => ?_) | refine qIf_split (fun h => ?_) (fun h => ?_)) <;> (try simp only [h]) <;> (try simp only [bitvec_to_nat] at h) <;> (try simp only [h]) <;> (first | (exfalso; omega) | (focus (exfalso; simp_all; done)) | (simp (disch := omega) only [push_cast,seval,h2,e1,g1]) | skip))
 | ((first | refine callD_of false ?_ | refine qcallD_of false ?_); simp (disch := omega) only [push_cast,seval,h2,e1,g1])
 | ((first | ((first | refine call0D (BCall.ofP (svalidRange_ok _ _ _)) ?_ | refine qcall0D (BCall.ofP (svalidRange_ok _ _ _)) ⟨_,_,rfl,rfl⟩ ?_); rintro _ _ ⟨rfl,rfl⟩) | ((first | refine call0D (BCall.ofP (inRange_ok _ _ _)) ?_ | refine qcall0D (BCall.ofP (inRange_ok _ _ _)) ⟨_,_,rfl,rfl⟩ ?_); rintro _ _ ⟨rfl,rfl⟩) | ((first | refine call0D (snumbers_ok _ _ _ ?_) ?_ | refine qcall0D (snumbers_ok _ _ _ ?_) ⟨_,_,rfl,rfl⟩ ?_); (exact sd); rintro _ _ ⟨rfl,rfl⟩) | ((first | refine call0D (BCall.ofP (snormal_ok _ _ _ ?_ ?_)) ?_ | refine qcall0D (BCall.ofP (snormal_ok _ _ _ ?_ ?_)) ⟨_,_,rfl,rfl⟩ ?_); (iterate 2 (exact sd)); rintro _ _ ⟨rfl,rfl⟩) | ((first | refine call0D (BCall.ofP (snormal_ok _ _ _ ?_ ?_)) ?_ | refine qcall0D (BCall.ofP (snormal_ok _ _ _ ?_ ?_)) ⟨_,_,rfl,rfl⟩ ?_); (iterate 2 (exact sd)); rintro _ _ ⟨rfl,rfl⟩) | ((first | refine call0D (BCall.ofP (snormalG_ok _ _ ?_ ?_ ?_)) ?_ | refine qcall0D (BCall.ofP (snormalG_ok _ _ ?_ ?_ ?_)) ⟨_,_,rfl,rfl⟩ ?_); (iterate 3 (exact sd)); rintro _ _ ⟨rfl,rfl⟩)) <;> (try simp (disch := omega) only [push_cast,seval,h2,e1,g1]))
 | (refine awp_ret ⟨.inr rfl,[176],[],_,by decide,rfl,?_⟩; (try simp (disch := omega) only [push_cast,seval,↓allMem_nil,↓allMem_cons,↓List.map_cons,↓List.map_nil,h2,e1,g1]); (first | done | (show AV.own _ _ _ = _ ∧ _)))
 | (refine awp_ret ⟨.inr rfl,[240],[],_,by decide,rfl,?_⟩; (try simp (disch := omega) only [push_cast,seval,↓allMem_nil,↓allMem_cons,↓List.map_cons,↓List.map_nil,h2,e1,g1]); (first | done | (show AV.own _ _ _ = _ ∧ _)))
 | (refine awp_ret ⟨.inr rfl,[288],[],_,by decide,rfl,?_⟩; (try simp (disch := omega) only [push_cast,seval,↓allMem_nil,↓allMem_cons,↓List.map_cons,↓List.map_nil,h2,e1,g1]); (first | done | (show AV.own _ _ _ = _ ∧ _)))
 | (refine awp_ret ⟨.inr rfl,[320],[],_,by decide,rfl,?_⟩; (try simp (disch := omega) only [push_cast,seval,↓allMem_nil,↓allMem_cons,↓List.map_cons,↓List.map_nil,h2,e1,g1]); (first | done | (show AV.own _ _ _ = _ ∧ _)))
 | (refine awp_ret ⟨.inr rfl,[416],[],_,by decide,rfl,?_⟩; (try simp (disch := omega) only [push_cast,seval,↓allMem_nil,↓allMem_cons,↓List.map_cons,↓List.map_nil,h2,e1,g1]); (first | done | (show AV.own _ _ _ = _ ∧ _)))
 | (refine awp_ret ⟨.inr rfl,[640],[],_,by decide,rfl,?_⟩; (try simp (disch := omega) only [push_cast,seval,↓allMem_nil,↓allMem_cons,↓List.map_cons,↓List.map_nil,h2,e1,g1]); (first | done | (show AV.own _ _ _ = _ ∧ _)))
 | (refine awp_ret ⟨.inr rfl,[656],[],_,by decide,rfl,?_⟩; (try simp (disch := omega) only [push_cast,seval,↓allMem_nil,↓allMem_cons,↓List.map_cons,↓List.map_nil,h2,e1,g1]); (first | done | (show AV.own _ _ _ = _ ∧ _)))
 | (refine awp_ret ⟨.inr rfl,[704],[],_,by decide,rfl,?_⟩; (try simp (disch := omega) only [push_cast,seval,↓allMem_nil,↓allMem_cons,↓List.map_cons,↓List.map_nil,h2,e1,g1]); (first | done | (show AV.own _ _ _ = _ ∧ _)))
 | (refine awp_ret ⟨.inr rfl,[720],[],_,by decide,rfl,?_⟩; (try simp (disch := omega) only [push_cast,seval,↓allMem_nil,↓allMem_cons,↓List.map_cons,↓List.map_nil,h2,e1,g1]); (first | done | (show AV.own _ _ _ = _ ∧ _)))
 | (refine awp_ret ⟨.inr rfl,[736],[],_,by decide,rfl,?_⟩; (try simp (disch := omega) only [push_cast,seval,↓allMem_nil,↓allMem_cons,↓List.map_cons,↓List.map_nil,h2,e1,g1]); (first | done | (show AV.own _ _ _ = _ ∧ _)))))
            refine ⟨j + 1,by omega,by omega,?_⟩
            (refine Sub.of_lists ?_ ?_ ?_ ?_ ?_ <;> simp [Vw.mkS,Vw.lk,Vw.hk,AV.inn,innL,innL_ints,innL_append,innL_rep,-List.map_set,-List.getD_eq_getElem?_getD,nums_succ,e2])
          · have ej : j = cntN k (cntN a b c) n := by omega
            subst ej
            have hno : ¬ (k : Int) + (cntN (k : Int) (cntN a b c) n : Int) * n < cntN a b c := fun h => hlj (hmore.2 h)
            have hbd : ∀ i : Nat,i < cntN k (cntN a b c) n → -1000 ≤ (a + (k : Int) * c) + (i : Int) * (c * n) ∧ (a + (k : Int) * c) + (i : Int) * (c * n) ≤ 1000 := fun i hi => by
              have := (deal_num (k := k) (n := n) (j := i) hv (by omega) hi).2.2
              omega
            have hcb : cntN (k : Int) (cntN a b c) n ≤ 1000 := by
              rcases Nat.lt_or_ge 1000 (cntN k (cntN a b c) n) with h | h
              · have := (deal_num (k := k) (n := n) (j := 1000) hv (by omega) (by omega)).1
                have : 1000 * 1 ≤ 1000 * n := Nat.mul_le_mul_left _ (by omega)
                omega
              · omega
            clear hmore
            (repeat' (first
 | (first | refine awp_seq ?_ | refine awp_block ?_)
 | ((first | refine awp_reg ?_ | refine awp_condB ?_ | refine awp_skip ?_ | refine awp_exit ?_); simp (disch := omega) only [push_cast,seval,l94r0,l94r1,l94r2,l94r3,l94r4,l94r5,l94r6,l94r7,l94r8,l94r9,l94r10,l94r11,l94r12,l94r13,l94r14,hno,hfl,List.length_map])
 | ((first | refine condB_split (fun h => ?_) (fun h => ?_) | refine gIf_split (fun h => ?_) (fun h => ?_) | refine qIf_split (fun h => ?_) (fun h => ?_)) <;> (try simp only [h]) <;> (try simp only [bitvec_to_nat] at h) <;> (try simp only [h]) <;> (first | (exfalso; omega) | (focus (exfalso; simp_all; done)) | (simp (disch := omega) only [push_cast,seval,hno,hfl,List.length_map]) | skip))
 | ((first | refine callD_of false ?_ | refine qcallD_of false ?_); simp (disch := omega) only [push_cast,seval,hno,hfl,List.length_map])
 | ((first | ((first | refine call0D (BCall.ofP (svalidRange_ok _ _ _)) ?_ | refine qcall0D (BCall.ofP (svalidRange_ok _ _ _)) ⟨_,_,rfl,rfl⟩ ?_); rintro _ _ ⟨rfl,rfl⟩) | ((first | refine call0D (BCall.ofP (inRange_ok _ _ _)) ?_ | refine qcall0D (BCall.ofP (inRange_ok _ _ _)) ⟨_,_,rfl,rfl⟩ ?_); rintro _ _ ⟨rfl,rfl⟩) | ((first | refine call0D (snumbers_ok _ _ _ ?_) ?_ | refine qcall0D (snumbers_ok _ _ _ ?_) ⟨_,_,rfl,rfl⟩ ?_); (exact sd); rintro _ _ ⟨rfl,rfl⟩) | ((first | refine call0D (BCall.ofP (snormal_ok _ _ _ ?_ ?_)) ?_ | refine qcall0D (BCall.ofP (snormal_ok _ _ _ ?_ ?_)) ⟨_,_,rfl,rfl⟩ ?_); (iterate 2 (exact sd)); rintro _ _ ⟨rfl,rfl⟩) | ((first | refine call0D (BCall.ofP (snormal_ok _ _ _ ?_ ?_)) ?_ | refine qcall0D (BCall.ofP (snormal_ok _ _ _ ?_ ?_)) ⟨_,_,rfl,rfl⟩ ?_); (iterate 2 (exact sd)); rintro _ _ ⟨rfl,rfl⟩) | ((first | refine call0D (BCall.ofP (snormalG_ok _ _ ?_ ?_ ?_)) ?_ | refine qcall0D (BCall.ofP (snormalG_ok _ _ ?_ ?_ ?_)) ⟨_,_,rfl,rfl⟩ ?_); (iterate 3 (exact sd)); rintro _ _ ⟨rfl,rfl⟩)) <;> (try simp (disch := omega) only [push_cast,seval,hno,hfl,List.length_map]))
 | (refine awp_ret ⟨.inr rfl,[176],[],_,by decide,rfl,?_⟩; (try simp (disch := omega) only [push_cast,seval,↓allMem_nil,↓allMem_cons,↓List.map_cons,↓List.map_nil,hno,hfl,List.length_map]); (first | done | (show AV.own _ _ _ = _ ∧ _)))
 | (refine awp_ret ⟨.inr rfl,[240],[],_,by decide,rfl,?_⟩; (try simp (disch := omega) only [push_cast,seval,↓allMem_nil,↓allMem_cons,↓List.map_cons,↓List.map_nil,hno,hfl,List.length_map]); (first | done | (show AV.own _ _ _ = _ ∧ _)))
 | (refine awp_ret ⟨.inr rfl,[288],[],_,by decide,rfl,?_⟩; (try simp (disch := omega) only [push_cast,seval,↓allMem_nil,↓allMem_cons,↓List.map_cons,↓List.map_nil,hno,hfl,List.length_map]); (first | done | (show AV.own _ _ _ = _ ∧ _)))
 | (refine awp_ret ⟨.inr rfl,[320],[],_,by decide,rfl,?_⟩; (try simp (disch := omega) only [push_cast,seval,↓allMem_nil,↓allMem_cons,↓List.map_cons,↓List.map_nil,hno,hfl,List.length_map]); (first | done | (show AV.own _ _ _ = _ ∧ _)))
 | (refine awp_ret ⟨.inr rfl,[416],[],_,by decide,rfl,?_⟩; (try simp (disch := omega) only [push_cast,seval,↓allMem_nil,↓allMem_cons,↓List.map_cons,↓List.map_nil,hno,hfl,List.length_map]); (first | done | (show AV.own _ _ _ = _ ∧ _)))
 | (refine awp_ret ⟨.inr rfl,[640],[],_,by decide,rfl,?_⟩; (try simp (disch := omega) only [push_cast,seval,↓allMem_nil,↓allMem_cons,↓List.map_cons,↓List.map_nil,hno,hfl,List.length_map]); (first | done | (show AV.own _ _ _ = _ ∧ _)))
 | (refine awp_ret ⟨.inr rfl,[656],[],_,by decide,rfl,?_⟩; (try simp (disch := omega) only [push_cast,seval,↓allMem_nil,↓allMem_cons,↓List.map_cons,↓List.map_nil,hno,hfl,List.length_map]); (first | done | (show AV.own _ _ _ = _ ∧ _)))
 | (refine awp_ret ⟨.inr rfl,[704],[],_,by decide,rfl,?_⟩; (try simp (disch := omega) only [push_cast,seval,↓allMem_nil,↓allMem_cons,↓List.map_cons,↓List.map_nil,hno,hfl,List.length_map]); (first | done | (show AV.own _ _ _ = _ ∧ _)))
 | (refine awp_ret ⟨.inr rfl,[720],[],_,by decide,rfl,?_⟩; (try simp (disch := omega) only [push_cast,seval,↓allMem_nil,↓allMem_cons,↓List.map_cons,↓List.map_nil,hno,hfl,List.length_map]); (first | done | (show AV.own _ _ _ = _ ∧ _)))
 | (refine awp_ret ⟨.inr rfl,[736],[],_,by decide,rfl,?_⟩; (try simp (disch := omega) only [push_cast,seval,↓allMem_nil,↓allMem_cons,↓List.map_cons,↓List.map_nil,hno,hfl,List.length_map]); (first | done | (show AV.own _ _ _ = _ ∧ _)))))
            refine ⟨k + 1,by omega,by omega,?_⟩
            (refine Sub.of_lists ?_ ?_ ?_ ?_ ?_ <;> simp [Vw.mkS,Vw.lk,Vw.hk,AV.inn,innL,innL_ints,innL_append,innL_rep,-List.map_set,-List.getD_eq_getElem?_getD,fl3,dealF_eq])
      · have : k = n := by omega
        subst this
        (repeat' (first
 | (first | refine awp_seq ?_ | refine awp_block ?_)
 | ((first | refine awp_reg ?_ | refine awp_condB ?_ | refine awp_skip ?_ | refine awp_exit ?_); simp (disch := omega) only [push_cast,seval,l94r0,l94r1,l94r2,l94r3,l94r4,l94r5,l94r6,l94r7,l94r8,l94r9,l94r10,l94r11,l94r12,l94r13,l94r14,hfl])
 | ((first | refine condB_split (fun h => ?_) (fun h => ?_) | refine gIf_split (fun h => ?_) (fun h => ?_) | refine qIf_split (fun h => ?_) (fun h => ?_)) <;> (try simp only [h]) <;> (try simp only [bitvec_to_nat] at h) <;> (try simp only [h]) <;> (first | (exfalso; omega) | (focus (exfalso; simp_all; done)) | (simp (disch := omega) only [push_cast,seval,hfl]) | skip))
 | ((first | refine callD_of false ?_ | refine qcallD_of false ?_); simp (disch := omega) only [push_cast,seval,hfl])
 | ((first | ((first | refine call0D (BCall.ofP (svalidRange_ok _ _ _)) ?_ | refine qcall0D (BCall.ofP (svalidRange_ok _ _ _)) ⟨_,_,rfl,rfl⟩ ?_); rintro _ _ ⟨rfl,rfl⟩) | ((first | refine call0D (BCall.ofP (inRange_ok _ _ _)) ?_ | refine qcall0D (BCall.ofP (inRange_ok _ _ _)) ⟨_,_,rfl,rfl⟩ ?_); rintro _ _ ⟨rfl,rfl⟩) | ((first | refine call0D (snumbers_ok _ _ _ ?_) ?_ | refine qcall0D (snumbers_ok _ _ _ ?_) ⟨_,_,rfl,rfl⟩ ?_); (exact sd); rintro _ _ ⟨rfl,rfl⟩) | ((first | refine call0D (BCall.ofP (snormal_ok _ _ _ ?_ ?_)) ?_ | refine qcall0D (BCall.ofP (snormal_ok _ _ _ ?_ ?_)) ⟨_,_,rfl,rfl⟩ ?_); (iterate 2 (exact sd)); rintro _ _ ⟨rfl,rfl⟩) | ((first | refine call0D (BCall.ofP (snormal_ok _ _ _ ?_ ?_)) ?_ | refine qcall0D (BCall.ofP (snormal_ok _ _ _ ?_ ?_)) ⟨_,_,rfl,rfl⟩ ?_); (iterate 2 (exact sd)); rintro _ _ ⟨rfl,rfl⟩) | ((first | refine call0D (BCall.ofP (snormalG_ok _ _ ?_ ?_ ?_)) ?_ | refine qcall0D (BCall.ofP (snormalG_ok _ _ ?_ ?_ ?_)) ⟨_,_,rfl,rfl⟩ ?_); (iterate 3 (exact sd)); rintro _ _ ⟨rfl,rfl⟩)) <;> (try simp (disch := omega) only [push_cast,seval,hfl]))
 | (refine awp_ret ⟨.inr rfl,[176],[],_,by decide,rfl,?_⟩; (try simp (disch := omega) only [push_cast,seval,↓allMem_nil,↓allMem_cons,↓List.map_cons,↓List.map_nil,hfl]); (first | done | (show AV.own _ _ _ = _ ∧ _)))
 | (refine awp_ret ⟨.inr rfl,[240],[],_,by decide,rfl,?_⟩; (try simp (disch := omega) only [push_cast,seval,↓allMem_nil,↓allMem_cons,↓List.map_cons,↓List.map_nil,hfl]); (first | done | (show AV.own _ _ _ = _ ∧ _)))
 | (refine awp_ret ⟨.inr rfl,[288],[],_,by decide,rfl,?_⟩; (try simp (disch := omega) only [push_cast,seval,↓allMem_nil,↓allMem_cons,↓List.map_cons,↓List.map_nil,hfl]); (first | done | (show AV.own _ _ _ = _ ∧ _)))
 | (refine awp_ret ⟨.inr rfl,[320],[],_,by decide,rfl,?_⟩; (try simp (disch := omega) only [push_cast,seval,↓allMem_nil,↓allMem_cons,↓List.map_cons,↓List.map_nil,hfl]); (first | done | (show AV.own _ _ _ = _ ∧ _)))
 | (refine awp_ret ⟨.inr rfl,[416],[],_,by decide,rfl,?_⟩; (try simp (disch := omega) only [push_cast,seval,↓allMem_nil,↓allMem_cons,↓List.map_cons,↓List.map_nil,hfl]); (first | done | (show AV.own _ _ _ = _ ∧ _)))
 | (refine awp_ret ⟨.inr rfl,[640],[],_,by decide,rfl,?_⟩; (try simp (disch := omega) only [push_cast,seval,↓allMem_nil,↓allMem_cons,↓List.map_cons,↓List.map_nil,hfl]); (first | done | (show AV.own _ _ _ = _ ∧ _)))
 | (refine awp_ret ⟨.inr rfl,[656],[],_,by decide,rfl,?_⟩; (try simp (disch := omega) only [push_cast,seval,↓allMem_nil,↓allMem_cons,↓List.map_cons,↓List.map_nil,hfl]); (first | done | (show AV.own _ _ _ = _ ∧ _)))
 | (refine awp_ret ⟨.inr rfl,[704],[],_,by decide,rfl,?_⟩; (try simp (disch := omega) only [push_cast,seval,↓allMem_nil,↓allMem_cons,↓List.map_cons,↓List.map_nil,hfl]); (first | done | (show AV.own _ _ _ = _ ∧ _)))
 | (refine awp_ret ⟨.inr rfl,[720],[],_,by decide,rfl,?_⟩; (try simp (disch := omega) only [push_cast,seval,↓allMem_nil,↓allMem_cons,↓List.map_cons,↓List.map_nil,hfl]); (first | done | (show AV.own _ _ _ = _ ∧ _)))
 | (refine awp_ret ⟨.inr rfl,[736],[],_,by decide,rfl,?_⟩; (try simp (disch := omega) only [push_cast,seval,↓allMem_nil,↓allMem_cons,↓List.map_cons,↓List.map_nil,hfl]); (first | done | (show AV.own _ _ _ = _ ∧ _)))))
        all_goals simp
  · obtain ⟨hd1,hd2⟩ := deal_neg hg
    rw [hd1,hd2]
    cases hv : vR a b c with
    | false =>
      (repeat' (first
 | (first | refine awp_seq ?_ | refine awp_block ?_)
 | ((first | refine awp_reg ?_ | refine awp_condB ?_ | refine awp_skip ?_ | refine awp_exit ?_); simp (disch := omega) only [push_cast,seval,l94r0,l94r1,l94r2,l94r3,l94r4,l94r5,l94r6,l94r7,l94r8,l94r9,l94r10,l94r11,l94r12,l94r13,l94r14,hv])
 | ((first | refine condB_split (fun h => ?_) (fun h => ?_) | refine gIf_split (fun h => ?_) (fun h => ?_) | refine qIf_split (fun h => ?_) (fun h => ?_)) <;> (try simp only [h]) <;> (try simp only [bitvec_to_nat] at h) <;> (try simp only [h]) <;> (first | (exfalso; omega) | (focus (exfalso; simp_all; done)) | (simp (disch := omega) only [push_cast,seval,hv]) | skip))
 | ((first | refine callD_of false ?_ | refine qcallD_of false ?_); simp (disch := omega) only [push_cast,seval,hv])
 | ((first | ((first | refine call0D (BCall.ofP (svalidRange_ok _ _ _)) ?_ | refine qcall0D (BCall.ofP (svalidRange_ok _ _ _)) ⟨_,_,rfl,rfl⟩ ?_); rintro _ _ ⟨rfl,rfl⟩) | ((first | refine call0D (BCall.ofP (inRange_ok _ _ _)) ?_ | refine qcall0D (BCall.ofP (inRange_ok _ _ _)) ⟨_,_,rfl,rfl⟩ ?_); rintro _ _ ⟨rfl,rfl⟩) | ((first | refine call0D (snumbers_ok _ _ _ ?_) ?_ | refine qcall0D (snumbers_ok _ _ _ ?_) ⟨_,_,rfl,rfl⟩ ?_); (exact sd); rintro _ _ ⟨rfl,rfl⟩) | ((first | refine call0D (BCall.ofP (snormal_ok _ _ _ ?_ ?_)) ?_ | refine qcall0D (BCall.ofP (snormal_ok _ _ _ ?_ ?_)) ⟨_,_,rfl,rfl⟩ ?_); (iterate 2 (exact sd)); rintro _ _ ⟨rfl,rfl⟩) | ((first | refine call0D (BCall.ofP (snormal_ok _ _ _ ?_ ?_)) ?_ | refine qcall0D (BCall.ofP (snormal_ok _ _ _ ?_ ?_)) ⟨_,_,rfl,rfl⟩ ?_); (iterate 2 (exact sd)); rintro _ _ ⟨rfl,rfl⟩) | ((first | refine call0D (BCall.ofP (snormalG_ok _ _ ?_ ?_ ?_)) ?_ | refine qcall0D (BCall.ofP (snormalG_ok _ _ ?_ ?_ ?_)) ⟨_,_,rfl,rfl⟩ ?_); (iterate 3 (exact sd)); rintro _ _ ⟨rfl,rfl⟩)) <;> (try simp (disch := omega) only [push_cast,seval,hv]))
 | (refine awp_ret ⟨.inr rfl,[16000],[(16000,3)],_,by decide,rfl,?_⟩; (try simp (disch := omega) only [push_cast,seval,↓allMem_nil,↓allMem_cons,↓List.map_cons,↓List.map_nil,hv]))))
      all_goals simp
    | true =>
      have g : (decide (1 ≤ w) && decide (w ≤ 6)) = false := by
        rw [Bool.eq_false_iff]
        intro h
        simp only [Bool.and_eq_true,decide_eq_true_eq] at h
        exact hg ⟨hv,h⟩
      (repeat' (first
 | (first | refine awp_seq ?_ | refine awp_block ?_)
 | ((first | refine awp_reg ?_ | refine awp_condB ?_ | refine awp_skip ?_ | refine awp_exit ?_); simp (disch := omega) only [push_cast,seval,l94r0,l94r1,l94r2,l94r3,l94r4,l94r5,l94r6,l94r7,l94r8,l94r9,l94r10,l94r11,l94r12,l94r13,l94r14,hv,g])
 | ((first | refine condB_split (fun h => ?_) (fun h => ?_) | refine gIf_split (fun h => ?_) (fun h => ?_) | refine qIf_split (fun h => ?_) (fun h => ?_)) <;> (try simp only [h]) <;> (try simp only [bitvec_to_nat] at h) <;> (try simp only [h]) <;> (first | (exfalso; omega) | (focus (exfalso; simp_all; done)) | (simp (disch := omega) only [push_cast,seval,hv,g]) | skip))
 | ((first | refine callD_of false ?_ | refine qcallD_of false ?_); simp (disch := omega) only [push_cast,seval,hv,g])
 | ((first | ((first | refine call0D (BCall.ofP (svalidRange_ok _ _ _)) ?_ | refine qcall0D (BCall.ofP (svalidRange_ok _ _ _)) ⟨_,_,rfl,rfl⟩ ?_); rintro _ _ ⟨rfl,rfl⟩) | ((first | refine call0D (BCall.ofP (inRange_ok _ _ _)) ?_ | refine qcall0D (BCall.ofP (inRange_ok _ _ _)) ⟨_,_,rfl,rfl⟩ ?_); rintro _ _ ⟨rfl,rfl⟩) | ((first | refine call0D (snumbers_ok _ _ _ ?_) ?_ | refine qcall0D (snumbers_ok _ _ _ ?_) ⟨_,_,rfl,rfl⟩ ?_); (exact sd); rintro _ _ ⟨rfl,rfl⟩) | ((first | refine call0D (BCall.ofP (snormal_ok _ _ _ ?_ ?_)) ?_ | refine qcall0D (BCall.ofP (snormal_ok _ _ _ ?_ ?_)) ⟨_,_,rfl,rfl⟩ ?_); (iterate 2 (exact sd)); rintro _ _ ⟨rfl,rfl⟩) | ((first | refine call0D (BCall.ofP (snormal_ok _ _ _ ?_ ?_)) ?_ | refine qcall0D (BCall.ofP (snormal_ok _ _ _ ?_ ?_)) ⟨_,_,rfl,rfl⟩ ?_); (iterate 2 (exact sd)); rintro _ _ ⟨rfl,rfl⟩) | ((first | refine call0D (BCall.ofP (snormalG_ok _ _ ?_ ?_ ?_)) ?_ | refine qcall0D (BCall.ofP (snormalG_ok _ _ ?_ ?_ ?_)) ⟨_,_,rfl,rfl⟩ ?_); (iterate 3 (exact sd)); rintro _ _ ⟨rfl,rfl⟩)) <;> (try simp (disch := omega) only [push_cast,seval,hv,g]))
 | (refine awp_ret ⟨.inr rfl,[16000],[(16000,3)],_,by decide,rfl,?_⟩; (try simp (disch := omega) only [push_cast,seval,↓allMem_nil,↓allMem_cons,↓List.map_cons,↓List.map_nil,hv,g]))))
      all_goals simp

end Go.Proofs.Ytejbfjmiidofcaa
