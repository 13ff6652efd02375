import Derived.Test.YtfphjgmkpgoomaaGreatCKh
import Derived.Test.YtfphjgmkpgoomaaGreatCM1
set_option linter.unusedSimpArgs false
set_option linter.unusedVariables false
set_option maxRecDepth 4000
set_option maxHeartbeats 4000000
namespace Go.Proofs.YtfphjgmkpgoomaaGreat
open VwM Vw Go

theorem placeIn_ok (xs : List Int) (n : Nat) (x : Int) (hn : xs.length = n) (hb : n ≤ 1099511627776) : PCall Tryz.prog 145 [.rows false (IL xs) n,.int .i64 x] (fun r => r = .int .i64 (placeI xs x)) := by
  subst hn
  refine pcall_of l145_eq rfl ?_
  (repeat' (first
 | (first | refine awp_seq ?_ | refine awp_block ?_)
 | ((first | refine awp_reg ?_ | refine awp_condB ?_ | refine awp_skip ?_ | refine awp_exit ?_); simp (disch := omega) only [push_cast,seval,l145r0,l145r1,l145r2,l145r3,l145r4,l145r5,l145r6])
 | ((first | refine condB_split (fun h => ?_) (fun h => ?_) | refine gIf_split (fun h => ?_) (fun h => ?_) | refine qIf_split (fun h => ?_) (fun h => ?_)) <;> (try simp only [h]) <;> (try simp only [bitvec_to_nat] at h) <;> (try simp only [h]) <;> (first | (exfalso; omega) | (focus (exfalso; simp_all; done)) | (simp (disch := omega) only [push_cast,seval]) | skip))
 | (refine awp_ret ⟨.inr rfl,_,rfl,?_⟩; (try simp (disch := omega) only [push_cast,seval]))))
  refine awp_loop (fun k : Nat => mkS [(0,RI xs),(1,.int .i64 x),(5,.int .i64 k)] []) (fun k => k ≤ xs.length ∧ ∀ j : Nat,j < k → xs.getD j 0 ≠ x) (fun k => xs.length - k) 0 ⟨Nat.zero_le _,fun j h => absurd h (Nat.not_lt_zero _)⟩ ?_ ?_
  · (refine Sub.of_lists ?_ ?_ ?_ ?_ ?_ <;> simp [Vw.mkS,Vw.lk,Vw.hk,AV.inn,innL,innL_ints,innL_append,innL_rep,-List.map_set,-List.getD_eq_getElem?_getD])
  · rintro k ⟨hk,hj⟩
    (repeat' (first
 | (first | refine awp_seq ?_ | refine awp_block ?_)
 | ((first | refine awp_reg ?_ | refine awp_condB ?_ | refine awp_skip ?_ | refine awp_exit ?_); simp (disch := omega) only [push_cast,seval,l145r0,l145r1,l145r2,l145r3,l145r4,l145r5,l145r6])
 | ((first | refine condB_split (fun h => ?_) (fun h => ?_) | refine gIf_split (fun h => ?_) (fun h => ?_) | refine qIf_split (fun h => ?_) (fun h => ?_)) <;> (try simp only [h]) <;> (try simp only [bitvec_to_nat] at h) <;> (try simp only [h]) <;> (first | (exfalso; omega) | (focus (exfalso; simp_all; done)) | (simp (disch := omega) only [push_cast,seval]) | skip))
 | (refine awp_ret ⟨.inr rfl,_,rfl,?_⟩; (try simp (disch := omega) only [push_cast,seval]))))
    · rw [placeI_some (j := k) (by omega) (by assumption) hj]
    · refine ⟨k + 1,⟨by omega,fun j h => ?_⟩,by omega,?_⟩
      · by_cases hjk : j = k
        · subst hjk; assumption
        · exact hj j (by omega)
      · (refine Sub.of_lists ?_ ?_ ?_ ?_ ?_ <;> simp [Vw.mkS,Vw.lk,Vw.hk,AV.inn,innL,innL_ints,innL_append,innL_rep,-List.map_set,-List.getD_eq_getElem?_getD])
    · rw [placeI_none fun j h => hj j (by omega)]


theorem sreversed_ok (xs : List Int) (n : Nat) (hn : xs.length = n) (hb : n ≤ 1099511627776) : BCall Tryz.prog 140 [.rows false (IL xs) n] [] (OI xs.reverse) := by
  subst hn
  refine bcall_of (pins := []) (pin := 0) l140_eq rfl rfl rfl ?_
  (repeat' (first
 | (first | refine awp_seq ?_ | refine awp_block ?_)
 | ((first | refine awp_reg ?_ | refine awp_condB ?_ | refine awp_skip ?_ | refine awp_exit ?_); simp (disch := omega) only [push_cast,seval,l140r0,l140r1,l140r2,l140r3,l140r4,l140r5,l140r6])
 | ((first | refine condB_split (fun h => ?_) (fun h => ?_) | refine gIf_split (fun h => ?_) (fun h => ?_) | refine qIf_split (fun h => ?_) (fun h => ?_)) <;> (try simp only [h]) <;> (try simp only [bitvec_to_nat] at h) <;> (try simp only [h]) <;> (first | (exfalso; omega) | (focus (exfalso; simp_all; done)) | (simp (disch := omega) only [push_cast,seval]) | skip))
 | (refine awp_ret ⟨.inr rfl,[80],[],_,by decide,rfl,?_⟩; (try simp (disch := omega) only [push_cast,seval,↓allMem_nil,↓allMem_cons,↓List.map_cons,↓List.map_nil]); (first | done | (show AV.own _ _ _ = _ ∧ _)))
 | (refine awp_ret ⟨.inr rfl,[288],[],_,by decide,rfl,?_⟩; (try simp (disch := omega) only [push_cast,seval,↓allMem_nil,↓allMem_cons,↓List.map_cons,↓List.map_nil]); (first | done | (show AV.own _ _ _ = _ ∧ _)))
 | (refine awp_ret ⟨.inr rfl,[304],[],_,by decide,rfl,?_⟩; (try simp (disch := omega) only [push_cast,seval,↓allMem_nil,↓allMem_cons,↓List.map_cons,↓List.map_nil]); (first | done | (show AV.own _ _ _ = _ ∧ _)))))
  refine awp_loop (fun k : Nat => mkS [(0,RI xs),(4,.int .i64 ((xs.length : Int) - 1 - (k : Int))),(3,.own 80 k 1)] [(80,IL (revT xs k))])
    (fun k => k ≤ xs.length) (fun k => xs.length - k) 0 (Nat.zero_le _) ?_ ?_
  · (refine Sub.of_lists ?_ ?_ ?_ ?_ ?_ <;> simp [Vw.mkS,Vw.lk,Vw.hk,AV.inn,innL,innL_ints,innL_append,innL_rep,-List.map_set,-List.getD_eq_getElem?_getD,revT_zero])
  · intro k hk
    have e3 := revT_length xs k hk
    by_cases hlt : k < xs.length
    · have e1 := down_nat xs.length k hlt
      have e2 := revT_succ xs k hlt
      (repeat' (first
 | (first | refine awp_seq ?_ | refine awp_block ?_)
 | ((first | refine awp_reg ?_ | refine awp_condB ?_ | refine awp_skip ?_ | refine awp_exit ?_); simp (disch := omega) only [push_cast,seval,l140r0,l140r1,l140r2,l140r3,l140r4,l140r5,l140r6,e1])
 | ((first | refine condB_split (fun h => ?_) (fun h => ?_) | refine gIf_split (fun h => ?_) (fun h => ?_) | refine qIf_split (fun h => ?_) (fun h => ?_)) <;> (try simp only [h]) <;> (try simp only [bitvec_to_nat] at h) <;> (try simp only [h]) <;> (first | (exfalso; omega) | (focus (exfalso; simp_all; done)) | (simp (disch := omega) only [push_cast,seval,e1]) | skip))
 | (refine awp_ret ⟨.inr rfl,[80],[],_,by decide,rfl,?_⟩; (try simp (disch := omega) only [push_cast,seval,↓allMem_nil,↓allMem_cons,↓List.map_cons,↓List.map_nil,e1]); (first | done | (show AV.own _ _ _ = _ ∧ _)))
 | (refine awp_ret ⟨.inr rfl,[288],[],_,by decide,rfl,?_⟩; (try simp (disch := omega) only [push_cast,seval,↓allMem_nil,↓allMem_cons,↓List.map_cons,↓List.map_nil,e1]); (first | done | (show AV.own _ _ _ = _ ∧ _)))
 | (refine awp_ret ⟨.inr rfl,[304],[],_,by decide,rfl,?_⟩; (try simp (disch := omega) only [push_cast,seval,↓allMem_nil,↓allMem_cons,↓List.map_cons,↓List.map_nil,e1]); (first | done | (show AV.own _ _ _ = _ ∧ _)))))
      refine ⟨k + 1,by omega,by omega,?_⟩
      have e4 : (xs.length : Int) - 1 - ((k : Int) + 1) = (xs.length : Int) - 1 - (k : Int) - 1 := by omega
      (refine Sub.of_lists ?_ ?_ ?_ ?_ ?_ <;> simp [Vw.mkS,Vw.lk,Vw.hk,AV.inn,innL,innL_ints,innL_append,innL_rep,-List.map_set,-List.getD_eq_getElem?_getD,e2,e4])
    · (repeat' (first
 | (first | refine awp_seq ?_ | refine awp_block ?_)
 | ((first | refine awp_reg ?_ | refine awp_condB ?_ | refine awp_skip ?_ | refine awp_exit ?_); simp (disch := omega) only [push_cast,seval,l140r0,l140r1,l140r2,l140r3,l140r4,l140r5,l140r6])
 | ((first | refine condB_split (fun h => ?_) (fun h => ?_) | refine gIf_split (fun h => ?_) (fun h => ?_) | refine qIf_split (fun h => ?_) (fun h => ?_)) <;> (try simp only [h]) <;> (try simp only [bitvec_to_nat] at h) <;> (try simp only [h]) <;> (first | (exfalso; omega) | (focus (exfalso; simp_all; done)) | (simp (disch := omega) only [push_cast,seval]) | skip))
 | (refine awp_ret ⟨.inr rfl,[80],[],_,by decide,rfl,?_⟩; (try simp (disch := omega) only [push_cast,seval,↓allMem_nil,↓allMem_cons,↓List.map_cons,↓List.map_nil]); (first | done | (show AV.own _ _ _ = _ ∧ _)))
 | (refine awp_ret ⟨.inr rfl,[288],[],_,by decide,rfl,?_⟩; (try simp (disch := omega) only [push_cast,seval,↓allMem_nil,↓allMem_cons,↓List.map_cons,↓List.map_nil]); (first | done | (show AV.own _ _ _ = _ ∧ _)))
 | (refine awp_ret ⟨.inr rfl,[304],[],_,by decide,rfl,?_⟩; (try simp (disch := omega) only [push_cast,seval,↓allMem_nil,↓allMem_cons,↓List.map_cons,↓List.map_nil]); (first | done | (show AV.own _ _ _ = _ ∧ _)))))
      have e : k = xs.length := by omega
      rw [e,revT_all]
      simp [OI]


theorem snormalG_ok (xs : List Int) (n : Nat) (hn : xs.length = n) (h1 : n ≤ 1000000) (hb : ∀ x ∈ xs,-1000 ≤ x ∧ x ≤ 1000) : PCall Tryz.prog 77 [.rows false (IL xs) n] (fun r => r = nrmA xs) := by
  subst hn
  refine pcall_of l77_eq rfl ?_
  unfold nrmA
  by_cases hz : xs.length = 0
  · have hz' : (xs.length : Int) = 0 := by omega
    (repeat' (first
 | (first | refine awp_seq ?_ | refine awp_block ?_)
 | ((first | refine awp_reg ?_ | refine awp_draw (mid := l77r5a) (post := l77r5b) mixed (by decide) ?_ | refine awp_draw (mid := l77r6a) (post := l77r6b) mixed (by decide) ?_ | refine awp_condB ?_ | refine awp_skip ?_ | refine awp_exit ?_); simp (disch := omega) only [push_cast,seval,l77r0,l77r1,l77r2,l77r3,l77r4,l77r5a,l77r5b,l77r5,l77r6a,l77r6b,l77r6,l77r7,l77r8,l77r9,l77r10,hz'])
 | ((first | refine condB_split (fun h => ?_) (fun h => ?_) | refine gIf_split (fun h => ?_) (fun h => ?_) | refine qIf_split (fun h => ?_) (fun h => ?_)) <;> (try simp only [h]) <;> (try simp only [bitvec_to_nat] at h) <;> (try simp only [h]) <;> (first | (exfalso; omega) | (focus (exfalso; simp_all; done)) | (simp (disch := omega) only [push_cast,seval,hz']) | skip))
 | (refine awp_ret ⟨.inr rfl,_,rfl,?_⟩; (try simp (disch := omega) only [push_cast,seval,hz']))))
    all_goals simp [hz]
  have b0 := hb _ (getD_mem (xs := xs) (j := 0) (by omega))
  have hz' : ¬ (xs.length : Int) = 0 := by omega
  by_cases ho : xs.length = 1
  · have ho' : (xs.length : Int) = 1 := by omega
    have h0 : 0 < xs.length := by omega
    (repeat' (first
 | (first | refine awp_seq ?_ | refine awp_block ?_)
 | ((first | refine awp_reg ?_ | refine awp_draw (mid := l77r5a) (post := l77r5b) mixed (by decide) ?_ | refine awp_draw (mid := l77r6a) (post := l77r6b) mixed (by decide) ?_ | refine awp_condB ?_ | refine awp_skip ?_ | refine awp_exit ?_); simp (disch := omega) only [push_cast,seval,l77r0,l77r1,l77r2,l77r3,l77r4,l77r5a,l77r5b,l77r5,l77r6a,l77r6b,l77r6,l77r7,l77r8,l77r9,l77r10,hz',ho',h0])
 | ((first | refine condB_split (fun h => ?_) (fun h => ?_) | refine gIf_split (fun h => ?_) (fun h => ?_) | refine qIf_split (fun h => ?_) (fun h => ?_)) <;> (try simp only [h]) <;> (try simp only [bitvec_to_nat] at h) <;> (try simp only [h]) <;> (first | (exfalso; omega) | (focus (exfalso; simp_all; done)) | (simp (disch := omega) only [push_cast,seval,hz',ho',h0]) | skip))
 | (refine awp_ret ⟨.inr rfl,_,rfl,?_⟩; (try simp (disch := omega) only [push_cast,seval,hz',ho',h0]))))
    all_goals simp [ho,hz]
  have b1 := hb _ (getD_mem (xs := xs) (j := 1) (by omega))
  have bl := hb _ (getD_mem (xs := xs) (j := xs.length - 1) (by omega))
  have ho' : ¬ (xs.length : Int) = 1 := by omega
  have hlen : 0 < xs.length ∧ 1 < xs.length := by omega
  have e1 : ((xs.length : Int) - 1).toNat = xs.length - 1 := by omega
  by_cases hc : xs.getD 1 0 - xs.getD 0 0 < 0
  · (repeat' (first
 | (first | refine awp_seq ?_ | refine awp_block ?_)
 | ((first | refine awp_reg ?_ | refine awp_draw (mid := l77r5a) (post := l77r5b) mixed (by decide) ?_ | refine awp_draw (mid := l77r6a) (post := l77r6b) mixed (by decide) ?_ | refine awp_condB ?_ | refine awp_skip ?_ | refine awp_exit ?_); simp (disch := omega) only [push_cast,seval,l77r0,l77r1,l77r2,l77r3,l77r4,l77r5a,l77r5b,l77r5,l77r6a,l77r6b,l77r6,l77r7,l77r8,l77r9,l77r10,hlen,hz',ho',hc,e1])
 | ((first | refine condB_split (fun h => ?_) (fun h => ?_) | refine gIf_split (fun h => ?_) (fun h => ?_) | refine qIf_split (fun h => ?_) (fun h => ?_)) <;> (try simp only [h]) <;> (try simp only [bitvec_to_nat] at h) <;> (try simp only [h]) <;> (first | (exfalso; omega) | (focus (exfalso; simp_all; done)) | (simp (disch := omega) only [push_cast,seval,hlen,hz',ho',hc,e1]) | skip))
 | (refine awp_ret ⟨.inr rfl,_,rfl,?_⟩; (try simp (disch := omega) only [push_cast,seval,hlen,hz',ho',hc,e1]))))
    all_goals (simp only [hz,ho,hc,if_true,if_false])
  · (repeat' (first
 | (first | refine awp_seq ?_ | refine awp_block ?_)
 | ((first | refine awp_reg ?_ | refine awp_draw (mid := l77r5a) (post := l77r5b) mixed (by decide) ?_ | refine awp_draw (mid := l77r6a) (post := l77r6b) mixed (by decide) ?_ | refine awp_condB ?_ | refine awp_skip ?_ | refine awp_exit ?_); simp (disch := omega) only [push_cast,seval,l77r0,l77r1,l77r2,l77r3,l77r4,l77r5a,l77r5b,l77r5,l77r6a,l77r6b,l77r6,l77r7,l77r8,l77r9,l77r10,hlen,hz',ho',hc,e1])
 | ((first | refine condB_split (fun h => ?_) (fun h => ?_) | refine gIf_split (fun h => ?_) (fun h => ?_) | refine qIf_split (fun h => ?_) (fun h => ?_)) <;> (try simp only [h]) <;> (try simp only [bitvec_to_nat] at h) <;> (try simp only [h]) <;> (first | (exfalso; omega) | (focus (exfalso; simp_all; done)) | (simp (disch := omega) only [push_cast,seval,hlen,hz',ho',hc,e1]) | skip))
 | (refine awp_ret ⟨.inr rfl,_,rfl,?_⟩; (try simp (disch := omega) only [push_cast,seval,hlen,hz',ho',hc,e1]))))
    all_goals (simp only [hz,ho,hc,if_true,if_false])


theorem inormal_ok (a b c : Int) (hv : vR a b c = true) : PCall Tryz.prog 119 [rng a b c] (fun r => r = PR a c (cntN a b c)) := by
  obtain ⟨ha,hb,hc,h0⟩ := vR_spec.1 hv
  have hN := cntN_cast hv
  have hB := cnt_bound hv
  rw [hN]
  refine pcall_of l119_eq rfl ?_
  have hq : 1 ≤ cntI a b c → -1000000 ≤ (cntI a b c - 1) * c ∧ (cntI a b c - 1) * c ≤ 1000000 := fun h => by
    have := last_bound hv (by omega)
    rw [hN] at this
    omega
  have hp : -100000 ≤ a ∧ a ≤ 100000 ∧ -100000 ≤ c ∧ c ≤ 100000 ∧ -1000 ≤ cntI a b c ∧ cntI a b c ≤ 1000 := by omega
  clear hN
  (repeat' (first
 | (first | refine awp_seq ?_ | refine awp_block ?_)
 | ((first | refine awp_reg ?_ | refine awp_draw (mid := l119r1a) (post := l119r1b) mixed (by decide) ?_ | refine awp_condB ?_ | refine awp_skip ?_ | refine awp_exit ?_); simp (disch := omega) only [push_cast,seval,l119r0,l119r1a,l119r1b,l119r1])
 | ((first | refine condB_split (fun h => ?_) (fun h => ?_) | refine gIf_split (fun h => ?_) (fun h => ?_) | refine qIf_split (fun h => ?_) (fun h => ?_)) <;> (try simp only [h]) <;> (try simp only [bitvec_to_nat] at h) <;> (try simp only [h]) <;> (first | (exfalso; omega) | (focus (exfalso; simp_all; done)) | (simp (disch := omega) only [push_cast,seval]) | skip))
 | ((first | refine callD_of false ?_ | refine qcallD_of false ?_); simp (disch := omega) only [push_cast,seval])
 | ((first | ((first | refine call0D (BCall.ofP (count_ok _ _ _ ?_)) ?_ | refine qcall0D (BCall.ofP (count_ok _ _ _ ?_)) ⟨_,_,rfl,rfl⟩ ?_); (exact sd); rintro _ _ ⟨rfl,rfl⟩) | ((first | refine call0D (BCall.ofP (progression_ok _ _ _ ?_ ?_)) ?_ | refine qcall0D (BCall.ofP (progression_ok _ _ _ ?_ ?_)) ⟨_,_,rfl,rfl⟩ ?_); (iterate 2 (exact sd)); rintro _ _ ⟨rfl,rfl⟩)) <;> (try simp (disch := omega) only [push_cast,seval]))
 | (refine awp_ret ⟨.inr rfl,_,rfl,?_⟩; (try simp (disch := omega) only [push_cast,seval]))))


theorem ireversed_ok (a b c : Int) (hv : vR a b c = true) : PCall Tryz.prog 118 [rng a b c] (fun r => r = PR (a + ((cntN a b c : Int) - 1) * c) (0 - c) (cntN a b c)) := by
  obtain ⟨ha,hb,hc,h0⟩ := vR_spec.1 hv
  have hN := cntN_cast hv
  have hB := cnt_bound hv
  have hm : -1000 ≤ (cntI a b c - 1) * c ∧ (cntI a b c - 1) * c ≤ 1000 := by
    by_cases h : 1 ≤ cntN a b c
    · have := last_bound hv h
      rw [hN] at this
      omega
    · rw [show cntI a b c = 0 by omega]
      omega
  rw [hN]
  refine pcall_of l118_eq rfl ?_
  have hq : 1 ≤ cntI a b c → -1000000 ≤ (cntI a b c - 1) * (0 - c) ∧ (cntI a b c - 1) * (0 - c) ≤ 1000000 := fun h => by
    rw [Int.mul_sub,Int.mul_zero]
    omega
  have hp : -100000 ≤ a + (cntI a b c - 1) * c ∧ a + (cntI a b c - 1) * c ≤ 100000 ∧ -100000 ≤ 0 - c ∧ 0 - c ≤ 100000 ∧ -1000 ≤ cntI a b c ∧ cntI a b c ≤ 1000 := by omega
  clear hN
  (repeat' (first
 | (first | refine awp_seq ?_ | refine awp_block ?_)
 | ((first | refine awp_reg ?_ | refine awp_draw (mid := l118r2a) (post := l118r2b) mixed (by decide) ?_ | refine awp_condB ?_ | refine awp_skip ?_ | refine awp_exit ?_); simp (disch := omega) only [push_cast,seval,l118r0,l118r1,l118r2a,l118r2b,l118r2])
 | ((first | refine condB_split (fun h => ?_) (fun h => ?_) | refine gIf_split (fun h => ?_) (fun h => ?_) | refine qIf_split (fun h => ?_) (fun h => ?_)) <;> (try simp only [h]) <;> (try simp only [bitvec_to_nat] at h) <;> (try simp only [h]) <;> (first | (exfalso; omega) | (focus (exfalso; simp_all; done)) | (simp (disch := omega) only [push_cast,seval]) | skip))
 | ((first | refine callD_of false ?_ | refine qcallD_of false ?_); simp (disch := omega) only [push_cast,seval])
 | ((first | ((first | refine call0D (BCall.ofP (count_ok _ _ _ ?_)) ?_ | refine qcall0D (BCall.ofP (count_ok _ _ _ ?_)) ⟨_,_,rfl,rfl⟩ ?_); (exact sd); rintro _ _ ⟨rfl,rfl⟩) | ((first | refine call0D (BCall.ofP (at_ok _ _ _ _ ?_ ?_)) ?_ | refine qcall0D (BCall.ofP (at_ok _ _ _ _ ?_ ?_)) ⟨_,_,rfl,rfl⟩ ?_); (iterate 2 (exact sd)); rintro _ _ ⟨rfl,rfl⟩) | ((first | refine call0D (BCall.ofP (progression_ok _ _ _ ?_ ?_)) ?_ | refine qcall0D (BCall.ofP (progression_ok _ _ _ ?_ ?_)) ⟨_,_,rfl,rfl⟩ ?_); (iterate 2 (exact sd)); rintro _ _ ⟨rfl,rfl⟩)) <;> (try simp (disch := omega) only [push_cast,seval]))
 | (refine awp_ret ⟨.inr rfl,_,rfl,?_⟩; (try simp (disch := omega) only [push_cast,seval]))))


theorem iascending_ok (a b c : Int) (hv : vR a b c = true) : PCall Tryz.prog 76 [rng a b c] (fun r => r = PR (aS a c (cntN a b c)) (aC c) (cntN a b c)) := by
  refine pcall_of l76_eq rfl ?_
  by_cases h : c < 0
  · simp only [aS,aC,h,if_true]
    (repeat' (first
 | (first | refine awp_seq ?_ | refine awp_block ?_)
 | ((first | refine awp_reg ?_ | refine awp_condB ?_ | refine awp_skip ?_ | refine awp_exit ?_); simp (disch := omega) only [push_cast,seval,l76r0,l76r1,l76r2,l76r3,h])
 | ((first | refine condB_split (fun h => ?_) (fun h => ?_) | refine gIf_split (fun h => ?_) (fun h => ?_) | refine qIf_split (fun h => ?_) (fun h => ?_)) <;> (try simp only [h]) <;> (try simp only [bitvec_to_nat] at h) <;> (try simp only [h]) <;> (first | (exfalso; omega) | (focus (exfalso; simp_all; done)) | (simp (disch := omega) only [push_cast,seval,h]) | skip))
 | ((first | refine callD_of false ?_ | refine qcallD_of false ?_); simp (disch := omega) only [push_cast,seval,h])
 | ((first | ((first | refine call0D (BCall.ofP (ireversed_ok _ _ _ ?_)) ?_ | refine qcall0D (BCall.ofP (ireversed_ok _ _ _ ?_)) ⟨_,_,rfl,rfl⟩ ?_); (exact sd); rintro _ _ ⟨rfl,rfl⟩) | ((first | refine call0D (BCall.ofP (inormal_ok _ _ _ ?_)) ?_ | refine qcall0D (BCall.ofP (inormal_ok _ _ _ ?_)) ⟨_,_,rfl,rfl⟩ ?_); (exact sd); rintro _ _ ⟨rfl,rfl⟩)) <;> (try simp (disch := omega) only [push_cast,seval,h]))
 | (refine awp_ret ⟨.inr rfl,_,rfl,?_⟩; (try simp (disch := omega) only [push_cast,seval,h]))))
  · simp only [aS,aC,h,if_false]
    (repeat' (first
 | (first | refine awp_seq ?_ | refine awp_block ?_)
 | ((first | refine awp_reg ?_ | refine awp_condB ?_ | refine awp_skip ?_ | refine awp_exit ?_); simp (disch := omega) only [push_cast,seval,l76r0,l76r1,l76r2,l76r3,h])
 | ((first | refine condB_split (fun h => ?_) (fun h => ?_) | refine gIf_split (fun h => ?_) (fun h => ?_) | refine qIf_split (fun h => ?_) (fun h => ?_)) <;> (try simp only [h]) <;> (try simp only [bitvec_to_nat] at h) <;> (try simp only [h]) <;> (first | (exfalso; omega) | (focus (exfalso; simp_all; done)) | (simp (disch := omega) only [push_cast,seval,h]) | skip))
 | ((first | refine callD_of false ?_ | refine qcallD_of false ?_); simp (disch := omega) only [push_cast,seval,h])
 | ((first | ((first | refine call0D (BCall.ofP (ireversed_ok _ _ _ ?_)) ?_ | refine qcall0D (BCall.ofP (ireversed_ok _ _ _ ?_)) ⟨_,_,rfl,rfl⟩ ?_); (exact sd); rintro _ _ ⟨rfl,rfl⟩) | ((first | refine call0D (BCall.ofP (inormal_ok _ _ _ ?_)) ?_ | refine qcall0D (BCall.ofP (inormal_ok _ _ _ ?_)) ⟨_,_,rfl,rfl⟩ ?_); (exact sd); rintro _ _ ⟨rfl,rfl⟩)) <;> (try simp (disch := omega) only [push_cast,seval,h]))
 | (refine awp_ret ⟨.inr rfl,_,rfl,?_⟩; (try simp (disch := omega) only [push_cast,seval,h]))))


theorem place_ok (a b c x : Int) (hv : vR a b c = true) : PCall Tryz.prog 122 [rng a b c,.int .i64 x] (fun r => r = .int .i64 (placeI (nums a c (cntN a b c)) x)) := by
  obtain ⟨ha,hb,hc,h0⟩ := vR_spec.1 hv
  have hN := cntN_cast hv
  have hB := cnt_bound hv
  refine pcall_of l122_eq rfl ?_
  by_cases hw : -100 ≤ x ∧ x ≤ 100
  · obtain ⟨hw1,hw2⟩ := hw
    by_cases hr : (x - a).tmod c = 0
    · have hx := Int.tdiv_mul_cancel (Int.dvd_of_tmod_eq_zero hr)
      have hi : -1000 ≤ (x - a).tdiv c ∧ (x - a).tdiv c ≤ 1000 := by
        have h1 := Int.natAbs_tdiv_le_natAbs (x - a) c
        omega
      generalize hq : (x - a).tdiv c = i at *
      by_cases hi0 : i < 0
      · rw [placeI_nums_none (fun k hk h => by
          have : ((k : Int) - i) * c = 0 := by rw [Int.sub_mul]; omega
          rcases Int.mul_eq_zero.1 this with h | h <;> omega)]
        clear hN
        (repeat' (first
 | (first | refine awp_seq ?_ | refine awp_block ?_)
 | ((first | refine awp_reg ?_ | refine awp_condB ?_ | refine awp_skip ?_ | refine awp_exit ?_); simp (disch := omega) only [push_cast,seval,l122r0,l122r1,l122r2,l122r3,l122r4,l122r5,l122r6,hw1,hw2,hr,hq,hi0])
 | ((first | refine condB_split (fun h => ?_) (fun h => ?_) | refine gIf_split (fun h => ?_) (fun h => ?_) | refine qIf_split (fun h => ?_) (fun h => ?_)) <;> (try simp only [h]) <;> (try simp only [bitvec_to_nat] at h) <;> (try simp only [h]) <;> (first | (exfalso; omega) | (focus (exfalso; simp_all; done)) | (simp (disch := omega) only [push_cast,seval,hw1,hw2,hr,hq,hi0]) | skip))
 | ((first | refine callD_of false ?_ | refine qcallD_of false ?_); simp (disch := omega) only [push_cast,seval,hw1,hw2,hr,hq,hi0])
 | ((first | ((first | refine call0D (BCall.ofP (within_ok _ _ ?_ ?_)) ?_ | refine qcall0D (BCall.ofP (within_ok _ _ ?_ ?_)) ⟨_,_,rfl,rfl⟩ ?_); (iterate 2 (exact sd)); rintro _ _ ⟨rfl,rfl⟩) | ((first | refine call0D (BCall.ofP (count_ok _ _ _ ?_)) ?_ | refine qcall0D (BCall.ofP (count_ok _ _ _ ?_)) ⟨_,_,rfl,rfl⟩ ?_); (exact sd); rintro _ _ ⟨rfl,rfl⟩)) <;> (try simp (disch := omega) only [push_cast,seval,hw1,hw2,hr,hq,hi0]))
 | (refine awp_ret ⟨.inr rfl,_,rfl,?_⟩; (try simp (disch := omega) only [push_cast,seval,hw1,hw2,hr,hq,hi0]))))
      · by_cases hin : i < cntI a b c
        · rw [placeI_nums (i := i) h0 (by omega) (by omega) (by omega)]
          have hin' : ¬ i ≥ cntI a b c := by omega
          clear hN
          (repeat' (first
 | (first | refine awp_seq ?_ | refine awp_block ?_)
 | ((first | refine awp_reg ?_ | refine awp_condB ?_ | refine awp_skip ?_ | refine awp_exit ?_); simp (disch := omega) only [push_cast,seval,l122r0,l122r1,l122r2,l122r3,l122r4,l122r5,l122r6,hw1,hw2,hr,hq,hi0,hin,hin'])
 | ((first | refine condB_split (fun h => ?_) (fun h => ?_) | refine gIf_split (fun h => ?_) (fun h => ?_) | refine qIf_split (fun h => ?_) (fun h => ?_)) <;> (try simp only [h]) <;> (try simp only [bitvec_to_nat] at h) <;> (try simp only [h]) <;> (first | (exfalso; omega) | (focus (exfalso; simp_all; done)) | (simp (disch := omega) only [push_cast,seval,hw1,hw2,hr,hq,hi0,hin,hin']) | skip))
 | ((first | refine callD_of false ?_ | refine qcallD_of false ?_); simp (disch := omega) only [push_cast,seval,hw1,hw2,hr,hq,hi0,hin,hin'])
 | ((first | ((first | refine call0D (BCall.ofP (within_ok _ _ ?_ ?_)) ?_ | refine qcall0D (BCall.ofP (within_ok _ _ ?_ ?_)) ⟨_,_,rfl,rfl⟩ ?_); (iterate 2 (exact sd)); rintro _ _ ⟨rfl,rfl⟩) | ((first | refine call0D (BCall.ofP (count_ok _ _ _ ?_)) ?_ | refine qcall0D (BCall.ofP (count_ok _ _ _ ?_)) ⟨_,_,rfl,rfl⟩ ?_); (exact sd); rintro _ _ ⟨rfl,rfl⟩)) <;> (try simp (disch := omega) only [push_cast,seval,hw1,hw2,hr,hq,hi0,hin,hin']))
 | (refine awp_ret ⟨.inr rfl,_,rfl,?_⟩; (try simp (disch := omega) only [push_cast,seval,hw1,hw2,hr,hq,hi0,hin,hin']))))
        · rw [placeI_nums_none (fun k hk h => by
            have : ((k : Int) - i) * c = 0 := by rw [Int.sub_mul]; omega
            rcases Int.mul_eq_zero.1 this with h | h <;> omega)]
          have hin' : i ≥ cntI a b c := by omega
          clear hN
          (repeat' (first
 | (first | refine awp_seq ?_ | refine awp_block ?_)
 | ((first | refine awp_reg ?_ | refine awp_condB ?_ | refine awp_skip ?_ | refine awp_exit ?_); simp (disch := omega) only [push_cast,seval,l122r0,l122r1,l122r2,l122r3,l122r4,l122r5,l122r6,hw1,hw2,hr,hq,hi0,hin,hin'])
 | ((first | refine condB_split (fun h => ?_) (fun h => ?_) | refine gIf_split (fun h => ?_) (fun h => ?_) | refine qIf_split (fun h => ?_) (fun h => ?_)) <;> (try simp only [h]) <;> (try simp only [bitvec_to_nat] at h) <;> (try simp only [h]) <;> (first | (exfalso; omega) | (focus (exfalso; simp_all; done)) | (simp (disch := omega) only [push_cast,seval,hw1,hw2,hr,hq,hi0,hin,hin']) | skip))
 | ((first | refine callD_of false ?_ | refine qcallD_of false ?_); simp (disch := omega) only [push_cast,seval,hw1,hw2,hr,hq,hi0,hin,hin'])
 | ((first | ((first | refine call0D (BCall.ofP (within_ok _ _ ?_ ?_)) ?_ | refine qcall0D (BCall.ofP (within_ok _ _ ?_ ?_)) ⟨_,_,rfl,rfl⟩ ?_); (iterate 2 (exact sd)); rintro _ _ ⟨rfl,rfl⟩) | ((first | refine call0D (BCall.ofP (count_ok _ _ _ ?_)) ?_ | refine qcall0D (BCall.ofP (count_ok _ _ _ ?_)) ⟨_,_,rfl,rfl⟩ ?_); (exact sd); rintro _ _ ⟨rfl,rfl⟩)) <;> (try simp (disch := omega) only [push_cast,seval,hw1,hw2,hr,hq,hi0,hin,hin']))
 | (refine awp_ret ⟨.inr rfl,_,rfl,?_⟩; (try simp (disch := omega) only [push_cast,seval,hw1,hw2,hr,hq,hi0,hin,hin']))))
    · rw [placeI_nums_none (fun k hk h => hr (by rw [← h,show a + (k : Int) * c - a = (k : Int) * c by omega,Int.mul_tmod_left]))]
      clear hN
      (repeat' (first
 | (first | refine awp_seq ?_ | refine awp_block ?_)
 | ((first | refine awp_reg ?_ | refine awp_condB ?_ | refine awp_skip ?_ | refine awp_exit ?_); simp (disch := omega) only [push_cast,seval,l122r0,l122r1,l122r2,l122r3,l122r4,l122r5,l122r6,hw1,hw2,hr])
 | ((first | refine condB_split (fun h => ?_) (fun h => ?_) | refine gIf_split (fun h => ?_) (fun h => ?_) | refine qIf_split (fun h => ?_) (fun h => ?_)) <;> (try simp only [h]) <;> (try simp only [bitvec_to_nat] at h) <;> (try simp only [h]) <;> (first | (exfalso; omega) | (focus (exfalso; simp_all; done)) | (simp (disch := omega) only [push_cast,seval,hw1,hw2,hr]) | skip))
 | ((first | refine callD_of false ?_ | refine qcallD_of false ?_); simp (disch := omega) only [push_cast,seval,hw1,hw2,hr])
 | ((first | ((first | refine call0D (BCall.ofP (within_ok _ _ ?_ ?_)) ?_ | refine qcall0D (BCall.ofP (within_ok _ _ ?_ ?_)) ⟨_,_,rfl,rfl⟩ ?_); (iterate 2 (exact sd)); rintro _ _ ⟨rfl,rfl⟩) | ((first | refine call0D (BCall.ofP (count_ok _ _ _ ?_)) ?_ | refine qcall0D (BCall.ofP (count_ok _ _ _ ?_)) ⟨_,_,rfl,rfl⟩ ?_); (exact sd); rintro _ _ ⟨rfl,rfl⟩)) <;> (try simp (disch := omega) only [push_cast,seval,hw1,hw2,hr]))
 | (refine awp_ret ⟨.inr rfl,_,rfl,?_⟩; (try simp (disch := omega) only [push_cast,seval,hw1,hw2,hr]))))
  · rw [placeI_nums_none (fun k hk h => hw (by have := num_bound hv hk; omega))]
    clear hN
    by_cases h2 : -100 ≤ x <;> by_cases h3 : x ≤ 100
    · exact absurd ⟨h2,h3⟩ hw
    all_goals (repeat' (first
 | (first | refine awp_seq ?_ | refine awp_block ?_)
 | ((first | refine awp_reg ?_ | refine awp_condB ?_ | refine awp_skip ?_ | refine awp_exit ?_); simp (disch := omega) only [push_cast,seval,l122r0,l122r1,l122r2,l122r3,l122r4,l122r5,l122r6,h2,h3])
 | ((first | refine condB_split (fun h => ?_) (fun h => ?_) | refine gIf_split (fun h => ?_) (fun h => ?_) | refine qIf_split (fun h => ?_) (fun h => ?_)) <;> (try simp only [h]) <;> (try simp only [bitvec_to_nat] at h) <;> (try simp only [h]) <;> (first | (exfalso; omega) | (focus (exfalso; simp_all; done)) | (simp (disch := omega) only [push_cast,seval,h2,h3]) | skip))
 | ((first | refine callD_of false ?_ | refine qcallD_of false ?_); simp (disch := omega) only [push_cast,seval,h2,h3])
 | ((first | ((first | refine call0D (BCall.ofP (within_ok _ _ ?_ ?_)) ?_ | refine qcall0D (BCall.ofP (within_ok _ _ ?_ ?_)) ⟨_,_,rfl,rfl⟩ ?_); (iterate 2 (exact sd)); rintro _ _ ⟨rfl,rfl⟩) | ((first | refine call0D (BCall.ofP (count_ok _ _ _ ?_)) ?_ | refine qcall0D (BCall.ofP (count_ok _ _ _ ?_)) ⟨_,_,rfl,rfl⟩ ?_); (exact sd); rintro _ _ ⟨rfl,rfl⟩)) <;> (try simp (disch := omega) only [push_cast,seval,h2,h3]))
 | (refine awp_ret ⟨.inr rfl,_,rfl,?_⟩; (try simp (disch := omega) only [push_cast,seval,h2,h3]))))
    all_goals first | omega | simp


theorem commonMultiple_ok (a b : Int) (ha : 1 ≤ a ∧ a ≤ 200) (hb : 1 ≤ b ∧ b ≤ 200) : PCall Tryz.prog 123 [.int .i64 a,.int .i64 b] (fun r => r = .int .i64 (Int.lcm a b)) := by
  refine pcall_of l123_eq rfl ?_
  (repeat' (first
 | (first | refine awp_seq ?_ | refine awp_block ?_)
 | ((first | refine awp_reg ?_ | refine awp_draw (mid := l123r3a) (post := l123r3b) mixed (by decide) ?_ | refine awp_condB ?_ | refine awp_skip ?_ | refine awp_exit ?_); simp (disch := omega) only [push_cast,seval,l123r0,l123r1,l123r2,l123r3a,l123r3b,l123r3,l123r4])
 | ((first | refine condB_split (fun h => ?_) (fun h => ?_) | refine gIf_split (fun h => ?_) (fun h => ?_) | refine qIf_split (fun h => ?_) (fun h => ?_)) <;> (try simp only [h]) <;> (try simp only [bitvec_to_nat] at h) <;> (try simp only [h]) <;> (first | (exfalso; omega) | (focus (exfalso; simp_all; done)) | (simp (disch := omega) only [push_cast,seval]) | skip))
 | (refine awp_ret ⟨.inr rfl,_,rfl,?_⟩; (try simp (disch := omega) only [push_cast,seval]))))
  refine awp_loop (fun p : Int × Int => mkS [(0,.int .i64 a),(1,.int .i64 b),(5,.int .i64 p.1),(6,.int .i64 p.2)] []) (fun p => (0 ≤ p.2 ∧ p.2 ≤ 200) ∧ (1 ≤ p.1 ∧ p.1 ≤ 200) ∧ Int.gcd p.1 p.2 = Int.gcd a b) (fun p => p.2.toNat) (a,b) ⟨by omega,by omega,rfl⟩ ?_ ?_
  · (refine Sub.of_lists ?_ ?_ ?_ ?_ ?_ <;> simp [Vw.mkS,Vw.lk,Vw.hk,AV.inn,innL,innL_ints,innL_append,innL_rep,-List.map_set,-List.getD_eq_getElem?_getD])
  · rintro ⟨x,y⟩ ⟨⟨hy1,hy2⟩,⟨hx1,hx2⟩,hg⟩
    simp only at hy1 hy2 hx1 hx2 hg ⊢
    by_cases hy : 0 < y
    · have h1 := gcd_step (x := x) (y := y) (by omega) hy
      have h2 := Int.tmod_nonneg y (a := x) (by omega)
      have h3 := Int.tmod_lt_of_pos x hy
      have hy0 : ¬ y = 0 := by omega
      (repeat' (first
 | (first | refine awp_seq ?_ | refine awp_block ?_)
 | ((first | refine awp_reg ?_ | refine awp_draw (mid := l123r3a) (post := l123r3b) mixed (by decide) ?_ | refine awp_condB ?_ | refine awp_skip ?_ | refine awp_exit ?_); simp (disch := omega) only [push_cast,seval,l123r0,l123r1,l123r2,l123r3a,l123r3b,l123r3,l123r4,hy,hy0])
 | ((first | refine condB_split (fun h => ?_) (fun h => ?_) | refine gIf_split (fun h => ?_) (fun h => ?_) | refine qIf_split (fun h => ?_) (fun h => ?_)) <;> (try simp only [h]) <;> (try simp only [bitvec_to_nat] at h) <;> (try simp only [h]) <;> (first | (exfalso; omega) | (focus (exfalso; simp_all; done)) | (simp (disch := omega) only [push_cast,seval,hy,hy0]) | skip))
 | (refine awp_ret ⟨.inr rfl,_,rfl,?_⟩; (try simp (disch := omega) only [push_cast,seval,hy,hy0]))))
      refine ⟨(y,x.tmod y),⟨⟨by omega,by simp only; omega⟩,⟨by omega,by omega⟩,by simp only; omega⟩,by simp only; omega,?_⟩
      (refine Sub.of_lists ?_ ?_ ?_ ?_ ?_ <;> simp [Vw.mkS,Vw.lk,Vw.hk,AV.inn,innL,innL_ints,innL_append,innL_rep,-List.map_set,-List.getD_eq_getElem?_getD])
    · have hy0 : y = 0 := by omega
      subst hy0
      have hx : x = Int.gcd a b := by
        rw [← hg]
        simp; omega
      obtain ⟨h1,h2⟩ := lcm_step ha.1 hb.1 hx
      have h3 := tdiv_bound (x := a) (y := x) (by omega) (by omega)
      have h4 := mul_bd (x := a.tdiv x) (y := b) (p := 200) (q := 200) (by omega) (by omega)
      have hx0 : ¬ x = 0 := by omega
      rw [← h1]
      clear hx
      (repeat' (first
 | (first | refine awp_seq ?_ | refine awp_block ?_)
 | ((first | refine awp_reg ?_ | refine awp_draw (mid := l123r3a) (post := l123r3b) mixed (by decide) ?_ | refine awp_condB ?_ | refine awp_skip ?_ | refine awp_exit ?_); simp (disch := omega) only [push_cast,seval,l123r0,l123r1,l123r2,l123r3a,l123r3b,l123r3,l123r4,hx0])
 | ((first | refine condB_split (fun h => ?_) (fun h => ?_) | refine gIf_split (fun h => ?_) (fun h => ?_) | refine qIf_split (fun h => ?_) (fun h => ?_)) <;> (try simp only [h]) <;> (try simp only [bitvec_to_nat] at h) <;> (try simp only [h]) <;> (first | (exfalso; omega) | (focus (exfalso; simp_all; done)) | (simp (disch := omega) only [push_cast,seval,hx0]) | skip))
 | (refine awp_ret ⟨.inr rfl,_,rfl,?_⟩; (try simp (disch := omega) only [push_cast,seval,hx0]))))

end Go.Proofs.YtfphjgmkpgoomaaGreat
