import Derived.Test.YtccfnaloccfcpaaDoorCLow
import Derived.Test.YtccfnaloccfcpaaDoorCM1

set_option linter.unusedSimpArgs false
set_option linter.unusedVariables false
set_option maxRecDepth 4000
set_option maxHeartbeats 4000000
namespace Go.Proofs.YtccfnaloccfcpaaDoor
open VwM Vw Go

theorem mixed : Tryd.prog.follows .mixedOrders = true := by kernel_rfl


theorem within_ok (x l : Int) (h0 : 0 ≤ l) (h1 : l ≤ 1000) : PCall Tryd.prog 15 [.int .i64 x,.int .i64 l] (fun r => r = .bool (decide (-l ≤ x) && decide (x ≤ l))) := by
  refine pcall_of l15_eq rfl ?_
  (repeat' (first
 | (first | refine awp_seq ?_ | refine awp_block ?_)
 | ((first | refine awp_reg ?_ | refine awp_condB ?_ | refine awp_skip ?_ | refine awp_exit ?_); simp (disch := omega) only [push_cast,seval,l15r0,l15r1])
 | ((first | refine condB_split (fun h => ?_) (fun h => ?_) | refine gIf_split (fun h => ?_) (fun h => ?_) | refine qIf_split (fun h => ?_) (fun h => ?_)) <;> (try simp only [h]) <;> (try simp only [bitvec_to_nat] at h) <;> (try simp only [h]) <;> (first | (exfalso; omega) | (focus (exfalso; simp_all; done)) | (simp (disch := omega) only [push_cast,seval]) | skip))
 | (refine awp_ret ⟨.inr rfl,_,rfl,?_⟩; (try simp (disch := omega) only [push_cast,seval]))))
  all_goals (first | rfl | (simp_all; done) | (simp_all; omega) | (simp; omega) | (simp; grind) | (simp_all; grind) | skip)


theorem inRange_ok (x l h : Int) : PCall Tryd.prog 20 [.int .i64 x,.int .i64 l,.int .i64 h] (fun r => r = .bool (decide (l ≤ x) && decide (x ≤ h))) := by
  refine pcall_of l20_eq rfl ?_
  (repeat' (first
 | (first | refine awp_seq ?_ | refine awp_block ?_)
 | ((first | refine awp_reg ?_ | refine awp_condB ?_ | refine awp_skip ?_ | refine awp_exit ?_); simp (disch := omega) only [push_cast,seval,l20r0,l20r1])
 | ((first | refine condB_split (fun h => ?_) (fun h => ?_) | refine gIf_split (fun h => ?_) (fun h => ?_) | refine qIf_split (fun h => ?_) (fun h => ?_)) <;> (try simp only [h]) <;> (try simp only [bitvec_to_nat] at h) <;> (try simp only [h]) <;> (first | (exfalso; omega) | (focus (exfalso; simp_all; done)) | (simp (disch := omega) only [push_cast,seval]) | skip))
 | (refine awp_ret ⟨.inr rfl,_,rfl,?_⟩; (try simp (disch := omega) only [push_cast,seval]))))
  all_goals (first | rfl | (simp_all; done) | (simp_all; omega) | (simp; omega) | (simp; grind) | (simp_all; grind) | skip)


theorem eqIntS_ok (xs ys : List Int) (n m : Nat) (hn : xs.length = n) (hm : ys.length = m) (hb : n ≤ 1099511627776) : PCall Tryd.prog 16 [.rows false (IL xs) n,.rows false (IL ys) m] (fun r => r = .bool (decide (xs = ys))) := by
  subst hn hm
  refine pcall_of l16_eq rfl ?_
  (repeat' (first
 | (first | refine awp_seq ?_ | refine awp_block ?_)
 | ((first | refine awp_reg ?_ | refine awp_draw (mid := l16r5a) (post := l16r5b) mixed (by decide) ?_ | refine awp_condB ?_ | refine awp_skip ?_ | refine awp_exit ?_); simp (disch := omega) only [push_cast,seval,l16r0,l16r1,l16r2,l16r3,l16r4,l16r5a,l16r5b,l16r5,l16r6,l16r7,l16r8])
 | ((first | refine condB_split (fun h => ?_) (fun h => ?_) | refine gIf_split (fun h => ?_) (fun h => ?_) | refine qIf_split (fun h => ?_) (fun h => ?_)) <;> (try simp only [h]) <;> (try simp only [bitvec_to_nat] at h) <;> (try simp only [h]) <;> (first | (exfalso; omega) | (focus (exfalso; simp_all; done)) | (simp (disch := omega) only [push_cast,seval]) | skip))
 | (refine awp_ret ⟨.inr rfl,_,rfl,?_⟩; (try simp (disch := omega) only [push_cast,seval]))))
  · simp; rintro rfl; omega
  · refine awp_loop (fun k : Nat => mkS [(0,RI xs),(1,RI ys),(5,.int .i64 k)] []) (fun k => k ≤ xs.length ∧ ∀ j : Nat,j < k → xs.getD j 0 = ys.getD j 0) (fun k => xs.length - k) 0 ⟨Nat.zero_le _,fun j h => absurd h (Nat.not_lt_zero _)⟩ ?_ ?_
    · (refine Sub.of_lists ?_ ?_ ?_ ?_ ?_ <;> simp [Vw.mkS,Vw.lk,Vw.hk,AV.inn,innL,innL_ints,innL_append,innL_rep,-List.map_set,-List.getD_eq_getElem?_getD])
    · rintro k ⟨hk,hj⟩
      have hl : xs.length = ys.length := by omega
      (repeat' (first
 | (first | refine awp_seq ?_ | refine awp_block ?_)
 | ((first | refine awp_reg ?_ | refine awp_draw (mid := l16r5a) (post := l16r5b) mixed (by decide) ?_ | refine awp_condB ?_ | refine awp_skip ?_ | refine awp_exit ?_); simp (disch := omega) only [push_cast,seval,l16r0,l16r1,l16r2,l16r3,l16r4,l16r5a,l16r5b,l16r5,l16r6,l16r7,l16r8])
 | ((first | refine condB_split (fun h => ?_) (fun h => ?_) | refine gIf_split (fun h => ?_) (fun h => ?_) | refine qIf_split (fun h => ?_) (fun h => ?_)) <;> (try simp only [h]) <;> (try simp only [bitvec_to_nat] at h) <;> (try simp only [h]) <;> (first | (exfalso; omega) | (focus (exfalso; simp_all; done)) | (simp (disch := omega) only [push_cast,seval]) | skip))
 | (refine awp_ret ⟨.inr rfl,_,rfl,?_⟩; (try simp (disch := omega) only [push_cast,seval]))))
      · simp; rintro rfl; exact absurd rfl ‹_›
      · refine ⟨k + 1,⟨by omega,fun j h => ?_⟩,by omega,?_⟩
        · by_cases hjk : j = k
          · subst hjk; assumption
          · exact hj j (by omega)
        · (refine Sub.of_lists ?_ ?_ ?_ ?_ ?_ <;> simp [Vw.mkS,Vw.lk,Vw.hk,AV.inn,innL,innL_ints,innL_append,innL_rep,-List.map_set,-List.getD_eq_getElem?_getD])
      · have : xs = ys := list_eq_of hl fun j h => hj j (by omega)
        simp [this]

end Go.Proofs.YtccfnaloccfcpaaDoor
