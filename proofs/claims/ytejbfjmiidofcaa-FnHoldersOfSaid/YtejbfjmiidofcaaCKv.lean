import Derived.Test.YtejbfjmiidofcaaCKy
import Derived.Test.YtejbfjmiidofcaaCM1
set_option linter.unusedSimpArgs false
set_option linter.unusedVariables false
set_option maxRecDepth 4000
set_option maxHeartbeats 4000000
namespace Go.Proofs.Ytejbfjmiidofcaa
open VwM Vw Go

theorem takesL_succ (xs at_ : List Int) (k : Nat) (h : k < at_.length) : takesL xs (at_.take (k + 1)) = takesL xs (at_.take k) ++ [xs.getD (at_.getD k 0).toNat 0] := by
  rw [take_succ_getD _ _ h]; simp [takesL]
theorem takesL_length (xs at_ : List Int) : (takesL xs at_).length = at_.length := by simp [takesL]


theorem ascends_ok (xs : List Int) (n : Nat) (hn : xs.length = n) (hb : n ≤ 1099511627776 ∧ ∀ i : Nat,1 ≤ i → i < n → xs.getD (i - 1) 0 < xs.getD i 0) : PCall Try.prog 25 [.rows false (IL xs) n] (fun r => r = .bool true) := by
  subst hn
  obtain ⟨hb1,hb⟩ := hb
  refine pcall_of l25_eq rfl ?_
  (repeat' (first
 | (first | refine awp_seq ?_ | refine awp_block ?_)
 | ((first | refine awp_reg ?_ | refine awp_draw (mid := l25r3a) (post := l25r3b) mixed (by decide) ?_ | refine awp_condB ?_ | refine awp_skip ?_ | refine awp_exit ?_); simp (disch := omega) only [push_cast,seval,l25r0,l25r1,l25r2,l25r3a,l25r3b,l25r3,l25r4,l25r5,l25r6])
 | ((first | refine condB_split (fun h => ?_) (fun h => ?_) | refine gIf_split (fun h => ?_) (fun h => ?_) | refine qIf_split (fun h => ?_) (fun h => ?_)) <;> (try simp only [h]) <;> (try simp only [bitvec_to_nat] at h) <;> (try simp only [h]) <;> (first | (exfalso; omega) | (focus (exfalso; simp_all; done)) | (simp (disch := omega) only [push_cast,seval]) | skip))
 | (refine awp_ret ⟨.inr rfl,_,rfl,?_⟩; (try simp (disch := omega) only [push_cast,seval]))))
  refine awp_loop (fun k : Nat => mkS [(0,RI xs),(3,.int .i64 ((k : Int) + 1))] []) (fun k => k ≤ xs.length) (fun k => xs.length - k) 0 (Nat.zero_le _) ?_ ?_
  · (refine Sub.of_lists ?_ ?_ ?_ ?_ ?_ <;> simp [Vw.mkS,Vw.lk,Vw.hk,AV.inn,innL,innL_ints,innL_append,innL_rep,-List.map_set,-List.getD_eq_getElem?_getD])
  · intro k hk
    by_cases hlt : k + 1 < xs.length
    · have h1 := hb (k + 1) (by omega) hlt
      have h2 : ¬ xs.getD (k + 1) 0 ≤ xs.getD k 0 := by
        have : k + 1 - 1 = k := by omega
        rw [this] at h1
        omega
      have e1 : ((k : Int) + 1 - 1).toNat = k := by omega
      have h3 : (k : Int) + 1 < xs.length := by omega
      (repeat' (first
 | (first | refine awp_seq ?_ | refine awp_block ?_)
 | ((first | refine awp_reg ?_ | refine awp_draw (mid := l25r3a) (post := l25r3b) mixed (by decide) ?_ | refine awp_condB ?_ | refine awp_skip ?_ | refine awp_exit ?_); simp (disch := omega) only [push_cast,seval,l25r0,l25r1,l25r2,l25r3a,l25r3b,l25r3,l25r4,l25r5,l25r6,h2,e1,h3])
 | ((first | refine condB_split (fun h => ?_) (fun h => ?_) | refine gIf_split (fun h => ?_) (fun h => ?_) | refine qIf_split (fun h => ?_) (fun h => ?_)) <;> (try simp only [h]) <;> (try simp only [bitvec_to_nat] at h) <;> (try simp only [h]) <;> (first | (exfalso; omega) | (focus (exfalso; simp_all; done)) | (simp (disch := omega) only [push_cast,seval,h2,e1,h3]) | skip))
 | (refine awp_ret ⟨.inr rfl,_,rfl,?_⟩; (try simp (disch := omega) only [push_cast,seval,h2,e1,h3]))))
      refine ⟨k + 1,by omega,by omega,?_⟩
      (refine Sub.of_lists ?_ ?_ ?_ ?_ ?_ <;> simp [Vw.mkS,Vw.lk,Vw.hk,AV.inn,innL,innL_ints,innL_append,innL_rep,-List.map_set,-List.getD_eq_getElem?_getD])
    · have h3 : ¬ (k : Int) + 1 < xs.length := by omega
      (repeat' (first
 | (first | refine awp_seq ?_ | refine awp_block ?_)
 | ((first | refine awp_reg ?_ | refine awp_draw (mid := l25r3a) (post := l25r3b) mixed (by decide) ?_ | refine awp_condB ?_ | refine awp_skip ?_ | refine awp_exit ?_); simp (disch := omega) only [push_cast,seval,l25r0,l25r1,l25r2,l25r3a,l25r3b,l25r3,l25r4,l25r5,l25r6,h3])
 | ((first | refine condB_split (fun h => ?_) (fun h => ?_) | refine gIf_split (fun h => ?_) (fun h => ?_) | refine qIf_split (fun h => ?_) (fun h => ?_)) <;> (try simp only [h]) <;> (try simp only [bitvec_to_nat] at h) <;> (try simp only [h]) <;> (first | (exfalso; omega) | (focus (exfalso; simp_all; done)) | (simp (disch := omega) only [push_cast,seval,h3]) | skip))
 | (refine awp_ret ⟨.inr rfl,_,rfl,?_⟩; (try simp (disch := omega) only [push_cast,seval,h3]))))

end Go.Proofs.Ytejbfjmiidofcaa
