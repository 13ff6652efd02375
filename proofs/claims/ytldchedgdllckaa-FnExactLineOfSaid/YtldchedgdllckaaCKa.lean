import Derived.Test.YtldchedgdllckaaCLow
import Derived.Test.YtldchedgdllckaaCVwM

set_option linter.unusedSimpArgs false
set_option linter.unusedVariables false
set_option linter.unnecessarySimpa false
set_option maxRecDepth 4000
set_option maxHeartbeats 4000000
namespace Go.Proofs.Ytldchedgdllckaa
open VwM Vw Go

theorem mixed : Try.prog.follows .mixedOrders = true := by kernel_rfl


theorem within_ok (x l : Int) (h0 : 0 ≤ l) (h1 : l ≤ 1000) : PCall Try.prog 45 [.int .i64 x, .int .i64 l] (fun r => r = .bool (decide (-l ≤ x) && decide (x ≤ l))) := by
  refine pcall_of l45_eq rfl ?_
  (repeat' (first
      | (first | refine awp_seq ?_ | refine awp_block ?_)
      | ((first | refine awp_reg ?_ | refine awp_condB ?_ | refine awp_skip ?_ | refine awp_exit ?_); simp (maxSteps := 400000) (disch := omega) only [push_cast, List.reduceReplicate, List.length_replicate, ↓reduceIte, Nat.reduceEqDiff, Nat.reduceMul, Nat.reduceAdd, Nat.reduceSub, Nat.reduceLeDiff, Nat.reduceBEq, Nat.reduceDiv, Nat.reduceMod, Int.reduceToNat, l45r0, l45r1])
      | ((first | refine condB_split (fun h => ?_) (fun h => ?_) | refine gIf_split (fun h => ?_) (fun h => ?_) | refine qIf_split (fun h => ?_) (fun h => ?_)) <;> (try simp only [h]) <;> (try simp only [decide_eq_true_eq, decide_eq_false_iff_not, Bool.not_eq_true', Bool.not_eq_false', Bool.and_eq_true, Bool.or_eq_true, Bool.and_eq_false_iff, Bool.or_eq_false_iff, Int.not_le, Int.not_lt, bne_iff_ne, ne_eq, beq_iff_eq, Bool.not_eq_true, Bool.not_eq_false] at h) <;> (try simp only [h]) <;> (first | (exfalso; omega) | (focus (exfalso; simp_all; done)) | (simp (maxSteps := 400000) (disch := omega) only [push_cast, List.reduceReplicate, List.length_replicate, ↓reduceIte, Nat.reduceEqDiff, Nat.reduceMul, Nat.reduceAdd, Nat.reduceSub, Nat.reduceLeDiff, Nat.reduceBEq, Nat.reduceDiv, Nat.reduceMod, Int.reduceToNat]) | skip))
      | (refine awp_ret ⟨.inr rfl, _, rfl, ?_⟩; (try simp (maxSteps := 400000) (disch := omega) only [push_cast, List.reduceReplicate, List.length_replicate, ↓reduceIte, Nat.reduceEqDiff, Nat.reduceMul, Nat.reduceAdd, Nat.reduceSub, Nat.reduceLeDiff, Nat.reduceBEq, Nat.reduceDiv, Nat.reduceMod, Int.reduceToNat]))))
  all_goals (first | rfl | (simp_all; done) | (simp_all; omega) | (simp; omega) | (simp; grind) | (simp_all; grind) | skip)


theorem inRange_ok (x l h : Int) : PCall Try.prog 38 [.int .i64 x, .int .i64 l, .int .i64 h] (fun r => r = .bool (decide (l ≤ x) && decide (x ≤ h))) := by
  refine pcall_of l38_eq rfl ?_
  (repeat' (first
      | (first | refine awp_seq ?_ | refine awp_block ?_)
      | ((first | refine awp_reg ?_ | refine awp_condB ?_ | refine awp_skip ?_ | refine awp_exit ?_); simp (maxSteps := 400000) (disch := omega) only [push_cast, List.reduceReplicate, List.length_replicate, ↓reduceIte, Nat.reduceEqDiff, Nat.reduceMul, Nat.reduceAdd, Nat.reduceSub, Nat.reduceLeDiff, Nat.reduceBEq, Nat.reduceDiv, Nat.reduceMod, Int.reduceToNat, l38r0, l38r1])
      | ((first | refine condB_split (fun h => ?_) (fun h => ?_) | refine gIf_split (fun h => ?_) (fun h => ?_) | refine qIf_split (fun h => ?_) (fun h => ?_)) <;> (try simp only [h]) <;> (try simp only [decide_eq_true_eq, decide_eq_false_iff_not, Bool.not_eq_true', Bool.not_eq_false', Bool.and_eq_true, Bool.or_eq_true, Bool.and_eq_false_iff, Bool.or_eq_false_iff, Int.not_le, Int.not_lt, bne_iff_ne, ne_eq, beq_iff_eq, Bool.not_eq_true, Bool.not_eq_false] at h) <;> (try simp only [h]) <;> (first | (exfalso; omega) | (focus (exfalso; simp_all; done)) | (simp (maxSteps := 400000) (disch := omega) only [push_cast, List.reduceReplicate, List.length_replicate, ↓reduceIte, Nat.reduceEqDiff, Nat.reduceMul, Nat.reduceAdd, Nat.reduceSub, Nat.reduceLeDiff, Nat.reduceBEq, Nat.reduceDiv, Nat.reduceMod, Int.reduceToNat]) | skip))
      | (refine awp_ret ⟨.inr rfl, _, rfl, ?_⟩; (try simp (maxSteps := 400000) (disch := omega) only [push_cast, List.reduceReplicate, List.length_replicate, ↓reduceIte, Nat.reduceEqDiff, Nat.reduceMul, Nat.reduceAdd, Nat.reduceSub, Nat.reduceLeDiff, Nat.reduceBEq, Nat.reduceDiv, Nat.reduceMod, Int.reduceToNat]))))
  all_goals (first | rfl | (simp_all; done) | (simp_all; omega) | (simp; omega) | (simp; grind) | (simp_all; grind) | skip)


theorem eqRange_ok (a b c a' b' c' : Int) : PCall Try.prog 12 [rng a b c, rng a' b' c'] (fun r => r = .bool (decide (a = a') && decide (b = b') && decide (c = c'))) := by
  refine pcall_of l12_eq rfl ?_
  (repeat' (first
      | (first | refine awp_seq ?_ | refine awp_block ?_)
      | ((first | refine awp_reg ?_ | refine awp_condB ?_ | refine awp_skip ?_ | refine awp_exit ?_); simp (maxSteps := 400000) (disch := omega) only [push_cast, List.reduceReplicate, List.length_replicate, ↓reduceIte, Nat.reduceEqDiff, Nat.reduceMul, Nat.reduceAdd, Nat.reduceSub, Nat.reduceLeDiff, Nat.reduceBEq, Nat.reduceDiv, Nat.reduceMod, Int.reduceToNat, l12r0, l12r1, l12r2, l12r3, l12r4, l12r5, l12r6, l12r7])
      | ((first | refine condB_split (fun h => ?_) (fun h => ?_) | refine gIf_split (fun h => ?_) (fun h => ?_) | refine qIf_split (fun h => ?_) (fun h => ?_)) <;> (try simp only [h]) <;> (try simp only [decide_eq_true_eq, decide_eq_false_iff_not, Bool.not_eq_true', Bool.not_eq_false', Bool.and_eq_true, Bool.or_eq_true, Bool.and_eq_false_iff, Bool.or_eq_false_iff, Int.not_le, Int.not_lt, bne_iff_ne, ne_eq, beq_iff_eq, Bool.not_eq_true, Bool.not_eq_false] at h) <;> (try simp only [h]) <;> (first | (exfalso; omega) | (focus (exfalso; simp_all; done)) | (simp (maxSteps := 400000) (disch := omega) only [push_cast, List.reduceReplicate, List.length_replicate, ↓reduceIte, Nat.reduceEqDiff, Nat.reduceMul, Nat.reduceAdd, Nat.reduceSub, Nat.reduceLeDiff, Nat.reduceBEq, Nat.reduceDiv, Nat.reduceMod, Int.reduceToNat]) | skip))
      | (refine awp_ret ⟨.inr rfl, _, rfl, ?_⟩; (try simp (maxSteps := 400000) (disch := omega) only [push_cast, List.reduceReplicate, List.length_replicate, ↓reduceIte, Nat.reduceEqDiff, Nat.reduceMul, Nat.reduceAdd, Nat.reduceSub, Nat.reduceLeDiff, Nat.reduceBEq, Nat.reduceDiv, Nat.reduceMod, Int.reduceToNat]))))
  all_goals (first | rfl | (simp_all; done) | (simp_all; omega) | (simp; omega) | (simp; grind) | (simp_all; grind) | skip)


theorem eqIntS_ok (xs ys : List Int) (n m : Nat) (hn : xs.length = n) (hm : ys.length = m) (hb : n ≤ 1099511627776) : PCall Try.prog 20 [.rows false (IL xs) n, .rows false (IL ys) m] (fun r => r = .bool (decide (xs = ys))) := by
  subst hn hm
  refine pcall_of l20_eq rfl ?_
  (repeat' (first
      | (first | refine awp_seq ?_ | refine awp_block ?_)
      | ((first | refine awp_reg ?_ | refine awp_draw (mid := l20r5a) (post := l20r5b) mixed (by decide) ?_ | refine awp_condB ?_ | refine awp_skip ?_ | refine awp_exit ?_); simp (maxSteps := 400000) (disch := omega) only [push_cast, List.reduceReplicate, List.length_replicate, ↓reduceIte, Nat.reduceEqDiff, Nat.reduceMul, Nat.reduceAdd, Nat.reduceSub, Nat.reduceLeDiff, Nat.reduceBEq, Nat.reduceDiv, Nat.reduceMod, Int.reduceToNat, l20r0, l20r1, l20r2, l20r3, l20r4, l20r5a, l20r5b, l20r5, l20r6, l20r7, l20r8])
      | ((first | refine condB_split (fun h => ?_) (fun h => ?_) | refine gIf_split (fun h => ?_) (fun h => ?_) | refine qIf_split (fun h => ?_) (fun h => ?_)) <;> (try simp only [h]) <;> (try simp only [decide_eq_true_eq, decide_eq_false_iff_not, Bool.not_eq_true', Bool.not_eq_false', Bool.and_eq_true, Bool.or_eq_true, Bool.and_eq_false_iff, Bool.or_eq_false_iff, Int.not_le, Int.not_lt, bne_iff_ne, ne_eq, beq_iff_eq, Bool.not_eq_true, Bool.not_eq_false] at h) <;> (try simp only [h]) <;> (first | (exfalso; omega) | (focus (exfalso; simp_all; done)) | (simp (maxSteps := 400000) (disch := omega) only [push_cast, List.reduceReplicate, List.length_replicate, ↓reduceIte, Nat.reduceEqDiff, Nat.reduceMul, Nat.reduceAdd, Nat.reduceSub, Nat.reduceLeDiff, Nat.reduceBEq, Nat.reduceDiv, Nat.reduceMod, Int.reduceToNat]) | skip))
      | (refine awp_ret ⟨.inr rfl, _, rfl, ?_⟩; (try simp (maxSteps := 400000) (disch := omega) only [push_cast, List.reduceReplicate, List.length_replicate, ↓reduceIte, Nat.reduceEqDiff, Nat.reduceMul, Nat.reduceAdd, Nat.reduceSub, Nat.reduceLeDiff, Nat.reduceBEq, Nat.reduceDiv, Nat.reduceMod, Int.reduceToNat]))))
  · simp; rintro rfl; omega
  · refine awp_loop (fun k : Nat => mkS [(0, RI xs), (1, RI ys), (5, .int .i64 k)] []) (fun k => k ≤ xs.length ∧ ∀ j : Nat, j < k → xs.getD j 0 = ys.getD j 0) (fun k => xs.length - k) 0 ⟨Nat.zero_le _, fun j h => absurd h (Nat.not_lt_zero _)⟩ ?_ ?_
    · (refine Sub.of_lists ?_ ?_ ?_ ?_ ?_ <;> simp [Vw.mkS, Vw.lk, Vw.hk, AV.inn, innL, innL_ints, innL_append, innL_rep, -List.map_set, -List.getD_eq_getElem?_getD])
    · rintro k ⟨hk, hj⟩
      have hl : xs.length = ys.length := by omega
      (repeat' (first
      | (first | refine awp_seq ?_ | refine awp_block ?_)
      | ((first | refine awp_reg ?_ | refine awp_draw (mid := l20r5a) (post := l20r5b) mixed (by decide) ?_ | refine awp_condB ?_ | refine awp_skip ?_ | refine awp_exit ?_); simp (maxSteps := 400000) (disch := omega) only [push_cast, List.reduceReplicate, List.length_replicate, ↓reduceIte, Nat.reduceEqDiff, Nat.reduceMul, Nat.reduceAdd, Nat.reduceSub, Nat.reduceLeDiff, Nat.reduceBEq, Nat.reduceDiv, Nat.reduceMod, Int.reduceToNat, l20r0, l20r1, l20r2, l20r3, l20r4, l20r5a, l20r5b, l20r5, l20r6, l20r7, l20r8])
      | ((first | refine condB_split (fun h => ?_) (fun h => ?_) | refine gIf_split (fun h => ?_) (fun h => ?_) | refine qIf_split (fun h => ?_) (fun h => ?_)) <;> (try simp only [h]) <;> (try simp only [decide_eq_true_eq, decide_eq_false_iff_not, Bool.not_eq_true', Bool.not_eq_false', Bool.and_eq_true, Bool.or_eq_true, Bool.and_eq_false_iff, Bool.or_eq_false_iff, Int.not_le, Int.not_lt, bne_iff_ne, ne_eq, beq_iff_eq, Bool.not_eq_true, Bool.not_eq_false] at h) <;> (try simp only [h]) <;> (first | (exfalso; omega) | (focus (exfalso; simp_all; done)) | (simp (maxSteps := 400000) (disch := omega) only [push_cast, List.reduceReplicate, List.length_replicate, ↓reduceIte, Nat.reduceEqDiff, Nat.reduceMul, Nat.reduceAdd, Nat.reduceSub, Nat.reduceLeDiff, Nat.reduceBEq, Nat.reduceDiv, Nat.reduceMod, Int.reduceToNat]) | skip))
      | (refine awp_ret ⟨.inr rfl, _, rfl, ?_⟩; (try simp (maxSteps := 400000) (disch := omega) only [push_cast, List.reduceReplicate, List.length_replicate, ↓reduceIte, Nat.reduceEqDiff, Nat.reduceMul, Nat.reduceAdd, Nat.reduceSub, Nat.reduceLeDiff, Nat.reduceBEq, Nat.reduceDiv, Nat.reduceMod, Int.reduceToNat]))))
      · simp; rintro rfl; exact absurd rfl ‹_›
      · refine ⟨k + 1, ⟨by omega, fun j h => ?_⟩, by omega, ?_⟩
        · by_cases hjk : j = k
          · subst hjk; assumption
          · exact hj j (by omega)
        · (refine Sub.of_lists ?_ ?_ ?_ ?_ ?_ <;> simp [Vw.mkS, Vw.lk, Vw.hk, AV.inn, innL, innL_ints, innL_append, innL_rep, -List.map_set, -List.getD_eq_getElem?_getD])
      · have : xs = ys := list_eq_of hl fun j h => hj j (by omega)
        simp [this]

end Go.Proofs.Ytldchedgdllckaa
