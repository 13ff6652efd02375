import Derived.Test.YtniddegncklgpaaCKr1
import Derived.Test.YtniddegncklgpaaCVwM
import Derived.Test.YtniddegncklgpaaCVwM9
set_option linter.unusedSimpArgs false
set_option linter.unusedVariables false
set_option linter.unnecessarySimpa false
set_option maxRecDepth 4000
set_option maxHeartbeats 4000000
namespace Go.Proofs.Ytniddegncklgpaa
open VwM Vw Go

theorem takesL_succ (xs at_ : List Int) (k : Nat) (h : k < at_.length) : takesL xs (at_.take (k + 1)) = takesL xs (at_.take k) ++ [xs.getD (at_.getD k 0).toNat 0] := by
  rw [take_succ_getD _ _ h]; simp [takesL]
theorem takesL_length (xs at_ : List Int) : (takesL xs at_).length = at_.length := by simp [takesL]


theorem drawMR_ok (bs : List Int) (n : Nat) (hn : bs.length = n) (hb : n ≤ 1099511627776 ∧ ∀ x ∈ bs, 0 ≤ x ∧ x ≤ 255) : PCall Try.prog 30 [.rows false (UL bs) n] (fun r => ∃ a b c a' b' c', (-1000 ≤ a ∧ a ≤ 1000 ∧ -1000 ≤ b ∧ b ≤ 1000 ∧ -1000 ≤ c ∧ c ≤ 1000) ∧ (-1000 ≤ a' ∧ a' ≤ 1000 ∧ -1000 ≤ b' ∧ b' ≤ 1000 ∧ -1000 ≤ c' ∧ c' ≤ 1000) ∧ r = .tup [rng a b c, rng a' b' c']) := by
  refine pcall_of l30_eq rfl ?_
  (repeat' (first
      | (first | refine awp_seq ?_ | refine awp_block ?_)
      | ((first | refine awp_reg ?_ | refine awp_condB ?_ | refine awp_skip ?_ | refine awp_exit ?_); simp (maxSteps := 400000) (disch := omega) only [push_cast, List.reduceReplicate, List.length_replicate, ↓reduceIte, Nat.reduceEqDiff, Nat.reduceMul, Nat.reduceAdd, Nat.reduceSub, Nat.reduceLeDiff, Nat.reduceBEq, Nat.reduceDiv, Nat.reduceMod, Int.reduceToNat, l30r0, l30r1, l30r2])
      | ((first | refine condB_split (fun h => ?_) (fun h => ?_) | refine gIf_split (fun h => ?_) (fun h => ?_) | refine qIf_split (fun h => ?_) (fun h => ?_)) <;> (try simp only [h]) <;> (try simp only [decide_eq_true_eq, decide_eq_false_iff_not, Bool.not_eq_true', Bool.not_eq_false', Bool.and_eq_true, Bool.or_eq_true, Bool.and_eq_false_iff, Bool.or_eq_false_iff, Int.not_le, Int.not_lt, bne_iff_ne, ne_eq, beq_iff_eq, Bool.not_eq_true, Bool.not_eq_false] at h) <;> (try simp only [h]) <;> (first | (exfalso; omega) | (focus (exfalso; simp_all; done)) | (simp (maxSteps := 400000) (disch := omega) only [push_cast, List.reduceReplicate, List.length_replicate, ↓reduceIte, Nat.reduceEqDiff, Nat.reduceMul, Nat.reduceAdd, Nat.reduceSub, Nat.reduceLeDiff, Nat.reduceBEq, Nat.reduceDiv, Nat.reduceMod, Int.reduceToNat]) | skip))
      | ((first | ((with_reducible refine callD_of (f := 44) true ?_); simp (maxSteps := 400000) (disch := omega) only [push_cast, List.reduceReplicate, List.length_replicate, ↓reduceIte, Nat.reduceEqDiff, Nat.reduceMul, Nat.reduceAdd, Nat.reduceSub, Nat.reduceLeDiff, Nat.reduceBEq, Nat.reduceDiv, Nat.reduceMod, Int.reduceToNat]; (refine call0D (newReader_ok _ _ ?_ ?_) ?_; (iterate 2 (focus (first | assumption | rfl | omega | (simp; done) | (simp; omega) | (simp_all; done) | (simp_all; omega)))); rintro _ _ ⟨bs0, hbs0, rfl, rfl⟩)) | ((with_reducible refine callD_ids (f := 56) [96] true ?_); simp (maxSteps := 400000) (disch := omega) only [push_cast, List.reduceReplicate, List.length_replicate, ↓reduceIte, Nat.reduceEqDiff, Nat.reduceMul, Nat.reduceAdd, Nat.reduceSub, Nat.reduceLeDiff, Nat.reduceBEq, Nat.reduceDiv, Nat.reduceMod, Int.reduceToNat]; (refine call1D (id := 96) (someRange_ok _ _ ?_ ?_) (by (simp (maxSteps := 400000) (disch := omega) only [push_cast, List.reduceReplicate, List.length_replicate, ↓reduceIte, Nat.reduceEqDiff, Nat.reduceMul, Nat.reduceAdd, Nat.reduceSub, Nat.reduceLeDiff, Nat.reduceBEq, Nat.reduceDiv, Nat.reduceMod, Int.reduceToNat]); rfl) ?_; (iterate 2 (focus (first | assumption | rfl | omega | (simp; done) | (simp; omega) | (simp_all; done) | (simp_all; omega)))); rintro _ _ ⟨a, b, c, q, ha, hq, rfl, rfl⟩))); (try simp (maxSteps := 400000) (disch := omega) only [push_cast, List.reduceReplicate, List.length_replicate, ↓reduceIte, Nat.reduceEqDiff, Nat.reduceMul, Nat.reduceAdd, Nat.reduceSub, Nat.reduceLeDiff, Nat.reduceBEq, Nat.reduceDiv, Nat.reduceMod, Int.reduceToNat]))
      | (refine awp_ret ⟨.inr rfl, _, rfl, ?_⟩; (try simp (maxSteps := 400000) (disch := omega) only [push_cast, List.reduceReplicate, List.length_replicate, ↓reduceIte, Nat.reduceEqDiff, Nat.reduceMul, Nat.reduceAdd, Nat.reduceSub, Nat.reduceLeDiff, Nat.reduceBEq, Nat.reduceDiv, Nat.reduceMod, Int.reduceToNat]))))
  all_goals exact ⟨_, _, _, _, _, _, by omega, by omega, rfl⟩

end Go.Proofs.Ytniddegncklgpaa
