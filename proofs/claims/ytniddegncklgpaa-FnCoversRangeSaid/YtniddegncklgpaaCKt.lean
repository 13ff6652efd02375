import Derived.Test.YtniddegncklgpaaCKm
import Derived.Test.YtniddegncklgpaaCVwM
import Derived.Test.YtniddegncklgpaaCVwM7
set_option linter.unusedSimpArgs false
set_option linter.unusedVariables false
set_option linter.unnecessarySimpa false
set_option maxRecDepth 4000
set_option maxHeartbeats 4000000
namespace Go.Proofs.Ytniddegncklgpaa
open VwM Vw Go

theorem iLO_ok (a b c : Int) : PCall Try.prog 34 [rng a b c] (fun r => r = .int .i64 (lenI a b c)) := by
  refine pcall_of l34_eq rfl ?_
  cases hv : vR a b c with
  | false => rw [lenI_neg hv]; (repeat' (first
      | (first | refine awp_seq ?_ | refine awp_block ?_)
      | ((first | refine awp_reg ?_ | refine awp_condB ?_ | refine awp_skip ?_ | refine awp_exit ?_); simp (maxSteps := 400000) (disch := omega) only [push_cast, List.reduceReplicate, List.length_replicate, ↓reduceIte, Nat.reduceEqDiff, Nat.reduceMul, Nat.reduceAdd, Nat.reduceSub, Nat.reduceLeDiff, Nat.reduceBEq, Nat.reduceDiv, Nat.reduceMod, Int.reduceToNat, l34r0, l34r1, l34r2, l34r3, hv])
      | ((first | refine condB_split (fun h => ?_) (fun h => ?_) | refine gIf_split (fun h => ?_) (fun h => ?_) | refine qIf_split (fun h => ?_) (fun h => ?_)) <;> (try simp only [h]) <;> (try simp only [decide_eq_true_eq, decide_eq_false_iff_not, Bool.not_eq_true', Bool.not_eq_false', Bool.and_eq_true, Bool.or_eq_true, Bool.and_eq_false_iff, Bool.or_eq_false_iff, Int.not_le, Int.not_lt, bne_iff_ne, ne_eq, beq_iff_eq, Bool.not_eq_true, Bool.not_eq_false] at h) <;> (try simp only [h]) <;> (first | (exfalso; omega) | (focus (exfalso; simp_all; done)) | (simp (maxSteps := 400000) (disch := omega) only [push_cast, List.reduceReplicate, List.length_replicate, ↓reduceIte, Nat.reduceEqDiff, Nat.reduceMul, Nat.reduceAdd, Nat.reduceSub, Nat.reduceLeDiff, Nat.reduceBEq, Nat.reduceDiv, Nat.reduceMod, Int.reduceToNat, hv]) | skip))
      | ((first | refine callD_of false ?_ | refine qcallD_of false ?_); simp (maxSteps := 400000) (disch := omega) only [push_cast, List.reduceReplicate, List.length_replicate, ↓reduceIte, Nat.reduceEqDiff, Nat.reduceMul, Nat.reduceAdd, Nat.reduceSub, Nat.reduceLeDiff, Nat.reduceBEq, Nat.reduceDiv, Nat.reduceMod, Int.reduceToNat, hv])
      | ((first | ((first | refine call0D (BCall.ofP (iValidRange_ok _ _ _)) ?_ | refine qcall0D (BCall.ofP (iValidRange_ok _ _ _)) ⟨_, _, rfl, rfl⟩ ?_); rintro _ _ ⟨rfl, rfl⟩) | ((first | refine call0D (BCall.ofP (count_ok _ _ _ ?_)) ?_ | refine qcall0D (BCall.ofP (count_ok _ _ _ ?_)) ⟨_, _, rfl, rfl⟩ ?_); (focus (first | assumption | rfl | omega | (simp; done) | (simp; omega) | (simp_all; done) | (simp_all; omega))); rintro _ _ ⟨rfl, rfl⟩)); (try simp (maxSteps := 400000) (disch := omega) only [push_cast, List.reduceReplicate, List.length_replicate, ↓reduceIte, Nat.reduceEqDiff, Nat.reduceMul, Nat.reduceAdd, Nat.reduceSub, Nat.reduceLeDiff, Nat.reduceBEq, Nat.reduceDiv, Nat.reduceMod, Int.reduceToNat, hv]))
      | (refine awp_ret ⟨.inr rfl, _, rfl, ?_⟩; (try simp (maxSteps := 400000) (disch := omega) only [push_cast, List.reduceReplicate, List.length_replicate, ↓reduceIte, Nat.reduceEqDiff, Nat.reduceMul, Nat.reduceAdd, Nat.reduceSub, Nat.reduceLeDiff, Nat.reduceBEq, Nat.reduceDiv, Nat.reduceMod, Int.reduceToNat, hv]))))
  | true => rw [lenI_pos hv, cntN_cast hv]; (repeat' (first
      | (first | refine awp_seq ?_ | refine awp_block ?_)
      | ((first | refine awp_reg ?_ | refine awp_condB ?_ | refine awp_skip ?_ | refine awp_exit ?_); simp (maxSteps := 400000) (disch := omega) only [push_cast, List.reduceReplicate, List.length_replicate, ↓reduceIte, Nat.reduceEqDiff, Nat.reduceMul, Nat.reduceAdd, Nat.reduceSub, Nat.reduceLeDiff, Nat.reduceBEq, Nat.reduceDiv, Nat.reduceMod, Int.reduceToNat, l34r0, l34r1, l34r2, l34r3, hv])
      | ((first | refine condB_split (fun h => ?_) (fun h => ?_) | refine gIf_split (fun h => ?_) (fun h => ?_) | refine qIf_split (fun h => ?_) (fun h => ?_)) <;> (try simp only [h]) <;> (try simp only [decide_eq_true_eq, decide_eq_false_iff_not, Bool.not_eq_true', Bool.not_eq_false', Bool.and_eq_true, Bool.or_eq_true, Bool.and_eq_false_iff, Bool.or_eq_false_iff, Int.not_le, Int.not_lt, bne_iff_ne, ne_eq, beq_iff_eq, Bool.not_eq_true, Bool.not_eq_false] at h) <;> (try simp only [h]) <;> (first | (exfalso; omega) | (focus (exfalso; simp_all; done)) | (simp (maxSteps := 400000) (disch := omega) only [push_cast, List.reduceReplicate, List.length_replicate, ↓reduceIte, Nat.reduceEqDiff, Nat.reduceMul, Nat.reduceAdd, Nat.reduceSub, Nat.reduceLeDiff, Nat.reduceBEq, Nat.reduceDiv, Nat.reduceMod, Int.reduceToNat, hv]) | skip))
      | ((first | refine callD_of false ?_ | refine qcallD_of false ?_); simp (maxSteps := 400000) (disch := omega) only [push_cast, List.reduceReplicate, List.length_replicate, ↓reduceIte, Nat.reduceEqDiff, Nat.reduceMul, Nat.reduceAdd, Nat.reduceSub, Nat.reduceLeDiff, Nat.reduceBEq, Nat.reduceDiv, Nat.reduceMod, Int.reduceToNat, hv])
      | ((first | ((first | refine call0D (BCall.ofP (iValidRange_ok _ _ _)) ?_ | refine qcall0D (BCall.ofP (iValidRange_ok _ _ _)) ⟨_, _, rfl, rfl⟩ ?_); rintro _ _ ⟨rfl, rfl⟩) | ((first | refine call0D (BCall.ofP (count_ok _ _ _ ?_)) ?_ | refine qcall0D (BCall.ofP (count_ok _ _ _ ?_)) ⟨_, _, rfl, rfl⟩ ?_); (focus (first | assumption | rfl | omega | (simp; done) | (simp; omega) | (simp_all; done) | (simp_all; omega))); rintro _ _ ⟨rfl, rfl⟩)); (try simp (maxSteps := 400000) (disch := omega) only [push_cast, List.reduceReplicate, List.length_replicate, ↓reduceIte, Nat.reduceEqDiff, Nat.reduceMul, Nat.reduceAdd, Nat.reduceSub, Nat.reduceLeDiff, Nat.reduceBEq, Nat.reduceDiv, Nat.reduceMod, Int.reduceToNat, hv]))
      | (refine awp_ret ⟨.inr rfl, _, rfl, ?_⟩; (try simp (maxSteps := 400000) (disch := omega) only [push_cast, List.reduceReplicate, List.length_replicate, ↓reduceIte, Nat.reduceEqDiff, Nat.reduceMul, Nat.reduceAdd, Nat.reduceSub, Nat.reduceLeDiff, Nat.reduceBEq, Nat.reduceDiv, Nat.reduceMod, Int.reduceToNat, hv]))))

end Go.Proofs.Ytniddegncklgpaa
