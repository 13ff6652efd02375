import Derived.Test.YtinehfkejplccaaTLow
import Derived.Test.YtinehfkejplccaaVwM
namespace Go.Proofs.Ytinehfkejplccaa
open Vw Go
set_option linter.unusedSimpArgs false
set_option linter.unusedVariables false
theorem within_ok (x l : Int) (h0 : 0 ≤ l) (h1 : l ≤ 1000) : PCall Try.prog 53 [.int .i64 x, .int .i64 l] (fun r => r = .bool (decide (-l ≤ x) && decide (x ≤ l))) := by
  refine pcall_of l53_eq rfl ?_
  refine awp_seq (awp_reg ?_)
  simp (disch := omega) only [push_cast, List.reduceReplicate, List.length_replicate, ↓reduceIte, Nat.reduceEqDiff, Nat.reduceMul, Nat.reduceAdd, Nat.reduceSub, Nat.reduceLeDiff, Nat.reduceBEq, l53r0]
  refine awp_seq (awp_reg ?_)
  simp (disch := omega) only [push_cast, List.reduceReplicate, List.length_replicate, ↓reduceIte, Nat.reduceEqDiff, Nat.reduceMul, Nat.reduceAdd, Nat.reduceSub, Nat.reduceLeDiff, Nat.reduceBEq, l53r1]
  refine gIf_split (fun h => ?_) (fun h => ?_) <;> (simp only [h]; simp (disch := omega) only [push_cast, List.reduceReplicate, List.length_replicate, ↓reduceIte, Nat.reduceEqDiff, Nat.reduceMul, Nat.reduceAdd, Nat.reduceSub, Nat.reduceLeDiff, Nat.reduceBEq])
  all_goals
    refine awp_ret ⟨.inr rfl, _, rfl, ?_⟩
    simp (disch := omega) only [push_cast, List.reduceReplicate, List.length_replicate, ↓reduceIte, Nat.reduceEqDiff, Nat.reduceMul, Nat.reduceAdd, Nat.reduceSub, Nat.reduceLeDiff, Nat.reduceBEq]
    have e : decide (-l ≤ x) = decide (0 - l ≤ x) := by rw [Int.zero_sub]
    rw [e, h]
    simp
theorem validStep_ok (x : Int) : PCall Try.prog 36 [.int .i64 x] (fun r => r = .bool (decide (-200 ≤ x) && decide (x ≤ 200) && !decide (x = 0))) := by
  refine pcall_of l36_eq rfl ?_
  refine awp_seq (awp_reg ?_)
  simp (disch := omega) only [push_cast, List.reduceReplicate, List.length_replicate, ↓reduceIte, Nat.reduceEqDiff, Nat.reduceMul, Nat.reduceAdd, Nat.reduceSub, Nat.reduceLeDiff, Nat.reduceBEq, l36r0]
  refine awp_seq (awp_reg ?_)
  simp (disch := omega) only [push_cast, List.reduceReplicate, List.length_replicate, ↓reduceIte, Nat.reduceEqDiff, Nat.reduceMul, Nat.reduceAdd, Nat.reduceSub, Nat.reduceLeDiff, Nat.reduceBEq, l36r1]
  refine pcall_step (within_ok x 200 (by omega) (by omega)) (by simp (disch := omega) only [push_cast, List.reduceReplicate, List.length_replicate, ↓reduceIte, Nat.reduceEqDiff, Nat.reduceMul, Nat.reduceAdd, Nat.reduceSub, Nat.reduceLeDiff, Nat.reduceBEq]) ?_
  rintro _ rfl
  simp (disch := omega) only [push_cast, List.reduceReplicate, List.length_replicate, ↓reduceIte, Nat.reduceEqDiff, Nat.reduceMul, Nat.reduceAdd, Nat.reduceSub, Nat.reduceLeDiff, Nat.reduceBEq]
  refine gIf_split (fun h => ?_) (fun h => ?_) <;> (simp only [h]; simp (disch := omega) only [push_cast, List.reduceReplicate, List.length_replicate, ↓reduceIte, Nat.reduceEqDiff, Nat.reduceMul, Nat.reduceAdd, Nat.reduceSub, Nat.reduceLeDiff, Nat.reduceBEq])
  all_goals
    refine awp_ret ⟨.inr rfl, _, rfl, ?_⟩
    simp (disch := omega) only [push_cast, List.reduceReplicate, List.length_replicate, ↓reduceIte, Nat.reduceEqDiff, Nat.reduceMul, Nat.reduceAdd, Nat.reduceSub, Nat.reduceLeDiff, Nat.reduceBEq]
theorem inRange_ok (x l h : Int) : PCall Try.prog 37 [.int .i64 x, .int .i64 l, .int .i64 h] (fun r => r = .bool (decide (l ≤ x) && decide (x ≤ h))) := by
  refine pcall_of l37_eq rfl ?_
  refine awp_seq (awp_reg ?_)
  simp (disch := omega) only [push_cast, List.reduceReplicate, List.length_replicate, ↓reduceIte, Nat.reduceEqDiff, Nat.reduceMul, Nat.reduceAdd, Nat.reduceSub, Nat.reduceLeDiff, Nat.reduceBEq, l37r0]
  refine awp_seq (awp_reg ?_)
  simp (disch := omega) only [push_cast, List.reduceReplicate, List.length_replicate, ↓reduceIte, Nat.reduceEqDiff, Nat.reduceMul, Nat.reduceAdd, Nat.reduceSub, Nat.reduceLeDiff, Nat.reduceBEq, l37r1]
  refine gIf_split (fun h => ?_) (fun h => ?_) <;> (simp only [h]; simp (disch := omega) only [push_cast, List.reduceReplicate, List.length_replicate, ↓reduceIte, Nat.reduceEqDiff, Nat.reduceMul, Nat.reduceAdd, Nat.reduceSub, Nat.reduceLeDiff, Nat.reduceBEq])
  all_goals
    refine awp_ret ⟨.inr rfl, _, rfl, ?_⟩
    simp (disch := omega) only [push_cast, List.reduceReplicate, List.length_replicate, ↓reduceIte, Nat.reduceEqDiff, Nat.reduceMul, Nat.reduceAdd, Nat.reduceSub, Nat.reduceLeDiff, Nat.reduceBEq, h]
abbrev slc (f t b : Int) (hf ht : Bool) : AV := .agg [.int .i64 f, .int .i64 t, .int .i64 b, .bool hf, .bool ht]

theorem validEnd_ok (x : Int) (g : Bool) : PCall Try.prog 35 [.int .i64 x, .bool g] (fun r => r = .bool (decide (-100 ≤ x) && decide (x ≤ 100) && (g || decide (x = 0)))) := by
  refine pcall_of l35_eq rfl ?_
  (first | refine awp_seq (awp_seq (awp_reg ?_)) | refine awp_seq (awp_reg ?_) | refine awp_reg ?_); simp (disch := omega) only [push_cast, List.reduceReplicate, List.length_replicate, ↓reduceIte, Nat.reduceEqDiff, Nat.reduceMul, Nat.reduceAdd, Nat.reduceSub, Nat.reduceLeDiff, Nat.reduceBEq, l35r0]
  (first | refine awp_seq (awp_seq (awp_reg ?_)) | refine awp_seq (awp_reg ?_) | refine awp_reg ?_); simp (disch := omega) only [push_cast, List.reduceReplicate, List.length_replicate, ↓reduceIte, Nat.reduceEqDiff, Nat.reduceMul, Nat.reduceAdd, Nat.reduceSub, Nat.reduceLeDiff, Nat.reduceBEq, l35r1]
  refine pcall_step (within_ok x 100 (by omega) (by omega)) (by simp (disch := omega) only [push_cast, List.reduceReplicate, List.length_replicate, ↓reduceIte, Nat.reduceEqDiff, Nat.reduceMul, Nat.reduceAdd, Nat.reduceSub, Nat.reduceLeDiff, Nat.reduceBEq]) ?_
  rintro _ rfl
  simp (disch := omega) only [push_cast, List.reduceReplicate, List.length_replicate, ↓reduceIte, Nat.reduceEqDiff, Nat.reduceMul, Nat.reduceAdd, Nat.reduceSub, Nat.reduceLeDiff, Nat.reduceBEq]
  generalize (decide (-100 ≤ x) && decide (x ≤ 100)) = p
  cases p <;> cases g <;> simp (disch := omega) only [push_cast, List.reduceReplicate, List.length_replicate, ↓reduceIte, Nat.reduceEqDiff, Nat.reduceMul, Nat.reduceAdd, Nat.reduceSub, Nat.reduceLeDiff, Nat.reduceBEq]
  all_goals
    (refine awp_ret ⟨.inr rfl, _, rfl, ?_⟩; try simp (disch := omega) only [push_cast, List.reduceReplicate, List.length_replicate, ↓reduceIte, Nat.reduceEqDiff, Nat.reduceMul, Nat.reduceAdd, Nat.reduceSub, Nat.reduceLeDiff, Nat.reduceBEq])
  all_goals simp

def vS (f t b : Int) (hf ht : Bool) : Bool := decide (-100 ≤ f) && decide (f ≤ 100) && (decide (-100 ≤ t) && decide (t ≤ 100)) && (decide (-200 ≤ b) && decide (b ≤ 200)) && !decide (b = 0) && (hf || decide (f = 0)) && (ht || decide (t = 0))

theorem iValidSlice_ok (f t b : Int) (hf ht : Bool) : PCall Try.prog 12 [slc f t b hf ht] (fun r => r = .bool (vS f t b hf ht)) := by
  refine pcall_of l12_eq rfl ?_
  (first | refine awp_seq (awp_seq (awp_reg ?_)) | refine awp_seq (awp_reg ?_) | refine awp_reg ?_); simp (disch := omega) only [push_cast, List.reduceReplicate, List.length_replicate, ↓reduceIte, Nat.reduceEqDiff, Nat.reduceMul, Nat.reduceAdd, Nat.reduceSub, Nat.reduceLeDiff, Nat.reduceBEq, l12r0]
  (first | refine awp_seq (awp_seq (awp_reg ?_)) | refine awp_seq (awp_reg ?_) | refine awp_reg ?_); simp (disch := omega) only [push_cast, List.reduceReplicate, List.length_replicate, ↓reduceIte, Nat.reduceEqDiff, Nat.reduceMul, Nat.reduceAdd, Nat.reduceSub, Nat.reduceLeDiff, Nat.reduceBEq, l12r1]
  refine pcall_step (validEnd_ok f hf) (by simp (disch := omega) only [push_cast, List.reduceReplicate, List.length_replicate, ↓reduceIte, Nat.reduceEqDiff, Nat.reduceMul, Nat.reduceAdd, Nat.reduceSub, Nat.reduceLeDiff, Nat.reduceBEq]) ?_
  rintro _ rfl
  simp (disch := omega) only [push_cast, List.reduceReplicate, List.length_replicate, ↓reduceIte, Nat.reduceEqDiff, Nat.reduceMul, Nat.reduceAdd, Nat.reduceSub, Nat.reduceLeDiff, Nat.reduceBEq]
  unfold vS
  generalize (decide (-100 ≤ f) && decide (f ≤ 100)) = p1
  generalize (hf || decide (f = 0)) = p2
  by_cases h1 : (p1 && p2) = true
  · simp only [h1]
    simp (disch := omega) only [push_cast, List.reduceReplicate, List.length_replicate, ↓reduceIte, Nat.reduceEqDiff, Nat.reduceMul, Nat.reduceAdd, Nat.reduceSub, Nat.reduceLeDiff, Nat.reduceBEq]
    refine pcall_step (validEnd_ok t ht) (by simp (disch := omega) only [push_cast, List.reduceReplicate, List.length_replicate, ↓reduceIte, Nat.reduceEqDiff, Nat.reduceMul, Nat.reduceAdd, Nat.reduceSub, Nat.reduceLeDiff, Nat.reduceBEq]) ?_
    rintro _ rfl
    simp (disch := omega) only [push_cast, List.reduceReplicate, List.length_replicate, ↓reduceIte, Nat.reduceEqDiff, Nat.reduceMul, Nat.reduceAdd, Nat.reduceSub, Nat.reduceLeDiff, Nat.reduceBEq]
    generalize (decide (-100 ≤ t) && decide (t ≤ 100)) = q1
    generalize (ht || decide (t = 0)) = q2
    by_cases h2 : (q1 && q2) = true
    · simp only [h2]
      simp (disch := omega) only [push_cast, List.reduceReplicate, List.length_replicate, ↓reduceIte, Nat.reduceEqDiff, Nat.reduceMul, Nat.reduceAdd, Nat.reduceSub, Nat.reduceLeDiff, Nat.reduceBEq]
      refine pcall_step (validStep_ok b) (by simp (disch := omega) only [push_cast, List.reduceReplicate, List.length_replicate, ↓reduceIte, Nat.reduceEqDiff, Nat.reduceMul, Nat.reduceAdd, Nat.reduceSub, Nat.reduceLeDiff, Nat.reduceBEq]) ?_
      rintro _ rfl
      simp (disch := omega) only [push_cast, List.reduceReplicate, List.length_replicate, ↓reduceIte, Nat.reduceEqDiff, Nat.reduceMul, Nat.reduceAdd, Nat.reduceSub, Nat.reduceLeDiff, Nat.reduceBEq]
      (refine awp_ret ⟨.inr rfl, _, rfl, ?_⟩; try simp (disch := omega) only [push_cast, List.reduceReplicate, List.length_replicate, ↓reduceIte, Nat.reduceEqDiff, Nat.reduceMul, Nat.reduceAdd, Nat.reduceSub, Nat.reduceLeDiff, Nat.reduceBEq])
      simp at h1 h2
      simp [h1, h2]
    · simp only [h2]
      simp (disch := omega) only [push_cast, List.reduceReplicate, List.length_replicate, ↓reduceIte, Nat.reduceEqDiff, Nat.reduceMul, Nat.reduceAdd, Nat.reduceSub, Nat.reduceLeDiff, Nat.reduceBEq]
      (refine awp_ret ⟨.inr rfl, _, rfl, ?_⟩; try simp (disch := omega) only [push_cast, List.reduceReplicate, List.length_replicate, ↓reduceIte, Nat.reduceEqDiff, Nat.reduceMul, Nat.reduceAdd, Nat.reduceSub, Nat.reduceLeDiff, Nat.reduceBEq])
      simp at h1 h2
      cases q1 <;> simp_all
  · simp only [h1]
    simp (disch := omega) only [push_cast, List.reduceReplicate, List.length_replicate, ↓reduceIte, Nat.reduceEqDiff, Nat.reduceMul, Nat.reduceAdd, Nat.reduceSub, Nat.reduceLeDiff, Nat.reduceBEq]
    (refine awp_ret ⟨.inr rfl, _, rfl, ?_⟩; try simp (disch := omega) only [push_cast, List.reduceReplicate, List.length_replicate, ↓reduceIte, Nat.reduceEqDiff, Nat.reduceMul, Nat.reduceAdd, Nat.reduceSub, Nat.reduceLeDiff, Nat.reduceBEq])
    simp at h1
    cases p1 <;> simp_all

theorem svalidSlice_ok (f t b : Int) (hf ht : Bool) : PCall Try.prog 34 [slc f t b hf ht] (fun r => r = .bool (vS f t b hf ht)) := by
  refine pcall_of l34_eq rfl ?_
  (first | refine awp_seq (awp_seq (awp_reg ?_)) | refine awp_seq (awp_reg ?_) | refine awp_reg ?_); simp (disch := omega) only [push_cast, List.reduceReplicate, List.length_replicate, ↓reduceIte, Nat.reduceEqDiff, Nat.reduceMul, Nat.reduceAdd, Nat.reduceSub, Nat.reduceLeDiff, Nat.reduceBEq, l34r0]
  (first | refine awp_seq (awp_seq (awp_reg ?_)) | refine awp_seq (awp_reg ?_) | refine awp_reg ?_); simp (disch := omega) only [push_cast, List.reduceReplicate, List.length_replicate, ↓reduceIte, Nat.reduceEqDiff, Nat.reduceMul, Nat.reduceAdd, Nat.reduceSub, Nat.reduceLeDiff, Nat.reduceBEq, l34r1]
  refine pcall_step (inRange_ok f (-100) 100) (by simp (disch := omega) only [push_cast, List.reduceReplicate, List.length_replicate, ↓reduceIte, Nat.reduceEqDiff, Nat.reduceMul, Nat.reduceAdd, Nat.reduceSub, Nat.reduceLeDiff, Nat.reduceBEq]) ?_
  rintro _ rfl
  simp (disch := omega) only [push_cast, List.reduceReplicate, List.length_replicate, ↓reduceIte, Nat.reduceEqDiff, Nat.reduceMul, Nat.reduceAdd, Nat.reduceSub, Nat.reduceLeDiff, Nat.reduceBEq]
  unfold vS
  generalize (decide (-100 ≤ f) && decide (f ≤ 100)) = p1
  cases p1
  · simp (disch := omega) only [push_cast, List.reduceReplicate, List.length_replicate, ↓reduceIte, Nat.reduceEqDiff, Nat.reduceMul, Nat.reduceAdd, Nat.reduceSub, Nat.reduceLeDiff, Nat.reduceBEq]
    (refine awp_ret ⟨.inr rfl, _, rfl, ?_⟩; try simp (disch := omega) only [push_cast, List.reduceReplicate, List.length_replicate, ↓reduceIte, Nat.reduceEqDiff, Nat.reduceMul, Nat.reduceAdd, Nat.reduceSub, Nat.reduceLeDiff, Nat.reduceBEq])
  simp (disch := omega) only [push_cast, List.reduceReplicate, List.length_replicate, ↓reduceIte, Nat.reduceEqDiff, Nat.reduceMul, Nat.reduceAdd, Nat.reduceSub, Nat.reduceLeDiff, Nat.reduceBEq]
  refine pcall_step (inRange_ok t (-100) 100) (by simp (disch := omega) only [push_cast, List.reduceReplicate, List.length_replicate, ↓reduceIte, Nat.reduceEqDiff, Nat.reduceMul, Nat.reduceAdd, Nat.reduceSub, Nat.reduceLeDiff, Nat.reduceBEq]) ?_
  rintro _ rfl
  simp (disch := omega) only [push_cast, List.reduceReplicate, List.length_replicate, ↓reduceIte, Nat.reduceEqDiff, Nat.reduceMul, Nat.reduceAdd, Nat.reduceSub, Nat.reduceLeDiff, Nat.reduceBEq]
  generalize (decide (-100 ≤ t) && decide (t ≤ 100)) = p2
  cases p2
  · simp (disch := omega) only [push_cast, List.reduceReplicate, List.length_replicate, ↓reduceIte, Nat.reduceEqDiff, Nat.reduceMul, Nat.reduceAdd, Nat.reduceSub, Nat.reduceLeDiff, Nat.reduceBEq]
    (refine awp_ret ⟨.inr rfl, _, rfl, ?_⟩; try simp (disch := omega) only [push_cast, List.reduceReplicate, List.length_replicate, ↓reduceIte, Nat.reduceEqDiff, Nat.reduceMul, Nat.reduceAdd, Nat.reduceSub, Nat.reduceLeDiff, Nat.reduceBEq])
  simp (disch := omega) only [push_cast, List.reduceReplicate, List.length_replicate, ↓reduceIte, Nat.reduceEqDiff, Nat.reduceMul, Nat.reduceAdd, Nat.reduceSub, Nat.reduceLeDiff, Nat.reduceBEq]
  refine pcall_step (inRange_ok b (-200) 200) (by simp (disch := omega) only [push_cast, List.reduceReplicate, List.length_replicate, ↓reduceIte, Nat.reduceEqDiff, Nat.reduceMul, Nat.reduceAdd, Nat.reduceSub, Nat.reduceLeDiff, Nat.reduceBEq]) ?_
  rintro _ rfl
  simp (disch := omega) only [push_cast, List.reduceReplicate, List.length_replicate, ↓reduceIte, Nat.reduceEqDiff, Nat.reduceMul, Nat.reduceAdd, Nat.reduceSub, Nat.reduceLeDiff, Nat.reduceBEq]
  generalize (decide (-200 ≤ b) && decide (b ≤ 200)) = p3
  cases p3
  · simp (disch := omega) only [push_cast, List.reduceReplicate, List.length_replicate, ↓reduceIte, Nat.reduceEqDiff, Nat.reduceMul, Nat.reduceAdd, Nat.reduceSub, Nat.reduceLeDiff, Nat.reduceBEq]
    (refine awp_ret ⟨.inr rfl, _, rfl, ?_⟩; try simp (disch := omega) only [push_cast, List.reduceReplicate, List.length_replicate, ↓reduceIte, Nat.reduceEqDiff, Nat.reduceMul, Nat.reduceAdd, Nat.reduceSub, Nat.reduceLeDiff, Nat.reduceBEq])
  simp (disch := omega) only [push_cast, List.reduceReplicate, List.length_replicate, ↓reduceIte, Nat.reduceEqDiff, Nat.reduceMul, Nat.reduceAdd, Nat.reduceSub, Nat.reduceLeDiff, Nat.reduceBEq]
  generalize hb : decide (b = 0) = p4
  cases p4
  · cases hf <;> simp (disch := omega) only [push_cast, List.reduceReplicate, List.length_replicate, ↓reduceIte, Nat.reduceEqDiff, Nat.reduceMul, Nat.reduceAdd, Nat.reduceSub, Nat.reduceLeDiff, Nat.reduceBEq, Bool.false_eq_true]
    · generalize decide (f = 0) = p5
      cases p5
      · simp (disch := omega) only [push_cast, List.reduceReplicate, List.length_replicate, ↓reduceIte, Nat.reduceEqDiff, Nat.reduceMul, Nat.reduceAdd, Nat.reduceSub, Nat.reduceLeDiff, Nat.reduceBEq, Bool.false_eq_true]
        (refine awp_ret ⟨.inr rfl, _, rfl, ?_⟩; try simp (disch := omega) only [push_cast, List.reduceReplicate, List.length_replicate, ↓reduceIte, Nat.reduceEqDiff, Nat.reduceMul, Nat.reduceAdd, Nat.reduceSub, Nat.reduceLeDiff, Nat.reduceBEq])
      · cases ht <;> simp (disch := omega) only [push_cast, List.reduceReplicate, List.length_replicate, ↓reduceIte, Nat.reduceEqDiff, Nat.reduceMul, Nat.reduceAdd, Nat.reduceSub, Nat.reduceLeDiff, Nat.reduceBEq, Bool.false_eq_true]
        all_goals
          (refine awp_ret ⟨.inr rfl, _, rfl, ?_⟩; try simp (disch := omega) only [push_cast, List.reduceReplicate, List.length_replicate, ↓reduceIte, Nat.reduceEqDiff, Nat.reduceMul, Nat.reduceAdd, Nat.reduceSub, Nat.reduceLeDiff, Nat.reduceBEq, Bool.false_eq_true])
        all_goals simp
    · cases ht <;> simp (disch := omega) only [push_cast, List.reduceReplicate, List.length_replicate, ↓reduceIte, Nat.reduceEqDiff, Nat.reduceMul, Nat.reduceAdd, Nat.reduceSub, Nat.reduceLeDiff, Nat.reduceBEq, Bool.false_eq_true]
      all_goals
        (refine awp_ret ⟨.inr rfl, _, rfl, ?_⟩; try simp (disch := omega) only [push_cast, List.reduceReplicate, List.length_replicate, ↓reduceIte, Nat.reduceEqDiff, Nat.reduceMul, Nat.reduceAdd, Nat.reduceSub, Nat.reduceLeDiff, Nat.reduceBEq, Bool.false_eq_true])
      all_goals simp
  · simp (disch := omega) only [push_cast, List.reduceReplicate, List.length_replicate, ↓reduceIte, Nat.reduceEqDiff, Nat.reduceMul, Nat.reduceAdd, Nat.reduceSub, Nat.reduceLeDiff, Nat.reduceBEq, Bool.false_eq_true]
    (refine awp_ret ⟨.inr rfl, _, rfl, ?_⟩; try simp (disch := omega) only [push_cast, List.reduceReplicate, List.length_replicate, ↓reduceIte, Nat.reduceEqDiff, Nat.reduceMul, Nat.reduceAdd, Nat.reduceSub, Nat.reduceLeDiff, Nat.reduceBEq])

theorem sValidSlice_ok (f t b : Int) (hf ht : Bool) : PCall Try.prog 10 [slc f t b hf ht] (fun r => r = .bool (vS f t b hf ht)) := by
  refine pcall_of l10_eq rfl ?_
  (first | refine awp_seq (awp_seq (awp_reg ?_)) | refine awp_seq (awp_reg ?_) | refine awp_reg ?_); simp (disch := omega) only [push_cast, List.reduceReplicate, List.length_replicate, ↓reduceIte, Nat.reduceEqDiff, Nat.reduceMul, Nat.reduceAdd, Nat.reduceSub, Nat.reduceLeDiff, Nat.reduceBEq, l10r0]
  (first | refine awp_seq (awp_seq (awp_reg ?_)) | refine awp_seq (awp_reg ?_) | refine awp_reg ?_); simp (disch := omega) only [push_cast, List.reduceReplicate, List.length_replicate, ↓reduceIte, Nat.reduceEqDiff, Nat.reduceMul, Nat.reduceAdd, Nat.reduceSub, Nat.reduceLeDiff, Nat.reduceBEq, l10r1]
  refine pcall_step (svalidSlice_ok f t b hf ht) (by simp (disch := omega) only [push_cast, List.reduceReplicate, List.length_replicate, ↓reduceIte, Nat.reduceEqDiff, Nat.reduceMul, Nat.reduceAdd, Nat.reduceSub, Nat.reduceLeDiff, Nat.reduceBEq]) ?_
  rintro _ rfl
  simp (disch := omega) only [push_cast, List.reduceReplicate, List.length_replicate, ↓reduceIte, Nat.reduceEqDiff, Nat.reduceMul, Nat.reduceAdd, Nat.reduceSub, Nat.reduceLeDiff, Nat.reduceBEq]
  (refine awp_ret ⟨.inr rfl, _, rfl, ?_⟩; try simp (disch := omega) only [push_cast, List.reduceReplicate, List.length_replicate, ↓reduceIte, Nat.reduceEqDiff, Nat.reduceMul, Nat.reduceAdd, Nat.reduceSub, Nat.reduceLeDiff, Nat.reduceBEq])

theorem toSlice_ok (f t b : Int) (hf ht : Bool) : PCall Try.prog 11 [slc f t b hf ht] (fun r => r = slc f t b hf ht) := by
  refine pcall_of l11_eq rfl ?_
  (first | refine awp_seq (awp_seq (awp_reg ?_)) | refine awp_seq (awp_reg ?_) | refine awp_reg ?_); simp (disch := omega) only [push_cast, List.reduceReplicate, List.length_replicate, ↓reduceIte, Nat.reduceEqDiff, Nat.reduceMul, Nat.reduceAdd, Nat.reduceSub, Nat.reduceLeDiff, Nat.reduceBEq, l11r0]
  (first | refine awp_seq (awp_seq (awp_reg ?_)) | refine awp_seq (awp_reg ?_) | refine awp_reg ?_); simp (disch := omega) only [push_cast, List.reduceReplicate, List.length_replicate, ↓reduceIte, Nat.reduceEqDiff, Nat.reduceMul, Nat.reduceAdd, Nat.reduceSub, Nat.reduceLeDiff, Nat.reduceBEq, l11r1]
  (first | refine awp_seq (awp_seq (awp_reg ?_)) | refine awp_seq (awp_reg ?_) | refine awp_reg ?_); simp (disch := omega) only [push_cast, List.reduceReplicate, List.length_replicate, ↓reduceIte, Nat.reduceEqDiff, Nat.reduceMul, Nat.reduceAdd, Nat.reduceSub, Nat.reduceLeDiff, Nat.reduceBEq, l11r2]
  (first | refine awp_seq (awp_seq (awp_reg ?_)) | refine awp_seq (awp_reg ?_) | refine awp_reg ?_); simp (disch := omega) only [push_cast, List.reduceReplicate, List.length_replicate, ↓reduceIte, Nat.reduceEqDiff, Nat.reduceMul, Nat.reduceAdd, Nat.reduceSub, Nat.reduceLeDiff, Nat.reduceBEq, l11r3]
  (first | refine awp_seq (awp_seq (awp_reg ?_)) | refine awp_seq (awp_reg ?_) | refine awp_reg ?_); simp (disch := omega) only [push_cast, List.reduceReplicate, List.length_replicate, ↓reduceIte, Nat.reduceEqDiff, Nat.reduceMul, Nat.reduceAdd, Nat.reduceSub, Nat.reduceLeDiff, Nat.reduceBEq, l11r4]
  (first | refine awp_seq (awp_seq (awp_reg ?_)) | refine awp_seq (awp_reg ?_) | refine awp_reg ?_); simp (disch := omega) only [push_cast, List.reduceReplicate, List.length_replicate, ↓reduceIte, Nat.reduceEqDiff, Nat.reduceMul, Nat.reduceAdd, Nat.reduceSub, Nat.reduceLeDiff, Nat.reduceBEq, l11r5]
  (first | refine awp_seq (awp_seq (awp_reg ?_)) | refine awp_seq (awp_reg ?_) | refine awp_reg ?_); simp (disch := omega) only [push_cast, List.reduceReplicate, List.length_replicate, ↓reduceIte, Nat.reduceEqDiff, Nat.reduceMul, Nat.reduceAdd, Nat.reduceSub, Nat.reduceLeDiff, Nat.reduceBEq, l11r6]
  (first | refine awp_seq (awp_seq (awp_reg ?_)) | refine awp_seq (awp_reg ?_) | refine awp_reg ?_); simp (disch := omega) only [push_cast, List.reduceReplicate, List.length_replicate, ↓reduceIte, Nat.reduceEqDiff, Nat.reduceMul, Nat.reduceAdd, Nat.reduceSub, Nat.reduceLeDiff, Nat.reduceBEq, l11r7]
  (refine awp_ret ⟨.inr rfl, _, rfl, ?_⟩; try simp (disch := omega) only [push_cast, List.reduceReplicate, List.length_replicate, ↓reduceIte, Nat.reduceEqDiff, Nat.reduceMul, Nat.reduceAdd, Nat.reduceSub, Nat.reduceLeDiff, Nat.reduceBEq])

theorem law3_ok (f t b : Int) (hf ht : Bool) : PCall Try.prog 3 [slc f t b hf ht] (fun r => r = .bool true) := by
  refine pcall_of l3_eq rfl ?_
  (first | refine awp_seq (awp_seq (awp_reg ?_)) | refine awp_seq (awp_reg ?_) | refine awp_reg ?_); simp (disch := omega) only [push_cast, List.reduceReplicate, List.length_replicate, ↓reduceIte, Nat.reduceEqDiff, Nat.reduceMul, Nat.reduceAdd, Nat.reduceSub, Nat.reduceLeDiff, Nat.reduceBEq, l3r0]
  (first | refine awp_seq (awp_seq (awp_reg ?_)) | refine awp_seq (awp_reg ?_) | refine awp_reg ?_); simp (disch := omega) only [push_cast, List.reduceReplicate, List.length_replicate, ↓reduceIte, Nat.reduceEqDiff, Nat.reduceMul, Nat.reduceAdd, Nat.reduceSub, Nat.reduceLeDiff, Nat.reduceBEq, l3r1]
  refine pcall_step (toSlice_ok f t b hf ht) (by simp (disch := omega) only [push_cast, List.reduceReplicate, List.length_replicate, ↓reduceIte, Nat.reduceEqDiff, Nat.reduceMul, Nat.reduceAdd, Nat.reduceSub, Nat.reduceLeDiff, Nat.reduceBEq]) ?_
  rintro _ rfl
  simp (disch := omega) only [push_cast, List.reduceReplicate, List.length_replicate, ↓reduceIte, Nat.reduceEqDiff, Nat.reduceMul, Nat.reduceAdd, Nat.reduceSub, Nat.reduceLeDiff, Nat.reduceBEq]
  refine pcall_step (sValidSlice_ok f t b hf ht) (by simp (disch := omega) only [push_cast, List.reduceReplicate, List.length_replicate, ↓reduceIte, Nat.reduceEqDiff, Nat.reduceMul, Nat.reduceAdd, Nat.reduceSub, Nat.reduceLeDiff, Nat.reduceBEq]) ?_
  rintro _ rfl
  simp (disch := omega) only [push_cast, List.reduceReplicate, List.length_replicate, ↓reduceIte, Nat.reduceEqDiff, Nat.reduceMul, Nat.reduceAdd, Nat.reduceSub, Nat.reduceLeDiff, Nat.reduceBEq]
  (first | refine awp_seq (awp_seq (awp_reg ?_)) | refine awp_seq (awp_reg ?_) | refine awp_reg ?_); simp (disch := omega) only [push_cast, List.reduceReplicate, List.length_replicate, ↓reduceIte, Nat.reduceEqDiff, Nat.reduceMul, Nat.reduceAdd, Nat.reduceSub, Nat.reduceLeDiff, Nat.reduceBEq, l3r2]
  refine pcall_step (toSlice_ok f t b hf ht) (by simp (disch := omega) only [push_cast, List.reduceReplicate, List.length_replicate, ↓reduceIte, Nat.reduceEqDiff, Nat.reduceMul, Nat.reduceAdd, Nat.reduceSub, Nat.reduceLeDiff, Nat.reduceBEq]) ?_
  rintro _ rfl
  simp (disch := omega) only [push_cast, List.reduceReplicate, List.length_replicate, ↓reduceIte, Nat.reduceEqDiff, Nat.reduceMul, Nat.reduceAdd, Nat.reduceSub, Nat.reduceLeDiff, Nat.reduceBEq]
  refine pcall_step (iValidSlice_ok f t b hf ht) (by simp (disch := omega) only [push_cast, List.reduceReplicate, List.length_replicate, ↓reduceIte, Nat.reduceEqDiff, Nat.reduceMul, Nat.reduceAdd, Nat.reduceSub, Nat.reduceLeDiff, Nat.reduceBEq]) ?_
  rintro _ rfl
  simp (disch := omega) only [push_cast, List.reduceReplicate, List.length_replicate, ↓reduceIte, Nat.reduceEqDiff, Nat.reduceMul, Nat.reduceAdd, Nat.reduceSub, Nat.reduceLeDiff, Nat.reduceBEq]
  (first | refine awp_seq (awp_seq (awp_reg ?_)) | refine awp_seq (awp_reg ?_) | refine awp_reg ?_); simp (disch := omega) only [push_cast, List.reduceReplicate, List.length_replicate, ↓reduceIte, Nat.reduceEqDiff, Nat.reduceMul, Nat.reduceAdd, Nat.reduceSub, Nat.reduceLeDiff, Nat.reduceBEq, l3r3]
  refine awp_cond false rfl (fun h => (by cases h)) (fun _ => awp_skip ?_); simp (disch := omega) only [push_cast, List.reduceReplicate, List.length_replicate, ↓reduceIte, Nat.reduceEqDiff, Nat.reduceMul, Nat.reduceAdd, Nat.reduceSub, Nat.reduceLeDiff, Nat.reduceBEq]
  (first | refine awp_seq (awp_seq (awp_reg ?_)) | refine awp_seq (awp_reg ?_) | refine awp_reg ?_); simp (disch := omega) only [push_cast, List.reduceReplicate, List.length_replicate, ↓reduceIte, Nat.reduceEqDiff, Nat.reduceMul, Nat.reduceAdd, Nat.reduceSub, Nat.reduceLeDiff, Nat.reduceBEq, l3r5]
  (refine awp_ret ⟨.inr rfl, _, rfl, ?_⟩; try simp (disch := omega) only [push_cast, List.reduceReplicate, List.length_replicate, ↓reduceIte, Nat.reduceEqDiff, Nat.reduceMul, Nat.reduceAdd, Nat.reduceSub, Nat.reduceLeDiff, Nat.reduceBEq])
end Go.Proofs.Ytinehfkejplccaa
