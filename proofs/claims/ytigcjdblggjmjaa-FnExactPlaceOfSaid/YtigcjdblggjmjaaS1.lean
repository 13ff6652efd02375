import Derived.Test.YtigcjdblggjmjaaSLow
import Derived.Test.YtigcjdblggjmjaaVwL
namespace Go.Proofs.Ytigcjdblggjmjaa
open Vw Go
set_option linter.unusedSimpArgs false
theorem within_ok (x l : Int) (h0 : 0 ≤ l) (h1 : l ≤ 1000) : PCall Try.prog 33 [.int .i64 x, .int .i64 l] (fun r => r = .bool (decide (-l ≤ x) && decide (x ≤ l))) := by
  refine pcall_of l33_eq rfl ?_
  refine awp_seq (awp_reg ?_)
  simp (disch := omega) only [push_cast, ↓reduceIte, Nat.reduceEqDiff, Nat.reduceMul, Nat.reduceAdd, Nat.reduceSub, Nat.reduceLeDiff, Nat.reduceBEq, l33r0]
  refine awp_seq (awp_reg ?_)
  simp (disch := omega) only [push_cast, ↓reduceIte, Nat.reduceEqDiff, Nat.reduceMul, Nat.reduceAdd, Nat.reduceSub, Nat.reduceLeDiff, Nat.reduceBEq, l33r1]
  refine gIf_split (fun h => ?_) (fun h => ?_) <;> (simp only [h]; simp (disch := omega) only [push_cast, ↓reduceIte, Nat.reduceEqDiff, Nat.reduceMul, Nat.reduceAdd, Nat.reduceSub, Nat.reduceLeDiff, Nat.reduceBEq])
  all_goals
    refine awp_ret ⟨.inr rfl, _, rfl, ?_⟩
    simp (disch := omega) only [push_cast, ↓reduceIte, Nat.reduceEqDiff, Nat.reduceMul, Nat.reduceAdd, Nat.reduceSub, Nat.reduceLeDiff, Nat.reduceBEq]
    have e : decide (-l ≤ x) = decide (0 - l ≤ x) := by rw [Int.zero_sub]
    rw [e, h]
    simp
theorem validStep_ok (x : Int) : PCall Try.prog 34 [.int .i64 x] (fun r => r = .bool (decide (-200 ≤ x) && decide (x ≤ 200) && !decide (x = 0))) := by
  refine pcall_of l34_eq rfl ?_
  refine awp_seq (awp_reg ?_)
  simp (disch := omega) only [push_cast, ↓reduceIte, Nat.reduceEqDiff, Nat.reduceMul, Nat.reduceAdd, Nat.reduceSub, Nat.reduceLeDiff, Nat.reduceBEq, l34r0]
  refine awp_seq (awp_reg ?_)
  simp (disch := omega) only [push_cast, ↓reduceIte, Nat.reduceEqDiff, Nat.reduceMul, Nat.reduceAdd, Nat.reduceSub, Nat.reduceLeDiff, Nat.reduceBEq, l34r1]
  refine pcall_step (within_ok x 200 (by omega) (by omega)) (by simp (disch := omega) only [push_cast, ↓reduceIte, Nat.reduceEqDiff, Nat.reduceMul, Nat.reduceAdd, Nat.reduceSub, Nat.reduceLeDiff, Nat.reduceBEq]) ?_
  rintro _ rfl
  simp (disch := omega) only [push_cast, ↓reduceIte, Nat.reduceEqDiff, Nat.reduceMul, Nat.reduceAdd, Nat.reduceSub, Nat.reduceLeDiff, Nat.reduceBEq]
  refine gIf_split (fun h => ?_) (fun h => ?_) <;> (simp only [h]; simp (disch := omega) only [push_cast, ↓reduceIte, Nat.reduceEqDiff, Nat.reduceMul, Nat.reduceAdd, Nat.reduceSub, Nat.reduceLeDiff, Nat.reduceBEq])
  all_goals
    refine awp_ret ⟨.inr rfl, _, rfl, ?_⟩
    simp (disch := omega) only [push_cast, ↓reduceIte, Nat.reduceEqDiff, Nat.reduceMul, Nat.reduceAdd, Nat.reduceSub, Nat.reduceLeDiff, Nat.reduceBEq]
def vR (a b c : Int) : Bool := decide (-100 ≤ a) && decide (a ≤ 100) && (decide (-101 ≤ b) && decide (b ≤ 101)) && (decide (-200 ≤ c) && decide (c ≤ 200) && !decide (c = 0))
abbrev rng (a b c : Int) : AV := .agg [.int .i64 a, .int .i64 b, .int .i64 c]
theorem iValidRange_ok (a b c : Int) : PCall Try.prog 13 [rng a b c] (fun r => r = .bool (vR a b c)) := by
  refine pcall_of l13_eq rfl ?_
  refine awp_seq (awp_reg ?_)
  simp (disch := omega) only [push_cast, ↓reduceIte, Nat.reduceEqDiff, Nat.reduceMul, Nat.reduceAdd, Nat.reduceSub, Nat.reduceLeDiff, Nat.reduceBEq, l13r0]
  refine awp_seq (awp_reg ?_)
  simp (disch := omega) only [push_cast, ↓reduceIte, Nat.reduceEqDiff, Nat.reduceMul, Nat.reduceAdd, Nat.reduceSub, Nat.reduceLeDiff, Nat.reduceBEq, l13r1]
  refine pcall_step (within_ok a 100 (by omega) (by omega)) (by simp (disch := omega) only [push_cast, ↓reduceIte, Nat.reduceEqDiff, Nat.reduceMul, Nat.reduceAdd, Nat.reduceSub, Nat.reduceLeDiff, Nat.reduceBEq]) ?_
  rintro _ rfl
  simp (disch := omega) only [push_cast, ↓reduceIte, Nat.reduceEqDiff, Nat.reduceMul, Nat.reduceAdd, Nat.reduceSub, Nat.reduceLeDiff, Nat.reduceBEq]
  refine gIf_split (fun h => ?_) (fun h => ?_) <;> (simp only [h]; simp (disch := omega) only [push_cast, ↓reduceIte, Nat.reduceEqDiff, Nat.reduceMul, Nat.reduceAdd, Nat.reduceSub, Nat.reduceLeDiff, Nat.reduceBEq])
  · refine pcall_step (within_ok b 101 (by omega) (by omega)) (by simp (disch := omega) only [push_cast, ↓reduceIte, Nat.reduceEqDiff, Nat.reduceMul, Nat.reduceAdd, Nat.reduceSub, Nat.reduceLeDiff, Nat.reduceBEq]) ?_
    rintro _ rfl
    simp (disch := omega) only [push_cast, ↓reduceIte, Nat.reduceEqDiff, Nat.reduceMul, Nat.reduceAdd, Nat.reduceSub, Nat.reduceLeDiff, Nat.reduceBEq]
    refine gIf_split (fun h' => ?_) (fun h' => ?_) <;> (simp only [h']; simp (disch := omega) only [push_cast, ↓reduceIte, Nat.reduceEqDiff, Nat.reduceMul, Nat.reduceAdd, Nat.reduceSub, Nat.reduceLeDiff, Nat.reduceBEq])
    · refine pcall_step (validStep_ok c) (by simp (disch := omega) only [push_cast, ↓reduceIte, Nat.reduceEqDiff, Nat.reduceMul, Nat.reduceAdd, Nat.reduceSub, Nat.reduceLeDiff, Nat.reduceBEq]) ?_
      rintro _ rfl
      simp (disch := omega) only [push_cast, ↓reduceIte, Nat.reduceEqDiff, Nat.reduceMul, Nat.reduceAdd, Nat.reduceSub, Nat.reduceLeDiff, Nat.reduceBEq]
      refine awp_ret ⟨.inr rfl, _, rfl, ?_⟩
      simp (disch := omega) only [push_cast, ↓reduceIte, Nat.reduceEqDiff, Nat.reduceMul, Nat.reduceAdd, Nat.reduceSub, Nat.reduceLeDiff, Nat.reduceBEq, vR, h, h']
    · refine awp_ret ⟨.inr rfl, _, rfl, ?_⟩
      simp (disch := omega) only [push_cast, ↓reduceIte, Nat.reduceEqDiff, Nat.reduceMul, Nat.reduceAdd, Nat.reduceSub, Nat.reduceLeDiff, Nat.reduceBEq, vR, h, h']
  · refine awp_ret ⟨.inr rfl, _, rfl, ?_⟩
    simp (disch := omega) only [push_cast, ↓reduceIte, Nat.reduceEqDiff, Nat.reduceMul, Nat.reduceAdd, Nat.reduceSub, Nat.reduceLeDiff, Nat.reduceBEq, vR, h]
theorem toRange_ok (a b c : Int) : PCall Try.prog 12 [rng a b c] (fun r => r = rng a b c) := by
  refine pcall_of l12_eq rfl ?_
  refine awp_seq (awp_reg ?_)
  simp (disch := omega) only [push_cast, ↓reduceIte, Nat.reduceEqDiff, Nat.reduceMul, Nat.reduceAdd, Nat.reduceSub, Nat.reduceLeDiff, Nat.reduceBEq, l12r0]
  refine awp_seq (awp_reg ?_)
  simp (disch := omega) only [push_cast, ↓reduceIte, Nat.reduceEqDiff, Nat.reduceMul, Nat.reduceAdd, Nat.reduceSub, Nat.reduceLeDiff, Nat.reduceBEq, l12r1]
  refine awp_seq (awp_reg ?_)
  simp (disch := omega) only [push_cast, ↓reduceIte, Nat.reduceEqDiff, Nat.reduceMul, Nat.reduceAdd, Nat.reduceSub, Nat.reduceLeDiff, Nat.reduceBEq, l12r2]
  refine awp_seq (awp_reg ?_)
  simp (disch := omega) only [push_cast, ↓reduceIte, Nat.reduceEqDiff, Nat.reduceMul, Nat.reduceAdd, Nat.reduceSub, Nat.reduceLeDiff, Nat.reduceBEq, l12r3]
  refine awp_seq (awp_reg ?_)
  simp (disch := omega) only [push_cast, ↓reduceIte, Nat.reduceEqDiff, Nat.reduceMul, Nat.reduceAdd, Nat.reduceSub, Nat.reduceLeDiff, Nat.reduceBEq, l12r4]
  refine awp_seq (awp_reg ?_)
  simp (disch := omega) only [push_cast, ↓reduceIte, Nat.reduceEqDiff, Nat.reduceMul, Nat.reduceAdd, Nat.reduceSub, Nat.reduceLeDiff, Nat.reduceBEq, l12r5]
  refine awp_ret ⟨.inr rfl, _, rfl, ?_⟩
  simp (disch := omega) only [push_cast, ↓reduceIte, Nat.reduceEqDiff, Nat.reduceMul, Nat.reduceAdd, Nat.reduceSub, Nat.reduceLeDiff, Nat.reduceBEq]
theorem inRange_ok (x l h : Int) : PCall Try.prog 38 [.int .i64 x, .int .i64 l, .int .i64 h] (fun r => r = .bool (decide (l ≤ x) && decide (x ≤ h))) := by
  refine pcall_of l38_eq rfl ?_
  refine awp_seq (awp_reg ?_)
  simp (disch := omega) only [push_cast, ↓reduceIte, Nat.reduceEqDiff, Nat.reduceMul, Nat.reduceAdd, Nat.reduceSub, Nat.reduceLeDiff, Nat.reduceBEq, l38r0]
  refine awp_seq (awp_reg ?_)
  simp (disch := omega) only [push_cast, ↓reduceIte, Nat.reduceEqDiff, Nat.reduceMul, Nat.reduceAdd, Nat.reduceSub, Nat.reduceLeDiff, Nat.reduceBEq, l38r1]
  refine gIf_split (fun h => ?_) (fun h => ?_) <;> (simp only [h]; simp (disch := omega) only [push_cast, ↓reduceIte, Nat.reduceEqDiff, Nat.reduceMul, Nat.reduceAdd, Nat.reduceSub, Nat.reduceLeDiff, Nat.reduceBEq])
  all_goals
    refine awp_ret ⟨.inr rfl, _, rfl, ?_⟩
    simp (disch := omega) only [push_cast, ↓reduceIte, Nat.reduceEqDiff, Nat.reduceMul, Nat.reduceAdd, Nat.reduceSub, Nat.reduceLeDiff, Nat.reduceBEq, h]
theorem svalidRange_ok (a b c : Int) : PCall Try.prog 32 [rng a b c] (fun r => r = .bool (vR a b c)) := by
  refine pcall_of l32_eq rfl ?_
  refine awp_seq (awp_reg ?_)
  simp (disch := omega) only [push_cast, ↓reduceIte, Nat.reduceEqDiff, Nat.reduceMul, Nat.reduceAdd, Nat.reduceSub, Nat.reduceLeDiff, Nat.reduceBEq, l32r0]
  refine awp_seq (awp_reg ?_)
  simp (disch := omega) only [push_cast, ↓reduceIte, Nat.reduceEqDiff, Nat.reduceMul, Nat.reduceAdd, Nat.reduceSub, Nat.reduceLeDiff, Nat.reduceBEq, l32r1]
  refine pcall_step (inRange_ok a (-100) 100) (by simp (disch := omega) only [push_cast, ↓reduceIte, Nat.reduceEqDiff, Nat.reduceMul, Nat.reduceAdd, Nat.reduceSub, Nat.reduceLeDiff, Nat.reduceBEq]) ?_
  rintro _ rfl
  simp (disch := omega) only [push_cast, ↓reduceIte, Nat.reduceEqDiff, Nat.reduceMul, Nat.reduceAdd, Nat.reduceSub, Nat.reduceLeDiff, Nat.reduceBEq]
  refine gIf_split (fun h => ?_) (fun h => ?_) <;> (simp only [h]; simp (disch := omega) only [push_cast, ↓reduceIte, Nat.reduceEqDiff, Nat.reduceMul, Nat.reduceAdd, Nat.reduceSub, Nat.reduceLeDiff, Nat.reduceBEq])
  · refine pcall_step (inRange_ok b (-101) 101) (by simp (disch := omega) only [push_cast, ↓reduceIte, Nat.reduceEqDiff, Nat.reduceMul, Nat.reduceAdd, Nat.reduceSub, Nat.reduceLeDiff, Nat.reduceBEq]) ?_
    rintro _ rfl
    simp (disch := omega) only [push_cast, ↓reduceIte, Nat.reduceEqDiff, Nat.reduceMul, Nat.reduceAdd, Nat.reduceSub, Nat.reduceLeDiff, Nat.reduceBEq]
    refine gIf_split (fun h' => ?_) (fun h' => ?_) <;> (simp only [h']; simp (disch := omega) only [push_cast, ↓reduceIte, Nat.reduceEqDiff, Nat.reduceMul, Nat.reduceAdd, Nat.reduceSub, Nat.reduceLeDiff, Nat.reduceBEq])
    · refine pcall_step (inRange_ok c (-200) 200) (by simp (disch := omega) only [push_cast, ↓reduceIte, Nat.reduceEqDiff, Nat.reduceMul, Nat.reduceAdd, Nat.reduceSub, Nat.reduceLeDiff, Nat.reduceBEq]) ?_
      rintro _ rfl
      simp (disch := omega) only [push_cast, ↓reduceIte, Nat.reduceEqDiff, Nat.reduceMul, Nat.reduceAdd, Nat.reduceSub, Nat.reduceLeDiff, Nat.reduceBEq]
      refine gIf_split (fun h2 => ?_) (fun h2 => ?_) <;> (simp only [h2]; simp (disch := omega) only [push_cast, ↓reduceIte, Nat.reduceEqDiff, Nat.reduceMul, Nat.reduceAdd, Nat.reduceSub, Nat.reduceLeDiff, Nat.reduceBEq])
      all_goals
        refine awp_ret ⟨.inr rfl, _, rfl, ?_⟩
        simp (disch := omega) only [push_cast, ↓reduceIte, Nat.reduceEqDiff, Nat.reduceMul, Nat.reduceAdd, Nat.reduceSub, Nat.reduceLeDiff, Nat.reduceBEq, vR, h, h', h2]
    · refine awp_ret ⟨.inr rfl, _, rfl, ?_⟩
      simp (disch := omega) only [push_cast, ↓reduceIte, Nat.reduceEqDiff, Nat.reduceMul, Nat.reduceAdd, Nat.reduceSub, Nat.reduceLeDiff, Nat.reduceBEq, vR, h, h']
  · refine awp_ret ⟨.inr rfl, _, rfl, ?_⟩
    simp (disch := omega) only [push_cast, ↓reduceIte, Nat.reduceEqDiff, Nat.reduceMul, Nat.reduceAdd, Nat.reduceSub, Nat.reduceLeDiff, Nat.reduceBEq, vR, h]
theorem sValidRange_ok (a b c : Int) : PCall Try.prog 11 [rng a b c] (fun r => r = .bool (vR a b c)) := by
  refine pcall_of l11_eq rfl ?_
  refine awp_seq (awp_reg ?_)
  simp (disch := omega) only [push_cast, ↓reduceIte, Nat.reduceEqDiff, Nat.reduceMul, Nat.reduceAdd, Nat.reduceSub, Nat.reduceLeDiff, Nat.reduceBEq, l11r0]
  refine awp_seq (awp_reg ?_)
  simp (disch := omega) only [push_cast, ↓reduceIte, Nat.reduceEqDiff, Nat.reduceMul, Nat.reduceAdd, Nat.reduceSub, Nat.reduceLeDiff, Nat.reduceBEq, l11r1]
  refine pcall_step (svalidRange_ok a b c) (by simp (disch := omega) only [push_cast, ↓reduceIte, Nat.reduceEqDiff, Nat.reduceMul, Nat.reduceAdd, Nat.reduceSub, Nat.reduceLeDiff, Nat.reduceBEq]) ?_
  rintro _ rfl
  simp (disch := omega) only [push_cast, ↓reduceIte, Nat.reduceEqDiff, Nat.reduceMul, Nat.reduceAdd, Nat.reduceSub, Nat.reduceLeDiff, Nat.reduceBEq]
  refine awp_ret ⟨.inr rfl, _, rfl, ?_⟩
  simp (disch := omega) only [push_cast, ↓reduceIte, Nat.reduceEqDiff, Nat.reduceMul, Nat.reduceAdd, Nat.reduceSub, Nat.reduceLeDiff, Nat.reduceBEq]
theorem law3_ok (a b c : Int) : PCall Try.prog 3 [rng a b c] (fun r => r = .bool true) := by
  refine pcall_of l3_eq rfl ?_
  refine awp_seq (awp_reg ?_)
  simp (disch := omega) only [push_cast, ↓reduceIte, Nat.reduceEqDiff, Nat.reduceMul, Nat.reduceAdd, Nat.reduceSub, Nat.reduceLeDiff, Nat.reduceBEq, l3r0]
  refine awp_seq (awp_reg ?_)
  simp (disch := omega) only [push_cast, ↓reduceIte, Nat.reduceEqDiff, Nat.reduceMul, Nat.reduceAdd, Nat.reduceSub, Nat.reduceLeDiff, Nat.reduceBEq, l3r1]
  refine pcall_step (toRange_ok a b c) (by simp (disch := omega) only [push_cast, ↓reduceIte, Nat.reduceEqDiff, Nat.reduceMul, Nat.reduceAdd, Nat.reduceSub, Nat.reduceLeDiff, Nat.reduceBEq]) ?_
  rintro _ rfl
  simp (disch := omega) only [push_cast, ↓reduceIte, Nat.reduceEqDiff, Nat.reduceMul, Nat.reduceAdd, Nat.reduceSub, Nat.reduceLeDiff, Nat.reduceBEq]
  refine pcall_step (sValidRange_ok a b c) (by simp (disch := omega) only [push_cast, ↓reduceIte, Nat.reduceEqDiff, Nat.reduceMul, Nat.reduceAdd, Nat.reduceSub, Nat.reduceLeDiff, Nat.reduceBEq]) ?_
  rintro _ rfl
  simp (disch := omega) only [push_cast, ↓reduceIte, Nat.reduceEqDiff, Nat.reduceMul, Nat.reduceAdd, Nat.reduceSub, Nat.reduceLeDiff, Nat.reduceBEq]
  refine awp_seq (awp_reg ?_)
  simp (disch := omega) only [push_cast, ↓reduceIte, Nat.reduceEqDiff, Nat.reduceMul, Nat.reduceAdd, Nat.reduceSub, Nat.reduceLeDiff, Nat.reduceBEq, l3r2]
  refine pcall_step (toRange_ok a b c) (by simp (disch := omega) only [push_cast, ↓reduceIte, Nat.reduceEqDiff, Nat.reduceMul, Nat.reduceAdd, Nat.reduceSub, Nat.reduceLeDiff, Nat.reduceBEq]) ?_
  rintro _ rfl
  simp (disch := omega) only [push_cast, ↓reduceIte, Nat.reduceEqDiff, Nat.reduceMul, Nat.reduceAdd, Nat.reduceSub, Nat.reduceLeDiff, Nat.reduceBEq]
  refine pcall_step (iValidRange_ok a b c) (by simp (disch := omega) only [push_cast, ↓reduceIte, Nat.reduceEqDiff, Nat.reduceMul, Nat.reduceAdd, Nat.reduceSub, Nat.reduceLeDiff, Nat.reduceBEq]) ?_
  rintro _ rfl
  simp (disch := omega) only [push_cast, ↓reduceIte, Nat.reduceEqDiff, Nat.reduceMul, Nat.reduceAdd, Nat.reduceSub, Nat.reduceLeDiff, Nat.reduceBEq]
  refine awp_seq (awp_seq (awp_reg ?_))
  simp (disch := omega) only [push_cast, ↓reduceIte, Nat.reduceEqDiff, Nat.reduceMul, Nat.reduceAdd, Nat.reduceSub, Nat.reduceLeDiff, Nat.reduceBEq, l3r3]
  refine awp_cond false rfl (fun h => by cases h) fun _ => awp_skip ?_
  simp (disch := omega) only [push_cast, ↓reduceIte, Nat.reduceEqDiff, Nat.reduceMul, Nat.reduceAdd, Nat.reduceSub, Nat.reduceLeDiff, Nat.reduceBEq]
  refine awp_seq (awp_reg ?_)
  simp (disch := omega) only [push_cast, ↓reduceIte, Nat.reduceEqDiff, Nat.reduceMul, Nat.reduceAdd, Nat.reduceSub, Nat.reduceLeDiff, Nat.reduceBEq, l3r5]
  refine awp_ret ⟨.inr rfl, _, rfl, ?_⟩
  simp (disch := omega) only [push_cast, ↓reduceIte, Nat.reduceEqDiff, Nat.reduceMul, Nat.reduceAdd, Nat.reduceSub, Nat.reduceLeDiff, Nat.reduceBEq]
end Go.Proofs.Ytigcjdblggjmjaa
