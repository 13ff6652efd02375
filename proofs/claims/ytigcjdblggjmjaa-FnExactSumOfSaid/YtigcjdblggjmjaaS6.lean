import Derived.Test.YtigcjdblggjmjaaS1
import Derived.Test.YtigcjdblggjmjaaVwM
import Derived.KernelRfl
namespace Go.Proofs.Ytigcjdblggjmjaa
open Vw Go
set_option linter.unusedSimpArgs false
set_option linter.unusedVariables false

theorem mixed : Try.prog.follows .mixedOrders = true := by kernel_rfl

/-- How many numbers a range has, as the program reckons. -/
def cntI (a b c : Int) : Int :=
  if c < 0 then (if 0 - (b - a) ≤ 0 then 0 else (0 - (b - a) + (0 - c) - 1).tdiv (0 - c)) else (if b - a ≤ 0 then 0 else (b - a + c - 1).tdiv c)

theorem vR_spec {a b c : Int} : vR a b c = true ↔ (-100 ≤ a ∧ a ≤ 100) ∧ (-101 ≤ b ∧ b ≤ 101) ∧ (-200 ≤ c ∧ c ≤ 200) ∧ c ≠ 0 := by
  simp only [vR, Bool.and_eq_true, decide_eq_true_eq, Bool.not_eq_true', decide_eq_false_iff_not]
  constructor
  · rintro ⟨⟨h1, h2⟩, h3, h4⟩; exact ⟨h1, h2, h3, h4⟩
  · rintro ⟨h1, h2, h3, h4⟩; exact ⟨⟨h1, h2⟩, h3, h4⟩

theorem tdiv_bound {x y : Int} (hy : 0 < y) (hx : 0 ≤ x) : 0 ≤ x.tdiv y ∧ x.tdiv y ≤ x := by
  rw [Int.tdiv_eq_ediv_of_nonneg hx]
  exact ⟨Int.ediv_nonneg hx (by omega), Int.ediv_le_self _ hx⟩

theorem at_ok (a b c i : Int) (h1 : -1000 ≤ a ∧ a ≤ 1000) (h2 : -1000000 ≤ i * c ∧ i * c ≤ 1000000) : PCall Try.prog 39 [rng a b c, .int .i64 i] (fun r => r = .int .i64 (a + i * c)) := by
  refine pcall_of l39_eq rfl ?_
  refine awp_seq (awp_reg ?_)
  simp (disch := omega) only [push_cast, List.reduceReplicate, List.length_replicate, ↓reduceIte, Nat.reduceEqDiff, Nat.reduceMul, Nat.reduceAdd, Nat.reduceSub, Nat.reduceLeDiff, Nat.reduceBEq, l39r0]
  refine awp_seq (awp_reg ?_)
  simp (disch := omega) only [push_cast, List.reduceReplicate, List.length_replicate, ↓reduceIte, Nat.reduceEqDiff, Nat.reduceMul, Nat.reduceAdd, Nat.reduceSub, Nat.reduceLeDiff, Nat.reduceBEq, l39r1]
  refine awp_ret ⟨.inr rfl, _, rfl, ?_⟩
  simp (disch := omega) only [push_cast, List.reduceReplicate, List.length_replicate, ↓reduceIte, Nat.reduceEqDiff, Nat.reduceMul, Nat.reduceAdd, Nat.reduceSub, Nat.reduceLeDiff, Nat.reduceBEq]

theorem count_ok (a b c : Int) (hv : vR a b c = true) : PCall Try.prog 36 [rng a b c] (fun r => r = .int .i64 (cntI a b c)) := by
  obtain ⟨ha, hb, hc, h0⟩ := vR_spec.1 hv
  refine pcall_of l36_eq rfl ?_
  refine awp_seq (awp_reg ?_)
  simp (disch := omega) only [push_cast, List.reduceReplicate, List.length_replicate, ↓reduceIte, Nat.reduceEqDiff, Nat.reduceMul, Nat.reduceAdd, Nat.reduceSub, Nat.reduceLeDiff, Nat.reduceBEq, l36r0]
  refine awp_seq ?_
  refine awp_draw (mid := l36r1a) (post := l36r1b) mixed (by decide) ?_
  simp (disch := omega) only [push_cast, List.reduceReplicate, List.length_replicate, ↓reduceIte, Nat.reduceEqDiff, Nat.reduceMul, Nat.reduceAdd, Nat.reduceSub, Nat.reduceLeDiff, Nat.reduceBEq, l36r1a, l36r1b]
  refine awp_seq (awp_seq (awp_reg ?_))
  simp (disch := omega) only [push_cast, List.reduceReplicate, List.length_replicate, ↓reduceIte, Nat.reduceEqDiff, Nat.reduceMul, Nat.reduceAdd, Nat.reduceSub, Nat.reduceLeDiff, Nat.reduceBEq, l36r2]
  by_cases h : c < 0
  · simp only [h]
    simp (disch := omega) only [push_cast, List.reduceReplicate, List.length_replicate, ↓reduceIte, Nat.reduceEqDiff, Nat.reduceMul, Nat.reduceAdd, Nat.reduceSub, Nat.reduceLeDiff, Nat.reduceBEq]
    refine awp_cond true rfl (fun _ => awp_reg ?_) (fun h => (by cases h))
    simp (disch := omega) only [push_cast, List.reduceReplicate, List.length_replicate, ↓reduceIte, Nat.reduceEqDiff, Nat.reduceMul, Nat.reduceAdd, Nat.reduceSub, Nat.reduceLeDiff, Nat.reduceBEq, l36r3]
    refine awp_seq (awp_seq (awp_reg ?_))
    simp (disch := omega) only [push_cast, List.reduceReplicate, List.length_replicate, ↓reduceIte, Nat.reduceEqDiff, Nat.reduceMul, Nat.reduceAdd, Nat.reduceSub, Nat.reduceLeDiff, Nat.reduceBEq, l36r4]
    by_cases h1 : 0 - (b - a) ≤ 0
    · simp only [h1]
      simp (disch := omega) only [push_cast, List.reduceReplicate, List.length_replicate, ↓reduceIte, Nat.reduceEqDiff, Nat.reduceMul, Nat.reduceAdd, Nat.reduceSub, Nat.reduceLeDiff, Nat.reduceBEq]
      refine awp_cond true rfl (fun _ => awp_seq (awp_reg ?_)) (fun h => (by cases h))
      simp (disch := omega) only [push_cast, List.reduceReplicate, List.length_replicate, ↓reduceIte, Nat.reduceEqDiff, Nat.reduceMul, Nat.reduceAdd, Nat.reduceSub, Nat.reduceLeDiff, Nat.reduceBEq, l36r5]
      refine awp_ret ⟨.inr rfl, _, rfl, ?_⟩
      simp (disch := omega) only [push_cast, List.reduceReplicate, List.length_replicate, ↓reduceIte, Nat.reduceEqDiff, Nat.reduceMul, Nat.reduceAdd, Nat.reduceSub, Nat.reduceLeDiff, Nat.reduceBEq, cntI, h, h1]
    · simp only [h1]
      simp (disch := omega) only [push_cast, List.reduceReplicate, List.length_replicate, ↓reduceIte, Nat.reduceEqDiff, Nat.reduceMul, Nat.reduceAdd, Nat.reduceSub, Nat.reduceLeDiff, Nat.reduceBEq]
      refine awp_cond false rfl (fun h => (by cases h)) (fun _ => awp_skip ?_)
      simp (disch := omega) only [push_cast, List.reduceReplicate, List.length_replicate, ↓reduceIte, Nat.reduceEqDiff, Nat.reduceMul, Nat.reduceAdd, Nat.reduceSub, Nat.reduceLeDiff, Nat.reduceBEq]
      have hq := tdiv_bound (x := 0 - (b - a) + (0 - c) - 1) (y := 0 - c) (by omega) (by omega)
      refine awp_seq (awp_reg ?_)
      simp (disch := omega) only [push_cast, List.reduceReplicate, List.length_replicate, ↓reduceIte, Nat.reduceEqDiff, Nat.reduceMul, Nat.reduceAdd, Nat.reduceSub, Nat.reduceLeDiff, Nat.reduceBEq, l36r6]
      refine awp_ret ⟨.inr rfl, _, rfl, ?_⟩
      simp (disch := omega) only [push_cast, List.reduceReplicate, List.length_replicate, ↓reduceIte, Nat.reduceEqDiff, Nat.reduceMul, Nat.reduceAdd, Nat.reduceSub, Nat.reduceLeDiff, Nat.reduceBEq, cntI, h, h1]
  · simp only [h]
    simp (disch := omega) only [push_cast, List.reduceReplicate, List.length_replicate, ↓reduceIte, Nat.reduceEqDiff, Nat.reduceMul, Nat.reduceAdd, Nat.reduceSub, Nat.reduceLeDiff, Nat.reduceBEq]
    refine awp_cond false rfl (fun h => (by cases h)) (fun _ => awp_skip ?_)
    simp (disch := omega) only [push_cast, List.reduceReplicate, List.length_replicate, ↓reduceIte, Nat.reduceEqDiff, Nat.reduceMul, Nat.reduceAdd, Nat.reduceSub, Nat.reduceLeDiff, Nat.reduceBEq]
    refine awp_seq (awp_seq (awp_reg ?_))
    simp (disch := omega) only [push_cast, List.reduceReplicate, List.length_replicate, ↓reduceIte, Nat.reduceEqDiff, Nat.reduceMul, Nat.reduceAdd, Nat.reduceSub, Nat.reduceLeDiff, Nat.reduceBEq, l36r4]
    by_cases h1 : b - a ≤ 0
    · simp only [h1]
      simp (disch := omega) only [push_cast, List.reduceReplicate, List.length_replicate, ↓reduceIte, Nat.reduceEqDiff, Nat.reduceMul, Nat.reduceAdd, Nat.reduceSub, Nat.reduceLeDiff, Nat.reduceBEq]
      refine awp_cond true rfl (fun _ => awp_seq (awp_reg ?_)) (fun h => (by cases h))
      simp (disch := omega) only [push_cast, List.reduceReplicate, List.length_replicate, ↓reduceIte, Nat.reduceEqDiff, Nat.reduceMul, Nat.reduceAdd, Nat.reduceSub, Nat.reduceLeDiff, Nat.reduceBEq, l36r5]
      refine awp_ret ⟨.inr rfl, _, rfl, ?_⟩
      simp (disch := omega) only [push_cast, List.reduceReplicate, List.length_replicate, ↓reduceIte, Nat.reduceEqDiff, Nat.reduceMul, Nat.reduceAdd, Nat.reduceSub, Nat.reduceLeDiff, Nat.reduceBEq, cntI, h, h1]
    · simp only [h1]
      simp (disch := omega) only [push_cast, List.reduceReplicate, List.length_replicate, ↓reduceIte, Nat.reduceEqDiff, Nat.reduceMul, Nat.reduceAdd, Nat.reduceSub, Nat.reduceLeDiff, Nat.reduceBEq]
      refine awp_cond false rfl (fun h => (by cases h)) (fun _ => awp_skip ?_)
      simp (disch := omega) only [push_cast, List.reduceReplicate, List.length_replicate, ↓reduceIte, Nat.reduceEqDiff, Nat.reduceMul, Nat.reduceAdd, Nat.reduceSub, Nat.reduceLeDiff, Nat.reduceBEq]
      have hq := tdiv_bound (x := b - a + c - 1) (y := c) (by omega) (by omega)
      refine awp_seq (awp_reg ?_)
      simp (disch := omega) only [push_cast, List.reduceReplicate, List.length_replicate, ↓reduceIte, Nat.reduceEqDiff, Nat.reduceMul, Nat.reduceAdd, Nat.reduceSub, Nat.reduceLeDiff, Nat.reduceBEq, l36r6]
      refine awp_ret ⟨.inr rfl, _, rfl, ?_⟩
      simp (disch := omega) only [push_cast, List.reduceReplicate, List.length_replicate, ↓reduceIte, Nat.reduceEqDiff, Nat.reduceMul, Nat.reduceAdd, Nat.reduceSub, Nat.reduceLeDiff, Nat.reduceBEq, cntI, h, h1]

/-- The range in normal form of a progression. -/
def prog3 (f c n : Int) : AV :=
  if n < 1 then rng 0 0 1 else if n = 1 then rng f (f + 1) 1 else if c < 0 then rng f (f + (n - 1) * c - 1) c else rng f (f + (n - 1) * c + 1) c

theorem progression_ok (f c n : Int) (h1 : -100000 ≤ f ∧ f ≤ 100000) (h2 : -100000 ≤ c ∧ c ≤ 100000) (h3 : -100000 ≤ n ∧ n ≤ 100000) (h4 : 1 ≤ n → -1000000 ≤ (n - 1) * c ∧ (n - 1) * c ≤ 1000000) : PCall Try.prog 46 [.int .i64 f, .int .i64 c, .int .i64 n] (fun r => r = prog3 f c n) := by
  refine pcall_of l46_eq rfl ?_
  refine awp_seq (awp_reg ?_)
  simp (disch := omega) only [push_cast, List.reduceReplicate, List.length_replicate, ↓reduceIte, Nat.reduceEqDiff, Nat.reduceMul, Nat.reduceAdd, Nat.reduceSub, Nat.reduceLeDiff, Nat.reduceBEq, l46r0]
  refine awp_seq (awp_seq (awp_reg ?_))
  simp (disch := omega) only [push_cast, List.reduceReplicate, List.length_replicate, ↓reduceIte, Nat.reduceEqDiff, Nat.reduceMul, Nat.reduceAdd, Nat.reduceSub, Nat.reduceLeDiff, Nat.reduceBEq, l46r1]
  refine awp_cond _ rfl (fun h => awp_seq (awp_reg ?_)) (fun h => awp_skip ?_)
  · simp (disch := omega) only [push_cast, List.reduceReplicate, List.length_replicate, ↓reduceIte, Nat.reduceEqDiff, Nat.reduceMul, Nat.reduceAdd, Nat.reduceSub, Nat.reduceLeDiff, Nat.reduceBEq, l46r2]
    refine awp_ret ⟨.inr rfl, _, rfl, ?_⟩
    have h : n < 1 := of_decide_eq_true h
    simp (disch := omega) only [push_cast, List.reduceReplicate, List.length_replicate, ↓reduceIte, Nat.reduceEqDiff, Nat.reduceMul, Nat.reduceAdd, Nat.reduceSub, Nat.reduceLeDiff, Nat.reduceBEq, prog3, h]
  have h := of_decide_eq_false h
  have h4 := h4 (by omega)
  simp (disch := omega) only [push_cast, List.reduceReplicate, List.length_replicate, ↓reduceIte, Nat.reduceEqDiff, Nat.reduceMul, Nat.reduceAdd, Nat.reduceSub, Nat.reduceLeDiff, Nat.reduceBEq]
  refine awp_seq (awp_seq (awp_reg ?_))
  simp (disch := omega) only [push_cast, List.reduceReplicate, List.length_replicate, ↓reduceIte, Nat.reduceEqDiff, Nat.reduceMul, Nat.reduceAdd, Nat.reduceSub, Nat.reduceLeDiff, Nat.reduceBEq, l46r3]
  refine awp_cond _ rfl (fun h' => awp_seq (awp_reg ?_)) (fun h' => awp_skip ?_)
  · simp (disch := omega) only [push_cast, List.reduceReplicate, List.length_replicate, ↓reduceIte, Nat.reduceEqDiff, Nat.reduceMul, Nat.reduceAdd, Nat.reduceSub, Nat.reduceLeDiff, Nat.reduceBEq, l46r4]
    refine awp_ret ⟨.inr rfl, _, rfl, ?_⟩
    have h' := of_decide_eq_true h'
    simp (disch := omega) only [push_cast, List.reduceReplicate, List.length_replicate, ↓reduceIte, Nat.reduceEqDiff, Nat.reduceMul, Nat.reduceAdd, Nat.reduceSub, Nat.reduceLeDiff, Nat.reduceBEq]
    unfold prog3
    rw [if_neg h, if_pos h']
  have h' := of_decide_eq_false h'
  simp (disch := omega) only [push_cast, List.reduceReplicate, List.length_replicate, ↓reduceIte, Nat.reduceEqDiff, Nat.reduceMul, Nat.reduceAdd, Nat.reduceSub, Nat.reduceLeDiff, Nat.reduceBEq]
  refine awp_seq (awp_reg ?_)
  simp (disch := omega) only [push_cast, List.reduceReplicate, List.length_replicate, ↓reduceIte, Nat.reduceEqDiff, Nat.reduceMul, Nat.reduceAdd, Nat.reduceSub, Nat.reduceLeDiff, Nat.reduceBEq, l46r5]
  refine awp_seq (awp_seq (awp_reg ?_))
  simp (disch := omega) only [push_cast, List.reduceReplicate, List.length_replicate, ↓reduceIte, Nat.reduceEqDiff, Nat.reduceMul, Nat.reduceAdd, Nat.reduceSub, Nat.reduceLeDiff, Nat.reduceBEq, l46r6]
  refine awp_cond _ rfl (fun h2 => awp_seq (awp_reg ?_)) (fun h2 => awp_skip ?_)
  · simp (disch := omega) only [push_cast, List.reduceReplicate, List.length_replicate, ↓reduceIte, Nat.reduceEqDiff, Nat.reduceMul, Nat.reduceAdd, Nat.reduceSub, Nat.reduceLeDiff, Nat.reduceBEq, l46r7]
    refine awp_ret ⟨.inr rfl, _, rfl, ?_⟩
    have h2 := of_decide_eq_true h2
    simp (disch := omega) only [push_cast, List.reduceReplicate, List.length_replicate, ↓reduceIte, Nat.reduceEqDiff, Nat.reduceMul, Nat.reduceAdd, Nat.reduceSub, Nat.reduceLeDiff, Nat.reduceBEq, prog3, h, h', h2]
  have h2 := of_decide_eq_false h2
  simp (disch := omega) only [push_cast, List.reduceReplicate, List.length_replicate, ↓reduceIte, Nat.reduceEqDiff, Nat.reduceMul, Nat.reduceAdd, Nat.reduceSub, Nat.reduceLeDiff, Nat.reduceBEq]
  refine awp_seq (awp_reg ?_)
  simp (disch := omega) only [push_cast, List.reduceReplicate, List.length_replicate, ↓reduceIte, Nat.reduceEqDiff, Nat.reduceMul, Nat.reduceAdd, Nat.reduceSub, Nat.reduceLeDiff, Nat.reduceBEq, l46r8]
  refine awp_ret ⟨.inr rfl, _, rfl, ?_⟩
  simp (disch := omega) only [push_cast, List.reduceReplicate, List.length_replicate, ↓reduceIte, Nat.reduceEqDiff, Nat.reduceMul, Nat.reduceAdd, Nat.reduceSub, Nat.reduceLeDiff, Nat.reduceBEq, prog3, h, h', h2]
end Go.Proofs.Ytigcjdblggjmjaa
