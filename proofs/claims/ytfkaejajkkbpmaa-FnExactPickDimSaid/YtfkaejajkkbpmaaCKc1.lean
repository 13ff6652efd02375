import Derived.Test.YtfkaejajkkbpmaaCKn
import Derived.Test.YtfkaejajkkbpmaaCM1
import Derived.Test.YtfkaejajkkbpmaaCW3
set_option linter.unusedSimpArgs false
set_option linter.unusedVariables false
set_option linter.unnecessarySimpa false
set_option maxRecDepth 4000
set_option maxHeartbeats 4000000
namespace Go.Proofs.Ytfkaejajkkbpmaa
open VwM Vw Go

theorem sisDim_ok (b : Int) (sh st : List Int) (n m : Nat) (d : Int) (hn : sh.length = n) (hb : n ≤ 1099511627776) : PCall Try.prog 35 [.agg [.int .i64 b, .rows false (IL sh) n, .rows false (IL st) m], .int .i64 d] (fun r => r = .bool (decide (0 ≤ d) && decide (d ≤ (n : Int) - 1))) := by
  subst hn
  refine pcall_of l35_eq rfl ?_
  (repeat' (first
      | (first | refine awp_seq ?_ | refine awp_block ?_)
      | ((first | refine awp_reg ?_ | refine awp_condB ?_ | refine awp_skip ?_ | refine awp_exit ?_); simp (maxSteps := 400000) (disch := omega) only [push_cast, seval, Bool.false_eq_true, List.length_replicate, l35r0, l35r1])
      | ((first | refine condB_split (fun h => ?_) (fun h => ?_) | refine gIf_split (fun h => ?_) (fun h => ?_) | refine qIf_split (fun h => ?_) (fun h => ?_)) <;> (try simp only [h]) <;> (try simp only [decide_eq_true_eq, decide_eq_false_iff_not, Bool.not_eq_true', Bool.not_eq_false', Bool.and_eq_true, Bool.or_eq_true, Bool.and_eq_false_iff, Bool.or_eq_false_iff, Int.not_le, Int.not_lt, bne_iff_ne, ne_eq, beq_iff_eq, Bool.not_eq_true, Bool.not_eq_false] at h) <;> (try simp only [h]) <;> (first | (exfalso; omega) | (focus (exfalso; simp_all; done)) | (simp (maxSteps := 400000) (disch := omega) only [push_cast, seval, Bool.false_eq_true, List.length_replicate]) | skip))
      | ((first | refine callD_of false ?_ | refine qcallD_of false ?_); simp (maxSteps := 400000) (disch := omega) only [push_cast, seval, Bool.false_eq_true, List.length_replicate])
      | ((first | ((first | refine call0D (BCall.ofP (inRange_ok _ _ _)) ?_ | refine qcall0D (BCall.ofP (inRange_ok _ _ _)) ⟨_, _, rfl, rfl⟩ ?_); rintro _ _ ⟨rfl, rfl⟩)); (try simp (maxSteps := 400000) (disch := omega) only [push_cast, seval, Bool.false_eq_true, List.length_replicate]))
      | (refine awp_ret ⟨.inr rfl, _, rfl, ?_⟩; (try simp (maxSteps := 400000) (disch := omega) only [push_cast, seval, Bool.false_eq_true, List.length_replicate]))))


theorem scopyView_ok (b : Int) (sh st : List Int) (n m : Nat) (hn : sh.length = n) (hm : st.length = m) (hb : n ≤ 1099511627776 ∧ m ≤ 1099511627776) : BCall Try.prog 53 [.agg [.int .i64 b, .rows false (IL sh) n, .rows false (IL st) m]] [] (OV b sh st) := by
  subst hn hm
  obtain ⟨hb1, hb2⟩ := hb
  refine bcall_of (pins := []) (pin := 0) l53_eq rfl rfl rfl ?_
  (repeat' (first
      | (first | refine awp_seq ?_ | refine awp_block ?_)
      | ((first | refine awp_reg ?_ | refine awp_draw (mid := l53r1a) (post := l53r1b) mixed (by decide) ?_ | refine awp_condB ?_ | refine awp_skip ?_ | refine awp_exit ?_); simp (maxSteps := 400000) (disch := omega) only [push_cast, seval, Bool.false_eq_true, List.length_replicate, l53r0, l53r1a, l53r1b, l53r1])
      | ((first | refine condB_split (fun h => ?_) (fun h => ?_) | refine gIf_split (fun h => ?_) (fun h => ?_) | refine qIf_split (fun h => ?_) (fun h => ?_)) <;> (try simp only [h]) <;> (try simp only [decide_eq_true_eq, decide_eq_false_iff_not, Bool.not_eq_true', Bool.not_eq_false', Bool.and_eq_true, Bool.or_eq_true, Bool.and_eq_false_iff, Bool.or_eq_false_iff, Int.not_le, Int.not_lt, bne_iff_ne, ne_eq, beq_iff_eq, Bool.not_eq_true, Bool.not_eq_false] at h) <;> (try simp only [h]) <;> (first | (exfalso; omega) | (focus (exfalso; simp_all; done)) | (simp (maxSteps := 400000) (disch := omega) only [push_cast, seval, Bool.false_eq_true, List.length_replicate]) | skip))
      | ((first | refine callD_of false ?_ | refine qcallD_of false ?_); simp (maxSteps := 400000) (disch := omega) only [push_cast, seval, Bool.false_eq_true, List.length_replicate])
      | ((first | ((first | refine call0D (copyInts_ok _ _ ?_ ?_) ?_ | refine qcall0D (copyInts_ok _ _ ?_ ?_) ⟨_, _, rfl, rfl⟩ ?_); (iterate 2 (focus (first | assumption | rfl | omega | (simp; done) | (simp; omega) | (simp_all; done) | (simp_all; omega)))); rintro _ _ ⟨rfl, rfl⟩)); (try simp (maxSteps := 400000) (disch := omega) only [push_cast, seval, Bool.false_eq_true, List.length_replicate]))
      | (refine awp_ret ⟨.inr rfl, [112, 160], [], _, by decide, rfl, ?_⟩; (try simp (maxSteps := 400000) (disch := omega) only [push_cast, seval, Bool.false_eq_true, List.length_replicate, ↓allMem_nil, ↓allMem_cons, ↓List.map_cons, ↓List.map_nil]))))
  all_goals simp [OV]


theorem smade_ok (b : Int) (sh st : List Int) (n m : Nat) (hn : sh.length = n) (hm : st.length = m) (hb : n ≤ 1099511627776 ∧ m ≤ 1099511627776) : BCall Try.prog 37 [.agg [.int .i64 b, .rows false (IL sh) n, .rows false (IL st) m]] [] (MV (vV b sh st) b sh st) := by
  subst hn hm
  obtain ⟨hb1, hb2⟩ := hb
  refine bcall_of (pins := []) (pin := 0) l37_eq rfl rfl rfl ?_
  cases hv : vV b sh st with
  | false =>
    (repeat' (first
      | (first | refine awp_seq ?_ | refine awp_block ?_)
      | ((first | refine awp_reg ?_ | refine awp_condB ?_ | refine awp_skip ?_ | refine awp_exit ?_); simp (maxSteps := 400000) (disch := omega) only [push_cast, seval, Bool.false_eq_true, List.length_replicate, l37r0, l37r1, l37r2, l37r3, hv])
      | ((first | refine condB_split (fun h => ?_) (fun h => ?_) | refine gIf_split (fun h => ?_) (fun h => ?_) | refine qIf_split (fun h => ?_) (fun h => ?_)) <;> (try simp only [h]) <;> (try simp only [decide_eq_true_eq, decide_eq_false_iff_not, Bool.not_eq_true', Bool.not_eq_false', Bool.and_eq_true, Bool.or_eq_true, Bool.and_eq_false_iff, Bool.or_eq_false_iff, Int.not_le, Int.not_lt, bne_iff_ne, ne_eq, beq_iff_eq, Bool.not_eq_true, Bool.not_eq_false] at h) <;> (try simp only [h]) <;> (first | (exfalso; omega) | (focus (exfalso; simp_all; done)) | (simp (maxSteps := 400000) (disch := omega) only [push_cast, seval, Bool.false_eq_true, List.length_replicate, hv]) | skip))
      | ((first | refine callD_of false ?_ | refine qcallD_of false ?_); simp (maxSteps := 400000) (disch := omega) only [push_cast, seval, Bool.false_eq_true, List.length_replicate, hv])
      | ((first | ((first | refine call0D (BCall.ofP (svalidView_ok _ _ _ _ _ ?_ ?_ ?_)) ?_ | refine qcall0D (BCall.ofP (svalidView_ok _ _ _ _ _ ?_ ?_ ?_)) ⟨_, _, rfl, rfl⟩ ?_); (iterate 3 (focus (first | assumption | rfl | omega | (simp; done) | (simp; omega) | (simp_all; done) | (simp_all; omega)))); rintro _ _ ⟨rfl, rfl⟩) | ((first | refine call0D (scopyView_ok _ _ _ _ _ ?_ ?_ ?_) ?_ | refine qcall0D (scopyView_ok _ _ _ _ _ ?_ ?_ ?_) ⟨_, _, rfl, rfl⟩ ?_); (iterate 3 (focus (first | assumption | rfl | omega | (simp; done) | (simp; omega) | (simp_all; done) | (simp_all; omega)))); rintro _ _ ⟨rfl, rfl⟩)); (try simp (maxSteps := 400000) (disch := omega) only [push_cast, seval, Bool.false_eq_true, List.length_replicate, hv]))
      | (refine awp_ret ⟨.inr rfl, [16000, 16016], [(16000, 1), (16016, 1)], _, by decide, rfl, ?_⟩; (try simp (maxSteps := 400000) (disch := omega) only [push_cast, seval, Bool.false_eq_true, List.length_replicate, ↓allMem_nil, ↓allMem_cons, ↓List.map_cons, ↓List.map_nil, hv]))))
    all_goals simp [MV, MVB, MVL]
  | true =>
    (repeat' (first
      | (first | refine awp_seq ?_ | refine awp_block ?_)
      | ((first | refine awp_reg ?_ | refine awp_condB ?_ | refine awp_skip ?_ | refine awp_exit ?_); simp (maxSteps := 400000) (disch := omega) only [push_cast, seval, Bool.false_eq_true, List.length_replicate, l37r0, l37r1, l37r2, l37r3, hv])
      | ((first | refine condB_split (fun h => ?_) (fun h => ?_) | refine gIf_split (fun h => ?_) (fun h => ?_) | refine qIf_split (fun h => ?_) (fun h => ?_)) <;> (try simp only [h]) <;> (try simp only [decide_eq_true_eq, decide_eq_false_iff_not, Bool.not_eq_true', Bool.not_eq_false', Bool.and_eq_true, Bool.or_eq_true, Bool.and_eq_false_iff, Bool.or_eq_false_iff, Int.not_le, Int.not_lt, bne_iff_ne, ne_eq, beq_iff_eq, Bool.not_eq_true, Bool.not_eq_false] at h) <;> (try simp only [h]) <;> (first | (exfalso; omega) | (focus (exfalso; simp_all; done)) | (simp (maxSteps := 400000) (disch := omega) only [push_cast, seval, Bool.false_eq_true, List.length_replicate, hv]) | skip))
      | ((first | refine callD_of false ?_ | refine qcallD_of false ?_); simp (maxSteps := 400000) (disch := omega) only [push_cast, seval, Bool.false_eq_true, List.length_replicate, hv])
      | ((first | ((first | refine call0D (BCall.ofP (svalidView_ok _ _ _ _ _ ?_ ?_ ?_)) ?_ | refine qcall0D (BCall.ofP (svalidView_ok _ _ _ _ _ ?_ ?_ ?_)) ⟨_, _, rfl, rfl⟩ ?_); (iterate 3 (focus (first | assumption | rfl | omega | (simp; done) | (simp; omega) | (simp_all; done) | (simp_all; omega)))); rintro _ _ ⟨rfl, rfl⟩) | ((first | refine call0D (scopyView_ok _ _ _ _ _ ?_ ?_ ?_) ?_ | refine qcall0D (scopyView_ok _ _ _ _ _ ?_ ?_ ?_) ⟨_, _, rfl, rfl⟩ ?_); (iterate 3 (focus (first | assumption | rfl | omega | (simp; done) | (simp; omega) | (simp_all; done) | (simp_all; omega)))); rintro _ _ ⟨rfl, rfl⟩)); (try simp (maxSteps := 400000) (disch := omega) only [push_cast, seval, Bool.false_eq_true, List.length_replicate, hv]))
      | (refine awp_ret ⟨.inr rfl, [144, 145], [], _, by decide, rfl, ?_⟩; (try simp (maxSteps := 400000) (disch := omega) only [push_cast, seval, Bool.false_eq_true, List.length_replicate, ↓allMem_nil, ↓allMem_cons, ↓List.map_cons, ↓List.map_nil, hv]))))
    all_goals simp [MV, MVB, MVL]


theorem stidy0_ok (b : Int) (sh st : List Int) (n m : Nat) (hn : sh.length = n) (hm : st.length = m) (hb : good4 sh ∧ pr sh = 0) : BCall Try.prog 63 [.agg [.int .i64 b, .own 0 n 1, .own 1 m 1]] [IL sh, IL st] (fun r H' => r = .agg [.int .i64 0, .own 0 n 1, .own 2 n 1] ∧ H' = [IL sh, IL st, IL (List.replicate n 0)]) := by
  subst hn hm
  obtain ⟨hg, hz⟩ := hb
  have hl := hg.2
  refine bcall_of (pins := [0, 1]) (pin := 2) l63_eq rfl rfl rfl ?_
  (repeat' (first
      | (first | refine awp_seq ?_ | refine awp_block ?_)
      | ((first | refine awp_reg ?_ | refine awp_draw (mid := l63r2a) (post := l63r2b) mixed (by decide) ?_ | refine awp_condB ?_ | refine awp_skip ?_ | refine awp_exit ?_); simp (maxSteps := 400000) (disch := omega) only [push_cast, seval, Bool.false_eq_true, List.length_replicate, l63r0, l63r1, l63r2a, l63r2b, l63r2, l63r3, hz])
      | ((first | refine condB_split (fun h => ?_) (fun h => ?_) | refine gIf_split (fun h => ?_) (fun h => ?_) | refine qIf_split (fun h => ?_) (fun h => ?_)) <;> (try simp only [h]) <;> (try simp only [decide_eq_true_eq, decide_eq_false_iff_not, Bool.not_eq_true', Bool.not_eq_false', Bool.and_eq_true, Bool.or_eq_true, Bool.and_eq_false_iff, Bool.or_eq_false_iff, Int.not_le, Int.not_lt, bne_iff_ne, ne_eq, beq_iff_eq, Bool.not_eq_true, Bool.not_eq_false] at h) <;> (try simp only [h]) <;> (first | (exfalso; omega) | (focus (exfalso; simp_all; done)) | (simp (maxSteps := 400000) (disch := omega) only [push_cast, seval, Bool.false_eq_true, List.length_replicate, hz]) | skip))
      | ((first | refine callD_of false ?_ | refine qcallD_of false ?_); simp (maxSteps := 400000) (disch := omega) only [push_cast, seval, Bool.false_eq_true, List.length_replicate, hz])
      | ((first | ((first | refine call0D (BCall.ofP (scount_ok _ _ ?_ ?_)) ?_ | refine qcall0D (BCall.ofP (scount_ok _ _ ?_ ?_)) ⟨_, _, rfl, rfl⟩ ?_); (iterate 2 (focus (first | assumption | rfl | omega | (simp; done) | (simp; omega) | (simp_all; done) | (simp_all; omega)))); rintro _ _ ⟨rfl, rfl⟩)); (try simp (maxSteps := 400000) (disch := omega) only [push_cast, seval, Bool.false_eq_true, List.length_replicate, hz]))
      | (refine awp_ret ⟨.inr rfl, [192], [], _, by decide, rfl, ?_⟩; (try simp (maxSteps := 400000) (disch := omega) only [push_cast, seval, Bool.false_eq_true, List.length_replicate, ↓allMem_nil, ↓allMem_cons, ↓List.map_cons, ↓List.map_nil, hz]))))
  all_goals simp [IL]
theorem stidy1_ok (b : Int) (sh st : List Int) (n m : Nat) (hn : sh.length = n) (hm : st.length = m) (hb : good4 sh ∧ ¬ pr sh = 0) : BCall Try.prog 63 [.agg [.int .i64 b, .own 0 n 1, .own 1 m 1]] [IL sh, IL st] (fun r H' => r = .agg [.int .i64 b, .own 0 n 1, .own 1 m 1] ∧ H' = [IL sh, IL st]) := by
  subst hn hm
  obtain ⟨hg, hz⟩ := hb
  have hl := hg.2
  refine bcall_of (pins := [0, 1]) (pin := 2) l63_eq rfl rfl rfl ?_
  (repeat' (first
      | (first | refine awp_seq ?_ | refine awp_block ?_)
      | ((first | refine awp_reg ?_ | refine awp_draw (mid := l63r2a) (post := l63r2b) mixed (by decide) ?_ | refine awp_condB ?_ | refine awp_skip ?_ | refine awp_exit ?_); simp (maxSteps := 400000) (disch := omega) only [push_cast, seval, Bool.false_eq_true, List.length_replicate, l63r0, l63r1, l63r2a, l63r2b, l63r2, l63r3, hz])
      | ((first | refine condB_split (fun h => ?_) (fun h => ?_) | refine gIf_split (fun h => ?_) (fun h => ?_) | refine qIf_split (fun h => ?_) (fun h => ?_)) <;> (try simp only [h]) <;> (try simp only [decide_eq_true_eq, decide_eq_false_iff_not, Bool.not_eq_true', Bool.not_eq_false', Bool.and_eq_true, Bool.or_eq_true, Bool.and_eq_false_iff, Bool.or_eq_false_iff, Int.not_le, Int.not_lt, bne_iff_ne, ne_eq, beq_iff_eq, Bool.not_eq_true, Bool.not_eq_false] at h) <;> (try simp only [h]) <;> (first | (exfalso; omega) | (focus (exfalso; simp_all; done)) | (simp (maxSteps := 400000) (disch := omega) only [push_cast, seval, Bool.false_eq_true, List.length_replicate, hz]) | skip))
      | ((first | refine callD_of false ?_ | refine qcallD_of false ?_); simp (maxSteps := 400000) (disch := omega) only [push_cast, seval, Bool.false_eq_true, List.length_replicate, hz])
      | ((first | ((first | refine call0D (BCall.ofP (scount_ok _ _ ?_ ?_)) ?_ | refine qcall0D (BCall.ofP (scount_ok _ _ ?_ ?_)) ⟨_, _, rfl, rfl⟩ ?_); (iterate 2 (focus (first | assumption | rfl | omega | (simp; done) | (simp; omega) | (simp_all; done) | (simp_all; omega)))); rintro _ _ ⟨rfl, rfl⟩)); (try simp (maxSteps := 400000) (disch := omega) only [push_cast, seval, Bool.false_eq_true, List.length_replicate, hz]))
      | (refine awp_ret ⟨.inr rfl, [], [], _, by decide, rfl, ?_⟩; (try simp (maxSteps := 400000) (disch := omega) only [push_cast, seval, Bool.false_eq_true, List.length_replicate, ↓allMem_nil, ↓allMem_cons, ↓List.map_cons, ↓List.map_nil, hz]))))


theorem swithout_ok (xs : List Int) (n : Nat) (k : Nat) (hn : xs.length = n) (hb : k < n ∧ n ≤ 1099511627776) : BCall Try.prog 62 [.rows false (IL xs) n, .int .i64 k] [] (OI (wo xs k)) := by
  subst hn
  obtain ⟨hb1, hb2⟩ := hb
  have hl := wo_length hb1
  refine bcall_of (pins := []) (pin := 0) l62_eq rfl rfl rfl ?_
  have hmin : min k xs.length = k := by omega
  have hl2 : (xs.take k).length = k := by simp; omega
  have hl3 : (xs.drop (k + 1)).length = xs.length - (k + 1) := by simp
  (repeat' (first
      | (first | refine awp_seq ?_ | refine awp_block ?_)
      | ((first | refine awp_reg ?_ | refine awp_drawX (mid := l62r1a) (post := l62r1b) [80] mixed (by decide) ?_ | refine awp_condB ?_ | refine awp_skip ?_ | refine awp_exit ?_); simp (maxSteps := 400000) (disch := omega) only [push_cast, seval, Bool.false_eq_true, List.length_replicate, l62r0, l62r1a, l62r1b, l62r1, IL_head, IL_tail, Nat.sub_zero, hmin, hl2, hl3, ← List.map_append])
      | ((first | refine condB_split (fun h => ?_) (fun h => ?_) | refine gIf_split (fun h => ?_) (fun h => ?_) | refine qIf_split (fun h => ?_) (fun h => ?_)) <;> (try simp only [h]) <;> (try simp only [decide_eq_true_eq, decide_eq_false_iff_not, Bool.not_eq_true', Bool.not_eq_false', Bool.and_eq_true, Bool.or_eq_true, Bool.and_eq_false_iff, Bool.or_eq_false_iff, Int.not_le, Int.not_lt, bne_iff_ne, ne_eq, beq_iff_eq, Bool.not_eq_true, Bool.not_eq_false] at h) <;> (try simp only [h]) <;> (first | (exfalso; omega) | (focus (exfalso; simp_all; done)) | (simp (maxSteps := 400000) (disch := omega) only [push_cast, seval, Bool.false_eq_true, List.length_replicate, IL_head, IL_tail, Nat.sub_zero, hmin, hl2, hl3, ← List.map_append]) | skip))
      | (refine awp_ret ⟨.inr rfl, [80], [], _, by decide, rfl, ?_⟩; (try simp (maxSteps := 400000) (disch := omega) only [push_cast, seval, Bool.false_eq_true, List.length_replicate, ↓allMem_nil, ↓allMem_cons, ↓List.map_cons, ↓List.map_nil, IL_head, IL_tail, Nat.sub_zero, hmin, hl2, hl3, ← List.map_append]))))
  have hl4 : xs.take k ++ xs.drop (k + 1) = wo xs k := rfl
  all_goals simp only [OI, hl4, hl]
  all_goals (refine ⟨?_, trivial⟩; congr 1; omega)

end Go.Proofs.Ytfkaejajkkbpmaa
