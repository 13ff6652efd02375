import Derived.Test.YtcfjemmoajdcoaaCKm5
import Derived.Test.YtcfjemmoajdcoaaCM1
import Derived.Test.YtcfjemmoajdcoaaCW3
set_option linter.unusedSimpArgs false
set_option linter.unusedVariables false
set_option linter.unnecessarySimpa false
set_option maxRecDepth 4000
set_option maxHeartbeats 4000000
namespace Go.Proofs.Ytcfjemmoajdcoaa
open VwM Vw Go

/-- A list and whether there is one: nothing without. -/
abbrev TB (v : Bool) (l : List Int) : AV → List (List AV) → Prop := fun r H' => r = .tup [.own 0 (MVL v l).length 1, .bool v] ∧ H' = [IL (MVL v l)]
theorem MVL_true (l : List Int) : MVL true l = l := rfl
theorem MVL_false (l : List Int) : MVL false l = [] := rfl
theorem two_facts {mem : List Int} {b b' : Int} {sh st sh' st' : List Int} (h : twoB mem b sh st b' sh' st' = true) : seeB mem b sh st = true ∧ seeB mem b' sh' st' = true ∧ sh = sh' := by
  simp only [twoB, Bool.and_eq_true, decide_eq_true_eq] at h
  exact ⟨h.1.1, h.1.2, h.2⟩
theorem take_facts {mem vals : List Int} {b : Int} {sh st : List Int} (h : takB mem b sh st vals = true) : seeB mem b sh st = true ∧ (vals.length : Int) = pr sh ∧ ∀ x ∈ vals, 0 ≤ x ∧ x ≤ 255 := by
  simp only [takB, Bool.and_eq_true, decide_eq_true_eq, allI_iff] at h
  exact ⟨h.1.1, h.1.2, h.2⟩


theorem sStore_ok (mem : List Int) (b : Int) (sh st vals : List Int) (q n m k : Nat) (hq : mem.length = q) (hn : sh.length = n) (hm : st.length = m) (hk : vals.length = k) (hb : (q ≤ 1099511627776 ∧ n ≤ 1099511627776 ∧ m ≤ 1099511627776) ∧ k ≤ 1099511627776) : BCall Try.prog 20 [.rows false (IL mem) q, .agg [.int .i64 b, .rows false (IL sh) n, .rows false (IL st) m], .rows false (IL vals) k] [] (TB (takB mem b sh st vals) (putL mem (offs b sh st) vals)) := by
  subst hq hn hm hk
  obtain ⟨hb0, hb3⟩ := hb
  refine bcall_of (pins := []) (pin := 0) l20_eq rfl rfl rfl ?_
  have hpl := putL_length mem (offs b sh st) vals
  cases h : takB mem b sh st vals with
  | true =>
    obtain ⟨h1, h2, h3⟩ := take_facts h
    obtain ⟨f1, f2, f3, f4, f5, f6⟩ := see_facts h1
    have h3' : allI vals 0 255 = true := allI_iff.2 h3
    have q1 : seeB mem b sh st = true ∧ (vals.length : Int) = pr sh := ⟨h1, h2⟩
    (repeat' (first
      | (first | refine awp_seq ?_ | refine awp_block ?_)
      | ((first | refine awp_reg ?_ | refine awp_condB ?_ | refine awp_skip ?_ | refine awp_exit ?_); simp (maxSteps := 400000) (disch := omega) only [push_cast, seval, l20r0, l20r1, l20r2, l20r3, h, h1, h2, h3'])
      | ((first | refine condB_split (fun h => ?_) (fun h => ?_) | refine gIf_split (fun h => ?_) (fun h => ?_) | refine qIf_split (fun h => ?_) (fun h => ?_)) <;> (try simp only [h]) <;> (try simp only [decide_eq_true_eq, decide_eq_false_iff_not, Bool.not_eq_true', Bool.not_eq_false', Bool.and_eq_true, Bool.or_eq_true, Bool.and_eq_false_iff, Bool.or_eq_false_iff, Int.not_le, Int.not_lt, bne_iff_ne, ne_eq, beq_iff_eq, Bool.not_eq_true, Bool.not_eq_false] at h) <;> (try simp only [h]) <;> (first | (exfalso; omega) | (focus (exfalso; simp_all; done)) | (simp (maxSteps := 400000) (disch := omega) only [push_cast, seval, h, h1, h2, h3']) | skip))
      | ((first | refine callD_of false ?_ | refine qcallD_of false ?_); simp (maxSteps := 400000) (disch := omega) only [push_cast, seval, h, h1, h2, h3'])
      | ((first | ((first | refine call0D (BCall.ofP (sees_ok _ _ _ _ _ _ _ ?_ ?_ ?_ ?_)) ?_ | refine qcall0D (BCall.ofP (sees_ok _ _ _ _ _ _ _ ?_ ?_ ?_ ?_)) ⟨_, _, rfl, rfl⟩ ?_); (iterate 4 (focus (first | assumption | rfl | omega | (simp <;> omega) | (simp_all <;> omega)))); rintro _ _ ⟨rfl, rfl⟩) | ((first | refine call0D (BCall.ofP (scount_ok _ _ ?_ ?_)) ?_ | refine qcall0D (BCall.ofP (scount_ok _ _ ?_ ?_)) ⟨_, _, rfl, rfl⟩ ?_); (iterate 2 (focus (first | assumption | rfl | omega | (simp <;> omega) | (simp_all <;> omega)))); rintro _ _ ⟨rfl, rfl⟩) | ((first | refine call0D (BCall.ofP (allIn_ok _ _ _ _ ?_ ?_)) ?_ | refine qcall0D (BCall.ofP (allIn_ok _ _ _ _ ?_ ?_)) ⟨_, _, rfl, rfl⟩ ?_); (iterate 2 (focus (first | assumption | rfl | omega | (simp <;> omega) | (simp_all <;> omega)))); rintro _ _ ⟨rfl, rfl⟩) | ((first | refine call0D (sput_ok _ _ _ _ _ _ _ _ _ ?_ ?_ ?_ ?_ ?_) ?_ | refine qcall0D (sput_ok _ _ _ _ _ _ _ _ _ ?_ ?_ ?_ ?_ ?_) ⟨_, _, rfl, rfl⟩ ?_); (iterate 5 (focus (first | assumption | rfl | omega | (simp <;> omega) | (simp_all <;> omega)))); rintro _ _ ⟨rfl, rfl⟩)) <;> (try simp (maxSteps := 400000) (disch := omega) only [push_cast, seval, h, h1, h2, h3']))
      | (refine awp_ret ⟨.inr rfl, [448], [], _, by decide, rfl, ?_⟩; (try simp (maxSteps := 400000) (disch := omega) only [push_cast, seval, ↓allMem_nil, ↓allMem_cons, ↓List.map_cons, ↓List.map_nil, h, h1, h2, h3']))))
    all_goals simp [TB, MVL]
  | false =>
    cases h1 : seeB mem b sh st with
    | false =>
      (repeat' (first
      | (first | refine awp_seq ?_ | refine awp_block ?_)
      | ((first | refine awp_reg ?_ | refine awp_condB ?_ | refine awp_skip ?_ | refine awp_exit ?_); simp (maxSteps := 400000) (disch := omega) only [push_cast, seval, l20r0, l20r1, l20r2, l20r3, h, h1])
      | ((first | refine condB_split (fun h => ?_) (fun h => ?_) | refine gIf_split (fun h => ?_) (fun h => ?_) | refine qIf_split (fun h => ?_) (fun h => ?_)) <;> (try simp only [h]) <;> (try simp only [decide_eq_true_eq, decide_eq_false_iff_not, Bool.not_eq_true', Bool.not_eq_false', Bool.and_eq_true, Bool.or_eq_true, Bool.and_eq_false_iff, Bool.or_eq_false_iff, Int.not_le, Int.not_lt, bne_iff_ne, ne_eq, beq_iff_eq, Bool.not_eq_true, Bool.not_eq_false] at h) <;> (try simp only [h]) <;> (first | (exfalso; omega) | (focus (exfalso; simp_all; done)) | (simp (maxSteps := 400000) (disch := omega) only [push_cast, seval, h, h1]) | skip))
      | ((first | refine callD_of false ?_ | refine qcallD_of false ?_); simp (maxSteps := 400000) (disch := omega) only [push_cast, seval, h, h1])
      | ((first | ((first | refine call0D (BCall.ofP (sees_ok _ _ _ _ _ _ _ ?_ ?_ ?_ ?_)) ?_ | refine qcall0D (BCall.ofP (sees_ok _ _ _ _ _ _ _ ?_ ?_ ?_ ?_)) ⟨_, _, rfl, rfl⟩ ?_); (iterate 4 (focus (first | assumption | rfl | omega | (simp <;> omega) | (simp_all <;> omega)))); rintro _ _ ⟨rfl, rfl⟩) | ((first | refine call0D (BCall.ofP (scount_ok _ _ ?_ ?_)) ?_ | refine qcall0D (BCall.ofP (scount_ok _ _ ?_ ?_)) ⟨_, _, rfl, rfl⟩ ?_); (iterate 2 (focus (first | assumption | rfl | omega | (simp <;> omega) | (simp_all <;> omega)))); rintro _ _ ⟨rfl, rfl⟩) | ((first | refine call0D (BCall.ofP (allIn_ok _ _ _ _ ?_ ?_)) ?_ | refine qcall0D (BCall.ofP (allIn_ok _ _ _ _ ?_ ?_)) ⟨_, _, rfl, rfl⟩ ?_); (iterate 2 (focus (first | assumption | rfl | omega | (simp <;> omega) | (simp_all <;> omega)))); rintro _ _ ⟨rfl, rfl⟩) | ((first | refine call0D (sput_ok _ _ _ _ _ _ _ _ _ ?_ ?_ ?_ ?_ ?_) ?_ | refine qcall0D (sput_ok _ _ _ _ _ _ _ _ _ ?_ ?_ ?_ ?_ ?_) ⟨_, _, rfl, rfl⟩ ?_); (iterate 5 (focus (first | assumption | rfl | omega | (simp <;> omega) | (simp_all <;> omega)))); rintro _ _ ⟨rfl, rfl⟩)) <;> (try simp (maxSteps := 400000) (disch := omega) only [push_cast, seval, h, h1]))
      | (refine awp_ret ⟨.inr rfl, [16000], [(16000, 1)], _, by decide, rfl, ?_⟩; (try simp (maxSteps := 400000) (disch := omega) only [push_cast, seval, ↓allMem_nil, ↓allMem_cons, ↓List.map_cons, ↓List.map_nil, h, h1]))))
      all_goals simp [TB, MVL]
    | true =>
    obtain ⟨f1, f2, f3, f4, f5, f6⟩ := see_facts h1
    by_cases h2 : (vals.length : Int) = pr sh
    · have h3 : allI vals 0 255 = false := by
        rw [Bool.eq_false_iff]
        intro h3
        simp [takB, h1, h2, h3] at h
      (repeat' (first
      | (first | refine awp_seq ?_ | refine awp_block ?_)
      | ((first | refine awp_reg ?_ | refine awp_condB ?_ | refine awp_skip ?_ | refine awp_exit ?_); simp (maxSteps := 400000) (disch := omega) only [push_cast, seval, l20r0, l20r1, l20r2, l20r3, h, h1, h2, h3])
      | ((first | refine condB_split (fun h => ?_) (fun h => ?_) | refine gIf_split (fun h => ?_) (fun h => ?_) | refine qIf_split (fun h => ?_) (fun h => ?_)) <;> (try simp only [h]) <;> (try simp only [decide_eq_true_eq, decide_eq_false_iff_not, Bool.not_eq_true', Bool.not_eq_false', Bool.and_eq_true, Bool.or_eq_true, Bool.and_eq_false_iff, Bool.or_eq_false_iff, Int.not_le, Int.not_lt, bne_iff_ne, ne_eq, beq_iff_eq, Bool.not_eq_true, Bool.not_eq_false] at h) <;> (try simp only [h]) <;> (first | (exfalso; omega) | (focus (exfalso; simp_all; done)) | (simp (maxSteps := 400000) (disch := omega) only [push_cast, seval, h, h1, h2, h3]) | skip))
      | ((first | refine callD_of false ?_ | refine qcallD_of false ?_); simp (maxSteps := 400000) (disch := omega) only [push_cast, seval, h, h1, h2, h3])
      | ((first | ((first | refine call0D (BCall.ofP (sees_ok _ _ _ _ _ _ _ ?_ ?_ ?_ ?_)) ?_ | refine qcall0D (BCall.ofP (sees_ok _ _ _ _ _ _ _ ?_ ?_ ?_ ?_)) ⟨_, _, rfl, rfl⟩ ?_); (iterate 4 (focus (first | assumption | rfl | omega | (simp <;> omega) | (simp_all <;> omega)))); rintro _ _ ⟨rfl, rfl⟩) | ((first | refine call0D (BCall.ofP (scount_ok _ _ ?_ ?_)) ?_ | refine qcall0D (BCall.ofP (scount_ok _ _ ?_ ?_)) ⟨_, _, rfl, rfl⟩ ?_); (iterate 2 (focus (first | assumption | rfl | omega | (simp <;> omega) | (simp_all <;> omega)))); rintro _ _ ⟨rfl, rfl⟩) | ((first | refine call0D (BCall.ofP (allIn_ok _ _ _ _ ?_ ?_)) ?_ | refine qcall0D (BCall.ofP (allIn_ok _ _ _ _ ?_ ?_)) ⟨_, _, rfl, rfl⟩ ?_); (iterate 2 (focus (first | assumption | rfl | omega | (simp <;> omega) | (simp_all <;> omega)))); rintro _ _ ⟨rfl, rfl⟩) | ((first | refine call0D (sput_ok _ _ _ _ _ _ _ _ _ ?_ ?_ ?_ ?_ ?_) ?_ | refine qcall0D (sput_ok _ _ _ _ _ _ _ _ _ ?_ ?_ ?_ ?_ ?_) ⟨_, _, rfl, rfl⟩ ?_); (iterate 5 (focus (first | assumption | rfl | omega | (simp <;> omega) | (simp_all <;> omega)))); rintro _ _ ⟨rfl, rfl⟩)) <;> (try simp (maxSteps := 400000) (disch := omega) only [push_cast, seval, h, h1, h2, h3]))
      | (refine awp_ret ⟨.inr rfl, [16000], [(16000, 1)], _, by decide, rfl, ?_⟩; (try simp (maxSteps := 400000) (disch := omega) only [push_cast, seval, ↓allMem_nil, ↓allMem_cons, ↓List.map_cons, ↓List.map_nil, h, h1, h2, h3]))))
      all_goals simp [TB, MVL]
    · (repeat' (first
      | (first | refine awp_seq ?_ | refine awp_block ?_)
      | ((first | refine awp_reg ?_ | refine awp_condB ?_ | refine awp_skip ?_ | refine awp_exit ?_); simp (maxSteps := 400000) (disch := omega) only [push_cast, seval, l20r0, l20r1, l20r2, l20r3, h, h1, h2])
      | ((first | refine condB_split (fun h => ?_) (fun h => ?_) | refine gIf_split (fun h => ?_) (fun h => ?_) | refine qIf_split (fun h => ?_) (fun h => ?_)) <;> (try simp only [h]) <;> (try simp only [decide_eq_true_eq, decide_eq_false_iff_not, Bool.not_eq_true', Bool.not_eq_false', Bool.and_eq_true, Bool.or_eq_true, Bool.and_eq_false_iff, Bool.or_eq_false_iff, Int.not_le, Int.not_lt, bne_iff_ne, ne_eq, beq_iff_eq, Bool.not_eq_true, Bool.not_eq_false] at h) <;> (try simp only [h]) <;> (first | (exfalso; omega) | (focus (exfalso; simp_all; done)) | (simp (maxSteps := 400000) (disch := omega) only [push_cast, seval, h, h1, h2]) | skip))
      | ((first | refine callD_of false ?_ | refine qcallD_of false ?_); simp (maxSteps := 400000) (disch := omega) only [push_cast, seval, h, h1, h2])
      | ((first | ((first | refine call0D (BCall.ofP (sees_ok _ _ _ _ _ _ _ ?_ ?_ ?_ ?_)) ?_ | refine qcall0D (BCall.ofP (sees_ok _ _ _ _ _ _ _ ?_ ?_ ?_ ?_)) ⟨_, _, rfl, rfl⟩ ?_); (iterate 4 (focus (first | assumption | rfl | omega | (simp <;> omega) | (simp_all <;> omega)))); rintro _ _ ⟨rfl, rfl⟩) | ((first | refine call0D (BCall.ofP (scount_ok _ _ ?_ ?_)) ?_ | refine qcall0D (BCall.ofP (scount_ok _ _ ?_ ?_)) ⟨_, _, rfl, rfl⟩ ?_); (iterate 2 (focus (first | assumption | rfl | omega | (simp <;> omega) | (simp_all <;> omega)))); rintro _ _ ⟨rfl, rfl⟩) | ((first | refine call0D (BCall.ofP (allIn_ok _ _ _ _ ?_ ?_)) ?_ | refine qcall0D (BCall.ofP (allIn_ok _ _ _ _ ?_ ?_)) ⟨_, _, rfl, rfl⟩ ?_); (iterate 2 (focus (first | assumption | rfl | omega | (simp <;> omega) | (simp_all <;> omega)))); rintro _ _ ⟨rfl, rfl⟩) | ((first | refine call0D (sput_ok _ _ _ _ _ _ _ _ _ ?_ ?_ ?_ ?_ ?_) ?_ | refine qcall0D (sput_ok _ _ _ _ _ _ _ _ _ ?_ ?_ ?_ ?_ ?_) ⟨_, _, rfl, rfl⟩ ?_); (iterate 5 (focus (first | assumption | rfl | omega | (simp <;> omega) | (simp_all <;> omega)))); rintro _ _ ⟨rfl, rfl⟩)) <;> (try simp (maxSteps := 400000) (disch := omega) only [push_cast, seval, h, h1, h2]))
      | (refine awp_ret ⟨.inr rfl, [16000], [(16000, 1)], _, by decide, rfl, ?_⟩; (try simp (maxSteps := 400000) (disch := omega) only [push_cast, seval, ↓allMem_nil, ↓allMem_cons, ↓List.map_cons, ↓List.map_nil, h, h1, h2]))))
      all_goals simp [TB, MVL]


theorem iStore_ok (mem : List Int) (b : Int) (sh st vals : List Int) (q n m k : Nat) (hq : mem.length = q) (hn : sh.length = n) (hm : st.length = m) (hk : vals.length = k) (hb : (q ≤ 1099511627776 ∧ n ≤ 1099511627776 ∧ m ≤ 1099511627776) ∧ k ≤ 1099511627776) : BCall Try.prog 19 [.rows false (IL mem) q, .agg [.int .i64 b, .rows false (IL sh) n, .rows false (IL st) m], .rows false (IL vals) k] [] (TB (takB mem b sh st vals) (putL mem (offs b sh st) vals)) := by
  subst hq hn hm hk
  obtain ⟨hb0, hb3⟩ := hb
  refine bcall_of (pins := []) (pin := 0) l19_eq rfl rfl rfl ?_
  have hpl := putL_length mem (offs b sh st) vals
  cases h : takB mem b sh st vals with
  | true =>
    obtain ⟨h1, h2, h3⟩ := take_facts h
    obtain ⟨f1, f2, f3, f4, f5, f6⟩ := see_facts h1
    have h3' : allI vals 0 255 = true := allI_iff.2 h3
    have q1 : seeB mem b sh st = true ∧ (vals.length : Int) = pr sh := ⟨h1, h2⟩
    (repeat' (first
      | (first | refine awp_seq ?_ | refine awp_block ?_)
      | ((first | refine awp_reg ?_ | refine awp_condB ?_ | refine awp_skip ?_ | refine awp_exit ?_); simp (maxSteps := 400000) (disch := omega) only [push_cast, seval, l19r0, l19r1, l19r2, l19r3, h, h1, h2, h3'])
      | ((first | refine condB_split (fun h => ?_) (fun h => ?_) | refine gIf_split (fun h => ?_) (fun h => ?_) | refine qIf_split (fun h => ?_) (fun h => ?_)) <;> (try simp only [h]) <;> (try simp only [decide_eq_true_eq, decide_eq_false_iff_not, Bool.not_eq_true', Bool.not_eq_false', Bool.and_eq_true, Bool.or_eq_true, Bool.and_eq_false_iff, Bool.or_eq_false_iff, Int.not_le, Int.not_lt, bne_iff_ne, ne_eq, beq_iff_eq, Bool.not_eq_true, Bool.not_eq_false] at h) <;> (try simp only [h]) <;> (first | (exfalso; omega) | (focus (exfalso; simp_all; done)) | (simp (maxSteps := 400000) (disch := omega) only [push_cast, seval, h, h1, h2, h3']) | skip))
      | ((first | refine callD_of false ?_ | refine qcallD_of false ?_); simp (maxSteps := 400000) (disch := omega) only [push_cast, seval, h, h1, h2, h3'])
      | ((first | ((first | refine call0D (BCall.ofP (canTake_ok _ _ _ _ _ _ _ _ _ ?_ ?_ ?_ ?_ ?_)) ?_ | refine qcall0D (BCall.ofP (canTake_ok _ _ _ _ _ _ _ _ _ ?_ ?_ ?_ ?_ ?_)) ⟨_, _, rfl, rfl⟩ ?_); (iterate 5 (focus (first | assumption | rfl | omega | (simp <;> omega) | (simp_all <;> omega)))); rintro _ _ ⟨rfl, rfl⟩) | ((first | refine call0D (stored_ok _ _ _ _ _ _ _ _ _ ?_ ?_ ?_ ?_ ?_) ?_ | refine qcall0D (stored_ok _ _ _ _ _ _ _ _ _ ?_ ?_ ?_ ?_ ?_) ⟨_, _, rfl, rfl⟩ ?_); (iterate 5 (focus (first | assumption | rfl | omega | (simp <;> omega) | (simp_all <;> omega)))); rintro _ _ ⟨rfl, rfl⟩)) <;> (try simp (maxSteps := 400000) (disch := omega) only [push_cast, seval, h, h1, h2, h3']))
      | (refine awp_ret ⟨.inr rfl, [256], [], _, by decide, rfl, ?_⟩; (try simp (maxSteps := 400000) (disch := omega) only [push_cast, seval, ↓allMem_nil, ↓allMem_cons, ↓List.map_cons, ↓List.map_nil, h, h1, h2, h3']))))
    all_goals simp [TB, MVL]
  | false =>
    cases h1 : seeB mem b sh st with
    | false =>
      (repeat' (first
      | (first | refine awp_seq ?_ | refine awp_block ?_)
      | ((first | refine awp_reg ?_ | refine awp_condB ?_ | refine awp_skip ?_ | refine awp_exit ?_); simp (maxSteps := 400000) (disch := omega) only [push_cast, seval, l19r0, l19r1, l19r2, l19r3, h, h1])
      | ((first | refine condB_split (fun h => ?_) (fun h => ?_) | refine gIf_split (fun h => ?_) (fun h => ?_) | refine qIf_split (fun h => ?_) (fun h => ?_)) <;> (try simp only [h]) <;> (try simp only [decide_eq_true_eq, decide_eq_false_iff_not, Bool.not_eq_true', Bool.not_eq_false', Bool.and_eq_true, Bool.or_eq_true, Bool.and_eq_false_iff, Bool.or_eq_false_iff, Int.not_le, Int.not_lt, bne_iff_ne, ne_eq, beq_iff_eq, Bool.not_eq_true, Bool.not_eq_false] at h) <;> (try simp only [h]) <;> (first | (exfalso; omega) | (focus (exfalso; simp_all; done)) | (simp (maxSteps := 400000) (disch := omega) only [push_cast, seval, h, h1]) | skip))
      | ((first | refine callD_of false ?_ | refine qcallD_of false ?_); simp (maxSteps := 400000) (disch := omega) only [push_cast, seval, h, h1])
      | ((first | ((first | refine call0D (BCall.ofP (canTake_ok _ _ _ _ _ _ _ _ _ ?_ ?_ ?_ ?_ ?_)) ?_ | refine qcall0D (BCall.ofP (canTake_ok _ _ _ _ _ _ _ _ _ ?_ ?_ ?_ ?_ ?_)) ⟨_, _, rfl, rfl⟩ ?_); (iterate 5 (focus (first | assumption | rfl | omega | (simp <;> omega) | (simp_all <;> omega)))); rintro _ _ ⟨rfl, rfl⟩) | ((first | refine call0D (stored_ok _ _ _ _ _ _ _ _ _ ?_ ?_ ?_ ?_ ?_) ?_ | refine qcall0D (stored_ok _ _ _ _ _ _ _ _ _ ?_ ?_ ?_ ?_ ?_) ⟨_, _, rfl, rfl⟩ ?_); (iterate 5 (focus (first | assumption | rfl | omega | (simp <;> omega) | (simp_all <;> omega)))); rintro _ _ ⟨rfl, rfl⟩)) <;> (try simp (maxSteps := 400000) (disch := omega) only [push_cast, seval, h, h1]))
      | (refine awp_ret ⟨.inr rfl, [16000], [(16000, 1)], _, by decide, rfl, ?_⟩; (try simp (maxSteps := 400000) (disch := omega) only [push_cast, seval, ↓allMem_nil, ↓allMem_cons, ↓List.map_cons, ↓List.map_nil, h, h1]))))
      all_goals simp [TB, MVL]
    | true =>
    obtain ⟨f1, f2, f3, f4, f5, f6⟩ := see_facts h1
    by_cases h2 : (vals.length : Int) = pr sh
    · have h3 : allI vals 0 255 = false := by
        rw [Bool.eq_false_iff]
        intro h3
        simp [takB, h1, h2, h3] at h
      (repeat' (first
      | (first | refine awp_seq ?_ | refine awp_block ?_)
      | ((first | refine awp_reg ?_ | refine awp_condB ?_ | refine awp_skip ?_ | refine awp_exit ?_); simp (maxSteps := 400000) (disch := omega) only [push_cast, seval, l19r0, l19r1, l19r2, l19r3, h, h1, h2, h3])
      | ((first | refine condB_split (fun h => ?_) (fun h => ?_) | refine gIf_split (fun h => ?_) (fun h => ?_) | refine qIf_split (fun h => ?_) (fun h => ?_)) <;> (try simp only [h]) <;> (try simp only [decide_eq_true_eq, decide_eq_false_iff_not, Bool.not_eq_true', Bool.not_eq_false', Bool.and_eq_true, Bool.or_eq_true, Bool.and_eq_false_iff, Bool.or_eq_false_iff, Int.not_le, Int.not_lt, bne_iff_ne, ne_eq, beq_iff_eq, Bool.not_eq_true, Bool.not_eq_false] at h) <;> (try simp only [h]) <;> (first | (exfalso; omega) | (focus (exfalso; simp_all; done)) | (simp (maxSteps := 400000) (disch := omega) only [push_cast, seval, h, h1, h2, h3]) | skip))
      | ((first | refine callD_of false ?_ | refine qcallD_of false ?_); simp (maxSteps := 400000) (disch := omega) only [push_cast, seval, h, h1, h2, h3])
      | ((first | ((first | refine call0D (BCall.ofP (canTake_ok _ _ _ _ _ _ _ _ _ ?_ ?_ ?_ ?_ ?_)) ?_ | refine qcall0D (BCall.ofP (canTake_ok _ _ _ _ _ _ _ _ _ ?_ ?_ ?_ ?_ ?_)) ⟨_, _, rfl, rfl⟩ ?_); (iterate 5 (focus (first | assumption | rfl | omega | (simp <;> omega) | (simp_all <;> omega)))); rintro _ _ ⟨rfl, rfl⟩) | ((first | refine call0D (stored_ok _ _ _ _ _ _ _ _ _ ?_ ?_ ?_ ?_ ?_) ?_ | refine qcall0D (stored_ok _ _ _ _ _ _ _ _ _ ?_ ?_ ?_ ?_ ?_) ⟨_, _, rfl, rfl⟩ ?_); (iterate 5 (focus (first | assumption | rfl | omega | (simp <;> omega) | (simp_all <;> omega)))); rintro _ _ ⟨rfl, rfl⟩)) <;> (try simp (maxSteps := 400000) (disch := omega) only [push_cast, seval, h, h1, h2, h3]))
      | (refine awp_ret ⟨.inr rfl, [16000], [(16000, 1)], _, by decide, rfl, ?_⟩; (try simp (maxSteps := 400000) (disch := omega) only [push_cast, seval, ↓allMem_nil, ↓allMem_cons, ↓List.map_cons, ↓List.map_nil, h, h1, h2, h3]))))
      all_goals simp [TB, MVL]
    · (repeat' (first
      | (first | refine awp_seq ?_ | refine awp_block ?_)
      | ((first | refine awp_reg ?_ | refine awp_condB ?_ | refine awp_skip ?_ | refine awp_exit ?_); simp (maxSteps := 400000) (disch := omega) only [push_cast, seval, l19r0, l19r1, l19r2, l19r3, h, h1, h2])
      | ((first | refine condB_split (fun h => ?_) (fun h => ?_) | refine gIf_split (fun h => ?_) (fun h => ?_) | refine qIf_split (fun h => ?_) (fun h => ?_)) <;> (try simp only [h]) <;> (try simp only [decide_eq_true_eq, decide_eq_false_iff_not, Bool.not_eq_true', Bool.not_eq_false', Bool.and_eq_true, Bool.or_eq_true, Bool.and_eq_false_iff, Bool.or_eq_false_iff, Int.not_le, Int.not_lt, bne_iff_ne, ne_eq, beq_iff_eq, Bool.not_eq_true, Bool.not_eq_false] at h) <;> (try simp only [h]) <;> (first | (exfalso; omega) | (focus (exfalso; simp_all; done)) | (simp (maxSteps := 400000) (disch := omega) only [push_cast, seval, h, h1, h2]) | skip))
      | ((first | refine callD_of false ?_ | refine qcallD_of false ?_); simp (maxSteps := 400000) (disch := omega) only [push_cast, seval, h, h1, h2])
      | ((first | ((first | refine call0D (BCall.ofP (canTake_ok _ _ _ _ _ _ _ _ _ ?_ ?_ ?_ ?_ ?_)) ?_ | refine qcall0D (BCall.ofP (canTake_ok _ _ _ _ _ _ _ _ _ ?_ ?_ ?_ ?_ ?_)) ⟨_, _, rfl, rfl⟩ ?_); (iterate 5 (focus (first | assumption | rfl | omega | (simp <;> omega) | (simp_all <;> omega)))); rintro _ _ ⟨rfl, rfl⟩) | ((first | refine call0D (stored_ok _ _ _ _ _ _ _ _ _ ?_ ?_ ?_ ?_ ?_) ?_ | refine qcall0D (stored_ok _ _ _ _ _ _ _ _ _ ?_ ?_ ?_ ?_ ?_) ⟨_, _, rfl, rfl⟩ ?_); (iterate 5 (focus (first | assumption | rfl | omega | (simp <;> omega) | (simp_all <;> omega)))); rintro _ _ ⟨rfl, rfl⟩)) <;> (try simp (maxSteps := 400000) (disch := omega) only [push_cast, seval, h, h1, h2]))
      | (refine awp_ret ⟨.inr rfl, [16000], [(16000, 1)], _, by decide, rfl, ?_⟩; (try simp (maxSteps := 400000) (disch := omega) only [push_cast, seval, ↓allMem_nil, ↓allMem_cons, ↓List.map_cons, ↓List.map_nil, h, h1, h2]))))
      all_goals simp [TB, MVL]


/-- The cells with different values, of memories with as many cells. -/
def chB (a b : List Int) : Bool := vMem a && vMem b && decide (a.length = b.length)


def sumV (mem : List Int) (b : Int) (sh st : List Int) : Int := if seeB mem b sh st = true then sumT (takesL mem (offs b sh st)) (offs b sh st).length else -1
theorem takes_bound {mem L : List Int} (h : ∀ x ∈ mem, 0 ≤ x ∧ x ≤ 255) : ∀ x ∈ takesL mem L, 0 ≤ x ∧ x ≤ 255 := by
  intro x hx
  unfold takesL at hx
  obtain ⟨i, _, rfl⟩ := List.mem_map.1 hx
  by_cases hl : i.toNat < mem.length
  · exact h _ (getD_mem hl)
  · rw [List.getD, List.getElem?_eq_none (Nat.le_of_not_lt hl)]
    exact ⟨Int.le_refl 0, by decide⟩

end Go.Proofs.Ytcfjemmoajdcoaa
