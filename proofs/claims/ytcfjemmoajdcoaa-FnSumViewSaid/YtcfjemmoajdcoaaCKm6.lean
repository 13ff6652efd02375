import Derived.Test.YtcfjemmoajdcoaaCKm5
import Derived.Test.YtcfjemmoajdcoaaCM1
import Derived.Test.YtcfjemmoajdcoaaCW3
set_option linter.unusedSimpArgs false
set_option linter.unusedVariables false
set_option maxRecDepth 4000
set_option maxHeartbeats 4000000
namespace Go.Proofs.Ytcfjemmoajdcoaa
open VwM Vw Go

/-- A list and whether there is one: nothing without. -/
abbrev TB (v : Bool) (l : List Int) : AV → List (List AV) → Prop := fun r H' => r = .tup [.own 0 (MVL v l).length 1, .bool v] ∧ H' = [IL (MVL v l)]
theorem MVL_true (l : List Int) : MVL true l = l := rfl
theorem MVL_false (l : List Int) : MVL false l = [] := rfl
theorem two_facts {mem : List Int} {b b' : Int} {sh st sh' st' : List Int} (h : twoB mem b sh st b' sh' st' = true) : seeB mem b sh st = true ∧ seeB mem b' sh' st' = true ∧ sh = sh' := by
  simp only [twoB, Bool.and_eq_true, decide_eq_true_eq] at h
  exact ⟨h.1.1, h.1.2, h.2⟩
theorem take_facts {mem vals : List Int} {b : Int} {sh st : List Int} (h : takB mem b sh st vals = true) : seeB mem b sh st = true ∧ (vals.length : Int) = pr sh ∧ ∀ x ∈ vals, 0 ≤ x ∧ x ≤ 255 := by
  simp only [takB, Bool.and_eq_true, decide_eq_true_eq, allI_iff] at h
  exact ⟨h.1.1, h.1.2, h.2⟩


theorem iLoad_ok (mem : List Int) (b : Int) (sh st : List Int) (q n m : Nat) (hq : mem.length = q) (hn : sh.length = n) (hm : st.length = m) (hb : q ≤ 1099511627776 ∧ n ≤ 1099511627776 ∧ m ≤ 1099511627776) : BCall Try.prog 11 [.rows false (IL mem) q, .agg [.int .i64 b, .rows false (IL sh) n, .rows false (IL st) m]] [] (OI (MVL (seeB mem b sh st) (takesL mem (offs b sh st)))) := by
  subst hq hn hm
  refine bcall_of (pins := []) (pin := 0) l11_eq rfl rfl rfl ?_
  cases h1 : seeB mem b sh st with
  | false =>
    (repeat' (first
 | (first | refine awp_seq ?_ | refine awp_block ?_)
 | ((first | refine awp_reg ?_ | refine awp_condB ?_ | refine awp_skip ?_ | refine awp_exit ?_); simp (maxSteps := 400000) (disch := omega) only [push_cast, seval, l11r0, l11r1, l11r2, l11r3, h1])
 | ((first | refine condB_split (fun h => ?_) (fun h => ?_) | refine gIf_split (fun h => ?_) (fun h => ?_) | refine qIf_split (fun h => ?_) (fun h => ?_)) <;> (try simp only [h]) <;> (try simp only [decide_eq_true_eq, decide_eq_false_iff_not, Bool.not_eq_true', Bool.not_eq_false', Bool.and_eq_true, Bool.or_eq_true, Bool.and_eq_false_iff, Bool.or_eq_false_iff, Int.not_le, Int.not_lt, bne_iff_ne, ne_eq, beq_iff_eq, Bool.not_eq_true, Bool.not_eq_false] at h) <;> (try simp only [h]) <;> (first | (exfalso; omega) | (focus (exfalso; simp_all; done)) | (simp (maxSteps := 400000) (disch := omega) only [push_cast, seval, h1]) | skip))
 | ((first | refine callD_of false ?_ | refine qcallD_of false ?_); simp (maxSteps := 400000) (disch := omega) only [push_cast, seval, h1])
 | ((first | ((first | refine call0D (BCall.ofP (holds_ok _ _ _ _ _ _ _ ?_ ?_ ?_ ?_)) ?_ | refine qcall0D (BCall.ofP (holds_ok _ _ _ _ _ _ _ ?_ ?_ ?_ ?_)) ⟨_, _, rfl, rfl⟩ ?_); (iterate 4 (focus (first | assumption | rfl | omega | (simp <;> omega) | (simp_all <;> omega)))); rintro _ _ ⟨rfl, rfl⟩) | ((first | refine call0D (loaded_ok _ _ _ _ _ _ _ ?_ ?_ ?_ ?_) ?_ | refine qcall0D (loaded_ok _ _ _ _ _ _ _ ?_ ?_ ?_ ?_) ⟨_, _, rfl, rfl⟩ ?_); (iterate 4 (focus (first | assumption | rfl | omega | (simp <;> omega) | (simp_all <;> omega)))); rintro _ _ ⟨rfl, rfl⟩)) <;> (try simp (maxSteps := 400000) (disch := omega) only [push_cast, seval, h1]))
 | (refine awp_ret ⟨.inr rfl, [16000], [(16000, 1)], _, by decide, rfl, ?_⟩; (try simp (maxSteps := 400000) (disch := omega) only [push_cast, seval, ↓allMem_nil, ↓allMem_cons, ↓List.map_cons, ↓List.map_nil, h1]))))
    all_goals simp [OI, MVL]
  | true =>
    (repeat' (first
 | (first | refine awp_seq ?_ | refine awp_block ?_)
 | ((first | refine awp_reg ?_ | refine awp_condB ?_ | refine awp_skip ?_ | refine awp_exit ?_); simp (maxSteps := 400000) (disch := omega) only [push_cast, seval, l11r0, l11r1, l11r2, l11r3, h1])
 | ((first | refine condB_split (fun h => ?_) (fun h => ?_) | refine gIf_split (fun h => ?_) (fun h => ?_) | refine qIf_split (fun h => ?_) (fun h => ?_)) <;> (try simp only [h]) <;> (try simp only [decide_eq_true_eq, decide_eq_false_iff_not, Bool.not_eq_true', Bool.not_eq_false', Bool.and_eq_true, Bool.or_eq_true, Bool.and_eq_false_iff, Bool.or_eq_false_iff, Int.not_le, Int.not_lt, bne_iff_ne, ne_eq, beq_iff_eq, Bool.not_eq_true, Bool.not_eq_false] at h) <;> (try simp only [h]) <;> (first | (exfalso; omega) | (focus (exfalso; simp_all; done)) | (simp (maxSteps := 400000) (disch := omega) only [push_cast, seval, h1]) | skip))
 | ((first | refine callD_of false ?_ | refine qcallD_of false ?_); simp (maxSteps := 400000) (disch := omega) only [push_cast, seval, h1])
 | ((first | ((first | refine call0D (BCall.ofP (holds_ok _ _ _ _ _ _ _ ?_ ?_ ?_ ?_)) ?_ | refine qcall0D (BCall.ofP (holds_ok _ _ _ _ _ _ _ ?_ ?_ ?_ ?_)) ⟨_, _, rfl, rfl⟩ ?_); (iterate 4 (focus (first | assumption | rfl | omega | (simp <;> omega) | (simp_all <;> omega)))); rintro _ _ ⟨rfl, rfl⟩) | ((first | refine call0D (loaded_ok _ _ _ _ _ _ _ ?_ ?_ ?_ ?_) ?_ | refine qcall0D (loaded_ok _ _ _ _ _ _ _ ?_ ?_ ?_ ?_) ⟨_, _, rfl, rfl⟩ ?_); (iterate 4 (focus (first | assumption | rfl | omega | (simp <;> omega) | (simp_all <;> omega)))); rintro _ _ ⟨rfl, rfl⟩)) <;> (try simp (maxSteps := 400000) (disch := omega) only [push_cast, seval, h1]))
 | (refine awp_ret ⟨.inr rfl, [112], [], _, by decide, rfl, ?_⟩; (try simp (maxSteps := 400000) (disch := omega) only [push_cast, seval, ↓allMem_nil, ↓allMem_cons, ↓List.map_cons, ↓List.map_nil, h1]); (first | done | (show AV.own _ _ _ = _ ∧ _)))
 | (refine awp_ret ⟨.inr rfl, [176], [], _, by decide, rfl, ?_⟩; (try simp (maxSteps := 400000) (disch := omega) only [push_cast, seval, ↓allMem_nil, ↓allMem_cons, ↓List.map_cons, ↓List.map_nil, h1]); (first | done | (show AV.own _ _ _ = _ ∧ _)))))
    all_goals simp [OI, MVL]


/-- The cells with different values, of memories with as many cells. -/
def chB (a b : List Int) : Bool := vMem a && vMem b && decide (a.length = b.length)


def sumV (mem : List Int) (b : Int) (sh st : List Int) : Int := if seeB mem b sh st = true then sumT (takesL mem (offs b sh st)) (offs b sh st).length else -1
theorem takes_bound {mem L : List Int} (h : ∀ x ∈ mem, 0 ≤ x ∧ x ≤ 255) : ∀ x ∈ takesL mem L, 0 ≤ x ∧ x ≤ 255 := by
  intro x hx
  unfold takesL at hx
  obtain ⟨i, _, rfl⟩ := List.mem_map.1 hx
  by_cases hl : i.toNat < mem.length
  · exact h _ (getD_mem hl)
  · rw [List.getD, List.getElem?_eq_none (Nat.le_of_not_lt hl)]
    exact ⟨Int.le_refl 0, by decide⟩


set_option maxHeartbeats 8000000 in
theorem sSum_ok (mem : List Int) (b : Int) (sh st : List Int) (q n m : Nat) (hq : mem.length = q) (hn : sh.length = n) (hm : st.length = m) (hb : q ≤ 1099511627776 ∧ n ≤ 1099511627776 ∧ m ≤ 1099511627776) : PCall Try.prog 39 [.rows false (IL mem) q, .agg [.int .i64 b, .rows false (IL sh) n, .rows false (IL st) m]] (fun r => r = .int .i64 (sumV mem b sh st)) := by
  subst hq hn hm
  refine pcall_of l39_eq rfl ?_
  unfold sumV
  cases h1 : seeB mem b sh st with
  | false =>
    (repeat' (first
 | (first | refine awp_seq ?_ | refine awp_block ?_)
 | ((first | refine awp_reg ?_ | refine awp_condB ?_ | refine awp_skip ?_ | refine awp_exit ?_); simp (maxSteps := 400000) (disch := omega) only [push_cast, seval, l39r0, l39r1, l39r2, l39r3, l39r4, l39r5, l39r6, l39r7, l39r8, l39r9, h1])
 | ((first | refine condB_split (fun h => ?_) (fun h => ?_) | refine gIf_split (fun h => ?_) (fun h => ?_) | refine qIf_split (fun h => ?_) (fun h => ?_)) <;> (try simp only [h]) <;> (try simp only [decide_eq_true_eq, decide_eq_false_iff_not, Bool.not_eq_true', Bool.not_eq_false', Bool.and_eq_true, Bool.or_eq_true, Bool.and_eq_false_iff, Bool.or_eq_false_iff, Int.not_le, Int.not_lt, bne_iff_ne, ne_eq, beq_iff_eq, Bool.not_eq_true, Bool.not_eq_false] at h) <;> (try simp only [h]) <;> (first | (exfalso; omega) | (focus (exfalso; simp_all; done)) | (simp (maxSteps := 400000) (disch := omega) only [push_cast, seval, h1]) | skip))
 | ((first | refine callD_of false ?_ | refine qcallD_of false ?_); simp (maxSteps := 400000) (disch := omega) only [push_cast, seval, h1])
 | ((first | ((first | refine call0D (BCall.ofP (sees_ok _ _ _ _ _ _ _ ?_ ?_ ?_ ?_)) ?_ | refine qcall0D (BCall.ofP (sees_ok _ _ _ _ _ _ _ ?_ ?_ ?_ ?_)) ⟨_, _, rfl, rfl⟩ ?_); (iterate 4 (focus (first | assumption | rfl | omega | (simp <;> omega) | (simp_all <;> omega)))); rintro _ _ ⟨rfl, rfl⟩) | ((first | refine call0D (sload_ok _ _ _ _ _ _ _ ?_ ?_ ?_ ?_) ?_ | refine qcall0D (sload_ok _ _ _ _ _ _ _ ?_ ?_ ?_ ?_) ⟨_, _, rfl, rfl⟩ ?_); (iterate 4 (focus (first | assumption | rfl | omega | (simp <;> omega) | (simp_all <;> omega)))); rintro _ _ ⟨rfl, rfl⟩)) <;> (try simp (maxSteps := 400000) (disch := omega) only [push_cast, seval, h1]))
 | (refine awp_ret ⟨.inr rfl, _, rfl, ?_⟩; (try simp (maxSteps := 400000) (disch := omega) only [push_cast, seval, h1]))))
    all_goals simp
  | true =>
    obtain ⟨f1, f2, f3, f4, f5, f6⟩ := see_facts h1
    have hol := offs_length b sh st
    have tl := takesL_length mem (offs b sh st)
    have tb := takes_bound (L := offs b sh st) (vMem_spec.1 (seeB_spec.1 h1).1).2
    rw [if_pos rfl, ← tl]
    have hS60 : (takesL mem (offs b sh st)).length ≤ 60 := by omega
    generalize hS : takesL mem (offs b sh st) = S at *
    have sb := sumT_bound2 tb
    clear tb hol tl
    (repeat' (first
 | (first | refine awp_seq ?_ | refine awp_block ?_)
 | ((first | refine awp_reg ?_ | refine awp_condB ?_ | refine awp_skip ?_ | refine awp_exit ?_); simp (maxSteps := 400000) (disch := omega) only [push_cast, seval, l39r0, l39r1, l39r2, l39r3, l39r4, l39r5, l39r6, l39r7, l39r8, l39r9, h1, hS])
 | ((first | refine condB_split (fun h => ?_) (fun h => ?_) | refine gIf_split (fun h => ?_) (fun h => ?_) | refine qIf_split (fun h => ?_) (fun h => ?_)) <;> (try simp only [h]) <;> (try simp only [decide_eq_true_eq, decide_eq_false_iff_not, Bool.not_eq_true', Bool.not_eq_false', Bool.and_eq_true, Bool.or_eq_true, Bool.and_eq_false_iff, Bool.or_eq_false_iff, Int.not_le, Int.not_lt, bne_iff_ne, ne_eq, beq_iff_eq, Bool.not_eq_true, Bool.not_eq_false] at h) <;> (try simp only [h]) <;> (first | (exfalso; omega) | (focus (exfalso; simp_all; done)) | (simp (maxSteps := 400000) (disch := omega) only [push_cast, seval, h1, hS]) | skip))
 | ((first | refine callD_of false ?_ | refine qcallD_of false ?_); simp (maxSteps := 400000) (disch := omega) only [push_cast, seval, h1, hS])
 | ((first | ((first | refine call0D (BCall.ofP (sees_ok _ _ _ _ _ _ _ ?_ ?_ ?_ ?_)) ?_ | refine qcall0D (BCall.ofP (sees_ok _ _ _ _ _ _ _ ?_ ?_ ?_ ?_)) ⟨_, _, rfl, rfl⟩ ?_); (iterate 4 (focus (first | assumption | rfl | omega | (simp <;> omega) | (simp_all <;> omega)))); rintro _ _ ⟨rfl, rfl⟩) | ((first | refine call0D (sload_ok _ _ _ _ _ _ _ ?_ ?_ ?_ ?_) ?_ | refine qcall0D (sload_ok _ _ _ _ _ _ _ ?_ ?_ ?_ ?_) ⟨_, _, rfl, rfl⟩ ?_); (iterate 4 (focus (first | assumption | rfl | omega | (simp <;> omega) | (simp_all <;> omega)))); rintro _ _ ⟨rfl, rfl⟩)) <;> (try simp (maxSteps := 400000) (disch := omega) only [push_cast, seval, h1, hS]))
 | (refine awp_ret ⟨.inr rfl, _, rfl, ?_⟩; (try simp (maxSteps := 400000) (disch := omega) only [push_cast, seval, h1, hS]))))
    refine awp_loop (fun k : Nat => mkS [(5, .int .i64 (sumT S k)), (6, .own 224 S.length 1), (7, .int .i64 k)] [(224, IL S)])
      (fun k => k ≤ S.length) (fun k => S.length - k) 0 (Nat.zero_le _) ?_ ?_
    · (refine Sub.of_lists ?_ ?_ ?_ ?_ ?_ <;> simp [Vw.mkS, Vw.lk, Vw.hk, AV.inn, innL, innL_ints, innL_append, innL_rep, -List.map_set, -List.getD_eq_getElem?_getD, sumT])
    · intro k hk
      have b1 := sb k
      by_cases hlt : k < S.length
      · have b2 := sb (k + 1)
        simp only [sumT] at b2
        (repeat' (first
 | (first | refine awp_seq ?_ | refine awp_block ?_)
 | ((first | refine awp_reg ?_ | refine awp_condB ?_ | refine awp_skip ?_ | refine awp_exit ?_); simp (maxSteps := 400000) (disch := omega) only [push_cast, seval, l39r0, l39r1, l39r2, l39r3, l39r4, l39r5, l39r6, l39r7, l39r8, l39r9])
 | ((first | refine condB_split (fun h => ?_) (fun h => ?_) | refine gIf_split (fun h => ?_) (fun h => ?_) | refine qIf_split (fun h => ?_) (fun h => ?_)) <;> (try simp only [h]) <;> (try simp only [decide_eq_true_eq, decide_eq_false_iff_not, Bool.not_eq_true', Bool.not_eq_false', Bool.and_eq_true, Bool.or_eq_true, Bool.and_eq_false_iff, Bool.or_eq_false_iff, Int.not_le, Int.not_lt, bne_iff_ne, ne_eq, beq_iff_eq, Bool.not_eq_true, Bool.not_eq_false] at h) <;> (try simp only [h]) <;> (first | (exfalso; omega) | (focus (exfalso; simp_all; done)) | (simp (maxSteps := 400000) (disch := omega) only [push_cast, seval]) | skip))
 | ((first | refine callD_of false ?_ | refine qcallD_of false ?_); simp (maxSteps := 400000) (disch := omega) only [push_cast, seval])
 | ((first | ((first | refine call0D (BCall.ofP (sees_ok _ _ _ _ _ _ _ ?_ ?_ ?_ ?_)) ?_ | refine qcall0D (BCall.ofP (sees_ok _ _ _ _ _ _ _ ?_ ?_ ?_ ?_)) ⟨_, _, rfl, rfl⟩ ?_); (iterate 4 (focus (first | assumption | rfl | omega | (simp <;> omega) | (simp_all <;> omega)))); rintro _ _ ⟨rfl, rfl⟩) | ((first | refine call0D (sload_ok _ _ _ _ _ _ _ ?_ ?_ ?_ ?_) ?_ | refine qcall0D (sload_ok _ _ _ _ _ _ _ ?_ ?_ ?_ ?_) ⟨_, _, rfl, rfl⟩ ?_); (iterate 4 (focus (first | assumption | rfl | omega | (simp <;> omega) | (simp_all <;> omega)))); rintro _ _ ⟨rfl, rfl⟩)) <;> (try simp (maxSteps := 400000) (disch := omega) only [push_cast, seval]))
 | (refine awp_ret ⟨.inr rfl, _, rfl, ?_⟩; (try simp (maxSteps := 400000) (disch := omega) only [push_cast, seval]))))
        refine ⟨k + 1, by omega, by omega, ?_⟩
        (refine Sub.of_lists ?_ ?_ ?_ ?_ ?_ <;> simp [Vw.mkS, Vw.lk, Vw.hk, AV.inn, innL, innL_ints, innL_append, innL_rep, -List.map_set, -List.getD_eq_getElem?_getD, sumT])
      · have hke : k = S.length := by omega
        rw [hke]
        (repeat' (first
 | (first | refine awp_seq ?_ | refine awp_block ?_)
 | ((first | refine awp_reg ?_ | refine awp_condB ?_ | refine awp_skip ?_ | refine awp_exit ?_); simp (maxSteps := 400000) (disch := omega) only [push_cast, seval, l39r0, l39r1, l39r2, l39r3, l39r4, l39r5, l39r6, l39r7, l39r8, l39r9])
 | ((first | refine condB_split (fun h => ?_) (fun h => ?_) | refine gIf_split (fun h => ?_) (fun h => ?_) | refine qIf_split (fun h => ?_) (fun h => ?_)) <;> (try simp only [h]) <;> (try simp only [decide_eq_true_eq, decide_eq_false_iff_not, Bool.not_eq_true', Bool.not_eq_false', Bool.and_eq_true, Bool.or_eq_true, Bool.and_eq_false_iff, Bool.or_eq_false_iff, Int.not_le, Int.not_lt, bne_iff_ne, ne_eq, beq_iff_eq, Bool.not_eq_true, Bool.not_eq_false] at h) <;> (try simp only [h]) <;> (first | (exfalso; omega) | (focus (exfalso; simp_all; done)) | (simp (maxSteps := 400000) (disch := omega) only [push_cast, seval]) | skip))
 | ((first | refine callD_of false ?_ | refine qcallD_of false ?_); simp (maxSteps := 400000) (disch := omega) only [push_cast, seval])
 | ((first | ((first | refine call0D (BCall.ofP (sees_ok _ _ _ _ _ _ _ ?_ ?_ ?_ ?_)) ?_ | refine qcall0D (BCall.ofP (sees_ok _ _ _ _ _ _ _ ?_ ?_ ?_ ?_)) ⟨_, _, rfl, rfl⟩ ?_); (iterate 4 (focus (first | assumption | rfl | omega | (simp <;> omega) | (simp_all <;> omega)))); rintro _ _ ⟨rfl, rfl⟩) | ((first | refine call0D (sload_ok _ _ _ _ _ _ _ ?_ ?_ ?_ ?_) ?_ | refine qcall0D (sload_ok _ _ _ _ _ _ _ ?_ ?_ ?_ ?_) ⟨_, _, rfl, rfl⟩ ?_); (iterate 4 (focus (first | assumption | rfl | omega | (simp <;> omega) | (simp_all <;> omega)))); rintro _ _ ⟨rfl, rfl⟩)) <;> (try simp (maxSteps := 400000) (disch := omega) only [push_cast, seval]))
 | (refine awp_ret ⟨.inr rfl, _, rfl, ?_⟩; (try simp (maxSteps := 400000) (disch := omega) only [push_cast, seval]))))


set_option maxHeartbeats 8000000 in
theorem iSum_ok (mem : List Int) (b : Int) (sh st : List Int) (q n m : Nat) (hq : mem.length = q) (hn : sh.length = n) (hm : st.length = m) (hb : q ≤ 1099511627776 ∧ n ≤ 1099511627776 ∧ m ≤ 1099511627776) : PCall Try.prog 38 [.rows false (IL mem) q, .agg [.int .i64 b, .rows false (IL sh) n, .rows false (IL st) m]] (fun r => r = .int .i64 (sumV mem b sh st)) := by
  subst hq hn hm
  refine pcall_of l38_eq rfl ?_
  unfold sumV
  cases h1 : seeB mem b sh st with
  | false =>
    (repeat' (first
 | (first | refine awp_seq ?_ | refine awp_block ?_)
 | ((first | refine awp_reg ?_ | refine awp_condB ?_ | refine awp_skip ?_ | refine awp_exit ?_); simp (maxSteps := 400000) (disch := omega) only [push_cast, seval, l38r0, l38r1, l38r2, l38r3, l38r4, l38r5, l38r6, l38r7, l38r8, l38r9, h1])
 | ((first | refine condB_split (fun h => ?_) (fun h => ?_) | refine gIf_split (fun h => ?_) (fun h => ?_) | refine qIf_split (fun h => ?_) (fun h => ?_)) <;> (try simp only [h]) <;> (try simp only [decide_eq_true_eq, decide_eq_false_iff_not, Bool.not_eq_true', Bool.not_eq_false', Bool.and_eq_true, Bool.or_eq_true, Bool.and_eq_false_iff, Bool.or_eq_false_iff, Int.not_le, Int.not_lt, bne_iff_ne, ne_eq, beq_iff_eq, Bool.not_eq_true, Bool.not_eq_false] at h) <;> (try simp only [h]) <;> (first | (exfalso; omega) | (focus (exfalso; simp_all; done)) | (simp (maxSteps := 400000) (disch := omega) only [push_cast, seval, h1]) | skip))
 | ((first | refine callD_of false ?_ | refine qcallD_of false ?_); simp (maxSteps := 400000) (disch := omega) only [push_cast, seval, h1])
 | ((first | ((first | refine call0D (BCall.ofP (holds_ok _ _ _ _ _ _ _ ?_ ?_ ?_ ?_)) ?_ | refine qcall0D (BCall.ofP (holds_ok _ _ _ _ _ _ _ ?_ ?_ ?_ ?_)) ⟨_, _, rfl, rfl⟩ ?_); (iterate 4 (focus (first | assumption | rfl | omega | (simp <;> omega) | (simp_all <;> omega)))); rintro _ _ ⟨rfl, rfl⟩) | ((first | refine call0D (loaded_ok _ _ _ _ _ _ _ ?_ ?_ ?_ ?_) ?_ | refine qcall0D (loaded_ok _ _ _ _ _ _ _ ?_ ?_ ?_ ?_) ⟨_, _, rfl, rfl⟩ ?_); (iterate 4 (focus (first | assumption | rfl | omega | (simp <;> omega) | (simp_all <;> omega)))); rintro _ _ ⟨rfl, rfl⟩)) <;> (try simp (maxSteps := 400000) (disch := omega) only [push_cast, seval, h1]))
 | (refine awp_ret ⟨.inr rfl, _, rfl, ?_⟩; (try simp (maxSteps := 400000) (disch := omega) only [push_cast, seval, h1]))))
    all_goals simp
  | true =>
    obtain ⟨f1, f2, f3, f4, f5, f6⟩ := see_facts h1
    have hol := offs_length b sh st
    have tl := takesL_length mem (offs b sh st)
    have tb := takes_bound (L := offs b sh st) (vMem_spec.1 (seeB_spec.1 h1).1).2
    rw [if_pos rfl, ← tl]
    have hS60 : (takesL mem (offs b sh st)).length ≤ 60 := by omega
    generalize hS : takesL mem (offs b sh st) = S at *
    have sb := sumT_bound2 tb
    clear tb hol tl
    (repeat' (first
 | (first | refine awp_seq ?_ | refine awp_block ?_)
 | ((first | refine awp_reg ?_ | refine awp_condB ?_ | refine awp_skip ?_ | refine awp_exit ?_); simp (maxSteps := 400000) (disch := omega) only [push_cast, seval, l38r0, l38r1, l38r2, l38r3, l38r4, l38r5, l38r6, l38r7, l38r8, l38r9, h1, hS])
 | ((first | refine condB_split (fun h => ?_) (fun h => ?_) | refine gIf_split (fun h => ?_) (fun h => ?_) | refine qIf_split (fun h => ?_) (fun h => ?_)) <;> (try simp only [h]) <;> (try simp only [decide_eq_true_eq, decide_eq_false_iff_not, Bool.not_eq_true', Bool.not_eq_false', Bool.and_eq_true, Bool.or_eq_true, Bool.and_eq_false_iff, Bool.or_eq_false_iff, Int.not_le, Int.not_lt, bne_iff_ne, ne_eq, beq_iff_eq, Bool.not_eq_true, Bool.not_eq_false] at h) <;> (try simp only [h]) <;> (first | (exfalso; omega) | (focus (exfalso; simp_all; done)) | (simp (maxSteps := 400000) (disch := omega) only [push_cast, seval, h1, hS]) | skip))
 | ((first | refine callD_of false ?_ | refine qcallD_of false ?_); simp (maxSteps := 400000) (disch := omega) only [push_cast, seval, h1, hS])
 | ((first | ((first | refine call0D (BCall.ofP (holds_ok _ _ _ _ _ _ _ ?_ ?_ ?_ ?_)) ?_ | refine qcall0D (BCall.ofP (holds_ok _ _ _ _ _ _ _ ?_ ?_ ?_ ?_)) ⟨_, _, rfl, rfl⟩ ?_); (iterate 4 (focus (first | assumption | rfl | omega | (simp <;> omega) | (simp_all <;> omega)))); rintro _ _ ⟨rfl, rfl⟩) | ((first | refine call0D (loaded_ok _ _ _ _ _ _ _ ?_ ?_ ?_ ?_) ?_ | refine qcall0D (loaded_ok _ _ _ _ _ _ _ ?_ ?_ ?_ ?_) ⟨_, _, rfl, rfl⟩ ?_); (iterate 4 (focus (first | assumption | rfl | omega | (simp <;> omega) | (simp_all <;> omega)))); rintro _ _ ⟨rfl, rfl⟩)) <;> (try simp (maxSteps := 400000) (disch := omega) only [push_cast, seval, h1, hS]))
 | (refine awp_ret ⟨.inr rfl, _, rfl, ?_⟩; (try simp (maxSteps := 400000) (disch := omega) only [push_cast, seval, h1, hS]))))
    refine awp_loop (fun k : Nat => mkS [(5, .int .i64 (sumT S k)), (14, .own 224 S.length 1), (15, .int .i64 S.length), (16, .int .i64 k)] [(224, IL S)])
      (fun k => k ≤ S.length) (fun k => S.length - k) 0 (Nat.zero_le _) ?_ ?_
    · (refine Sub.of_lists ?_ ?_ ?_ ?_ ?_ <;> simp [Vw.mkS, Vw.lk, Vw.hk, AV.inn, innL, innL_ints, innL_append, innL_rep, -List.map_set, -List.getD_eq_getElem?_getD, sumT])
    · intro k hk
      have b1 := sb k
      by_cases hlt : k < S.length
      · have b2 := sb (k + 1)
        simp only [sumT] at b2
        (repeat' (first
 | (first | refine awp_seq ?_ | refine awp_block ?_)
 | ((first | refine awp_reg ?_ | refine awp_condB ?_ | refine awp_skip ?_ | refine awp_exit ?_); simp (maxSteps := 400000) (disch := omega) only [push_cast, seval, l38r0, l38r1, l38r2, l38r3, l38r4, l38r5, l38r6, l38r7, l38r8, l38r9])
 | ((first | refine condB_split (fun h => ?_) (fun h => ?_) | refine gIf_split (fun h => ?_) (fun h => ?_) | refine qIf_split (fun h => ?_) (fun h => ?_)) <;> (try simp only [h]) <;> (try simp only [decide_eq_true_eq, decide_eq_false_iff_not, Bool.not_eq_true', Bool.not_eq_false', Bool.and_eq_true, Bool.or_eq_true, Bool.and_eq_false_iff, Bool.or_eq_false_iff, Int.not_le, Int.not_lt, bne_iff_ne, ne_eq, beq_iff_eq, Bool.not_eq_true, Bool.not_eq_false] at h) <;> (try simp only [h]) <;> (first | (exfalso; omega) | (focus (exfalso; simp_all; done)) | (simp (maxSteps := 400000) (disch := omega) only [push_cast, seval]) | skip))
 | ((first | refine callD_of false ?_ | refine qcallD_of false ?_); simp (maxSteps := 400000) (disch := omega) only [push_cast, seval])
 | ((first | ((first | refine call0D (BCall.ofP (holds_ok _ _ _ _ _ _ _ ?_ ?_ ?_ ?_)) ?_ | refine qcall0D (BCall.ofP (holds_ok _ _ _ _ _ _ _ ?_ ?_ ?_ ?_)) ⟨_, _, rfl, rfl⟩ ?_); (iterate 4 (focus (first | assumption | rfl | omega | (simp <;> omega) | (simp_all <;> omega)))); rintro _ _ ⟨rfl, rfl⟩) | ((first | refine call0D (loaded_ok _ _ _ _ _ _ _ ?_ ?_ ?_ ?_) ?_ | refine qcall0D (loaded_ok _ _ _ _ _ _ _ ?_ ?_ ?_ ?_) ⟨_, _, rfl, rfl⟩ ?_); (iterate 4 (focus (first | assumption | rfl | omega | (simp <;> omega) | (simp_all <;> omega)))); rintro _ _ ⟨rfl, rfl⟩)) <;> (try simp (maxSteps := 400000) (disch := omega) only [push_cast, seval]))
 | (refine awp_ret ⟨.inr rfl, _, rfl, ?_⟩; (try simp (maxSteps := 400000) (disch := omega) only [push_cast, seval]))))
        refine ⟨k + 1, by omega, by omega, ?_⟩
        (refine Sub.of_lists ?_ ?_ ?_ ?_ ?_ <;> simp [Vw.mkS, Vw.lk, Vw.hk, AV.inn, innL, innL_ints, innL_append, innL_rep, -List.map_set, -List.getD_eq_getElem?_getD, sumT])
      · have hke : k = S.length := by omega
        rw [hke]
        (repeat' (first
 | (first | refine awp_seq ?_ | refine awp_block ?_)
 | ((first | refine awp_reg ?_ | refine awp_condB ?_ | refine awp_skip ?_ | refine awp_exit ?_); simp (maxSteps := 400000) (disch := omega) only [push_cast, seval, l38r0, l38r1, l38r2, l38r3, l38r4, l38r5, l38r6, l38r7, l38r8, l38r9])
 | ((first | refine condB_split (fun h => ?_) (fun h => ?_) | refine gIf_split (fun h => ?_) (fun h => ?_) | refine qIf_split (fun h => ?_) (fun h => ?_)) <;> (try simp only [h]) <;> (try simp only [decide_eq_true_eq, decide_eq_false_iff_not, Bool.not_eq_true', Bool.not_eq_false', Bool.and_eq_true, Bool.or_eq_true, Bool.and_eq_false_iff, Bool.or_eq_false_iff, Int.not_le, Int.not_lt, bne_iff_ne, ne_eq, beq_iff_eq, Bool.not_eq_true, Bool.not_eq_false] at h) <;> (try simp only [h]) <;> (first | (exfalso; omega) | (focus (exfalso; simp_all; done)) | (simp (maxSteps := 400000) (disch := omega) only [push_cast, seval]) | skip))
 | ((first | refine callD_of false ?_ | refine qcallD_of false ?_); simp (maxSteps := 400000) (disch := omega) only [push_cast, seval])
 | ((first | ((first | refine call0D (BCall.ofP (holds_ok _ _ _ _ _ _ _ ?_ ?_ ?_ ?_)) ?_ | refine qcall0D (BCall.ofP (holds_ok _ _ _ _ _ _ _ ?_ ?_ ?_ ?_)) ⟨_, _, rfl, rfl⟩ ?_); (iterate 4 (focus (first | assumption | rfl | omega | (simp <;> omega) | (simp_all <;> omega)))); rintro _ _ ⟨rfl, rfl⟩) | ((first | refine call0D (loaded_ok _ _ _ _ _ _ _ ?_ ?_ ?_ ?_) ?_ | refine qcall0D (loaded_ok _ _ _ _ _ _ _ ?_ ?_ ?_ ?_) ⟨_, _, rfl, rfl⟩ ?_); (iterate 4 (focus (first | assumption | rfl | omega | (simp <;> omega) | (simp_all <;> omega)))); rintro _ _ ⟨rfl, rfl⟩)) <;> (try simp (maxSteps := 400000) (disch := omega) only [push_cast, seval]))
 | (refine awp_ret ⟨.inr rfl, _, rfl, ?_⟩; (try simp (maxSteps := 400000) (disch := omega) only [push_cast, seval]))))

end Go.Proofs.Ytcfjemmoajdcoaa
