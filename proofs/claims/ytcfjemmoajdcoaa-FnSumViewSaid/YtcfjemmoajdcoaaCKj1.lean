import Derived.Test.YtcfjemmoajdcoaaCKn10
import Derived.Test.YtcfjemmoajdcoaaCM1
import Derived.Test.YtcfjemmoajdcoaaCW3
set_option linter.unusedSimpArgs false
set_option linter.unusedVariables false
set_option maxRecDepth 4000
set_option maxHeartbeats 4000000
namespace Go.Proofs.Ytcfjemmoajdcoaa
open VwM Vw Go

theorem mvlJ_le {v : Bool} {l : List Int} {n : Nat} (h : v = true → l.length ≤ n) : (MVL v l).length ≤ n := by
  cases v with
  | false => simp [MVL]
  | true => exact h rfl
theorem seeJ_pr {mem : List Int} {b : Int} {sh st : List Int} (h : seeB mem b sh st = true) : (offs b sh st).length ≤ 60 ∧ mem.length ≤ 60 := by
  obtain ⟨_, _, _, f4, f5, f6⟩ := see_facts h
  have := offs_length b sh st
  omega


set_option maxHeartbeats 8000000 in
theorem memView_ok (bs : List Int) (p : Int) (hb : okB bs) (hp : 0 ≤ p ∧ p ≤ 600000) : BCall Try.prog 44 [.ref 0 2 0] [RD bs p] (fun r H' => ∃ mem b sh st q, (1 ≤ mem.length ∧ mem.length ≤ 60 ∧ good4 sh ∧ sh.length ≤ 4 ∧ st.length ≤ 5) ∧ (p ≤ q ∧ q ≤ p + 280) ∧ r = .tup [.own 1 mem.length 1, .agg [.int .i64 b, .own 2 sh.length 1, .own 3 st.length 1]] ∧ H' = [RD bs q, IL mem, IL sh, IL st]) := by
  refine bcall_of (pins := [0]) (pin := 1) l44_eq rfl rfl rfl ?_
  (repeat' (first
 | (first | refine awp_seq ?_ | refine awp_block ?_)
 | ((first | refine awp_reg ?_ | refine awp_condB ?_ | refine awp_skip ?_ | refine awp_exit ?_); simp (maxSteps := 400000) (disch := omega) only [push_cast, seval, l44r0, l44r1])
 | ((first | refine condB_split (fun h => ?_) (fun h => ?_) | refine gIf_split (fun h => ?_) (fun h => ?_) | refine qIf_split (fun h => ?_) (fun h => ?_)) <;> (try simp only [h]) <;> (try simp only [decide_eq_true_eq, decide_eq_false_iff_not, Bool.not_eq_true', Bool.not_eq_false', Bool.and_eq_true, Bool.or_eq_true, Bool.and_eq_false_iff, Bool.or_eq_false_iff, Int.not_le, Int.not_lt, bne_iff_ne, ne_eq, beq_iff_eq, Bool.not_eq_true, Bool.not_eq_false] at h) <;> (try simp only [h]) <;> (first | (exfalso; omega) | (focus (exfalso; simp_all; done)) | (simp (maxSteps := 400000) (disch := omega) only [push_cast, seval]) | skip))
 | ((first | ((with_reducible refine callD_ids (f := 73) [0] true ?_); simp (maxSteps := 400000) (disch := omega) only [push_cast, seval]; (refine call1D (id := 0) (someMem_ok _ _ ?_ ?_) (by (simp (maxSteps := 400000) (disch := omega) only [push_cast, seval]); rfl) ?_; (iterate 2 (focus (first | assumption | rfl | omega | (simp <;> omega) | (simp_all <;> omega)))); rintro _ _ ⟨xs, q, ⟨hxs, hxl⟩, hq, rfl, rfl⟩)) | ((with_reducible refine callD_ids (f := 79) [0] true ?_); simp (maxSteps := 400000) (disch := omega) only [push_cast, seval]; (refine call1D (id := 0) (someView_ok _ _ ?_ ?_) (by (simp (maxSteps := 400000) (disch := omega) only [push_cast, seval]); rfl) ?_; (iterate 2 (focus (first | assumption | rfl | omega | (simp <;> omega) | (simp_all <;> omega)))); rintro _ _ ⟨b, sh, st, q, ⟨hl1, hl9, hl2⟩, hq, rfl, rfl⟩))) <;> (try simp (maxSteps := 400000) (disch := omega) only [push_cast, seval]))
 | (refine awp_ret ⟨.inr rfl, [80, 112, 113], [], _, by decide, rfl, ?_⟩; (try simp (maxSteps := 400000) (disch := omega) only [push_cast, seval, ↓allMem_nil, ↓allMem_cons, ↓List.map_cons, ↓List.map_nil]))))
  exact ⟨_, _, _, _, _, ⟨by assumption, by assumption, by assumption, by assumption, by assumption⟩, by omega, rfl, rfl⟩


theorem drawSV_ok (bs : List Int) (n : Nat) (hn : bs.length = n) (hb : n ≤ 1099511627776 ∧ ∀ x ∈ bs, 0 ≤ x ∧ x ≤ 255) : BCall Try.prog 37 [.rows false (UL bs) n] [] (fun r H' => ∃ mem b sh st, (1 ≤ mem.length ∧ mem.length ≤ 60 ∧ good4 sh ∧ st.length ≤ 5) ∧ r = .tup [.own 0 mem.length 1, .agg [.int .i64 b, .own 1 sh.length 1, .own 2 st.length 1]] ∧ H' = [IL mem, IL sh, IL st]) := by
  refine bcall_of (pins := []) (pin := 0) l37_eq rfl rfl rfl ?_
  (repeat' (first
 | (first | refine awp_seq ?_ | refine awp_block ?_)
 | ((first | refine awp_reg ?_ | refine awp_condB ?_ | refine awp_skip ?_ | refine awp_exit ?_); simp (maxSteps := 400000) (disch := omega) only [push_cast, seval, l37r0, l37r1])
 | ((first | refine condB_split (fun h => ?_) (fun h => ?_) | refine gIf_split (fun h => ?_) (fun h => ?_) | refine qIf_split (fun h => ?_) (fun h => ?_)) <;> (try simp only [h]) <;> (try simp only [decide_eq_true_eq, decide_eq_false_iff_not, Bool.not_eq_true', Bool.not_eq_false', Bool.and_eq_true, Bool.or_eq_true, Bool.and_eq_false_iff, Bool.or_eq_false_iff, Int.not_le, Int.not_lt, bne_iff_ne, ne_eq, beq_iff_eq, Bool.not_eq_true, Bool.not_eq_false] at h) <;> (try simp only [h]) <;> (first | (exfalso; omega) | (focus (exfalso; simp_all; done)) | (simp (maxSteps := 400000) (disch := omega) only [push_cast, seval]) | skip))
 | ((first | ((with_reducible refine callD_of (f := 45) true ?_); simp (maxSteps := 400000) (disch := omega) only [push_cast, seval]; (refine call0D (newReader_ok _ _ ?_ ?_) ?_; (iterate 2 (focus (first | assumption | rfl | omega | (simp <;> omega) | (simp_all <;> omega)))); rintro _ _ ⟨bs0, hbs0, rfl, rfl⟩)) | ((with_reducible refine callD_ids (f := 44) [80] true ?_); simp (maxSteps := 400000) (disch := omega) only [push_cast, seval]; (refine call1D (id := 80) (memView_ok _ _ ?_ ?_) (by (simp (maxSteps := 400000) (disch := omega) only [push_cast, seval]); rfl) ?_; (iterate 2 (focus (first | assumption | rfl | omega | (simp <;> omega) | (simp_all <;> omega)))); rintro _ _ ⟨mem, b, sh, st, q, ⟨hm1, hm2, hl1, hl9, hl2⟩, hq, rfl, rfl⟩))) <;> (try simp (maxSteps := 400000) (disch := omega) only [push_cast, seval]))
 | (refine awp_ret ⟨.inr rfl, [96, 97, 98], [], _, by decide, rfl, ?_⟩; (try simp (maxSteps := 400000) (disch := omega) only [push_cast, seval, ↓allMem_nil, ↓allMem_cons, ↓List.map_cons, ↓List.map_nil]))))
  exact ⟨_, _, _, _, ⟨by assumption, by assumption, by assumption, by assumption⟩, rfl, rfl⟩

end Go.Proofs.Ytcfjemmoajdcoaa
