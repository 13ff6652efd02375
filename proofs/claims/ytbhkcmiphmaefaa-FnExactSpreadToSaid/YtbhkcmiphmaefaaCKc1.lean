import Derived.Test.YtbhkcmiphmaefaaCKq
import Derived.Test.YtbhkcmiphmaefaaCM1
import Derived.Test.YtbhkcmiphmaefaaCW3
set_option linter.unusedSimpArgs false
set_option linter.unusedVariables false
set_option linter.unnecessarySimpa false
set_option maxRecDepth 4000
set_option maxHeartbeats 4000000
namespace Go.Proofs.Ytbhkcmiphmaefaa
open VwM Vw Go

theorem scopyView_ok (b : Int) (sh st : List Int) (n m : Nat) (hn : sh.length = n) (hm : st.length = m) (hb : n ≤ 1099511627776 ∧ m ≤ 1099511627776) : BCall Try.prog 62 [.agg [.int .i64 b, .rows false (IL sh) n, .rows false (IL st) m]] [] (OV b sh st) := by
  subst hn hm
  obtain ⟨hb1, hb2⟩ := hb
  refine bcall_of (pins := []) (pin := 0) l62_eq rfl rfl rfl ?_
  (repeat' (first
      | (first | refine awp_seq ?_ | refine awp_block ?_)
      | ((first | refine awp_reg ?_ | refine awp_draw (mid := l62r1a) (post := l62r1b) mixed (by decide) ?_ | refine awp_condB ?_ | refine awp_skip ?_ | refine awp_exit ?_); simp (maxSteps := 400000) (disch := omega) only [push_cast, seval, Bool.false_eq_true, List.length_replicate, l62r0, l62r1a, l62r1b, l62r1])
      | ((first | refine condB_split (fun h => ?_) (fun h => ?_) | refine gIf_split (fun h => ?_) (fun h => ?_) | refine qIf_split (fun h => ?_) (fun h => ?_)) <;> (try simp only [h]) <;> (try simp only [decide_eq_true_eq, decide_eq_false_iff_not, Bool.not_eq_true', Bool.not_eq_false', Bool.and_eq_true, Bool.or_eq_true, Bool.and_eq_false_iff, Bool.or_eq_false_iff, Int.not_le, Int.not_lt, bne_iff_ne, ne_eq, beq_iff_eq, Bool.not_eq_true, Bool.not_eq_false] at h) <;> (try simp only [h]) <;> (first | (exfalso; omega) | (focus (exfalso; simp_all; done)) | (simp (maxSteps := 400000) (disch := omega) only [push_cast, seval, Bool.false_eq_true, List.length_replicate]) | skip))
      | ((first | refine callD_of false ?_ | refine qcallD_of false ?_); simp (maxSteps := 400000) (disch := omega) only [push_cast, seval, Bool.false_eq_true, List.length_replicate])
      | ((first | ((first | refine call0D (copyInts_ok _ _ ?_ ?_) ?_ | refine qcall0D (copyInts_ok _ _ ?_ ?_) ⟨_, _, rfl, rfl⟩ ?_); (iterate 2 (focus (first | assumption | rfl | omega | (simp; done) | (simp; omega) | (simp_all; done) | (simp_all; omega)))); rintro _ _ ⟨rfl, rfl⟩)); (try simp (maxSteps := 400000) (disch := omega) only [push_cast, seval, Bool.false_eq_true, List.length_replicate]))
      | (refine awp_ret ⟨.inr rfl, [112, 160], [], _, by decide, rfl, ?_⟩; (try simp (maxSteps := 400000) (disch := omega) only [push_cast, seval, Bool.false_eq_true, List.length_replicate, ↓allMem_nil, ↓allMem_cons, ↓List.map_cons, ↓List.map_nil]))))
  all_goals simp [OV]


theorem smade_ok (b : Int) (sh st : List Int) (n m : Nat) (hn : sh.length = n) (hm : st.length = m) (hb : n ≤ 1099511627776 ∧ m ≤ 1099511627776) : BCall Try.prog 33 [.agg [.int .i64 b, .rows false (IL sh) n, .rows false (IL st) m]] [] (MV (vV b sh st) b sh st) := by
  subst hn hm
  obtain ⟨hb1, hb2⟩ := hb
  refine bcall_of (pins := []) (pin := 0) l33_eq rfl rfl rfl ?_
  cases hv : vV b sh st with
  | false =>
    (repeat' (first
      | (first | refine awp_seq ?_ | refine awp_block ?_)
      | ((first | refine awp_reg ?_ | refine awp_condB ?_ | refine awp_skip ?_ | refine awp_exit ?_); simp (maxSteps := 400000) (disch := omega) only [push_cast, seval, Bool.false_eq_true, List.length_replicate, l33r0, l33r1, l33r2, l33r3, hv])
      | ((first | refine condB_split (fun h => ?_) (fun h => ?_) | refine gIf_split (fun h => ?_) (fun h => ?_) | refine qIf_split (fun h => ?_) (fun h => ?_)) <;> (try simp only [h]) <;> (try simp only [decide_eq_true_eq, decide_eq_false_iff_not, Bool.not_eq_true', Bool.not_eq_false', Bool.and_eq_true, Bool.or_eq_true, Bool.and_eq_false_iff, Bool.or_eq_false_iff, Int.not_le, Int.not_lt, bne_iff_ne, ne_eq, beq_iff_eq, Bool.not_eq_true, Bool.not_eq_false] at h) <;> (try simp only [h]) <;> (first | (exfalso; omega) | (focus (exfalso; simp_all; done)) | (simp (maxSteps := 400000) (disch := omega) only [push_cast, seval, Bool.false_eq_true, List.length_replicate, hv]) | skip))
      | ((first | refine callD_of false ?_ | refine qcallD_of false ?_); simp (maxSteps := 400000) (disch := omega) only [push_cast, seval, Bool.false_eq_true, List.length_replicate, hv])
      | ((first | ((first | refine call0D (BCall.ofP (svalidView_ok _ _ _ _ _ ?_ ?_ ?_)) ?_ | refine qcall0D (BCall.ofP (svalidView_ok _ _ _ _ _ ?_ ?_ ?_)) ⟨_, _, rfl, rfl⟩ ?_); (iterate 3 (focus (first | assumption | rfl | omega | (simp; done) | (simp; omega) | (simp_all; done) | (simp_all; omega)))); rintro _ _ ⟨rfl, rfl⟩) | ((first | refine call0D (scopyView_ok _ _ _ _ _ ?_ ?_ ?_) ?_ | refine qcall0D (scopyView_ok _ _ _ _ _ ?_ ?_ ?_) ⟨_, _, rfl, rfl⟩ ?_); (iterate 3 (focus (first | assumption | rfl | omega | (simp; done) | (simp; omega) | (simp_all; done) | (simp_all; omega)))); rintro _ _ ⟨rfl, rfl⟩)); (try simp (maxSteps := 400000) (disch := omega) only [push_cast, seval, Bool.false_eq_true, List.length_replicate, hv]))
      | (refine awp_ret ⟨.inr rfl, [16000, 16016], [(16000, 1), (16016, 1)], _, by decide, rfl, ?_⟩; (try simp (maxSteps := 400000) (disch := omega) only [push_cast, seval, Bool.false_eq_true, List.length_replicate, ↓allMem_nil, ↓allMem_cons, ↓List.map_cons, ↓List.map_nil, hv]))))
    all_goals simp [MV, MVB, MVL]
  | true =>
    (repeat' (first
      | (first | refine awp_seq ?_ | refine awp_block ?_)
      | ((first | refine awp_reg ?_ | refine awp_condB ?_ | refine awp_skip ?_ | refine awp_exit ?_); simp (maxSteps := 400000) (disch := omega) only [push_cast, seval, Bool.false_eq_true, List.length_replicate, l33r0, l33r1, l33r2, l33r3, hv])
      | ((first | refine condB_split (fun h => ?_) (fun h => ?_) | refine gIf_split (fun h => ?_) (fun h => ?_) | refine qIf_split (fun h => ?_) (fun h => ?_)) <;> (try simp only [h]) <;> (try simp only [decide_eq_true_eq, decide_eq_false_iff_not, Bool.not_eq_true', Bool.not_eq_false', Bool.and_eq_true, Bool.or_eq_true, Bool.and_eq_false_iff, Bool.or_eq_false_iff, Int.not_le, Int.not_lt, bne_iff_ne, ne_eq, beq_iff_eq, Bool.not_eq_true, Bool.not_eq_false] at h) <;> (try simp only [h]) <;> (first | (exfalso; omega) | (focus (exfalso; simp_all; done)) | (simp (maxSteps := 400000) (disch := omega) only [push_cast, seval, Bool.false_eq_true, List.length_replicate, hv]) | skip))
      | ((first | refine callD_of false ?_ | refine qcallD_of false ?_); simp (maxSteps := 400000) (disch := omega) only [push_cast, seval, Bool.false_eq_true, List.length_replicate, hv])
      | ((first | ((first | refine call0D (BCall.ofP (svalidView_ok _ _ _ _ _ ?_ ?_ ?_)) ?_ | refine qcall0D (BCall.ofP (svalidView_ok _ _ _ _ _ ?_ ?_ ?_)) ⟨_, _, rfl, rfl⟩ ?_); (iterate 3 (focus (first | assumption | rfl | omega | (simp; done) | (simp; omega) | (simp_all; done) | (simp_all; omega)))); rintro _ _ ⟨rfl, rfl⟩) | ((first | refine call0D (scopyView_ok _ _ _ _ _ ?_ ?_ ?_) ?_ | refine qcall0D (scopyView_ok _ _ _ _ _ ?_ ?_ ?_) ⟨_, _, rfl, rfl⟩ ?_); (iterate 3 (focus (first | assumption | rfl | omega | (simp; done) | (simp; omega) | (simp_all; done) | (simp_all; omega)))); rintro _ _ ⟨rfl, rfl⟩)); (try simp (maxSteps := 400000) (disch := omega) only [push_cast, seval, Bool.false_eq_true, List.length_replicate, hv]))
      | (refine awp_ret ⟨.inr rfl, [144, 145], [], _, by decide, rfl, ?_⟩; (try simp (maxSteps := 400000) (disch := omega) only [push_cast, seval, Bool.false_eq_true, List.length_replicate, ↓allMem_nil, ↓allMem_cons, ↓List.map_cons, ↓List.map_nil, hv]))))
    all_goals simp [MV, MVB, MVL]

end Go.Proofs.Ytbhkcmiphmaefaa
