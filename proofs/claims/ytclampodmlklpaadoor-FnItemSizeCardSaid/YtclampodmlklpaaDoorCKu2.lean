import Derived.Test.YtclampodmlklpaaDoorCKu1
import Derived.Test.YtclampodmlklpaaDoorCM1
import Derived.Test.YtclampodmlklpaaDoorCW3
set_option linter.unusedSimpArgs false
set_option linter.unusedVariables false
set_option linter.unnecessarySimpa false
set_option maxRecDepth 4000
set_option maxHeartbeats 4000000
namespace Go.Proofs.YtclampodmlklpaaDoor
open VwM Vw Go

theorem drawVF_ok (bs : List Int) (n : Nat) (hn : bs.length = n) (hb : n ≤ 1099511627776 ∧ ∀ x ∈ bs, 0 ≤ x ∧ x ≤ 255) : BCall Tryd.prog 13 [.rows false (UL bs) n] [] (fun r H' => ∃ s big al, s.length ≤ 5 ∧ r = .agg [.own 0 s.length 1, .bool big, .bool al] ∧ H' = [IL s]) := by
  refine bcall_of (pins := []) (pin := 0) l13_eq rfl rfl rfl ?_
  (repeat' (first
      | (first | refine awp_seq ?_ | refine awp_block ?_)
      | ((first | refine awp_reg ?_ | refine awp_condB ?_ | refine awp_skip ?_ | refine awp_exit ?_); simp (maxSteps := 400000) (disch := omega) only [push_cast, seval, l13r0, l13r1])
      | ((first | refine condB_split (fun h => ?_) (fun h => ?_) | refine gIf_split (fun h => ?_) (fun h => ?_) | refine qIf_split (fun h => ?_) (fun h => ?_)) <;> (try simp only [h]) <;> (try simp only [decide_eq_true_eq, decide_eq_false_iff_not, Bool.not_eq_true', Bool.not_eq_false', Bool.and_eq_true, Bool.or_eq_true, Bool.and_eq_false_iff, Bool.or_eq_false_iff, Int.not_le, Int.not_lt, bne_iff_ne, ne_eq, beq_iff_eq, Bool.not_eq_true, Bool.not_eq_false] at h) <;> (try simp only [h]) <;> (first | (exfalso; omega) | (focus (exfalso; simp_all; done)) | (simp (maxSteps := 400000) (disch := omega) only [push_cast, seval]) | skip))
      | ((first | ((with_reducible refine callD_of (f := 55) true ?_); simp (maxSteps := 400000) (disch := omega) only [push_cast, seval]; (refine call0D (newReader_ok _ _ ?_ ?_) ?_; (iterate 2 (focus (first | assumption | rfl | omega | (simp <;> omega) | (simp_all <;> omega)))); rintro _ _ ⟨bs0, hbs0, rfl, rfl⟩)) | ((with_reducible refine callD_ids (f := 54) [64] true ?_); simp (maxSteps := 400000) (disch := omega) only [push_cast, seval]; (refine call1D (id := 64) (someFmt_ok _ _ ?_ ?_) (by (simp (maxSteps := 400000) (disch := omega) only [push_cast, seval]); rfl) ?_; (iterate 2 (focus (first | assumption | rfl | omega | (simp <;> omega) | (simp_all <;> omega)))); rintro _ _ ⟨s, big, al, q, hs5, hq, rfl, rfl⟩))) <;> (try simp (maxSteps := 400000) (disch := omega) only [push_cast, seval]))
      | (refine awp_ret ⟨.inr rfl, [80], [], _, by decide, rfl, ?_⟩; (try simp (maxSteps := 400000) (disch := omega) only [push_cast, seval, ↓allMem_nil, ↓allMem_cons, ↓List.map_cons, ↓List.map_nil]))))
  exact ⟨_, _, _, by assumption, rfl, rfl⟩


theorem drawPlF_ok (bs : List Int) (n : Nat) (hn : bs.length = n) (hb : n ≤ 1099511627776 ∧ ∀ x ∈ bs, 0 ≤ x ∧ x ≤ 255) : BCall Tryd.prog 16 [.rows false (UL bs) n] [] (fun r H' => ∃ s big al, s.length ≤ 5 ∧ r = .agg [.own 0 s.length 1, .bool big, .bool al] ∧ H' = [IL s]) := by
  refine bcall_of (pins := []) (pin := 0) l16_eq rfl rfl rfl ?_
  (repeat' (first
      | (first | refine awp_seq ?_ | refine awp_block ?_)
      | ((first | refine awp_reg ?_ | refine awp_condB ?_ | refine awp_skip ?_ | refine awp_exit ?_); simp (maxSteps := 400000) (disch := omega) only [push_cast, seval, l16r0, l16r1])
      | ((first | refine condB_split (fun h => ?_) (fun h => ?_) | refine gIf_split (fun h => ?_) (fun h => ?_) | refine qIf_split (fun h => ?_) (fun h => ?_)) <;> (try simp only [h]) <;> (try simp only [decide_eq_true_eq, decide_eq_false_iff_not, Bool.not_eq_true', Bool.not_eq_false', Bool.and_eq_true, Bool.or_eq_true, Bool.and_eq_false_iff, Bool.or_eq_false_iff, Int.not_le, Int.not_lt, bne_iff_ne, ne_eq, beq_iff_eq, Bool.not_eq_true, Bool.not_eq_false] at h) <;> (try simp only [h]) <;> (first | (exfalso; omega) | (focus (exfalso; simp_all; done)) | (simp (maxSteps := 400000) (disch := omega) only [push_cast, seval]) | skip))
      | ((first | ((with_reducible refine callD_of (f := 55) true ?_); simp (maxSteps := 400000) (disch := omega) only [push_cast, seval]; (refine call0D (newReader_ok _ _ ?_ ?_) ?_; (iterate 2 (focus (first | assumption | rfl | omega | (simp <;> omega) | (simp_all <;> omega)))); rintro _ _ ⟨bs0, hbs0, rfl, rfl⟩)) | ((with_reducible refine callD_ids (f := 54) [64] true ?_); simp (maxSteps := 400000) (disch := omega) only [push_cast, seval]; (refine call1D (id := 64) (someFmt_ok _ _ ?_ ?_) (by (simp (maxSteps := 400000) (disch := omega) only [push_cast, seval]); rfl) ?_; (iterate 2 (focus (first | assumption | rfl | omega | (simp <;> omega) | (simp_all <;> omega)))); rintro _ _ ⟨s, big, al, q, hs5, hq, rfl, rfl⟩))) <;> (try simp (maxSteps := 400000) (disch := omega) only [push_cast, seval]))
      | (refine awp_ret ⟨.inr rfl, [80], [], _, by decide, rfl, ?_⟩; (try simp (maxSteps := 400000) (disch := omega) only [push_cast, seval, ↓allMem_nil, ↓allMem_cons, ↓List.map_cons, ↓List.map_nil]))))
  exact ⟨_, _, _, by assumption, rfl, rfl⟩


theorem drawISz_ok (bs : List Int) (n : Nat) (hn : bs.length = n) (hb : n ≤ 1099511627776 ∧ ∀ x ∈ bs, 0 ≤ x ∧ x ≤ 255) : BCall Tryd.prog 20 [.rows false (UL bs) n] [] (fun r H' => ∃ s big al, s.length ≤ 5 ∧ r = .agg [.own 0 s.length 1, .bool big, .bool al] ∧ H' = [IL s]) := by
  refine bcall_of (pins := []) (pin := 0) l20_eq rfl rfl rfl ?_
  (repeat' (first
      | (first | refine awp_seq ?_ | refine awp_block ?_)
      | ((first | refine awp_reg ?_ | refine awp_condB ?_ | refine awp_skip ?_ | refine awp_exit ?_); simp (maxSteps := 400000) (disch := omega) only [push_cast, seval, l20r0, l20r1])
      | ((first | refine condB_split (fun h => ?_) (fun h => ?_) | refine gIf_split (fun h => ?_) (fun h => ?_) | refine qIf_split (fun h => ?_) (fun h => ?_)) <;> (try simp only [h]) <;> (try simp only [decide_eq_true_eq, decide_eq_false_iff_not, Bool.not_eq_true', Bool.not_eq_false', Bool.and_eq_true, Bool.or_eq_true, Bool.and_eq_false_iff, Bool.or_eq_false_iff, Int.not_le, Int.not_lt, bne_iff_ne, ne_eq, beq_iff_eq, Bool.not_eq_true, Bool.not_eq_false] at h) <;> (try simp only [h]) <;> (first | (exfalso; omega) | (focus (exfalso; simp_all; done)) | (simp (maxSteps := 400000) (disch := omega) only [push_cast, seval]) | skip))
      | ((first | ((with_reducible refine callD_of (f := 55) true ?_); simp (maxSteps := 400000) (disch := omega) only [push_cast, seval]; (refine call0D (newReader_ok _ _ ?_ ?_) ?_; (iterate 2 (focus (first | assumption | rfl | omega | (simp <;> omega) | (simp_all <;> omega)))); rintro _ _ ⟨bs0, hbs0, rfl, rfl⟩)) | ((with_reducible refine callD_ids (f := 54) [64] true ?_); simp (maxSteps := 400000) (disch := omega) only [push_cast, seval]; (refine call1D (id := 64) (someFmt_ok _ _ ?_ ?_) (by (simp (maxSteps := 400000) (disch := omega) only [push_cast, seval]); rfl) ?_; (iterate 2 (focus (first | assumption | rfl | omega | (simp <;> omega) | (simp_all <;> omega)))); rintro _ _ ⟨s, big, al, q, hs5, hq, rfl, rfl⟩))) <;> (try simp (maxSteps := 400000) (disch := omega) only [push_cast, seval]))
      | (refine awp_ret ⟨.inr rfl, [80], [], _, by decide, rfl, ?_⟩; (try simp (maxSteps := 400000) (disch := omega) only [push_cast, seval, ↓allMem_nil, ↓allMem_cons, ↓List.map_cons, ↓List.map_nil]))))
  exact ⟨_, _, _, by assumption, rfl, rfl⟩


theorem drawPdF_ok (bs : List Int) (n : Nat) (hn : bs.length = n) (hb : n ≤ 1099511627776 ∧ ∀ x ∈ bs, 0 ≤ x ∧ x ≤ 255) : BCall Tryd.prog 25 [.rows false (UL bs) n] [] (fun r H' => ∃ s big al, s.length ≤ 5 ∧ r = .agg [.own 0 s.length 1, .bool big, .bool al] ∧ H' = [IL s]) := by
  refine bcall_of (pins := []) (pin := 0) l25_eq rfl rfl rfl ?_
  (repeat' (first
      | (first | refine awp_seq ?_ | refine awp_block ?_)
      | ((first | refine awp_reg ?_ | refine awp_condB ?_ | refine awp_skip ?_ | refine awp_exit ?_); simp (maxSteps := 400000) (disch := omega) only [push_cast, seval, l25r0, l25r1])
      | ((first | refine condB_split (fun h => ?_) (fun h => ?_) | refine gIf_split (fun h => ?_) (fun h => ?_) | refine qIf_split (fun h => ?_) (fun h => ?_)) <;> (try simp only [h]) <;> (try simp only [decide_eq_true_eq, decide_eq_false_iff_not, Bool.not_eq_true', Bool.not_eq_false', Bool.and_eq_true, Bool.or_eq_true, Bool.and_eq_false_iff, Bool.or_eq_false_iff, Int.not_le, Int.not_lt, bne_iff_ne, ne_eq, beq_iff_eq, Bool.not_eq_true, Bool.not_eq_false] at h) <;> (try simp only [h]) <;> (first | (exfalso; omega) | (focus (exfalso; simp_all; done)) | (simp (maxSteps := 400000) (disch := omega) only [push_cast, seval]) | skip))
      | ((first | ((with_reducible refine callD_of (f := 55) true ?_); simp (maxSteps := 400000) (disch := omega) only [push_cast, seval]; (refine call0D (newReader_ok _ _ ?_ ?_) ?_; (iterate 2 (focus (first | assumption | rfl | omega | (simp <;> omega) | (simp_all <;> omega)))); rintro _ _ ⟨bs0, hbs0, rfl, rfl⟩)) | ((with_reducible refine callD_ids (f := 54) [64] true ?_); simp (maxSteps := 400000) (disch := omega) only [push_cast, seval]; (refine call1D (id := 64) (someFmt_ok _ _ ?_ ?_) (by (simp (maxSteps := 400000) (disch := omega) only [push_cast, seval]); rfl) ?_; (iterate 2 (focus (first | assumption | rfl | omega | (simp <;> omega) | (simp_all <;> omega)))); rintro _ _ ⟨s, big, al, q, hs5, hq, rfl, rfl⟩))) <;> (try simp (maxSteps := 400000) (disch := omega) only [push_cast, seval]))
      | (refine awp_ret ⟨.inr rfl, [80], [], _, by decide, rfl, ?_⟩; (try simp (maxSteps := 400000) (disch := omega) only [push_cast, seval, ↓allMem_nil, ↓allMem_cons, ↓List.map_cons, ↓List.map_nil]))))
  exact ⟨_, _, _, by assumption, rfl, rfl⟩


theorem mvlU_le {v : Bool} {l : List Int} {n : Nat} (h : v = true → l.length ≤ n) : (MVL v l).length ≤ n := by
  cases v with
  | false => simp [MVL]
  | true => exact h rfl
theorem vF_take {s : List Int} (hv : vF s = true) (h2 : 2 ≤ s.length) : vF (s.take (s.length - 1)) = true := by
  obtain ⟨h, h1, h5⟩ := vF_iff.1 hv
  refine vF_iff.2 ⟨fun i hi => ?_, by simp; omega, by simp; omega⟩
  have hi' : i < s.length - 1 := by simpa using hi
  have : (s.take (s.length - 1)).getD i 0 = s.getD i 0 := by rw [List.getD, List.getD, List.getElem?_take, if_pos hi']
  rw [this]
  exact h i (by omega)


set_option maxHeartbeats 8000000 in
theorem lFnVF_ok (bs : List Int) (hl : bs.length ≤ 9223372036854775807) (hb : ∀ x ∈ bs, 0 ≤ x ∧ x ≤ 255) : PCall Tryd.prog 3 [.rows false (UL bs) bs.length] (fun r => r = .bool true) := by
  refine pcall_of l3_eq rfl ?_
  by_cases h : bs.length ≤ 1048576
  · have q : bs.length ≤ 1099511627776 ∧ ∀ x ∈ bs, 0 ≤ x ∧ x ≤ 255 := ⟨by omega, hb⟩
    (repeat' (first
      | (refine awp_joinL (c1 := .reg l3r3) (fun x : List Int × Bool × Bool => mkS [(3, .ref 48 3 0)] [(48, [.own 144 x.1.length 1, .bool x.2.1, .bool x.2.2]), (144, IL x.1)]) (fun x => x.1.length ≤ 5) ?_ ?_)
      | (first | refine awp_seq ?_ | refine awp_block ?_)
      | ((first | refine awp_reg ?_ | refine awp_draw (mid := l3r7a) (post := l3r7b) mixed (by decide) ?_ | refine awp_condB ?_ | refine awp_skip ?_ | refine awp_exit ?_); simp (maxSteps := 400000) (disch := omega) only [push_cast, seval, l3r0, l3r1, l3r2, l3r3, l3r4, l3r5, l3r6, l3r7a, l3r7b, l3r7])
      | ((first | refine condB_split (fun h => ?_) (fun h => ?_) | refine gIf_split (fun h => ?_) (fun h => ?_) | refine qIf_split (fun h => ?_) (fun h => ?_)) <;> (try simp only [h]) <;> (try simp only [decide_eq_true_eq, decide_eq_false_iff_not, Bool.not_eq_true', Bool.not_eq_false', Bool.and_eq_true, Bool.or_eq_true, Bool.and_eq_false_iff, Bool.or_eq_false_iff, Int.not_le, Int.not_lt, bne_iff_ne, ne_eq, beq_iff_eq, Bool.not_eq_true, Bool.not_eq_false] at h) <;> (try simp only [h]) <;> (first | (exfalso; omega) | (focus (exfalso; simp_all; done)) | (simp (maxSteps := 400000) (disch := omega) only [push_cast, seval]) | skip))
      | ((first | refine callD_of false ?_ | refine qcallD_of false ?_); simp (maxSteps := 400000) (disch := omega) only [push_cast, seval])
      | ((first | (refine call0D (drawVF_ok _ _ ?_ ?_) ?_; (iterate 2 (focus (first | assumption | rfl | omega | (simp <;> omega) | (simp_all <;> omega)))); rintro _ _ ⟨s, big, al, hs5, rfl, rfl⟩) | ((first | refine call0D (BCall.ofP (iVFmt_ok _ _ _ _ ?_ ?_)) ?_ | refine qcall0D (BCall.ofP (iVFmt_ok _ _ _ _ ?_ ?_)) ⟨_, _, rfl, rfl⟩ ?_); (iterate 2 (focus (first | assumption | rfl | omega | (simp <;> omega) | (simp_all <;> omega)))); rintro _ _ ⟨rfl, rfl⟩) | ((first | refine call0D (BCall.ofP (sVFmt_ok _ _ _ _ ?_ ?_)) ?_ | refine qcall0D (BCall.ofP (sVFmt_ok _ _ _ _ ?_ ?_)) ⟨_, _, rfl, rfl⟩ ?_); (iterate 2 (focus (first | assumption | rfl | omega | (simp <;> omega) | (simp_all <;> omega)))); rintro _ _ ⟨rfl, rfl⟩)) <;> (try simp (maxSteps := 400000) (disch := omega) only [push_cast, seval]))
      | (refine awp_ret ⟨.inr rfl, _, rfl, ?_⟩; (try simp (maxSteps := 400000) (disch := omega) only [push_cast, seval]))))
    · (refine exSub3 (Sub.of_eqs rfl rfl ?_ ?_ ?_) ?_; (focus (simp [Vw.mkS, Vw.lk, Vw.hk, AV.inn, innL, innL_ints, innL_append, innL_rep, -List.map_set, -List.getD_eq_getElem?_getD]; done)); (focus (simp [AV.inn, innL, Vw.hk]; done)); (focus (simp [AV.inn, innL, innL_ints, innL_append, innL_rep, Vw.hk]; done)); (try simp only); (first | omega | (refine ⟨?_, ?_⟩ <;> first | assumption | omega) | (refine ⟨?_, ?_, ?_⟩ <;> first | assumption | omega) | (refine ⟨?_, ?_, ?_, ?_⟩ <;> first | assumption | omega)))
    · refine ⟨?_⟩
      rintro ⟨s, big, al⟩ hs5
      try simp only at hs5 ⊢
      have hq : s.length ≤ 1099511627776 := by omega
      cases hv : vF s with
      | false =>
        (repeat' (first
      | (first | refine awp_seq ?_ | refine awp_block ?_)
      | ((first | refine awp_reg ?_ | refine awp_draw (mid := l3r7a) (post := l3r7b) mixed (by decide) ?_ | refine awp_condB ?_ | refine awp_skip ?_ | refine awp_exit ?_); simp (maxSteps := 400000) (disch := omega) only [push_cast, seval, l3r0, l3r1, l3r2, l3r3, l3r4, l3r5, l3r6, l3r7a, l3r7b, l3r7, hv, decide_true])
      | ((first | refine condB_split (fun h => ?_) (fun h => ?_) | refine gIf_split (fun h => ?_) (fun h => ?_) | refine qIf_split (fun h => ?_) (fun h => ?_)) <;> (try simp only [h]) <;> (try simp only [decide_eq_true_eq, decide_eq_false_iff_not, Bool.not_eq_true', Bool.not_eq_false', Bool.and_eq_true, Bool.or_eq_true, Bool.and_eq_false_iff, Bool.or_eq_false_iff, Int.not_le, Int.not_lt, bne_iff_ne, ne_eq, beq_iff_eq, Bool.not_eq_true, Bool.not_eq_false] at h) <;> (try simp only [h]) <;> (first | (exfalso; omega) | (focus (exfalso; simp_all; done)) | (simp (maxSteps := 400000) (disch := omega) only [push_cast, seval, hv, decide_true]) | skip))
      | ((first | refine callD_of false ?_ | refine qcallD_of false ?_); simp (maxSteps := 400000) (disch := omega) only [push_cast, seval, hv, decide_true])
      | ((first | (refine call0D (drawVF_ok _ _ ?_ ?_) ?_; (iterate 2 (focus (first | assumption | rfl | omega | (simp <;> omega) | (simp_all <;> omega)))); rintro _ _ ⟨s, big, al, hs5, rfl, rfl⟩) | ((first | refine call0D (BCall.ofP (iVFmt_ok _ _ _ _ ?_ ?_)) ?_ | refine qcall0D (BCall.ofP (iVFmt_ok _ _ _ _ ?_ ?_)) ⟨_, _, rfl, rfl⟩ ?_); (iterate 2 (focus (first | assumption | rfl | omega | (simp <;> omega) | (simp_all <;> omega)))); rintro _ _ ⟨rfl, rfl⟩) | ((first | refine call0D (BCall.ofP (sVFmt_ok _ _ _ _ ?_ ?_)) ?_ | refine qcall0D (BCall.ofP (sVFmt_ok _ _ _ _ ?_ ?_)) ⟨_, _, rfl, rfl⟩ ?_); (iterate 2 (focus (first | assumption | rfl | omega | (simp <;> omega) | (simp_all <;> omega)))); rintro _ _ ⟨rfl, rfl⟩)) <;> (try simp (maxSteps := 400000) (disch := omega) only [push_cast, seval, hv, decide_true]))
      | (refine awp_ret ⟨.inr rfl, _, rfl, ?_⟩; (try simp (maxSteps := 400000) (disch := omega) only [push_cast, seval, hv, decide_true]))))
        all_goals (try simp)
      | true =>
        obtain ⟨hs, h1, h5⟩ := vF_iff.1 hv
        by_cases hone : s.length = 1
        · have hone' : (s.length : Int) = 1 := by omega
          (repeat' (first
      | (first | refine awp_seq ?_ | refine awp_block ?_)
      | ((first | refine awp_reg ?_ | refine awp_draw (mid := l3r7a) (post := l3r7b) mixed (by decide) ?_ | refine awp_condB ?_ | refine awp_skip ?_ | refine awp_exit ?_); simp (maxSteps := 400000) (disch := omega) only [push_cast, seval, l3r0, l3r1, l3r2, l3r3, l3r4, l3r5, l3r6, l3r7a, l3r7b, l3r7, hv, hone', decide_true])
      | ((first | refine condB_split (fun h => ?_) (fun h => ?_) | refine gIf_split (fun h => ?_) (fun h => ?_) | refine qIf_split (fun h => ?_) (fun h => ?_)) <;> (try simp only [h]) <;> (try simp only [decide_eq_true_eq, decide_eq_false_iff_not, Bool.not_eq_true', Bool.not_eq_false', Bool.and_eq_true, Bool.or_eq_true, Bool.and_eq_false_iff, Bool.or_eq_false_iff, Int.not_le, Int.not_lt, bne_iff_ne, ne_eq, beq_iff_eq, Bool.not_eq_true, Bool.not_eq_false] at h) <;> (try simp only [h]) <;> (first | (exfalso; omega) | (focus (exfalso; simp_all; done)) | (simp (maxSteps := 400000) (disch := omega) only [push_cast, seval, hv, hone', decide_true]) | skip))
      | ((first | refine callD_of false ?_ | refine qcallD_of false ?_); simp (maxSteps := 400000) (disch := omega) only [push_cast, seval, hv, hone', decide_true])
      | ((first | (refine call0D (drawVF_ok _ _ ?_ ?_) ?_; (iterate 2 (focus (first | assumption | rfl | omega | (simp <;> omega) | (simp_all <;> omega)))); rintro _ _ ⟨s, big, al, hs5, rfl, rfl⟩) | ((first | refine call0D (BCall.ofP (iVFmt_ok _ _ _ _ ?_ ?_)) ?_ | refine qcall0D (BCall.ofP (iVFmt_ok _ _ _ _ ?_ ?_)) ⟨_, _, rfl, rfl⟩ ?_); (iterate 2 (focus (first | assumption | rfl | omega | (simp <;> omega) | (simp_all <;> omega)))); rintro _ _ ⟨rfl, rfl⟩) | ((first | refine call0D (BCall.ofP (sVFmt_ok _ _ _ _ ?_ ?_)) ?_ | refine qcall0D (BCall.ofP (sVFmt_ok _ _ _ _ ?_ ?_)) ⟨_, _, rfl, rfl⟩ ?_); (iterate 2 (focus (first | assumption | rfl | omega | (simp <;> omega) | (simp_all <;> omega)))); rintro _ _ ⟨rfl, rfl⟩)) <;> (try simp (maxSteps := 400000) (disch := omega) only [push_cast, seval, hv, hone', decide_true]))
      | (refine awp_ret ⟨.inr rfl, _, rfl, ?_⟩; (try simp (maxSteps := 400000) (disch := omega) only [push_cast, seval, hv, hone', decide_true]))))
          all_goals (try simp)
        · have hone' : ¬ (s.length : Int) = 1 := by omega
          have ht := vF_take hv (by omega)
          obtain ⟨m, hm⟩ : ∃ m, s.length - 1 = m := ⟨_, rfl⟩
          have hmi : (s.length : Int) - 1 = (m : Int) := by omega
          have hml : m ≤ s.length := by omega
          rw [hm] at ht
          have htl : (s.take m).length = m := by simp; omega
          have tk0 : List.take m (s.map (AV.int .i64)) = (s.take m).map (AV.int .i64) := by rw [List.map_take]
          have hmq : m ≤ 1099511627776 := by omega
          generalize hT : s.take m = T at *
          (repeat' (first
      | (first | refine awp_seq ?_ | refine awp_block ?_)
      | ((first | refine awp_reg ?_ | refine awp_draw (mid := l3r7a) (post := l3r7b) mixed (by decide) ?_ | refine awp_condB ?_ | refine awp_skip ?_ | refine awp_exit ?_); simp (maxSteps := 400000) (disch := omega) only [push_cast, seval, l3r0, l3r1, l3r2, l3r3, l3r4, l3r5, l3r6, l3r7a, l3r7b, l3r7, hv, hone', hmi, ht, tk0, Nat.mul_one, Nat.sub_zero, decide_true])
      | ((first | refine condB_split (fun h => ?_) (fun h => ?_) | refine gIf_split (fun h => ?_) (fun h => ?_) | refine qIf_split (fun h => ?_) (fun h => ?_)) <;> (try simp only [h]) <;> (try simp only [decide_eq_true_eq, decide_eq_false_iff_not, Bool.not_eq_true', Bool.not_eq_false', Bool.and_eq_true, Bool.or_eq_true, Bool.and_eq_false_iff, Bool.or_eq_false_iff, Int.not_le, Int.not_lt, bne_iff_ne, ne_eq, beq_iff_eq, Bool.not_eq_true, Bool.not_eq_false] at h) <;> (try simp only [h]) <;> (first | (exfalso; omega) | (focus (exfalso; simp_all; done)) | (simp (maxSteps := 400000) (disch := omega) only [push_cast, seval, hv, hone', hmi, ht, tk0, Nat.mul_one, Nat.sub_zero, decide_true]) | skip))
      | ((first | refine callD_of false ?_ | refine qcallD_of false ?_); simp (maxSteps := 400000) (disch := omega) only [push_cast, seval, hv, hone', hmi, ht, tk0, Nat.mul_one, Nat.sub_zero, decide_true])
      | ((first | (refine call0D (drawVF_ok _ _ ?_ ?_) ?_; (iterate 2 (focus (first | assumption | rfl | omega | (simp <;> omega) | (simp_all <;> omega)))); rintro _ _ ⟨s, big, al, hs5, rfl, rfl⟩) | ((first | refine call0D (BCall.ofP (iVFmt_ok _ _ _ _ ?_ ?_)) ?_ | refine qcall0D (BCall.ofP (iVFmt_ok _ _ _ _ ?_ ?_)) ⟨_, _, rfl, rfl⟩ ?_); (iterate 2 (focus (first | assumption | rfl | omega | (simp <;> omega) | (simp_all <;> omega)))); rintro _ _ ⟨rfl, rfl⟩) | ((first | refine call0D (BCall.ofP (sVFmt_ok _ _ _ _ ?_ ?_)) ?_ | refine qcall0D (BCall.ofP (sVFmt_ok _ _ _ _ ?_ ?_)) ⟨_, _, rfl, rfl⟩ ?_); (iterate 2 (focus (first | assumption | rfl | omega | (simp <;> omega) | (simp_all <;> omega)))); rintro _ _ ⟨rfl, rfl⟩)) <;> (try simp (maxSteps := 400000) (disch := omega) only [push_cast, seval, hv, hone', hmi, ht, tk0, Nat.mul_one, Nat.sub_zero, decide_true]))
      | (refine awp_ret ⟨.inr rfl, _, rfl, ?_⟩; (try simp (maxSteps := 400000) (disch := omega) only [push_cast, seval, hv, hone', hmi, ht, tk0, Nat.mul_one, Nat.sub_zero, decide_true]))))
          all_goals (try simp)
  · (repeat' (first
      | (first | refine awp_seq ?_ | refine awp_block ?_)
      | ((first | refine awp_reg ?_ | refine awp_draw (mid := l3r7a) (post := l3r7b) mixed (by decide) ?_ | refine awp_condB ?_ | refine awp_skip ?_ | refine awp_exit ?_); simp (maxSteps := 400000) (disch := omega) only [push_cast, seval, l3r0, l3r1, l3r2, l3r3, l3r4, l3r5, l3r6, l3r7a, l3r7b, l3r7])
      | ((first | refine condB_split (fun h => ?_) (fun h => ?_) | refine gIf_split (fun h => ?_) (fun h => ?_) | refine qIf_split (fun h => ?_) (fun h => ?_)) <;> (try simp only [h]) <;> (try simp only [decide_eq_true_eq, decide_eq_false_iff_not, Bool.not_eq_true', Bool.not_eq_false', Bool.and_eq_true, Bool.or_eq_true, Bool.and_eq_false_iff, Bool.or_eq_false_iff, Int.not_le, Int.not_lt, bne_iff_ne, ne_eq, beq_iff_eq, Bool.not_eq_true, Bool.not_eq_false] at h) <;> (try simp only [h]) <;> (first | (exfalso; omega) | (focus (exfalso; simp_all; done)) | (simp (maxSteps := 400000) (disch := omega) only [push_cast, seval]) | skip))
      | ((first | refine callD_of false ?_ | refine qcallD_of false ?_); simp (maxSteps := 400000) (disch := omega) only [push_cast, seval])
      | ((first | (refine call0D (drawVF_ok _ _ ?_ ?_) ?_; (iterate 2 (focus (first | assumption | rfl | omega | (simp <;> omega) | (simp_all <;> omega)))); rintro _ _ ⟨s, big, al, hs5, rfl, rfl⟩) | ((first | refine call0D (BCall.ofP (iVFmt_ok _ _ _ _ ?_ ?_)) ?_ | refine qcall0D (BCall.ofP (iVFmt_ok _ _ _ _ ?_ ?_)) ⟨_, _, rfl, rfl⟩ ?_); (iterate 2 (focus (first | assumption | rfl | omega | (simp <;> omega) | (simp_all <;> omega)))); rintro _ _ ⟨rfl, rfl⟩) | ((first | refine call0D (BCall.ofP (sVFmt_ok _ _ _ _ ?_ ?_)) ?_ | refine qcall0D (BCall.ofP (sVFmt_ok _ _ _ _ ?_ ?_)) ⟨_, _, rfl, rfl⟩ ?_); (iterate 2 (focus (first | assumption | rfl | omega | (simp <;> omega) | (simp_all <;> omega)))); rintro _ _ ⟨rfl, rfl⟩)) <;> (try simp (maxSteps := 400000) (disch := omega) only [push_cast, seval]))
      | (refine awp_ret ⟨.inr rfl, _, rfl, ?_⟩; (try simp (maxSteps := 400000) (disch := omega) only [push_cast, seval]))))

end Go.Proofs.YtclampodmlklpaaDoor
