import Derived.Test.YtcfjemmoajdcoaaCKj6
import Derived.Test.YtcfjemmoajdcoaaCM1
import Derived.Test.YtcfjemmoajdcoaaCW3
set_option linter.unusedSimpArgs false
set_option linter.unusedVariables false
set_option linter.unnecessarySimpa false
set_option maxRecDepth 4000
set_option maxHeartbeats 4000000
namespace Go.Proofs.Ytcfjemmoajdcoaa
open VwM Vw Go

theorem putL_byte {mem cells vals : List Int} (hm : ∀ x ∈ mem, 0 ≤ x ∧ x ≤ 255) (hv : ∀ j, 0 ≤ vals.getD j 0 ∧ vals.getD j 0 ≤ 255) : ∀ k, ∀ x ∈ putK mem cells vals k, 0 ≤ x ∧ x ≤ 255
  | 0, x, hx => hm x hx
  | k + 1, x, hx => by
    simp only [putK] at hx
    rcases List.mem_or_eq_of_mem_set hx with h1 | h1
    · exact putL_byte hm hv k x h1
    · subst h1; exact hv k
theorem getD_byte {mem : List Int} (hm : ∀ x ∈ mem, 0 ≤ x ∧ x ≤ 255) (j : Nat) : 0 ≤ mem.getD j 0 ∧ mem.getD j 0 ≤ 255 := by
  by_cases hl : j < mem.length
  · exact hm _ (getD_mem hl)
  · rw [List.getD, List.getElem?_eq_none (Nat.le_of_not_lt hl)]; simp
theorem takesL_byte {mem at_ : List Int} (hm : ∀ x ∈ mem, 0 ≤ x ∧ x ≤ 255) : ∀ x ∈ takesL mem at_, 0 ≤ x ∧ x ≤ 255 := by
  intro x hx
  simp only [takesL, List.mem_map] at hx
  obtain ⟨i, _, rfl⟩ := hx
  exact getD_byte hm _
theorem two_take {mem : List Int} {b : Int} {sh st : List Int} {b' : Int} {sh' st' : List Int} (h : twoB mem b sh st b' sh' st' = true) : takB mem b sh st (takesL mem (offs b' sh' st')) = true := by
  obtain ⟨h1, h2, h3⟩ := two_facts h
  obtain ⟨g1, g2, g3⟩ := seeB_spec.1 h2
  have hm := (vMem_spec.1 g1).2
  have hp := see_facts h1
  have hol := offs_length b' sh' st'
  simp only [takB, Bool.and_eq_true, decide_eq_true_eq, allI_iff]
  refine ⟨⟨h1, ?_⟩, takesL_byte hm⟩
  rw [takesL_length, hol, h3]
  subst h3
  omega
theorem see_put {mem : List Int} {b : Int} {sh st vals : List Int} (h : seeB mem b sh st = true) (hv : ∀ x ∈ vals, 0 ≤ x ∧ x ≤ 255) : seeB (putL mem (offs b sh st) vals) b sh st = true := by
  obtain ⟨g1, g2, g3⟩ := seeB_spec.1 h
  obtain ⟨m1, m2⟩ := vMem_spec.1 g1
  refine seeB_spec.2 ⟨vMem_spec.2 ⟨by rw [putL_length]; exact m1, putL_byte m2 (getD_byte hv) _⟩, g2, ?_⟩
  intro x hx
  rw [putL_length]
  exact g3 x hx


set_option maxHeartbeats 32000000 in
theorem lFnCV_ok (bs : List Int) (hl : bs.length ≤ 9223372036854775807) (hb : ∀ x ∈ bs, 0 ≤ x ∧ x ≤ 255) : PCall Try.prog 5 [.rows false (UL bs) bs.length] (fun r => r = .bool true) := by
  refine pcall_of l5_eq rfl ?_
  by_cases h : bs.length ≤ 1048576
  · have q : bs.length ≤ 1099511627776 ∧ ∀ x ∈ bs, 0 ≤ x ∧ x ≤ 255 := ⟨by omega, hb⟩
    (repeat' (first
      | (refine awp_joinL (c1 := .reg l5r3) (fun x : List Int × Int × List Int × List Int × Int × List Int × List Int => mkS [(3, .rows true (IL x.1) x.1.length), (4, .ref 64 3 0), (5, .ref 80 3 0)] [(64, [.int .i64 x.2.1, .rows true (IL x.2.2.1) x.2.2.1.length, .rows true (IL x.2.2.2.1) x.2.2.2.1.length]), (80, [.int .i64 x.2.2.2.2.1, .rows true (IL x.2.2.2.2.2.1) x.2.2.2.2.2.1.length, .rows true (IL x.2.2.2.2.2.2) x.2.2.2.2.2.2.length])]) (fun x => 1 ≤ x.1.length ∧ x.1.length ≤ 60 ∧ x.2.2.1.length ≤ 5 ∧ x.2.2.2.1.length ≤ 5 ∧ x.2.2.2.2.2.1.length ≤ 5 ∧ x.2.2.2.2.2.2.length ≤ 5) ?_ ?_)
      | (first | refine awp_seq ?_ | refine awp_block ?_)
      | ((first | refine awp_reg ?_ | refine awp_draw (mid := l5r8a) (post := l5r8b) mixed (by decide) ?_ | refine awp_draw (mid := l5r9a) (post := l5r9b) mixed (by decide) ?_ | refine awp_condB ?_ | refine awp_skip ?_ | refine awp_exit ?_); simp (maxSteps := 400000) (disch := omega) only [push_cast, seval, l5r0, l5r1, l5r2, l5r3, l5r4, l5r5, l5r6, l5r7, l5r8a, l5r8b, l5r8, l5r9a, l5r9b, l5r9])
      | ((first | refine condB_split (fun h => ?_) (fun h => ?_) | refine gIf_split (fun h => ?_) (fun h => ?_) | refine qIf_split (fun h => ?_) (fun h => ?_)) <;> (try simp only [h]) <;> (try simp only [decide_eq_true_eq, decide_eq_false_iff_not, Bool.not_eq_true', Bool.not_eq_false', Bool.and_eq_true, Bool.or_eq_true, Bool.and_eq_false_iff, Bool.or_eq_false_iff, Int.not_le, Int.not_lt, bne_iff_ne, ne_eq, beq_iff_eq, Bool.not_eq_true, Bool.not_eq_false] at h) <;> (try simp only [h]) <;> (first | (exfalso; omega) | (focus (exfalso; simp_all; done)) | (simp (maxSteps := 400000) (disch := omega) only [push_cast, seval]) | skip))
      | ((first | refine callD_of false ?_ | refine qcallD_of false ?_); simp (maxSteps := 400000) (disch := omega) only [push_cast, seval])
      | ((first | (refine call0D (BCall.ofP (drawCV_ok _ _ ?_ ?_)) ?_; (iterate 2 (focus (first | assumption | rfl | omega | (simp <;> omega) | (simp_all <;> omega)))); rintro _ _ ⟨⟨mem, b, sh, st, b', sh', st', _, _, _, _, _, ⟨rfl, rfl, rfl, rfl, rfl, hm1, hm2, hc1, hc2, hc3, hc4⟩, rfl⟩, rfl⟩) | ((first | refine call0D (iCopy_ok _ _ _ _ _ _ _ _ _ _ _ _ ?_ ?_ ?_ ?_ ?_ ?_) ?_ | refine qcall0D (iCopy_ok _ _ _ _ _ _ _ _ _ _ _ _ ?_ ?_ ?_ ?_ ?_ ?_) ⟨_, _, rfl, rfl⟩ ?_); (iterate 6 (focus (first | assumption | rfl | omega | (simp <;> omega) | (simp_all <;> omega)))); rintro _ _ ⟨rfl, rfl⟩) | ((first | refine call0D (sCopy_ok _ _ _ _ _ _ _ _ _ _ _ _ ?_ ?_ ?_ ?_ ?_ ?_) ?_ | refine qcall0D (sCopy_ok _ _ _ _ _ _ _ _ _ _ _ _ ?_ ?_ ?_ ?_ ?_ ?_) ⟨_, _, rfl, rfl⟩ ?_); (iterate 6 (focus (first | assumption | rfl | omega | (simp <;> omega) | (simp_all <;> omega)))); rintro _ _ ⟨rfl, rfl⟩) | ((first | refine call0D (BCall.ofP (equalInts_ok _ _ _ _ ?_ ?_ ?_)) ?_ | refine qcall0D (BCall.ofP (equalInts_ok _ _ _ _ ?_ ?_ ?_)) ⟨_, _, rfl, rfl⟩ ?_); (iterate 3 (focus (first | assumption | rfl | omega | (simp <;> omega) | (simp_all <;> omega)))); rintro _ _ ⟨rfl, rfl⟩) | ((first | refine call0D (iLoad_ok _ _ _ _ _ _ _ ?_ ?_ ?_ ?_) ?_ | refine qcall0D (iLoad_ok _ _ _ _ _ _ _ ?_ ?_ ?_ ?_) ⟨_, _, rfl, rfl⟩ ?_); (iterate 4 (focus (first | assumption | rfl | omega | (simp <;> omega) | (simp_all <;> omega)))); rintro _ _ ⟨rfl, rfl⟩) | ((first | refine call0D (iStore_ok _ _ _ _ _ _ _ _ _ ?_ ?_ ?_ ?_ ?_) ?_ | refine qcall0D (iStore_ok _ _ _ _ _ _ _ _ _ ?_ ?_ ?_ ?_ ?_) ⟨_, _, rfl, rfl⟩ ?_); (iterate 5 (focus (first | assumption | rfl | omega | (simp <;> omega) | (simp_all <;> omega)))); rintro _ _ ⟨rfl, rfl⟩) | ((first | refine call0D (BCall.ofP (iIsOneToOne_ok _ _ _ _ _ ?_ ?_ ?_)) ?_ | refine qcall0D (BCall.ofP (iIsOneToOne_ok _ _ _ _ _ ?_ ?_ ?_)) ⟨_, _, rfl, rfl⟩ ?_); (iterate 3 (focus (first | assumption | rfl | omega | (simp <;> omega) | (simp_all <;> omega)))); rintro _ _ ⟨rfl, rfl⟩)) <;> (try simp (maxSteps := 400000) (disch := omega) only [push_cast, seval]))
      | (refine awp_ret ⟨.inr rfl, _, rfl, ?_⟩; (try simp (maxSteps := 400000) (disch := omega) only [push_cast, seval]))))
    · (refine exSub7 (Sub.of_eqs rfl rfl ?_ ?_ ?_) ?_; (focus (simp [Vw.mkS, Vw.lk, Vw.hk, AV.inn, innL, innL_ints, innL_append, innL_rep, -List.map_set, -List.getD_eq_getElem?_getD, innL_ints]; done)); (focus (simp [AV.inn, innL, Vw.hk, innL_ints]; done)); (focus (simp [AV.inn, innL, innL_ints, innL_append, innL_rep, Vw.hk, innL_ints]; done)); (try simp only); (first | omega | (refine ⟨?_, ?_⟩ <;> first | assumption | omega) | (refine ⟨?_, ?_, ?_⟩ <;> first | assumption | omega) | (refine ⟨?_, ?_, ?_, ?_⟩ <;> first | assumption | omega)))
    · refine ⟨?_⟩
      rintro ⟨mem, b, sh, st, b', sh', st'⟩ ⟨hm1, hm2, hc1, hc2, hc3, hc4⟩
      try simp only at hm1 hm2 hc1 hc2 hc3 hc4 ⊢
      have hq : (mem.length ≤ 1099511627776 ∧ sh.length ≤ 1099511627776 ∧ st.length ≤ 1099511627776) ∧ sh'.length ≤ 1099511627776 ∧ st'.length ≤ 1099511627776 := by omega
      have hq1 : mem.length ≤ 1099511627776 ∧ sh'.length ≤ 1099511627776 ∧ st'.length ≤ 1099511627776 := by omega
      have hq2 : sh.length ≤ 1099511627776 ∧ st.length ≤ 1099511627776 := by omega
      cases hT : twoB mem b sh st b' sh' st' with
      | false =>
        have hQl : (MVL false (putL mem (offs b sh st) (takesL mem (offs b' sh' st')))).length = 0 := rfl
        generalize hQ : MVL false (putL mem (offs b sh st) (takesL mem (offs b' sh' st'))) = Q at *
        have hQ2 : Q.length ≤ 1099511627776 ∧ Q.length ≤ 1099511627776 := by omega
        (repeat' (first
      | (first | refine awp_seq ?_ | refine awp_block ?_)
      | ((first | refine awp_reg ?_ | refine awp_draw (mid := l5r8a) (post := l5r8b) mixed (by decide) ?_ | refine awp_draw (mid := l5r9a) (post := l5r9b) mixed (by decide) ?_ | refine awp_condB ?_ | refine awp_skip ?_ | refine awp_exit ?_); simp (maxSteps := 400000) (disch := omega) only [push_cast, seval, l5r0, l5r1, l5r2, l5r3, l5r4, l5r5, l5r6, l5r7, l5r8a, l5r8b, l5r8, l5r9a, l5r9b, l5r9, hT, hQ, decide_true])
      | ((first | refine condB_split (fun h => ?_) (fun h => ?_) | refine gIf_split (fun h => ?_) (fun h => ?_) | refine qIf_split (fun h => ?_) (fun h => ?_)) <;> (try simp only [h]) <;> (try simp only [decide_eq_true_eq, decide_eq_false_iff_not, Bool.not_eq_true', Bool.not_eq_false', Bool.and_eq_true, Bool.or_eq_true, Bool.and_eq_false_iff, Bool.or_eq_false_iff, Int.not_le, Int.not_lt, bne_iff_ne, ne_eq, beq_iff_eq, Bool.not_eq_true, Bool.not_eq_false] at h) <;> (try simp only [h]) <;> (first | (exfalso; omega) | (focus (exfalso; simp_all; done)) | (simp (maxSteps := 400000) (disch := omega) only [push_cast, seval, hT, hQ, decide_true]) | skip))
      | ((first | refine callD_of false ?_ | refine qcallD_of false ?_); simp (maxSteps := 400000) (disch := omega) only [push_cast, seval, hT, hQ, decide_true])
      | ((first | (refine call0D (BCall.ofP (drawCV_ok _ _ ?_ ?_)) ?_; (iterate 2 (focus (first | assumption | rfl | omega | (simp <;> omega) | (simp_all <;> omega)))); rintro _ _ ⟨⟨mem, b, sh, st, b', sh', st', _, _, _, _, _, ⟨rfl, rfl, rfl, rfl, rfl, hm1, hm2, hc1, hc2, hc3, hc4⟩, rfl⟩, rfl⟩) | ((first | refine call0D (iCopy_ok _ _ _ _ _ _ _ _ _ _ _ _ ?_ ?_ ?_ ?_ ?_ ?_) ?_ | refine qcall0D (iCopy_ok _ _ _ _ _ _ _ _ _ _ _ _ ?_ ?_ ?_ ?_ ?_ ?_) ⟨_, _, rfl, rfl⟩ ?_); (iterate 6 (focus (first | assumption | rfl | omega | (simp <;> omega) | (simp_all <;> omega)))); rintro _ _ ⟨rfl, rfl⟩) | ((first | refine call0D (sCopy_ok _ _ _ _ _ _ _ _ _ _ _ _ ?_ ?_ ?_ ?_ ?_ ?_) ?_ | refine qcall0D (sCopy_ok _ _ _ _ _ _ _ _ _ _ _ _ ?_ ?_ ?_ ?_ ?_ ?_) ⟨_, _, rfl, rfl⟩ ?_); (iterate 6 (focus (first | assumption | rfl | omega | (simp <;> omega) | (simp_all <;> omega)))); rintro _ _ ⟨rfl, rfl⟩) | ((first | refine call0D (BCall.ofP (equalInts_ok _ _ _ _ ?_ ?_ ?_)) ?_ | refine qcall0D (BCall.ofP (equalInts_ok _ _ _ _ ?_ ?_ ?_)) ⟨_, _, rfl, rfl⟩ ?_); (iterate 3 (focus (first | assumption | rfl | omega | (simp <;> omega) | (simp_all <;> omega)))); rintro _ _ ⟨rfl, rfl⟩) | ((first | refine call0D (iLoad_ok _ _ _ _ _ _ _ ?_ ?_ ?_ ?_) ?_ | refine qcall0D (iLoad_ok _ _ _ _ _ _ _ ?_ ?_ ?_ ?_) ⟨_, _, rfl, rfl⟩ ?_); (iterate 4 (focus (first | assumption | rfl | omega | (simp <;> omega) | (simp_all <;> omega)))); rintro _ _ ⟨rfl, rfl⟩) | ((first | refine call0D (iStore_ok _ _ _ _ _ _ _ _ _ ?_ ?_ ?_ ?_ ?_) ?_ | refine qcall0D (iStore_ok _ _ _ _ _ _ _ _ _ ?_ ?_ ?_ ?_ ?_) ⟨_, _, rfl, rfl⟩ ?_); (iterate 5 (focus (first | assumption | rfl | omega | (simp <;> omega) | (simp_all <;> omega)))); rintro _ _ ⟨rfl, rfl⟩) | ((first | refine call0D (BCall.ofP (iIsOneToOne_ok _ _ _ _ _ ?_ ?_ ?_)) ?_ | refine qcall0D (BCall.ofP (iIsOneToOne_ok _ _ _ _ _ ?_ ?_ ?_)) ⟨_, _, rfl, rfl⟩ ?_); (iterate 3 (focus (first | assumption | rfl | omega | (simp <;> omega) | (simp_all <;> omega)))); rintro _ _ ⟨rfl, rfl⟩)) <;> (try simp (maxSteps := 400000) (disch := omega) only [push_cast, seval, hT, hQ, decide_true]))
      | (refine awp_ret ⟨.inr rfl, _, rfl, ?_⟩; (try simp (maxSteps := 400000) (disch := omega) only [push_cast, seval, hT, hQ, decide_true]))))
        all_goals (try simp)
      | true =>
        obtain ⟨s1, s2, s3⟩ := two_facts hT
        have htk := two_take hT
        obtain ⟨_, hLv, hvv, g1, g2, hin, hL60⟩ := takB_facts htk
        have hmb := (vMem_spec.1 g1).2
        have hsp := see_put s1 (takesL_byte (at_ := offs b' sh' st') hmb)
        have hpl := putL_length mem (offs b sh st) (takesL mem (offs b' sh' st'))
        have hone : oneB b sh st = true → takesL (putL mem (offs b sh st) (takesL mem (offs b' sh' st'))) (offs b sh st) = takesL mem (offs b' sh' st') := fun ho => by
          simp only [oneB, Bool.and_eq_true, decide_eq_true_eq] at ho
          exact takes_put hin ho.2 hLv.symm
        have hTl := takesL_length mem (offs b' sh' st')
        generalize hL : offs b sh st = L at *
        generalize hL' : offs b' sh' st' = L' at *
        generalize hX : takesL mem L' = X at *
        generalize hP : putL mem L X = P at *
        have hX60 : X.length ≤ 60 := by omega
        have hP2 : P.length ≤ 1099511627776 ∧ P.length ≤ 1099511627776 := by omega
        have hq3 : (mem.length ≤ 1099511627776 ∧ sh.length ≤ 1099511627776 ∧ st.length ≤ 1099511627776) ∧ X.length ≤ 1099511627776 := by omega
        have hq4 : P.length ≤ 1099511627776 ∧ sh.length ≤ 1099511627776 ∧ st.length ≤ 1099511627776 := by omega
        have hX2 : X.length ≤ 1099511627776 ∧ X.length ≤ 1099511627776 := by omega
        clear hvv hin hmb hTl
        cases ho : oneB b sh st with
        | false =>
          clear hone
          (repeat' (first
      | (first | refine awp_seq ?_ | refine awp_block ?_)
      | ((first | refine awp_reg ?_ | refine awp_draw (mid := l5r8a) (post := l5r8b) mixed (by decide) ?_ | refine awp_draw (mid := l5r9a) (post := l5r9b) mixed (by decide) ?_ | refine awp_condB ?_ | refine awp_skip ?_ | refine awp_exit ?_); simp (maxSteps := 400000) (disch := omega) only [push_cast, seval, l5r0, l5r1, l5r2, l5r3, l5r4, l5r5, l5r6, l5r7, l5r8a, l5r8b, l5r8, l5r9a, l5r9b, l5r9, hT, MVL_true, s1, s2, htk, hL, hL', hX, hP, ho, decide_true])
      | ((first | refine condB_split (fun h => ?_) (fun h => ?_) | refine gIf_split (fun h => ?_) (fun h => ?_) | refine qIf_split (fun h => ?_) (fun h => ?_)) <;> (try simp only [h]) <;> (try simp only [decide_eq_true_eq, decide_eq_false_iff_not, Bool.not_eq_true', Bool.not_eq_false', Bool.and_eq_true, Bool.or_eq_true, Bool.and_eq_false_iff, Bool.or_eq_false_iff, Int.not_le, Int.not_lt, bne_iff_ne, ne_eq, beq_iff_eq, Bool.not_eq_true, Bool.not_eq_false] at h) <;> (try simp only [h]) <;> (first | (exfalso; omega) | (focus (exfalso; simp_all; done)) | (simp (maxSteps := 400000) (disch := omega) only [push_cast, seval, hT, MVL_true, s1, s2, htk, hL, hL', hX, hP, ho, decide_true]) | skip))
      | ((first | refine callD_of false ?_ | refine qcallD_of false ?_); simp (maxSteps := 400000) (disch := omega) only [push_cast, seval, hT, MVL_true, s1, s2, htk, hL, hL', hX, hP, ho, decide_true])
      | ((first | (refine call0D (BCall.ofP (drawCV_ok _ _ ?_ ?_)) ?_; (iterate 2 (focus (first | assumption | rfl | omega | (simp <;> omega) | (simp_all <;> omega)))); rintro _ _ ⟨⟨mem, b, sh, st, b', sh', st', _, _, _, _, _, ⟨rfl, rfl, rfl, rfl, rfl, hm1, hm2, hc1, hc2, hc3, hc4⟩, rfl⟩, rfl⟩) | ((first | refine call0D (iCopy_ok _ _ _ _ _ _ _ _ _ _ _ _ ?_ ?_ ?_ ?_ ?_ ?_) ?_ | refine qcall0D (iCopy_ok _ _ _ _ _ _ _ _ _ _ _ _ ?_ ?_ ?_ ?_ ?_ ?_) ⟨_, _, rfl, rfl⟩ ?_); (iterate 6 (focus (first | assumption | rfl | omega | (simp <;> omega) | (simp_all <;> omega)))); rintro _ _ ⟨rfl, rfl⟩) | ((first | refine call0D (sCopy_ok _ _ _ _ _ _ _ _ _ _ _ _ ?_ ?_ ?_ ?_ ?_ ?_) ?_ | refine qcall0D (sCopy_ok _ _ _ _ _ _ _ _ _ _ _ _ ?_ ?_ ?_ ?_ ?_ ?_) ⟨_, _, rfl, rfl⟩ ?_); (iterate 6 (focus (first | assumption | rfl | omega | (simp <;> omega) | (simp_all <;> omega)))); rintro _ _ ⟨rfl, rfl⟩) | ((first | refine call0D (BCall.ofP (equalInts_ok _ _ _ _ ?_ ?_ ?_)) ?_ | refine qcall0D (BCall.ofP (equalInts_ok _ _ _ _ ?_ ?_ ?_)) ⟨_, _, rfl, rfl⟩ ?_); (iterate 3 (focus (first | assumption | rfl | omega | (simp <;> omega) | (simp_all <;> omega)))); rintro _ _ ⟨rfl, rfl⟩) | ((first | refine call0D (iLoad_ok _ _ _ _ _ _ _ ?_ ?_ ?_ ?_) ?_ | refine qcall0D (BCall.ofP (plainI (iLoad_ok _ _ _ _ _ _ _ ?_ ?_ ?_ ?_))) ⟨_, _, rfl, rfl⟩ ?_); (iterate 4 (focus (first | assumption | rfl | omega | (simp <;> omega) | (simp_all <;> omega)))); rintro _ _ ⟨rfl, rfl⟩) | ((first | refine call0D (iStore_ok _ _ _ _ _ _ _ _ _ ?_ ?_ ?_ ?_ ?_) ?_ | refine qcall0D (iStore_ok _ _ _ _ _ _ _ _ _ ?_ ?_ ?_ ?_ ?_) ⟨_, _, rfl, rfl⟩ ?_); (iterate 5 (focus (first | assumption | rfl | omega | (simp <;> omega) | (simp_all <;> omega)))); rintro _ _ ⟨rfl, rfl⟩) | ((first | refine call0D (BCall.ofP (iIsOneToOne_ok _ _ _ _ _ ?_ ?_ ?_)) ?_ | refine qcall0D (BCall.ofP (iIsOneToOne_ok _ _ _ _ _ ?_ ?_ ?_)) ⟨_, _, rfl, rfl⟩ ?_); (iterate 3 (focus (first | assumption | rfl | omega | (simp <;> omega) | (simp_all <;> omega)))); rintro _ _ ⟨rfl, rfl⟩)) <;> (try simp (maxSteps := 400000) (disch := omega) only [push_cast, seval, hT, MVL_true, s1, s2, htk, hL, hL', hX, hP, ho, decide_true]))
      | (refine awp_ret ⟨.inr rfl, _, rfl, ?_⟩; (try simp (maxSteps := 400000) (disch := omega) only [push_cast, seval, hT, MVL_true, s1, s2, htk, hL, hL', hX, hP, ho, decide_true]))))
          all_goals (try simp)
        | true =>
          have hone2 := hone ho
          clear hone
          (repeat' (first
      | (first | refine awp_seq ?_ | refine awp_block ?_)
      | ((first | refine awp_reg ?_ | refine awp_draw (mid := l5r8a) (post := l5r8b) mixed (by decide) ?_ | refine awp_draw (mid := l5r9a) (post := l5r9b) mixed (by decide) ?_ | refine awp_condB ?_ | refine awp_skip ?_ | refine awp_exit ?_); simp (maxSteps := 400000) (disch := omega) only [push_cast, seval, l5r0, l5r1, l5r2, l5r3, l5r4, l5r5, l5r6, l5r7, l5r8a, l5r8b, l5r8, l5r9a, l5r9b, l5r9, hT, MVL_true, s1, s2, htk, hsp, hL, hL', hX, hP, ho, hone2, decide_true])
      | ((first | refine condB_split (fun h => ?_) (fun h => ?_) | refine gIf_split (fun h => ?_) (fun h => ?_) | refine qIf_split (fun h => ?_) (fun h => ?_)) <;> (try simp only [h]) <;> (try simp only [decide_eq_true_eq, decide_eq_false_iff_not, Bool.not_eq_true', Bool.not_eq_false', Bool.and_eq_true, Bool.or_eq_true, Bool.and_eq_false_iff, Bool.or_eq_false_iff, Int.not_le, Int.not_lt, bne_iff_ne, ne_eq, beq_iff_eq, Bool.not_eq_true, Bool.not_eq_false] at h) <;> (try simp only [h]) <;> (first | (exfalso; omega) | (focus (exfalso; simp_all; done)) | (simp (maxSteps := 400000) (disch := omega) only [push_cast, seval, hT, MVL_true, s1, s2, htk, hsp, hL, hL', hX, hP, ho, hone2, decide_true]) | skip))
      | ((first | refine callD_of false ?_ | refine qcallD_of false ?_); simp (maxSteps := 400000) (disch := omega) only [push_cast, seval, hT, MVL_true, s1, s2, htk, hsp, hL, hL', hX, hP, ho, hone2, decide_true])
      | ((first | (refine call0D (BCall.ofP (drawCV_ok _ _ ?_ ?_)) ?_; (iterate 2 (focus (first | assumption | rfl | omega | (simp <;> omega) | (simp_all <;> omega)))); rintro _ _ ⟨⟨mem, b, sh, st, b', sh', st', _, _, _, _, _, ⟨rfl, rfl, rfl, rfl, rfl, hm1, hm2, hc1, hc2, hc3, hc4⟩, rfl⟩, rfl⟩) | ((first | refine call0D (iCopy_ok _ _ _ _ _ _ _ _ _ _ _ _ ?_ ?_ ?_ ?_ ?_ ?_) ?_ | refine qcall0D (iCopy_ok _ _ _ _ _ _ _ _ _ _ _ _ ?_ ?_ ?_ ?_ ?_ ?_) ⟨_, _, rfl, rfl⟩ ?_); (iterate 6 (focus (first | assumption | rfl | omega | (simp <;> omega) | (simp_all <;> omega)))); rintro _ _ ⟨rfl, rfl⟩) | ((first | refine call0D (sCopy_ok _ _ _ _ _ _ _ _ _ _ _ _ ?_ ?_ ?_ ?_ ?_ ?_) ?_ | refine qcall0D (sCopy_ok _ _ _ _ _ _ _ _ _ _ _ _ ?_ ?_ ?_ ?_ ?_ ?_) ⟨_, _, rfl, rfl⟩ ?_); (iterate 6 (focus (first | assumption | rfl | omega | (simp <;> omega) | (simp_all <;> omega)))); rintro _ _ ⟨rfl, rfl⟩) | ((first | refine call0D (BCall.ofP (equalInts_ok _ _ _ _ ?_ ?_ ?_)) ?_ | refine qcall0D (BCall.ofP (equalInts_ok _ _ _ _ ?_ ?_ ?_)) ⟨_, _, rfl, rfl⟩ ?_); (iterate 3 (focus (first | assumption | rfl | omega | (simp <;> omega) | (simp_all <;> omega)))); rintro _ _ ⟨rfl, rfl⟩) | ((first | refine call0D (iLoad_ok _ _ _ _ _ _ _ ?_ ?_ ?_ ?_) ?_ | refine qcall0D (BCall.ofP (plainI (iLoad_ok _ _ _ _ _ _ _ ?_ ?_ ?_ ?_))) ⟨_, _, rfl, rfl⟩ ?_); (iterate 4 (focus (first | assumption | rfl | omega | (simp <;> omega) | (simp_all <;> omega)))); rintro _ _ ⟨rfl, rfl⟩) | ((first | refine call0D (iStore_ok _ _ _ _ _ _ _ _ _ ?_ ?_ ?_ ?_ ?_) ?_ | refine qcall0D (iStore_ok _ _ _ _ _ _ _ _ _ ?_ ?_ ?_ ?_ ?_) ⟨_, _, rfl, rfl⟩ ?_); (iterate 5 (focus (first | assumption | rfl | omega | (simp <;> omega) | (simp_all <;> omega)))); rintro _ _ ⟨rfl, rfl⟩) | ((first | refine call0D (BCall.ofP (iIsOneToOne_ok _ _ _ _ _ ?_ ?_ ?_)) ?_ | refine qcall0D (BCall.ofP (iIsOneToOne_ok _ _ _ _ _ ?_ ?_ ?_)) ⟨_, _, rfl, rfl⟩ ?_); (iterate 3 (focus (first | assumption | rfl | omega | (simp <;> omega) | (simp_all <;> omega)))); rintro _ _ ⟨rfl, rfl⟩)) <;> (try simp (maxSteps := 400000) (disch := omega) only [push_cast, seval, hT, MVL_true, s1, s2, htk, hsp, hL, hL', hX, hP, ho, hone2, decide_true]))
      | (refine awp_ret ⟨.inr rfl, _, rfl, ?_⟩; (try simp (maxSteps := 400000) (disch := omega) only [push_cast, seval, hT, MVL_true, s1, s2, htk, hsp, hL, hL', hX, hP, ho, hone2, decide_true]))))
          all_goals (try simp)
  · (repeat' (first
      | (first | refine awp_seq ?_ | refine awp_block ?_)
      | ((first | refine awp_reg ?_ | refine awp_draw (mid := l5r8a) (post := l5r8b) mixed (by decide) ?_ | refine awp_draw (mid := l5r9a) (post := l5r9b) mixed (by decide) ?_ | refine awp_condB ?_ | refine awp_skip ?_ | refine awp_exit ?_); simp (maxSteps := 400000) (disch := omega) only [push_cast, seval, l5r0, l5r1, l5r2, l5r3, l5r4, l5r5, l5r6, l5r7, l5r8a, l5r8b, l5r8, l5r9a, l5r9b, l5r9])
      | ((first | refine condB_split (fun h => ?_) (fun h => ?_) | refine gIf_split (fun h => ?_) (fun h => ?_) | refine qIf_split (fun h => ?_) (fun h => ?_)) <;> (try simp only [h]) <;> (try simp only [decide_eq_true_eq, decide_eq_false_iff_not, Bool.not_eq_true', Bool.not_eq_false', Bool.and_eq_true, Bool.or_eq_true, Bool.and_eq_false_iff, Bool.or_eq_false_iff, Int.not_le, Int.not_lt, bne_iff_ne, ne_eq, beq_iff_eq, Bool.not_eq_true, Bool.not_eq_false] at h) <;> (try simp only [h]) <;> (first | (exfalso; omega) | (focus (exfalso; simp_all; done)) | (simp (maxSteps := 400000) (disch := omega) only [push_cast, seval]) | skip))
      | ((first | refine callD_of false ?_ | refine qcallD_of false ?_); simp (maxSteps := 400000) (disch := omega) only [push_cast, seval])
      | ((first | (refine call0D (BCall.ofP (drawCV_ok _ _ ?_ ?_)) ?_; (iterate 2 (focus (first | assumption | rfl | omega | (simp <;> omega) | (simp_all <;> omega)))); rintro _ _ ⟨⟨mem, b, sh, st, b', sh', st', _, _, _, _, _, ⟨rfl, rfl, rfl, rfl, rfl, hm1, hm2, hc1, hc2, hc3, hc4⟩, rfl⟩, rfl⟩) | ((first | refine call0D (iCopy_ok _ _ _ _ _ _ _ _ _ _ _ _ ?_ ?_ ?_ ?_ ?_ ?_) ?_ | refine qcall0D (iCopy_ok _ _ _ _ _ _ _ _ _ _ _ _ ?_ ?_ ?_ ?_ ?_ ?_) ⟨_, _, rfl, rfl⟩ ?_); (iterate 6 (focus (first | assumption | rfl | omega | (simp <;> omega) | (simp_all <;> omega)))); rintro _ _ ⟨rfl, rfl⟩) | ((first | refine call0D (sCopy_ok _ _ _ _ _ _ _ _ _ _ _ _ ?_ ?_ ?_ ?_ ?_ ?_) ?_ | refine qcall0D (sCopy_ok _ _ _ _ _ _ _ _ _ _ _ _ ?_ ?_ ?_ ?_ ?_ ?_) ⟨_, _, rfl, rfl⟩ ?_); (iterate 6 (focus (first | assumption | rfl | omega | (simp <;> omega) | (simp_all <;> omega)))); rintro _ _ ⟨rfl, rfl⟩) | ((first | refine call0D (BCall.ofP (equalInts_ok _ _ _ _ ?_ ?_ ?_)) ?_ | refine qcall0D (BCall.ofP (equalInts_ok _ _ _ _ ?_ ?_ ?_)) ⟨_, _, rfl, rfl⟩ ?_); (iterate 3 (focus (first | assumption | rfl | omega | (simp <;> omega) | (simp_all <;> omega)))); rintro _ _ ⟨rfl, rfl⟩) | ((first | refine call0D (iLoad_ok _ _ _ _ _ _ _ ?_ ?_ ?_ ?_) ?_ | refine qcall0D (iLoad_ok _ _ _ _ _ _ _ ?_ ?_ ?_ ?_) ⟨_, _, rfl, rfl⟩ ?_); (iterate 4 (focus (first | assumption | rfl | omega | (simp <;> omega) | (simp_all <;> omega)))); rintro _ _ ⟨rfl, rfl⟩) | ((first | refine call0D (iStore_ok _ _ _ _ _ _ _ _ _ ?_ ?_ ?_ ?_ ?_) ?_ | refine qcall0D (iStore_ok _ _ _ _ _ _ _ _ _ ?_ ?_ ?_ ?_ ?_) ⟨_, _, rfl, rfl⟩ ?_); (iterate 5 (focus (first | assumption | rfl | omega | (simp <;> omega) | (simp_all <;> omega)))); rintro _ _ ⟨rfl, rfl⟩) | ((first | refine call0D (BCall.ofP (iIsOneToOne_ok _ _ _ _ _ ?_ ?_ ?_)) ?_ | refine qcall0D (BCall.ofP (iIsOneToOne_ok _ _ _ _ _ ?_ ?_ ?_)) ⟨_, _, rfl, rfl⟩ ?_); (iterate 3 (focus (first | assumption | rfl | omega | (simp <;> omega) | (simp_all <;> omega)))); rintro _ _ ⟨rfl, rfl⟩)) <;> (try simp (maxSteps := 400000) (disch := omega) only [push_cast, seval]))
      | (refine awp_ret ⟨.inr rfl, _, rfl, ?_⟩; (try simp (maxSteps := 400000) (disch := omega) only [push_cast, seval]))))

end Go.Proofs.Ytcfjemmoajdcoaa
