import Derived.Test.YtcfjemmoajdcoaaCKc9
import Derived.Test.YtcfjemmoajdcoaaCM1
import Derived.Test.YtcfjemmoajdcoaaCW3
set_option linter.unusedSimpArgs false
set_option linter.unusedVariables false
set_option maxRecDepth 4000
set_option maxHeartbeats 4000000
namespace Go.Proofs.Ytcfjemmoajdcoaa
open VwM Vw Go

theorem sumV_perm {mem : List Int} {b : Int} {sh st order : List Int} (hs : seeB mem b sh st = true) (h : isOrd order sh.length) : sumV mem b (permL sh order) (permL st order) = sumV mem b sh st := by
  have hg := (vSh_good (vV_spec.1 (seeB_spec.1 hs).2.1).1).1
  have hp := offs_perm (b := b) (st := st) hg h
  unfold sumV
  rw [if_pos hs, if_pos (seeB_perm hs h)]
  have := sumT_perm (hp.map fun i : Int => mem.getD i.toNat 0)
  simp only [List.length_map] at this
  exact this


theorem total_ok (xs : List Int) (n : Nat) (hn : xs.length = n) (hb : n ≤ 100 ∧ ∀ x ∈ xs, 0 ≤ x ∧ x ≤ 255) : PCall Try.prog 43 [.rows false (IL xs) n] (fun r => r = .int .i64 (sumT xs n)) := by
  subst hn
  obtain ⟨hb1, hb2⟩ := hb
  refine pcall_of l43_eq rfl ?_
  (repeat' (first
 | (first | refine awp_seq ?_ | refine awp_block ?_)
 | ((first | refine awp_reg ?_ | refine awp_condB ?_ | refine awp_skip ?_ | refine awp_exit ?_); simp (maxSteps := 400000) (disch := omega) only [push_cast, seval, l43r0, l43r1, l43r2, l43r3, l43r4, l43r5, l43r6])
 | ((first | refine condB_split (fun h => ?_) (fun h => ?_) | refine gIf_split (fun h => ?_) (fun h => ?_) | refine qIf_split (fun h => ?_) (fun h => ?_)) <;> (try simp only [h]) <;> (try simp only [decide_eq_true_eq, decide_eq_false_iff_not, Bool.not_eq_true', Bool.not_eq_false', Bool.and_eq_true, Bool.or_eq_true, Bool.and_eq_false_iff, Bool.or_eq_false_iff, Int.not_le, Int.not_lt, bne_iff_ne, ne_eq, beq_iff_eq, Bool.not_eq_true, Bool.not_eq_false] at h) <;> (try simp only [h]) <;> (first | (exfalso; omega) | (focus (exfalso; simp_all; done)) | (simp (maxSteps := 400000) (disch := omega) only [push_cast, seval]) | skip))
 | (refine awp_ret ⟨.inr rfl, _, rfl, ?_⟩; (try simp (maxSteps := 400000) (disch := omega) only [push_cast, seval]))))
  refine awp_loop (fun k : Nat => mkS [(0, RI xs), (3, .int .i64 (sumT xs k)), (4, .int .i64 k)] []) (fun k => k ≤ xs.length) (fun k => xs.length - k) 0 (Nat.zero_le _) ?_ ?_
  · have e0 : sumT xs 0 = 0 := rfl
    (refine Sub.of_lists ?_ ?_ ?_ ?_ ?_ <;> simp [Vw.mkS, Vw.lk, Vw.hk, AV.inn, innL, innL_ints, innL_append, innL_rep, -List.map_set, -List.getD_eq_getElem?_getD, e0])
  · intro k hk
    have b1 := sumT_bound2 hb2 k
    by_cases hlt : k < xs.length
    · have hx := hb2 _ (getD_mem hlt)
      have e1 : sumT xs (k + 1) = sumT xs k + xs.getD k 0 := rfl
      generalize hA : sumT xs k = A at *
      (repeat' (first
 | (first | refine awp_seq ?_ | refine awp_block ?_)
 | ((first | refine awp_reg ?_ | refine awp_condB ?_ | refine awp_skip ?_ | refine awp_exit ?_); simp (maxSteps := 400000) (disch := omega) only [push_cast, seval, l43r0, l43r1, l43r2, l43r3, l43r4, l43r5, l43r6])
 | ((first | refine condB_split (fun h => ?_) (fun h => ?_) | refine gIf_split (fun h => ?_) (fun h => ?_) | refine qIf_split (fun h => ?_) (fun h => ?_)) <;> (try simp only [h]) <;> (try simp only [decide_eq_true_eq, decide_eq_false_iff_not, Bool.not_eq_true', Bool.not_eq_false', Bool.and_eq_true, Bool.or_eq_true, Bool.and_eq_false_iff, Bool.or_eq_false_iff, Int.not_le, Int.not_lt, bne_iff_ne, ne_eq, beq_iff_eq, Bool.not_eq_true, Bool.not_eq_false] at h) <;> (try simp only [h]) <;> (first | (exfalso; omega) | (focus (exfalso; simp_all; done)) | (simp (maxSteps := 400000) (disch := omega) only [push_cast, seval]) | skip))
 | (refine awp_ret ⟨.inr rfl, _, rfl, ?_⟩; (try simp (maxSteps := 400000) (disch := omega) only [push_cast, seval]))))
      refine ⟨k + 1, by omega, by omega, ?_⟩
      (refine Sub.of_lists ?_ ?_ ?_ ?_ ?_ <;> simp [Vw.mkS, Vw.lk, Vw.hk, AV.inn, innL, innL_ints, innL_append, innL_rep, -List.map_set, -List.getD_eq_getElem?_getD, e1, hA])
    · have e : k = xs.length := by omega
      subst e
      (repeat' (first
 | (first | refine awp_seq ?_ | refine awp_block ?_)
 | ((first | refine awp_reg ?_ | refine awp_condB ?_ | refine awp_skip ?_ | refine awp_exit ?_); simp (maxSteps := 400000) (disch := omega) only [push_cast, seval, l43r0, l43r1, l43r2, l43r3, l43r4, l43r5, l43r6])
 | ((first | refine condB_split (fun h => ?_) (fun h => ?_) | refine gIf_split (fun h => ?_) (fun h => ?_) | refine qIf_split (fun h => ?_) (fun h => ?_)) <;> (try simp only [h]) <;> (try simp only [decide_eq_true_eq, decide_eq_false_iff_not, Bool.not_eq_true', Bool.not_eq_false', Bool.and_eq_true, Bool.or_eq_true, Bool.and_eq_false_iff, Bool.or_eq_false_iff, Int.not_le, Int.not_lt, bne_iff_ne, ne_eq, beq_iff_eq, Bool.not_eq_true, Bool.not_eq_false] at h) <;> (try simp only [h]) <;> (first | (exfalso; omega) | (focus (exfalso; simp_all; done)) | (simp (maxSteps := 400000) (disch := omega) only [push_cast, seval]) | skip))
 | (refine awp_ret ⟨.inr rfl, _, rfl, ?_⟩; (try simp (maxSteps := 400000) (disch := omega) only [push_cast, seval]))))


set_option maxHeartbeats 16000000 in
theorem lFnSV_ok (bs : List Int) (hl : bs.length ≤ 9223372036854775807) (hb : ∀ x ∈ bs, 0 ≤ x ∧ x ≤ 255) : PCall Try.prog 9 [.rows false (UL bs) bs.length] (fun r => r = .bool true) := by
  refine pcall_of l9_eq rfl ?_
  by_cases h : bs.length ≤ 1048576
  · have q : bs.length ≤ 1099511627776 ∧ ∀ x ∈ bs, 0 ≤ x ∧ x ≤ 255 := ⟨by omega, hb⟩
    (repeat' (first
 | (refine awp_joinL (c1 := .reg l9r3) (fun x : List Int × Int × List Int × List Int => mkS [(3, .own 208 x.1.length 1), (4, .ref 64 3 0)] [(64, [.int .i64 x.2.1, .own 209 x.2.2.1.length 1, .own 210 x.2.2.2.length 1]), (208, IL x.1), (209, IL x.2.2.1), (210, IL x.2.2.2)]) (fun x => 1 ≤ x.1.length ∧ x.1.length ≤ 60 ∧ good4 x.2.2.1 ∧ x.2.2.2.length ≤ 5) ?_ ?_)
 | (first | refine awp_seq ?_ | refine awp_block ?_)
 | ((first | refine awp_reg ?_ | refine awp_drawX (mid := l9r7a) (post := l9r7b) [96, 1000000006, 2000000096] mixed (by decide) ?_ | refine awp_condB ?_ | refine awp_skip ?_ | refine awp_exit ?_); simp (maxSteps := 400000) (disch := omega) only [push_cast, seval, l9r0, l9r1, l9r2, l9r3, l9r4, l9r5, l9r6, l9r7a, l9r7b, l9r7, l9r8])
 | ((first | refine condB_split (fun h => ?_) (fun h => ?_) | refine gIf_split (fun h => ?_) (fun h => ?_) | refine qIf_split (fun h => ?_) (fun h => ?_)) <;> (try simp only [h]) <;> (try simp only [decide_eq_true_eq, decide_eq_false_iff_not, Bool.not_eq_true', Bool.not_eq_false', Bool.and_eq_true, Bool.or_eq_true, Bool.and_eq_false_iff, Bool.or_eq_false_iff, Int.not_le, Int.not_lt, bne_iff_ne, ne_eq, beq_iff_eq, Bool.not_eq_true, Bool.not_eq_false] at h) <;> (try simp only [h]) <;> (first | (exfalso; omega) | (focus (exfalso; simp_all; done)) | (simp (maxSteps := 400000) (disch := omega) only [push_cast, seval]) | skip))
 | ((first | refine callD_of false ?_ | refine qcallD_of false ?_); simp (maxSteps := 400000) (disch := omega) only [push_cast, seval])
 | ((first | (refine call0D (drawSV_ok _ _ ?_ ?_) ?_; (iterate 2 (focus (first | assumption | rfl | omega | (simp <;> omega) | (simp_all <;> omega)))); rintro _ _ ⟨mem, b, sh, st, ⟨hm1, hm2, hl1, hl2⟩, rfl, rfl⟩) | ((first | refine call0D (BCall.ofP (iSum_ok _ _ _ _ _ _ _ ?_ ?_ ?_ ?_)) ?_ | refine qcall0D (BCall.ofP (iSum_ok _ _ _ _ _ _ _ ?_ ?_ ?_ ?_)) ⟨_, _, rfl, rfl⟩ ?_); (iterate 4 (focus (first | assumption | rfl | omega | (simp <;> omega) | (simp_all <;> omega)))); rintro _ _ ⟨rfl, rfl⟩) | ((first | refine call0D (BCall.ofP (sSum_ok _ _ _ _ _ _ _ ?_ ?_ ?_ ?_)) ?_ | refine qcall0D (BCall.ofP (sSum_ok _ _ _ _ _ _ _ ?_ ?_ ?_ ?_)) ⟨_, _, rfl, rfl⟩ ?_); (iterate 4 (focus (first | assumption | rfl | omega | (simp <;> omega) | (simp_all <;> omega)))); rintro _ _ ⟨rfl, rfl⟩) | ((first | refine call0D (upToL_ok _ ?_) ?_ | refine qcall0D (upToL_ok _ ?_) ⟨_, _, rfl, rfl⟩ ?_); (focus (first | assumption | rfl | omega | (simp <;> omega) | (simp_all <;> omega))); rintro _ _ ⟨rfl, rfl⟩) | ((first | refine call0D (back_ok _ _ ?_ ?_) ?_ | refine qcall0D (back_ok _ _ ?_ ?_) ⟨_, _, rfl, rfl⟩ ?_); (iterate 2 (focus (first | assumption | rfl | omega | (simp <;> omega) | (simp_all <;> omega)))); rintro _ _ ⟨rfl, rfl⟩) | ((first | refine call0D (iPermuteDims_ok _ _ _ _ _ _ _ ?_ ?_ ?_ ?_) ?_ | refine qcall0D (iPermuteDims_ok _ _ _ _ _ _ _ ?_ ?_ ?_ ?_) ⟨_, _, rfl, rfl⟩ ?_); (iterate 4 (focus (first | assumption | rfl | omega | (simp <;> omega) | (simp_all <;> omega)))); rintro _ _ ⟨rfl, rfl⟩) | ((first | refine call0D (iLoad_ok _ _ _ _ _ _ _ ?_ ?_ ?_ ?_) ?_ | refine qcall0D (iLoad_ok _ _ _ _ _ _ _ ?_ ?_ ?_ ?_) ⟨_, _, rfl, rfl⟩ ?_); (iterate 4 (focus (first | assumption | rfl | omega | (simp <;> omega) | (simp_all <;> omega)))); rintro _ _ ⟨rfl, rfl⟩) | ((first | refine call0D (BCall.ofP (total_ok _ _ ?_ ?_)) ?_ | refine qcall0D (BCall.ofP (total_ok _ _ ?_ ?_)) ⟨_, _, rfl, rfl⟩ ?_); (iterate 2 (focus (first | assumption | rfl | omega | (simp <;> omega) | (simp_all <;> omega)))); rintro _ _ ⟨rfl, rfl⟩)) <;> (try simp (maxSteps := 400000) (disch := omega) only [push_cast, seval]))
 | (refine awp_ret ⟨.inr rfl, _, rfl, ?_⟩; (try simp (maxSteps := 400000) (disch := omega) only [push_cast, seval]))))
    · (refine exSub4 (Sub.of_eqs rfl rfl ?_ ?_ ?_) ?_; (focus (simp [Vw.mkS, Vw.lk, Vw.hk, AV.inn, innL, innL_ints, innL_append, innL_rep, -List.map_set, -List.getD_eq_getElem?_getD]; done)); (focus (simp [AV.inn, innL, Vw.hk]; done)); (focus (simp [AV.inn, innL, innL_ints, innL_append, innL_rep, Vw.hk]; done)); (try simp only); (first | omega | (refine ⟨?_, ?_⟩ <;> first | assumption | omega) | (refine ⟨?_, ?_, ?_⟩ <;> first | assumption | omega) | (refine ⟨?_, ?_, ?_, ?_⟩ <;> first | assumption | omega)))
    · refine ⟨?_⟩
      rintro ⟨mem, b, sh, st⟩ ⟨hm1, hm2, hl1, hl2⟩
      try simp only at hm1 hm2 hl1 hl2 ⊢
      have hl0 := hl1.2
      have hq : mem.length ≤ 1099511627776 ∧ sh.length ≤ 1099511627776 ∧ st.length ≤ 1099511627776 := by omega
      cases hs : seeB mem b sh st with
 | false =>
        have hS : sumV mem b sh st = -1 := by unfold sumV; rw [hs]; rfl
        (repeat' (first
 | (first | refine awp_seq ?_ | refine awp_block ?_)
 | ((first | refine awp_reg ?_ | refine awp_drawX (mid := l9r7a) (post := l9r7b) [96, 1000000006, 2000000096] mixed (by decide) ?_ | refine awp_condB ?_ | refine awp_skip ?_ | refine awp_exit ?_); simp (maxSteps := 400000) (disch := omega) only [push_cast, seval, l9r0, l9r1, l9r2, l9r3, l9r4, l9r5, l9r6, l9r7a, l9r7b, l9r7, l9r8, hS, decide_true])
 | ((first | refine condB_split (fun h => ?_) (fun h => ?_) | refine gIf_split (fun h => ?_) (fun h => ?_) | refine qIf_split (fun h => ?_) (fun h => ?_)) <;> (try simp only [h]) <;> (try simp only [decide_eq_true_eq, decide_eq_false_iff_not, Bool.not_eq_true', Bool.not_eq_false', Bool.and_eq_true, Bool.or_eq_true, Bool.and_eq_false_iff, Bool.or_eq_false_iff, Int.not_le, Int.not_lt, bne_iff_ne, ne_eq, beq_iff_eq, Bool.not_eq_true, Bool.not_eq_false] at h) <;> (try simp only [h]) <;> (first | (exfalso; omega) | (focus (exfalso; simp_all; done)) | (simp (maxSteps := 400000) (disch := omega) only [push_cast, seval, hS, decide_true]) | skip))
 | ((first | refine callD_of false ?_ | refine qcallD_of false ?_); simp (maxSteps := 400000) (disch := omega) only [push_cast, seval, hS, decide_true])
 | ((first | (refine call0D (drawSV_ok _ _ ?_ ?_) ?_; (iterate 2 (focus (first | assumption | rfl | omega | (simp <;> omega) | (simp_all <;> omega)))); rintro _ _ ⟨mem, b, sh, st, ⟨hm1, hm2, hl1, hl2⟩, rfl, rfl⟩) | ((first | refine call0D (BCall.ofP (iSum_ok _ _ _ _ _ _ _ ?_ ?_ ?_ ?_)) ?_ | refine qcall0D (BCall.ofP (iSum_ok _ _ _ _ _ _ _ ?_ ?_ ?_ ?_)) ⟨_, _, rfl, rfl⟩ ?_); (iterate 4 (focus (first | assumption | rfl | omega | (simp <;> omega) | (simp_all <;> omega)))); rintro _ _ ⟨rfl, rfl⟩) | ((first | refine call0D (BCall.ofP (sSum_ok _ _ _ _ _ _ _ ?_ ?_ ?_ ?_)) ?_ | refine qcall0D (BCall.ofP (sSum_ok _ _ _ _ _ _ _ ?_ ?_ ?_ ?_)) ⟨_, _, rfl, rfl⟩ ?_); (iterate 4 (focus (first | assumption | rfl | omega | (simp <;> omega) | (simp_all <;> omega)))); rintro _ _ ⟨rfl, rfl⟩) | ((first | refine call0D (upToL_ok _ ?_) ?_ | refine qcall0D (upToL_ok _ ?_) ⟨_, _, rfl, rfl⟩ ?_); (focus (first | assumption | rfl | omega | (simp <;> omega) | (simp_all <;> omega))); rintro _ _ ⟨rfl, rfl⟩) | ((first | refine call0D (back_ok _ _ ?_ ?_) ?_ | refine qcall0D (back_ok _ _ ?_ ?_) ⟨_, _, rfl, rfl⟩ ?_); (iterate 2 (focus (first | assumption | rfl | omega | (simp <;> omega) | (simp_all <;> omega)))); rintro _ _ ⟨rfl, rfl⟩) | ((first | refine call0D (iPermuteDims_ok _ _ _ _ _ _ _ ?_ ?_ ?_ ?_) ?_ | refine qcall0D (iPermuteDims_ok _ _ _ _ _ _ _ ?_ ?_ ?_ ?_) ⟨_, _, rfl, rfl⟩ ?_); (iterate 4 (focus (first | assumption | rfl | omega | (simp <;> omega) | (simp_all <;> omega)))); rintro _ _ ⟨rfl, rfl⟩) | ((first | refine call0D (iLoad_ok _ _ _ _ _ _ _ ?_ ?_ ?_ ?_) ?_ | refine qcall0D (iLoad_ok _ _ _ _ _ _ _ ?_ ?_ ?_ ?_) ⟨_, _, rfl, rfl⟩ ?_); (iterate 4 (focus (first | assumption | rfl | omega | (simp <;> omega) | (simp_all <;> omega)))); rintro _ _ ⟨rfl, rfl⟩) | ((first | refine call0D (BCall.ofP (total_ok _ _ ?_ ?_)) ?_ | refine qcall0D (BCall.ofP (total_ok _ _ ?_ ?_)) ⟨_, _, rfl, rfl⟩ ?_); (iterate 2 (focus (first | assumption | rfl | omega | (simp <;> omega) | (simp_all <;> omega)))); rintro _ _ ⟨rfl, rfl⟩)) <;> (try simp (maxSteps := 400000) (disch := omega) only [push_cast, seval, hS, decide_true]))
 | (refine awp_ret ⟨.inr rfl, _, rfl, ?_⟩; (try simp (maxSteps := 400000) (disch := omega) only [push_cast, seval, hS, decide_true]))))
        all_goals (try simp)
 | true =>
        have hs' := seeB_spec.1 hs
        obtain ⟨g1, hv, g3⟩ := hs'
        have hlst := (okV_valid hv).2
        have hl4 : sh.length ≤ 1000 := by omega
        have hord := isOrd_rev sh.length
        have e1 := permL_rev sh
        have e2 : permL st (nums 0 1 sh.length).reverse = st.reverse := by rw [← hlst]; exact permL_rev st
        have pm : pmOk b sh st (nums 0 1 sh.length).reverse = true := by
          have hm : (decide ((nums 0 1 sh.length).reverse.length = sh.length) && allI (nums 0 1 sh.length).reverse 0 ((sh.length : Int) - 1) && decide (nums 0 1 sh.length).reverse.Nodup) = true := by
            simp only [Bool.and_eq_true, decide_eq_true_eq, allI_iff]
            exact ⟨⟨hord.1, hord.2.1⟩, hord.2.2⟩
          simp only [pmOk, hv, hm, vV_perm hv hord, Bool.and_self]
        have hw := sumV_perm hs hord
        rw [e1, e2] at hw
        have hL60 := (seeJ_pr hs).1
        have e5 : MVL (seeB mem b sh st) (takesL mem (offs b sh st)) = takesL mem (offs b sh st) := by rw [hs]; rfl
        have htl := takesL_length mem (offs b sh st)
        have htb := takes_bound (L := offs b sh st) (vMem_spec.1 g1).2
        have hSd : sumV mem b sh st = sumT (takesL mem (offs b sh st)) (takesL mem (offs b sh st)).length := by unfold sumV; rw [if_pos hs, htl]
        have hS0 : ¬ sumV mem b sh st < 0 := by rw [hSd]; have := (sumT_bound2 htb (takesL mem (offs b sh st)).length).1; omega
        generalize hS : sumV mem b sh st = S at *
        generalize hT : takesL mem (offs b sh st) = T at *
        have hTq : T.length ≤ 100 ∧ ∀ x ∈ T, 0 ≤ x ∧ x ≤ 255 := ⟨by omega, htb⟩
        have lo : (nums 0 1 sh.length).reverse.length = sh.length := by simp
        have ln := nums_length 0 1 sh.length
        generalize hO : (nums 0 1 sh.length).reverse = O at *
        generalize hN : nums 0 1 sh.length = N at *
        have hq7 : (sh.length ≤ 1099511627776 ∧ st.length ≤ 1099511627776) ∧ O.length ≤ 1099511627776 := by omega
        have hl5 : sh.reverse.length = sh.length ∧ st.reverse.length = st.length := by simp
        generalize hA : sh.reverse = A at *
        generalize hB : st.reverse = B at *
        have hl6 : mem.length ≤ 1099511627776 ∧ A.length ≤ 1099511627776 ∧ B.length ≤ 1099511627776 := by omega
        have hTS : sumT T T.length = S := hSd.symm
        clear hSd htb hL60 hord hv g3 htl hA hB hs
        (repeat' (first
 | (first | refine awp_seq ?_ | refine awp_block ?_)
 | ((first | refine awp_reg ?_ | refine awp_drawX (mid := l9r7a) (post := l9r7b) [96, 1000000006, 2000000096] mixed (by decide) ?_ | refine awp_condB ?_ | refine awp_skip ?_ | refine awp_exit ?_); simp (maxSteps := 400000) (disch := omega) only [push_cast, seval, l9r0, l9r1, l9r2, l9r3, l9r4, l9r5, l9r6, l9r7a, l9r7b, l9r7, l9r8, hS, hS0, hT, hN, ln, lo, hO, pm, e1, e2, e5, hw, hTS, MVL_true, MVB_true, decide_true, Bool.true_and])
 | ((first | refine condB_split (fun h => ?_) (fun h => ?_) | refine gIf_split (fun h => ?_) (fun h => ?_) | refine qIf_split (fun h => ?_) (fun h => ?_)) <;> (try simp only [h]) <;> (try simp only [decide_eq_true_eq, decide_eq_false_iff_not, Bool.not_eq_true', Bool.not_eq_false', Bool.and_eq_true, Bool.or_eq_true, Bool.and_eq_false_iff, Bool.or_eq_false_iff, Int.not_le, Int.not_lt, bne_iff_ne, ne_eq, beq_iff_eq, Bool.not_eq_true, Bool.not_eq_false] at h) <;> (try simp only [h]) <;> (first | (exfalso; omega) | (focus (exfalso; simp_all; done)) | (simp (maxSteps := 400000) (disch := omega) only [push_cast, seval, hS, hS0, hT, hN, ln, lo, hO, pm, e1, e2, e5, hw, hTS, MVL_true, MVB_true, decide_true, Bool.true_and]) | skip))
 | ((first | refine callD_of false ?_ | refine qcallD_of false ?_); simp (maxSteps := 400000) (disch := omega) only [push_cast, seval, hS, hS0, hT, hN, ln, lo, hO, pm, e1, e2, e5, hw, hTS, MVL_true, MVB_true, decide_true, Bool.true_and])
 | ((first | (refine call0D (drawSV_ok _ _ ?_ ?_) ?_; (iterate 2 (focus (first | assumption | rfl | omega | (simp <;> omega) | (simp_all <;> omega)))); rintro _ _ ⟨mem, b, sh, st, ⟨hm1, hm2, hl1, hl2⟩, rfl, rfl⟩) | ((first | refine call0D (BCall.ofP (iSum_ok _ _ _ _ _ _ _ ?_ ?_ ?_ ?_)) ?_ | refine qcall0D (BCall.ofP (iSum_ok _ _ _ _ _ _ _ ?_ ?_ ?_ ?_)) ⟨_, _, rfl, rfl⟩ ?_); (iterate 4 (focus (first | assumption | rfl | omega | (simp <;> omega) | (simp_all <;> omega)))); rintro _ _ ⟨rfl, rfl⟩) | ((first | refine call0D (BCall.ofP (sSum_ok _ _ _ _ _ _ _ ?_ ?_ ?_ ?_)) ?_ | refine qcall0D (BCall.ofP (sSum_ok _ _ _ _ _ _ _ ?_ ?_ ?_ ?_)) ⟨_, _, rfl, rfl⟩ ?_); (iterate 4 (focus (first | assumption | rfl | omega | (simp <;> omega) | (simp_all <;> omega)))); rintro _ _ ⟨rfl, rfl⟩) | ((first | refine call0D (upToL_ok _ ?_) ?_ | refine qcall0D (BCall.ofP (plainI (upToL_ok _ ?_))) ⟨_, _, rfl, rfl⟩ ?_); (focus (first | assumption | rfl | omega | (simp <;> omega) | (simp_all <;> omega))); rintro _ _ ⟨rfl, rfl⟩) | ((first | refine call0D (back_ok _ _ ?_ ?_) ?_ | refine qcall0D (BCall.ofP (plainI (back_ok _ _ ?_ ?_))) ⟨_, _, rfl, rfl⟩ ?_); (iterate 2 (focus (first | assumption | rfl | omega | (simp <;> omega) | (simp_all <;> omega)))); rintro _ _ ⟨rfl, rfl⟩) | ((first | refine call0D (iPermuteDims_ok _ _ _ _ _ _ _ ?_ ?_ ?_ ?_) ?_ | refine qcall0D (iPermuteDims_ok _ _ _ _ _ _ _ ?_ ?_ ?_ ?_) ⟨_, _, rfl, rfl⟩ ?_); (iterate 4 (focus (first | assumption | rfl | omega | (simp <;> omega) | (simp_all <;> omega)))); rintro _ _ ⟨rfl, rfl⟩) | ((first | refine call0D (iLoad_ok _ _ _ _ _ _ _ ?_ ?_ ?_ ?_) ?_ | refine qcall0D (iLoad_ok _ _ _ _ _ _ _ ?_ ?_ ?_ ?_) ⟨_, _, rfl, rfl⟩ ?_); (iterate 4 (focus (first | assumption | rfl | omega | (simp <;> omega) | (simp_all <;> omega)))); rintro _ _ ⟨rfl, rfl⟩) | ((first | refine call0D (BCall.ofP (total_ok _ _ ?_ ?_)) ?_ | refine qcall0D (BCall.ofP (total_ok _ _ ?_ ?_)) ⟨_, _, rfl, rfl⟩ ?_); (iterate 2 (focus (first | assumption | rfl | omega | (simp <;> omega) | (simp_all <;> omega)))); rintro _ _ ⟨rfl, rfl⟩)) <;> (try simp (maxSteps := 400000) (disch := omega) only [push_cast, seval, hS, hS0, hT, hN, ln, lo, hO, pm, e1, e2, e5, hw, hTS, MVL_true, MVB_true, decide_true, Bool.true_and]))
 | (refine awp_ret ⟨.inr rfl, _, rfl, ?_⟩; (try simp (maxSteps := 400000) (disch := omega) only [push_cast, seval, hS, hS0, hT, hN, ln, lo, hO, pm, e1, e2, e5, hw, hTS, MVL_true, MVB_true, decide_true, Bool.true_and]))))
        all_goals (try simp)
  · (repeat' (first
 | (first | refine awp_seq ?_ | refine awp_block ?_)
 | ((first | refine awp_reg ?_ | refine awp_drawX (mid := l9r7a) (post := l9r7b) [96, 1000000006, 2000000096] mixed (by decide) ?_ | refine awp_condB ?_ | refine awp_skip ?_ | refine awp_exit ?_); simp (maxSteps := 400000) (disch := omega) only [push_cast, seval, l9r0, l9r1, l9r2, l9r3, l9r4, l9r5, l9r6, l9r7a, l9r7b, l9r7, l9r8])
 | ((first | refine condB_split (fun h => ?_) (fun h => ?_) | refine gIf_split (fun h => ?_) (fun h => ?_) | refine qIf_split (fun h => ?_) (fun h => ?_)) <;> (try simp only [h]) <;> (try simp only [decide_eq_true_eq, decide_eq_false_iff_not, Bool.not_eq_true', Bool.not_eq_false', Bool.and_eq_true, Bool.or_eq_true, Bool.and_eq_false_iff, Bool.or_eq_false_iff, Int.not_le, Int.not_lt, bne_iff_ne, ne_eq, beq_iff_eq, Bool.not_eq_true, Bool.not_eq_false] at h) <;> (try simp only [h]) <;> (first | (exfalso; omega) | (focus (exfalso; simp_all; done)) | (simp (maxSteps := 400000) (disch := omega) only [push_cast, seval]) | skip))
 | ((first | refine callD_of false ?_ | refine qcallD_of false ?_); simp (maxSteps := 400000) (disch := omega) only [push_cast, seval])
 | ((first | (refine call0D (drawSV_ok _ _ ?_ ?_) ?_; (iterate 2 (focus (first | assumption | rfl | omega | (simp <;> omega) | (simp_all <;> omega)))); rintro _ _ ⟨mem, b, sh, st, ⟨hm1, hm2, hl1, hl2⟩, rfl, rfl⟩) | ((first | refine call0D (BCall.ofP (iSum_ok _ _ _ _ _ _ _ ?_ ?_ ?_ ?_)) ?_ | refine qcall0D (BCall.ofP (iSum_ok _ _ _ _ _ _ _ ?_ ?_ ?_ ?_)) ⟨_, _, rfl, rfl⟩ ?_); (iterate 4 (focus (first | assumption | rfl | omega | (simp <;> omega) | (simp_all <;> omega)))); rintro _ _ ⟨rfl, rfl⟩) | ((first | refine call0D (BCall.ofP (sSum_ok _ _ _ _ _ _ _ ?_ ?_ ?_ ?_)) ?_ | refine qcall0D (BCall.ofP (sSum_ok _ _ _ _ _ _ _ ?_ ?_ ?_ ?_)) ⟨_, _, rfl, rfl⟩ ?_); (iterate 4 (focus (first | assumption | rfl | omega | (simp <;> omega) | (simp_all <;> omega)))); rintro _ _ ⟨rfl, rfl⟩) | ((first | refine call0D (upToL_ok _ ?_) ?_ | refine qcall0D (upToL_ok _ ?_) ⟨_, _, rfl, rfl⟩ ?_); (focus (first | assumption | rfl | omega | (simp <;> omega) | (simp_all <;> omega))); rintro _ _ ⟨rfl, rfl⟩) | ((first | refine call0D (back_ok _ _ ?_ ?_) ?_ | refine qcall0D (back_ok _ _ ?_ ?_) ⟨_, _, rfl, rfl⟩ ?_); (iterate 2 (focus (first | assumption | rfl | omega | (simp <;> omega) | (simp_all <;> omega)))); rintro _ _ ⟨rfl, rfl⟩) | ((first | refine call0D (iPermuteDims_ok _ _ _ _ _ _ _ ?_ ?_ ?_ ?_) ?_ | refine qcall0D (iPermuteDims_ok _ _ _ _ _ _ _ ?_ ?_ ?_ ?_) ⟨_, _, rfl, rfl⟩ ?_); (iterate 4 (focus (first | assumption | rfl | omega | (simp <;> omega) | (simp_all <;> omega)))); rintro _ _ ⟨rfl, rfl⟩) | ((first | refine call0D (iLoad_ok _ _ _ _ _ _ _ ?_ ?_ ?_ ?_) ?_ | refine qcall0D (iLoad_ok _ _ _ _ _ _ _ ?_ ?_ ?_ ?_) ⟨_, _, rfl, rfl⟩ ?_); (iterate 4 (focus (first | assumption | rfl | omega | (simp <;> omega) | (simp_all <;> omega)))); rintro _ _ ⟨rfl, rfl⟩) | ((first | refine call0D (BCall.ofP (total_ok _ _ ?_ ?_)) ?_ | refine qcall0D (BCall.ofP (total_ok _ _ ?_ ?_)) ⟨_, _, rfl, rfl⟩ ?_); (iterate 2 (focus (first | assumption | rfl | omega | (simp <;> omega) | (simp_all <;> omega)))); rintro _ _ ⟨rfl, rfl⟩)) <;> (try simp (maxSteps := 400000) (disch := omega) only [push_cast, seval]))
 | (refine awp_ret ⟨.inr rfl, _, rfl, ?_⟩; (try simp (maxSteps := 400000) (disch := omega) only [push_cast, seval]))))

end Go.Proofs.Ytcfjemmoajdcoaa
