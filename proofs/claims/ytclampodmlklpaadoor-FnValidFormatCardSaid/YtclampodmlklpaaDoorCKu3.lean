import Derived.Test.YtclampodmlklpaaDoorCKu2
import Derived.Test.YtclampodmlklpaaDoorCM1
import Derived.Test.YtclampodmlklpaaDoorCW3
set_option linter.unusedSimpArgs false
set_option linter.unusedVariables false
set_option linter.unnecessarySimpa false
set_option maxRecDepth 4000
set_option maxHeartbeats 4000000
namespace Go.Proofs.YtclampodmlklpaaDoor
open VwM Vw Go

set_option maxHeartbeats 16000000 in
theorem lFnPlF_ok (bs : List Int) (hl : bs.length ≤ 9223372036854775807) (hb : ∀ x ∈ bs, 0 ≤ x ∧ x ≤ 255) : PCall Tryd.prog 4 [.rows false (UL bs) bs.length] (fun r => r = .bool true) := by
  refine pcall_of l4_eq rfl ?_
  by_cases h : bs.length ≤ 1048576
  · have q : bs.length ≤ 1099511627776 ∧ ∀ x ∈ bs, 0 ≤ x ∧ x ≤ 255 := ⟨by omega, hb⟩
    (repeat' (first
      | (refine awp_joinL (c1 := .reg l4r3) (fun x : List Int × Bool × Bool => mkS [(3, .ref 48 3 0)] [(48, [.own 160 x.1.length 1, .bool x.2.1, .bool x.2.2]), (160, IL x.1)]) (fun x => x.1.length ≤ 5) ?_ ?_)
      | (first | refine awp_seq ?_ | refine awp_block ?_)
      | ((first | refine awp_reg ?_ | refine awp_draw (mid := l4r9a) (post := l4r9b) mixed (by decide) ?_ | refine awp_condB ?_ | refine awp_skip ?_ | refine awp_exit ?_); simp (maxSteps := 400000) (disch := omega) only [push_cast, seval, l4r0, l4r1, l4r2, l4r3, l4r4, l4r5, l4r6, l4r7, l4r8, l4r9a, l4r9b, l4r9, l4r10, l4r11, l4r12])
      | ((first | refine condB_split (fun h => ?_) (fun h => ?_) | refine gIf_split (fun h => ?_) (fun h => ?_) | refine qIf_split (fun h => ?_) (fun h => ?_)) <;> (try simp only [h]) <;> (try simp only [decide_eq_true_eq, decide_eq_false_iff_not, Bool.not_eq_true', Bool.not_eq_false', Bool.and_eq_true, Bool.or_eq_true, Bool.and_eq_false_iff, Bool.or_eq_false_iff, Int.not_le, Int.not_lt, bne_iff_ne, ne_eq, beq_iff_eq, Bool.not_eq_true, Bool.not_eq_false] at h) <;> (try simp only [h]) <;> (first | (exfalso; omega) | (focus (exfalso; simp_all; done)) | (simp (maxSteps := 400000) (disch := omega) only [push_cast, seval]) | skip))
      | ((first | refine callD_of false ?_ | refine qcallD_of false ?_); simp (maxSteps := 400000) (disch := omega) only [push_cast, seval])
      | ((first | (refine call0D (drawPlF_ok _ _ ?_ ?_) ?_; (iterate 2 (focus (first | assumption | rfl | omega | (simp <;> omega) | (simp_all <;> omega)))); rintro _ _ ⟨s, big, al, hs5, rfl, rfl⟩) | ((first | refine call0D (iPlaces_ok _ _ _ _ ?_ ?_) ?_ | refine qcall0D (iPlaces_ok _ _ _ _ ?_ ?_) ⟨_, _, rfl, rfl⟩ ?_); (iterate 2 (focus (first | assumption | rfl | omega | (simp <;> omega) | (simp_all <;> omega)))); rintro _ _ ⟨rfl, rfl⟩) | ((first | refine call0D (sPlaces_ok _ _ _ _ ?_ ?_) ?_ | refine qcall0D (sPlaces_ok _ _ _ _ ?_ ?_) ⟨_, _, rfl, rfl⟩ ?_); (iterate 2 (focus (first | assumption | rfl | omega | (simp <;> omega) | (simp_all <;> omega)))); rintro _ _ ⟨rfl, rfl⟩) | ((first | refine call0D (BCall.ofP (equalInts_ok _ _ _ _ ?_ ?_ ?_)) ?_ | refine qcall0D (BCall.ofP (equalInts_ok _ _ _ _ ?_ ?_ ?_)) ⟨_, _, rfl, rfl⟩ ?_); (iterate 3 (focus (first | assumption | rfl | omega | (simp <;> omega) | (simp_all <;> omega)))); rintro _ _ ⟨rfl, rfl⟩)) <;> (try simp (maxSteps := 400000) (disch := omega) only [push_cast, seval]))
      | (refine awp_ret ⟨.inr rfl, _, rfl, ?_⟩; (try simp (maxSteps := 400000) (disch := omega) only [push_cast, seval]))))
    · (refine exSub3 (Sub.of_eqs rfl rfl ?_ ?_ ?_) ?_; (focus (simp [Vw.mkS, Vw.lk, Vw.hk, AV.inn, innL, innL_ints, innL_append, innL_rep, -List.map_set, -List.getD_eq_getElem?_getD]; done)); (focus (simp [AV.inn, innL, Vw.hk]; done)); (focus (simp [AV.inn, innL, innL_ints, innL_append, innL_rep, Vw.hk]; done)); (try simp only); (first | omega | (refine ⟨?_, ?_⟩ <;> first | assumption | omega) | (refine ⟨?_, ?_, ?_⟩ <;> first | assumption | omega) | (refine ⟨?_, ?_, ?_, ?_⟩ <;> first | assumption | omega)))
    · refine ⟨?_⟩
      rintro ⟨s, big, al⟩ hs5
      try simp only at hs5 ⊢
      have hq : s.length ≤ 1099511627776 := by omega
      cases hv : vF s with
      | false =>
        have hQl : (MVL false (fPL al s)).length = 0 := rfl
        generalize hQ : MVL false (fPL al s) = Q at *
        have hQ2 : Q.length ≤ 1099511627776 ∧ Q.length ≤ 1099511627776 := by omega
        (repeat' (first
      | (first | refine awp_seq ?_ | refine awp_block ?_)
      | ((first | refine awp_reg ?_ | refine awp_draw (mid := l4r9a) (post := l4r9b) mixed (by decide) ?_ | refine awp_condB ?_ | refine awp_skip ?_ | refine awp_exit ?_); simp (maxSteps := 400000) (disch := omega) only [push_cast, seval, l4r0, l4r1, l4r2, l4r3, l4r4, l4r5, l4r6, l4r7, l4r8, l4r9a, l4r9b, l4r9, l4r10, l4r11, l4r12, hv, hQ, hQl, decide_true])
      | ((first | refine condB_split (fun h => ?_) (fun h => ?_) | refine gIf_split (fun h => ?_) (fun h => ?_) | refine qIf_split (fun h => ?_) (fun h => ?_)) <;> (try simp only [h]) <;> (try simp only [decide_eq_true_eq, decide_eq_false_iff_not, Bool.not_eq_true', Bool.not_eq_false', Bool.and_eq_true, Bool.or_eq_true, Bool.and_eq_false_iff, Bool.or_eq_false_iff, Int.not_le, Int.not_lt, bne_iff_ne, ne_eq, beq_iff_eq, Bool.not_eq_true, Bool.not_eq_false] at h) <;> (try simp only [h]) <;> (first | (exfalso; omega) | (focus (exfalso; simp_all; done)) | (simp (maxSteps := 400000) (disch := omega) only [push_cast, seval, hv, hQ, hQl, decide_true]) | skip))
      | ((first | refine callD_of false ?_ | refine qcallD_of false ?_); simp (maxSteps := 400000) (disch := omega) only [push_cast, seval, hv, hQ, hQl, decide_true])
      | ((first | (refine call0D (drawPlF_ok _ _ ?_ ?_) ?_; (iterate 2 (focus (first | assumption | rfl | omega | (simp <;> omega) | (simp_all <;> omega)))); rintro _ _ ⟨s, big, al, hs5, rfl, rfl⟩) | ((first | refine call0D (iPlaces_ok _ _ _ _ ?_ ?_) ?_ | refine qcall0D (iPlaces_ok _ _ _ _ ?_ ?_) ⟨_, _, rfl, rfl⟩ ?_); (iterate 2 (focus (first | assumption | rfl | omega | (simp <;> omega) | (simp_all <;> omega)))); rintro _ _ ⟨rfl, rfl⟩) | ((first | refine call0D (sPlaces_ok _ _ _ _ ?_ ?_) ?_ | refine qcall0D (sPlaces_ok _ _ _ _ ?_ ?_) ⟨_, _, rfl, rfl⟩ ?_); (iterate 2 (focus (first | assumption | rfl | omega | (simp <;> omega) | (simp_all <;> omega)))); rintro _ _ ⟨rfl, rfl⟩) | ((first | refine call0D (BCall.ofP (equalInts_ok _ _ _ _ ?_ ?_ ?_)) ?_ | refine qcall0D (BCall.ofP (equalInts_ok _ _ _ _ ?_ ?_ ?_)) ⟨_, _, rfl, rfl⟩ ?_); (iterate 3 (focus (first | assumption | rfl | omega | (simp <;> omega) | (simp_all <;> omega)))); rintro _ _ ⟨rfl, rfl⟩)) <;> (try simp (maxSteps := 400000) (disch := omega) only [push_cast, seval, hv, hQ, hQl, decide_true]))
      | (refine awp_ret ⟨.inr rfl, _, rfl, ?_⟩; (try simp (maxSteps := 400000) (disch := omega) only [push_cast, seval, hv, hQ, hQl, decide_true]))))
        all_goals (try simp)
      | true =>
        obtain ⟨hs, h1, h5⟩ := vF_iff.1 hv
        have e4 : MVL true (fPL al s) = fPL al s := rfl
        have hPl := fPL_length al s
        have hP0 := fPL_getD (al := al) (s := s) (k := 0) (by omega)
        rw [fP_zero hs h1] at hP0
        have hne : ¬ (s.length : Int) = 0 := by omega
        have hget : ∀ k, k < s.length → (fPL al s).getD k 0 = fP al s k := fun k hk => fPL_getD hk
        generalize hP : fPL al s = P at *
        have hP2 : P.length ≤ 1099511627776 ∧ P.length ≤ 1099511627776 := by omega
        (repeat' (first
      | (first | refine awp_seq ?_ | refine awp_block ?_)
      | ((first | refine awp_reg ?_ | refine awp_draw (mid := l4r9a) (post := l4r9b) mixed (by decide) ?_ | refine awp_condB ?_ | refine awp_skip ?_ | refine awp_exit ?_); simp (maxSteps := 400000) (disch := omega) only [push_cast, seval, l4r0, l4r1, l4r2, l4r3, l4r4, l4r5, l4r6, l4r7, l4r8, l4r9a, l4r9b, l4r9, l4r10, l4r11, l4r12, hv, e4, hP, hPl, hne, decide_true])
      | ((first | refine condB_split (fun h => ?_) (fun h => ?_) | refine gIf_split (fun h => ?_) (fun h => ?_) | refine qIf_split (fun h => ?_) (fun h => ?_)) <;> (try simp only [h]) <;> (try simp only [decide_eq_true_eq, decide_eq_false_iff_not, Bool.not_eq_true', Bool.not_eq_false', Bool.and_eq_true, Bool.or_eq_true, Bool.and_eq_false_iff, Bool.or_eq_false_iff, Int.not_le, Int.not_lt, bne_iff_ne, ne_eq, beq_iff_eq, Bool.not_eq_true, Bool.not_eq_false] at h) <;> (try simp only [h]) <;> (first | (exfalso; omega) | (focus (exfalso; simp_all; done)) | (simp (maxSteps := 400000) (disch := omega) only [push_cast, seval, hv, e4, hP, hPl, hne, decide_true]) | skip))
      | ((first | refine callD_of false ?_ | refine qcallD_of false ?_); simp (maxSteps := 400000) (disch := omega) only [push_cast, seval, hv, e4, hP, hPl, hne, decide_true])
      | ((first | (refine call0D (drawPlF_ok _ _ ?_ ?_) ?_; (iterate 2 (focus (first | assumption | rfl | omega | (simp <;> omega) | (simp_all <;> omega)))); rintro _ _ ⟨s, big, al, hs5, rfl, rfl⟩) | ((first | refine call0D (iPlaces_ok _ _ _ _ ?_ ?_) ?_ | refine qcall0D (iPlaces_ok _ _ _ _ ?_ ?_) ⟨_, _, rfl, rfl⟩ ?_); (iterate 2 (focus (first | assumption | rfl | omega | (simp <;> omega) | (simp_all <;> omega)))); rintro _ _ ⟨rfl, rfl⟩) | ((first | refine call0D (sPlaces_ok _ _ _ _ ?_ ?_) ?_ | refine qcall0D (sPlaces_ok _ _ _ _ ?_ ?_) ⟨_, _, rfl, rfl⟩ ?_); (iterate 2 (focus (first | assumption | rfl | omega | (simp <;> omega) | (simp_all <;> omega)))); rintro _ _ ⟨rfl, rfl⟩) | ((first | refine call0D (BCall.ofP (equalInts_ok _ _ _ _ ?_ ?_ ?_)) ?_ | refine qcall0D (BCall.ofP (equalInts_ok _ _ _ _ ?_ ?_ ?_)) ⟨_, _, rfl, rfl⟩ ?_); (iterate 3 (focus (first | assumption | rfl | omega | (simp <;> omega) | (simp_all <;> omega)))); rintro _ _ ⟨rfl, rfl⟩)) <;> (try simp (maxSteps := 400000) (disch := omega) only [push_cast, seval, hv, e4, hP, hPl, hne, decide_true]))
      | (refine awp_ret ⟨.inr rfl, _, rfl, ?_⟩; (try simp (maxSteps := 400000) (disch := omega) only [push_cast, seval, hv, e4, hP, hPl, hne, decide_true]))))
        refine awp_loop (fun k : Nat => mkS [(3, .ref 48 3 0), (4, .own 192 s.length 1), (5, .int .i64 k)] [(48, [.own 160 s.length 1, .bool big, .bool al]), (160, IL s), (192, IL P)]) (fun k => k ≤ s.length) (fun k => s.length - k) 0 (Nat.zero_le _) ?_ ?_
        · (refine Sub.of_lists ?_ ?_ ?_ ?_ ?_ <;> simp [Vw.mkS, Vw.lk, Vw.hk, AV.inn, innL, innL_ints, innL_append, innL_rep, -List.map_set, -List.getD_eq_getElem?_getD, hP, hPl])
        · intro k hk
          by_cases hlt : k < s.length
          · have hkP : k < P.length := by omega
            have g1 := hget k hlt
            have b0 := fP_bound (al := al) hs k hlt
            have b1 := hs k hlt
            by_cases hk0 : k = 0
            · subst hk0
              have g2 : (0 : Int).tmod (s.getD 0 0) = 0 := Int.zero_tmod _
              have hz0 : ¬ s.getD 0 0 = 0 := by omega
              cases al with
              | false =>
                (repeat' (first
      | (first | refine awp_seq ?_ | refine awp_block ?_)
      | ((first | refine awp_reg ?_ | refine awp_draw (mid := l4r9a) (post := l4r9b) mixed (by decide) ?_ | refine awp_condB ?_ | refine awp_skip ?_ | refine awp_exit ?_); simp (maxSteps := 400000) (disch := omega) only [push_cast, seval, l4r0, l4r1, l4r2, l4r3, l4r4, l4r5, l4r6, l4r7, l4r8, l4r9a, l4r9b, l4r9, l4r10, l4r11, l4r12, hP0, hPl, decide_true, decide_false])
      | ((first | refine condB_split (fun h => ?_) (fun h => ?_) | refine gIf_split (fun h => ?_) (fun h => ?_) | refine qIf_split (fun h => ?_) (fun h => ?_)) <;> (try simp only [h]) <;> (try simp only [decide_eq_true_eq, decide_eq_false_iff_not, Bool.not_eq_true', Bool.not_eq_false', Bool.and_eq_true, Bool.or_eq_true, Bool.and_eq_false_iff, Bool.or_eq_false_iff, Int.not_le, Int.not_lt, bne_iff_ne, ne_eq, beq_iff_eq, Bool.not_eq_true, Bool.not_eq_false] at h) <;> (try simp only [h]) <;> (first | (exfalso; omega) | (focus (exfalso; simp_all; done)) | (simp (maxSteps := 400000) (disch := omega) only [push_cast, seval, hP0, hPl, decide_true, decide_false]) | skip))
      | ((first | refine callD_of false ?_ | refine qcallD_of false ?_); simp (maxSteps := 400000) (disch := omega) only [push_cast, seval, hP0, hPl, decide_true, decide_false])
      | ((first | (refine call0D (drawPlF_ok _ _ ?_ ?_) ?_; (iterate 2 (focus (first | assumption | rfl | omega | (simp <;> omega) | (simp_all <;> omega)))); rintro _ _ ⟨s, big, al, hs5, rfl, rfl⟩) | ((first | refine call0D (iPlaces_ok _ _ _ _ ?_ ?_) ?_ | refine qcall0D (iPlaces_ok _ _ _ _ ?_ ?_) ⟨_, _, rfl, rfl⟩ ?_); (iterate 2 (focus (first | assumption | rfl | omega | (simp <;> omega) | (simp_all <;> omega)))); rintro _ _ ⟨rfl, rfl⟩) | ((first | refine call0D (sPlaces_ok _ _ _ _ ?_ ?_) ?_ | refine qcall0D (sPlaces_ok _ _ _ _ ?_ ?_) ⟨_, _, rfl, rfl⟩ ?_); (iterate 2 (focus (first | assumption | rfl | omega | (simp <;> omega) | (simp_all <;> omega)))); rintro _ _ ⟨rfl, rfl⟩) | ((first | refine call0D (BCall.ofP (equalInts_ok _ _ _ _ ?_ ?_ ?_)) ?_ | refine qcall0D (BCall.ofP (equalInts_ok _ _ _ _ ?_ ?_ ?_)) ⟨_, _, rfl, rfl⟩ ?_); (iterate 3 (focus (first | assumption | rfl | omega | (simp <;> omega) | (simp_all <;> omega)))); rintro _ _ ⟨rfl, rfl⟩)) <;> (try simp (maxSteps := 400000) (disch := omega) only [push_cast, seval, hP0, hPl, decide_true, decide_false]))
      | (refine awp_ret ⟨.inr rfl, _, rfl, ?_⟩; (try simp (maxSteps := 400000) (disch := omega) only [push_cast, seval, hP0, hPl, decide_true, decide_false]))))
                refine ⟨0 + 1, by omega, by omega, ?_⟩
                (refine Sub.of_lists ?_ ?_ ?_ ?_ ?_ <;> simp [Vw.mkS, Vw.lk, Vw.hk, AV.inn, innL, innL_ints, innL_append, innL_rep, -List.map_set, -List.getD_eq_getElem?_getD])
              | true =>
                (repeat' (first
      | (first | refine awp_seq ?_ | refine awp_block ?_)
      | ((first | refine awp_reg ?_ | refine awp_draw (mid := l4r9a) (post := l4r9b) mixed (by decide) ?_ | refine awp_condB ?_ | refine awp_skip ?_ | refine awp_exit ?_); simp (maxSteps := 400000) (disch := omega) only [push_cast, seval, l4r0, l4r1, l4r2, l4r3, l4r4, l4r5, l4r6, l4r7, l4r8, l4r9a, l4r9b, l4r9, l4r10, l4r11, l4r12, hP0, hPl, g2, hz0, decide_true, decide_false])
      | ((first | refine condB_split (fun h => ?_) (fun h => ?_) | refine gIf_split (fun h => ?_) (fun h => ?_) | refine qIf_split (fun h => ?_) (fun h => ?_)) <;> (try simp only [h]) <;> (try simp only [decide_eq_true_eq, decide_eq_false_iff_not, Bool.not_eq_true', Bool.not_eq_false', Bool.and_eq_true, Bool.or_eq_true, Bool.and_eq_false_iff, Bool.or_eq_false_iff, Int.not_le, Int.not_lt, bne_iff_ne, ne_eq, beq_iff_eq, Bool.not_eq_true, Bool.not_eq_false] at h) <;> (try simp only [h]) <;> (first | (exfalso; omega) | (focus (exfalso; simp_all; done)) | (simp (maxSteps := 400000) (disch := omega) only [push_cast, seval, hP0, hPl, g2, hz0, decide_true, decide_false]) | skip))
      | ((first | refine callD_of false ?_ | refine qcallD_of false ?_); simp (maxSteps := 400000) (disch := omega) only [push_cast, seval, hP0, hPl, g2, hz0, decide_true, decide_false])
      | ((first | (refine call0D (drawPlF_ok _ _ ?_ ?_) ?_; (iterate 2 (focus (first | assumption | rfl | omega | (simp <;> omega) | (simp_all <;> omega)))); rintro _ _ ⟨s, big, al, hs5, rfl, rfl⟩) | ((first | refine call0D (iPlaces_ok _ _ _ _ ?_ ?_) ?_ | refine qcall0D (iPlaces_ok _ _ _ _ ?_ ?_) ⟨_, _, rfl, rfl⟩ ?_); (iterate 2 (focus (first | assumption | rfl | omega | (simp <;> omega) | (simp_all <;> omega)))); rintro _ _ ⟨rfl, rfl⟩) | ((first | refine call0D (sPlaces_ok _ _ _ _ ?_ ?_) ?_ | refine qcall0D (sPlaces_ok _ _ _ _ ?_ ?_) ⟨_, _, rfl, rfl⟩ ?_); (iterate 2 (focus (first | assumption | rfl | omega | (simp <;> omega) | (simp_all <;> omega)))); rintro _ _ ⟨rfl, rfl⟩) | ((first | refine call0D (BCall.ofP (equalInts_ok _ _ _ _ ?_ ?_ ?_)) ?_ | refine qcall0D (BCall.ofP (equalInts_ok _ _ _ _ ?_ ?_ ?_)) ⟨_, _, rfl, rfl⟩ ?_); (iterate 3 (focus (first | assumption | rfl | omega | (simp <;> omega) | (simp_all <;> omega)))); rintro _ _ ⟨rfl, rfl⟩)) <;> (try simp (maxSteps := 400000) (disch := omega) only [push_cast, seval, hP0, hPl, g2, hz0, decide_true, decide_false]))
      | (refine awp_ret ⟨.inr rfl, _, rfl, ?_⟩; (try simp (maxSteps := 400000) (disch := omega) only [push_cast, seval, hP0, hPl, g2, hz0, decide_true, decide_false]))))
                refine ⟨0 + 1, by omega, by omega, ?_⟩
                (refine Sub.of_lists ?_ ?_ ?_ ?_ ?_ <;> simp [Vw.mkS, Vw.lk, Vw.hk, AV.inn, innL, innL_ints, innL_append, innL_rep, -List.map_set, -List.getD_eq_getElem?_getD])
            · obtain ⟨j, rfl⟩ : ∃ j, k = j + 1 := ⟨k - 1, by omega⟩
              have g3 := hget j (by omega)
              have b2 := fP_bound (al := al) hs j (by omega)
              have b3 := hs j (by omega)
              have hkpos : ((j : Int) + 1 > 0) := by omega
              have hji : (j : Int) + 1 - 1 = (j : Int) := by omega
              have hjP : j < P.length := by omega
              have hjs : j < s.length := by omega
              obtain ⟨i, hi⟩ : ∃ i, j + 1 = i := ⟨_, rfl⟩
              have hii : (j : Int) + 1 = (i : Int) := by omega
              have hij : (i : Int) - 1 = (j : Int) := by omega
              have hi0 : (i : Int) > 0 := by omega
              rw [hi] at hlt hkP g1 b0 b1 b2 ⊢
              have hn1 : ¬ fP al s i < fP al s j + s.getD j 0 := by omega
              have hbq : 0 ≤ fP al s j ∧ fP al s j ≤ 1000 ∧ 0 ≤ s.getD j 0 ∧ s.getD j 0 ≤ 4 := by omega
              have hz0 : ¬ s.getD i 0 = 0 := by omega
              have hs' := hs
              cases al with
              | false =>
                have e6 : fP false s i = fP false s j + s.getD j 0 := by rw [← hi]; exact fP_tight
                clear hget b0 b2 hs hs'
                generalize hF : fP false s i = F at *
                generalize hG : fP false s j = G at *
                generalize hX : s.getD j 0 = X at *
                (repeat' (first
      | (first | refine awp_seq ?_ | refine awp_block ?_)
      | ((first | refine awp_reg ?_ | refine awp_draw (mid := l4r9a) (post := l4r9b) mixed (by decide) ?_ | refine awp_condB ?_ | refine awp_skip ?_ | refine awp_exit ?_); simp (maxSteps := 400000) (disch := omega) only [push_cast, seval, l4r0, l4r1, l4r2, l4r3, l4r4, l4r5, l4r6, l4r7, l4r8, l4r9a, l4r9b, l4r9, l4r10, l4r11, l4r12, g1, g3, hij, hi0, hn1, hPl, hX, decide_true, decide_false])
      | ((first | refine condB_split (fun h => ?_) (fun h => ?_) | refine gIf_split (fun h => ?_) (fun h => ?_) | refine qIf_split (fun h => ?_) (fun h => ?_)) <;> (try simp only [h]) <;> (try simp only [decide_eq_true_eq, decide_eq_false_iff_not, Bool.not_eq_true', Bool.not_eq_false', Bool.and_eq_true, Bool.or_eq_true, Bool.and_eq_false_iff, Bool.or_eq_false_iff, Int.not_le, Int.not_lt, bne_iff_ne, ne_eq, beq_iff_eq, Bool.not_eq_true, Bool.not_eq_false] at h) <;> (try simp only [h]) <;> (first | (exfalso; omega) | (focus (exfalso; simp_all; done)) | (simp (maxSteps := 400000) (disch := omega) only [push_cast, seval, g1, g3, hij, hi0, hn1, hPl, hX, decide_true, decide_false]) | skip))
      | ((first | refine callD_of false ?_ | refine qcallD_of false ?_); simp (maxSteps := 400000) (disch := omega) only [push_cast, seval, g1, g3, hij, hi0, hn1, hPl, hX, decide_true, decide_false])
      | ((first | (refine call0D (drawPlF_ok _ _ ?_ ?_) ?_; (iterate 2 (focus (first | assumption | rfl | omega | (simp <;> omega) | (simp_all <;> omega)))); rintro _ _ ⟨s, big, al, hs5, rfl, rfl⟩) | ((first | refine call0D (iPlaces_ok _ _ _ _ ?_ ?_) ?_ | refine qcall0D (iPlaces_ok _ _ _ _ ?_ ?_) ⟨_, _, rfl, rfl⟩ ?_); (iterate 2 (focus (first | assumption | rfl | omega | (simp <;> omega) | (simp_all <;> omega)))); rintro _ _ ⟨rfl, rfl⟩) | ((first | refine call0D (sPlaces_ok _ _ _ _ ?_ ?_) ?_ | refine qcall0D (sPlaces_ok _ _ _ _ ?_ ?_) ⟨_, _, rfl, rfl⟩ ?_); (iterate 2 (focus (first | assumption | rfl | omega | (simp <;> omega) | (simp_all <;> omega)))); rintro _ _ ⟨rfl, rfl⟩) | ((first | refine call0D (BCall.ofP (equalInts_ok _ _ _ _ ?_ ?_ ?_)) ?_ | refine qcall0D (BCall.ofP (equalInts_ok _ _ _ _ ?_ ?_ ?_)) ⟨_, _, rfl, rfl⟩ ?_); (iterate 3 (focus (first | assumption | rfl | omega | (simp <;> omega) | (simp_all <;> omega)))); rintro _ _ ⟨rfl, rfl⟩)) <;> (try simp (maxSteps := 400000) (disch := omega) only [push_cast, seval, g1, g3, hij, hi0, hn1, hPl, hX, decide_true, decide_false]))
      | (refine awp_ret ⟨.inr rfl, _, rfl, ?_⟩; (try simp (maxSteps := 400000) (disch := omega) only [push_cast, seval, g1, g3, hij, hi0, hn1, hPl, hX, decide_true, decide_false]))))
                all_goals first
                  | (refine ⟨i + 1, by omega, by omega, ?_⟩; (focus ((refine Sub.of_lists ?_ ?_ ?_ ?_ ?_ <;> simp [Vw.mkS, Vw.lk, Vw.hk, AV.inn, innL, innL_ints, innL_append, innL_rep, -List.map_set, -List.getD_eq_getElem?_getD]); done)))
                  | (exfalso; omega)
              | true =>
                have e6 := fP_mod hs' hlt
                clear hget b0 b2 hs hs'
                generalize hF : fP true s i = F at *
                generalize hG : fP true s j = G at *
                generalize hX : s.getD j 0 = X at *
                generalize hY : s.getD i 0 = Y at *
                (repeat' (first
      | (first | refine awp_seq ?_ | refine awp_block ?_)
      | ((first | refine awp_reg ?_ | refine awp_draw (mid := l4r9a) (post := l4r9b) mixed (by decide) ?_ | refine awp_condB ?_ | refine awp_skip ?_ | refine awp_exit ?_); simp (maxSteps := 400000) (disch := omega) only [push_cast, seval, l4r0, l4r1, l4r2, l4r3, l4r4, l4r5, l4r6, l4r7, l4r8, l4r9a, l4r9b, l4r9, l4r10, l4r11, l4r12, g1, g3, hij, hi0, hn1, hPl, hX, hY, e6, hz0, decide_true, decide_false])
      | ((first | refine condB_split (fun h => ?_) (fun h => ?_) | refine gIf_split (fun h => ?_) (fun h => ?_) | refine qIf_split (fun h => ?_) (fun h => ?_)) <;> (try simp only [h]) <;> (try simp only [decide_eq_true_eq, decide_eq_false_iff_not, Bool.not_eq_true', Bool.not_eq_false', Bool.and_eq_true, Bool.or_eq_true, Bool.and_eq_false_iff, Bool.or_eq_false_iff, Int.not_le, Int.not_lt, bne_iff_ne, ne_eq, beq_iff_eq, Bool.not_eq_true, Bool.not_eq_false] at h) <;> (try simp only [h]) <;> (first | (exfalso; omega) | (focus (exfalso; simp_all; done)) | (simp (maxSteps := 400000) (disch := omega) only [push_cast, seval, g1, g3, hij, hi0, hn1, hPl, hX, hY, e6, hz0, decide_true, decide_false]) | skip))
      | ((first | refine callD_of false ?_ | refine qcallD_of false ?_); simp (maxSteps := 400000) (disch := omega) only [push_cast, seval, g1, g3, hij, hi0, hn1, hPl, hX, hY, e6, hz0, decide_true, decide_false])
      | ((first | (refine call0D (drawPlF_ok _ _ ?_ ?_) ?_; (iterate 2 (focus (first | assumption | rfl | omega | (simp <;> omega) | (simp_all <;> omega)))); rintro _ _ ⟨s, big, al, hs5, rfl, rfl⟩) | ((first | refine call0D (iPlaces_ok _ _ _ _ ?_ ?_) ?_ | refine qcall0D (iPlaces_ok _ _ _ _ ?_ ?_) ⟨_, _, rfl, rfl⟩ ?_); (iterate 2 (focus (first | assumption | rfl | omega | (simp <;> omega) | (simp_all <;> omega)))); rintro _ _ ⟨rfl, rfl⟩) | ((first | refine call0D (sPlaces_ok _ _ _ _ ?_ ?_) ?_ | refine qcall0D (sPlaces_ok _ _ _ _ ?_ ?_) ⟨_, _, rfl, rfl⟩ ?_); (iterate 2 (focus (first | assumption | rfl | omega | (simp <;> omega) | (simp_all <;> omega)))); rintro _ _ ⟨rfl, rfl⟩) | ((first | refine call0D (BCall.ofP (equalInts_ok _ _ _ _ ?_ ?_ ?_)) ?_ | refine qcall0D (BCall.ofP (equalInts_ok _ _ _ _ ?_ ?_ ?_)) ⟨_, _, rfl, rfl⟩ ?_); (iterate 3 (focus (first | assumption | rfl | omega | (simp <;> omega) | (simp_all <;> omega)))); rintro _ _ ⟨rfl, rfl⟩)) <;> (try simp (maxSteps := 400000) (disch := omega) only [push_cast, seval, g1, g3, hij, hi0, hn1, hPl, hX, hY, e6, hz0, decide_true, decide_false]))
      | (refine awp_ret ⟨.inr rfl, _, rfl, ?_⟩; (try simp (maxSteps := 400000) (disch := omega) only [push_cast, seval, g1, g3, hij, hi0, hn1, hPl, hX, hY, e6, hz0, decide_true, decide_false]))))
                all_goals first
                  | (refine ⟨i + 1, by omega, by omega, ?_⟩; (focus ((refine Sub.of_lists ?_ ?_ ?_ ?_ ?_ <;> simp [Vw.mkS, Vw.lk, Vw.hk, AV.inn, innL, innL_ints, innL_append, innL_rep, -List.map_set, -List.getD_eq_getElem?_getD]); done)))
                  | (exfalso; omega)
          · have hP0' : P.getD 0 0 = 0 := hP0
            have h0P : 0 < P.length := by omega
            (repeat' (first
      | (first | refine awp_seq ?_ | refine awp_block ?_)
      | ((first | refine awp_reg ?_ | refine awp_draw (mid := l4r9a) (post := l4r9b) mixed (by decide) ?_ | refine awp_condB ?_ | refine awp_skip ?_ | refine awp_exit ?_); simp (maxSteps := 400000) (disch := omega) only [push_cast, seval, l4r0, l4r1, l4r2, l4r3, l4r4, l4r5, l4r6, l4r7, l4r8, l4r9a, l4r9b, l4r9, l4r10, l4r11, l4r12, hPl, hP0', decide_true])
      | ((first | refine condB_split (fun h => ?_) (fun h => ?_) | refine gIf_split (fun h => ?_) (fun h => ?_) | refine qIf_split (fun h => ?_) (fun h => ?_)) <;> (try simp only [h]) <;> (try simp only [decide_eq_true_eq, decide_eq_false_iff_not, Bool.not_eq_true', Bool.not_eq_false', Bool.and_eq_true, Bool.or_eq_true, Bool.and_eq_false_iff, Bool.or_eq_false_iff, Int.not_le, Int.not_lt, bne_iff_ne, ne_eq, beq_iff_eq, Bool.not_eq_true, Bool.not_eq_false] at h) <;> (try simp only [h]) <;> (first | (exfalso; omega) | (focus (exfalso; simp_all; done)) | (simp (maxSteps := 400000) (disch := omega) only [push_cast, seval, hPl, hP0', decide_true]) | skip))
      | ((first | refine callD_of false ?_ | refine qcallD_of false ?_); simp (maxSteps := 400000) (disch := omega) only [push_cast, seval, hPl, hP0', decide_true])
      | ((first | (refine call0D (drawPlF_ok _ _ ?_ ?_) ?_; (iterate 2 (focus (first | assumption | rfl | omega | (simp <;> omega) | (simp_all <;> omega)))); rintro _ _ ⟨s, big, al, hs5, rfl, rfl⟩) | ((first | refine call0D (iPlaces_ok _ _ _ _ ?_ ?_) ?_ | refine qcall0D (iPlaces_ok _ _ _ _ ?_ ?_) ⟨_, _, rfl, rfl⟩ ?_); (iterate 2 (focus (first | assumption | rfl | omega | (simp <;> omega) | (simp_all <;> omega)))); rintro _ _ ⟨rfl, rfl⟩) | ((first | refine call0D (sPlaces_ok _ _ _ _ ?_ ?_) ?_ | refine qcall0D (sPlaces_ok _ _ _ _ ?_ ?_) ⟨_, _, rfl, rfl⟩ ?_); (iterate 2 (focus (first | assumption | rfl | omega | (simp <;> omega) | (simp_all <;> omega)))); rintro _ _ ⟨rfl, rfl⟩) | ((first | refine call0D (BCall.ofP (equalInts_ok _ _ _ _ ?_ ?_ ?_)) ?_ | refine qcall0D (BCall.ofP (equalInts_ok _ _ _ _ ?_ ?_ ?_)) ⟨_, _, rfl, rfl⟩ ?_); (iterate 3 (focus (first | assumption | rfl | omega | (simp <;> omega) | (simp_all <;> omega)))); rintro _ _ ⟨rfl, rfl⟩)) <;> (try simp (maxSteps := 400000) (disch := omega) only [push_cast, seval, hPl, hP0', decide_true]))
      | (refine awp_ret ⟨.inr rfl, _, rfl, ?_⟩; (try simp (maxSteps := 400000) (disch := omega) only [push_cast, seval, hPl, hP0', decide_true]))))
  · (repeat' (first
      | (first | refine awp_seq ?_ | refine awp_block ?_)
      | ((first | refine awp_reg ?_ | refine awp_draw (mid := l4r9a) (post := l4r9b) mixed (by decide) ?_ | refine awp_condB ?_ | refine awp_skip ?_ | refine awp_exit ?_); simp (maxSteps := 400000) (disch := omega) only [push_cast, seval, l4r0, l4r1, l4r2, l4r3, l4r4, l4r5, l4r6, l4r7, l4r8, l4r9a, l4r9b, l4r9, l4r10, l4r11, l4r12])
      | ((first | refine condB_split (fun h => ?_) (fun h => ?_) | refine gIf_split (fun h => ?_) (fun h => ?_) | refine qIf_split (fun h => ?_) (fun h => ?_)) <;> (try simp only [h]) <;> (try simp only [decide_eq_true_eq, decide_eq_false_iff_not, Bool.not_eq_true', Bool.not_eq_false', Bool.and_eq_true, Bool.or_eq_true, Bool.and_eq_false_iff, Bool.or_eq_false_iff, Int.not_le, Int.not_lt, bne_iff_ne, ne_eq, beq_iff_eq, Bool.not_eq_true, Bool.not_eq_false] at h) <;> (try simp only [h]) <;> (first | (exfalso; omega) | (focus (exfalso; simp_all; done)) | (simp (maxSteps := 400000) (disch := omega) only [push_cast, seval]) | skip))
      | ((first | refine callD_of false ?_ | refine qcallD_of false ?_); simp (maxSteps := 400000) (disch := omega) only [push_cast, seval])
      | ((first | (refine call0D (drawPlF_ok _ _ ?_ ?_) ?_; (iterate 2 (focus (first | assumption | rfl | omega | (simp <;> omega) | (simp_all <;> omega)))); rintro _ _ ⟨s, big, al, hs5, rfl, rfl⟩) | ((first | refine call0D (iPlaces_ok _ _ _ _ ?_ ?_) ?_ | refine qcall0D (iPlaces_ok _ _ _ _ ?_ ?_) ⟨_, _, rfl, rfl⟩ ?_); (iterate 2 (focus (first | assumption | rfl | omega | (simp <;> omega) | (simp_all <;> omega)))); rintro _ _ ⟨rfl, rfl⟩) | ((first | refine call0D (sPlaces_ok _ _ _ _ ?_ ?_) ?_ | refine qcall0D (sPlaces_ok _ _ _ _ ?_ ?_) ⟨_, _, rfl, rfl⟩ ?_); (iterate 2 (focus (first | assumption | rfl | omega | (simp <;> omega) | (simp_all <;> omega)))); rintro _ _ ⟨rfl, rfl⟩) | ((first | refine call0D (BCall.ofP (equalInts_ok _ _ _ _ ?_ ?_ ?_)) ?_ | refine qcall0D (BCall.ofP (equalInts_ok _ _ _ _ ?_ ?_ ?_)) ⟨_, _, rfl, rfl⟩ ?_); (iterate 3 (focus (first | assumption | rfl | omega | (simp <;> omega) | (simp_all <;> omega)))); rintro _ _ ⟨rfl, rfl⟩)) <;> (try simp (maxSteps := 400000) (disch := omega) only [push_cast, seval]))
      | (refine awp_ret ⟨.inr rfl, _, rfl, ?_⟩; (try simp (maxSteps := 400000) (disch := omega) only [push_cast, seval]))))

end Go.Proofs.YtclampodmlklpaaDoor
