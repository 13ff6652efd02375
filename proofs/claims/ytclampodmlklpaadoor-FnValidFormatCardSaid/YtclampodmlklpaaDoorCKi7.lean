import Derived.Test.YtclampodmlklpaaDoorCKm1
import Derived.Test.YtclampodmlklpaaDoorCM1
import Derived.Test.YtclampodmlklpaaDoorCW3
set_option linter.unusedSimpArgs false
set_option linter.unusedVariables false
set_option linter.unnecessarySimpa false
set_option maxRecDepth 4000
set_option maxHeartbeats 4000000
namespace Go.Proofs.YtclampodmlklpaaDoor
open VwM Vw Go

theorem sPlaces_ok (s : List Int) (n : Nat) (big al : Bool) (hn : s.length = n) (hb : n ≤ 1099511627776) : BCall Tryd.prog 19 [.agg [.rows false (IL s) n, .bool big, .bool al]] [] (OI (MVL (vF s) (fPL al s))) := by
  subst hn
  refine bcall_of (pins := []) (pin := 0) l19_eq rfl rfl rfl ?_
  cases hv : vF s with
  | false =>
    (repeat' (first
      | (first | refine awp_seq ?_ | refine awp_block ?_)
      | ((first | refine awp_reg ?_ | refine awp_condB ?_ | refine awp_skip ?_ | refine awp_exit ?_); simp (maxSteps := 400000) (disch := omega) only [push_cast, seval, l19r0, l19r1, l19r2, l19r3, l19r4, hv])
      | ((first | refine condB_split (fun h => ?_) (fun h => ?_) | refine gIf_split (fun h => ?_) (fun h => ?_) | refine qIf_split (fun h => ?_) (fun h => ?_)) <;> (try simp only [h]) <;> (try simp only [decide_eq_true_eq, decide_eq_false_iff_not, Bool.not_eq_true', Bool.not_eq_false', Bool.and_eq_true, Bool.or_eq_true, Bool.and_eq_false_iff, Bool.or_eq_false_iff, Int.not_le, Int.not_lt, bne_iff_ne, ne_eq, beq_iff_eq, Bool.not_eq_true, Bool.not_eq_false] at h) <;> (try simp only [h]) <;> (first | (exfalso; omega) | (focus (exfalso; simp_all; done)) | (simp (maxSteps := 400000) (disch := omega) only [push_cast, seval, hv]) | skip))
      | ((first | refine callD_of false ?_ | refine qcallD_of false ?_); simp (maxSteps := 400000) (disch := omega) only [push_cast, seval, hv])
      | ((first | ((first | refine call0D (BCall.ofP (svFmt_ok _ _ _ _ ?_ ?_)) ?_ | refine qcall0D (BCall.ofP (svFmt_ok _ _ _ _ ?_ ?_)) ⟨_, _, rfl, rfl⟩ ?_); (iterate 2 (focus (first | assumption | rfl | omega | (simp <;> omega) | (simp_all <;> omega)))); rintro _ _ ⟨rfl, rfl⟩) | ((first | refine call0D (splaces_ok _ _ _ _ ?_ ?_) ?_ | refine qcall0D (splaces_ok _ _ _ _ ?_ ?_) ⟨_, _, rfl, rfl⟩ ?_); (iterate 2 (focus (first | assumption | rfl | omega | (simp <;> omega) | (simp_all <;> omega)))); rintro _ _ ⟨rfl, rfl⟩)) <;> (try simp (maxSteps := 400000) (disch := omega) only [push_cast, seval, hv]))
      | (refine awp_ret ⟨.inr rfl, [16000], [(16000, 1)], _, by decide, rfl, ?_⟩; (try simp (maxSteps := 400000) (disch := omega) only [push_cast, seval, ↓allMem_nil, ↓allMem_cons, ↓List.map_cons, ↓List.map_nil, hv]))))
    all_goals simp [OI, MVL]
  | true =>
    have hl := fPL_length al s
    (repeat' (first
      | (first | refine awp_seq ?_ | refine awp_block ?_)
      | ((first | refine awp_reg ?_ | refine awp_condB ?_ | refine awp_skip ?_ | refine awp_exit ?_); simp (maxSteps := 400000) (disch := omega) only [push_cast, seval, l19r0, l19r1, l19r2, l19r3, l19r4, hv, hl])
      | ((first | refine condB_split (fun h => ?_) (fun h => ?_) | refine gIf_split (fun h => ?_) (fun h => ?_) | refine qIf_split (fun h => ?_) (fun h => ?_)) <;> (try simp only [h]) <;> (try simp only [decide_eq_true_eq, decide_eq_false_iff_not, Bool.not_eq_true', Bool.not_eq_false', Bool.and_eq_true, Bool.or_eq_true, Bool.and_eq_false_iff, Bool.or_eq_false_iff, Int.not_le, Int.not_lt, bne_iff_ne, ne_eq, beq_iff_eq, Bool.not_eq_true, Bool.not_eq_false] at h) <;> (try simp only [h]) <;> (first | (exfalso; omega) | (focus (exfalso; simp_all; done)) | (simp (maxSteps := 400000) (disch := omega) only [push_cast, seval, hv, hl]) | skip))
      | ((first | refine callD_of false ?_ | refine qcallD_of false ?_); simp (maxSteps := 400000) (disch := omega) only [push_cast, seval, hv, hl])
      | ((first | ((first | refine call0D (BCall.ofP (svFmt_ok _ _ _ _ ?_ ?_)) ?_ | refine qcall0D (BCall.ofP (svFmt_ok _ _ _ _ ?_ ?_)) ⟨_, _, rfl, rfl⟩ ?_); (iterate 2 (focus (first | assumption | rfl | omega | (simp <;> omega) | (simp_all <;> omega)))); rintro _ _ ⟨rfl, rfl⟩) | ((first | refine call0D (splaces_ok _ _ _ _ ?_ ?_) ?_ | refine qcall0D (splaces_ok _ _ _ _ ?_ ?_) ⟨_, _, rfl, rfl⟩ ?_); (iterate 2 (focus (first | assumption | rfl | omega | (simp <;> omega) | (simp_all <;> omega)))); rintro _ _ ⟨rfl, rfl⟩)) <;> (try simp (maxSteps := 400000) (disch := omega) only [push_cast, seval, hv, hl]))
      | (refine awp_ret ⟨.inr rfl, [96], [], _, by decide, rfl, ?_⟩; (try simp (maxSteps := 400000) (disch := omega) only [push_cast, seval, ↓allMem_nil, ↓allMem_cons, ↓List.map_cons, ↓List.map_nil, hv, hl]); (first | done | (show AV.own _ _ _ = _ ∧ _)))
      | (refine awp_ret ⟨.inr rfl, [160], [], _, by decide, rfl, ?_⟩; (try simp (maxSteps := 400000) (disch := omega) only [push_cast, seval, ↓allMem_nil, ↓allMem_cons, ↓List.map_cons, ↓List.map_nil, hv, hl]); (first | done | (show AV.own _ _ _ = _ ∧ _)))))
    all_goals simp [OI, MVL, hl]


set_option maxHeartbeats 8000000 in
theorem iPlaces_ok (s : List Int) (n : Nat) (big al : Bool) (hn : s.length = n) (hb : n ≤ 1099511627776) : BCall Tryd.prog 17 [.agg [.rows false (IL s) n, .bool big, .bool al]] [] (OI (MVL (vF s) (fPL al s))) := by
  subst hn
  refine bcall_of (pins := []) (pin := 0) l17_eq rfl rfl rfl ?_
  cases hv : vF s with
  | false =>
    (repeat' (first
      | (first | refine awp_seq ?_ | refine awp_block ?_)
      | ((first | refine awp_reg ?_ | refine awp_condB ?_ | refine awp_skip ?_ | refine awp_exit ?_); simp (maxSteps := 400000) (disch := omega) only [push_cast, seval, l17r0, l17r1, l17r2, l17r3, l17r4, l17r5, l17r6, l17r7, l17r8, l17r9, hv])
      | ((first | refine condB_split (fun h => ?_) (fun h => ?_) | refine gIf_split (fun h => ?_) (fun h => ?_) | refine qIf_split (fun h => ?_) (fun h => ?_)) <;> (try simp only [h]) <;> (try simp only [decide_eq_true_eq, decide_eq_false_iff_not, Bool.not_eq_true', Bool.not_eq_false', Bool.and_eq_true, Bool.or_eq_true, Bool.and_eq_false_iff, Bool.or_eq_false_iff, Int.not_le, Int.not_lt, bne_iff_ne, ne_eq, beq_iff_eq, Bool.not_eq_true, Bool.not_eq_false] at h) <;> (try simp only [h]) <;> (first | (exfalso; omega) | (focus (exfalso; simp_all; done)) | (simp (maxSteps := 400000) (disch := omega) only [push_cast, seval, hv]) | skip))
      | ((first | refine callD_of false ?_ | refine qcallD_of false ?_); simp (maxSteps := 400000) (disch := omega) only [push_cast, seval, hv])
      | ((first | ((first | refine call0D (BCall.ofP (iVFmt_ok _ _ _ _ ?_ ?_)) ?_ | refine qcall0D (BCall.ofP (iVFmt_ok _ _ _ _ ?_ ?_)) ⟨_, _, rfl, rfl⟩ ?_); (iterate 2 (focus (first | assumption | rfl | omega | (simp <;> omega) | (simp_all <;> omega)))); rintro _ _ ⟨rfl, rfl⟩) | ((first | refine call0D (ifields_ok _ _ _ _ ?_ ?_) ?_ | refine qcall0D (ifields_ok _ _ _ _ ?_ ?_) ⟨_, _, rfl, rfl⟩ ?_); (iterate 2 (focus (first | assumption | rfl | omega | (simp <;> omega) | (simp_all <;> omega)))); rintro _ _ ⟨rfl, rfl⟩)) <;> (try simp (maxSteps := 400000) (disch := omega) only [push_cast, seval, hv]))
      | (refine awp_ret ⟨.inr rfl, [16000], [(16000, 1)], _, by decide, rfl, ?_⟩; (try simp (maxSteps := 400000) (disch := omega) only [push_cast, seval, ↓allMem_nil, ↓allMem_cons, ↓List.map_cons, ↓List.map_nil, hv]))))
    all_goals simp [OI, MVL]
  | true =>
    obtain ⟨hs, hl1, hl2⟩ := vF_iff.1 hv
    have hfl := fL2_length al s s.length
    (repeat' (first
      | (first | refine awp_seq ?_ | refine awp_block ?_)
      | ((first | refine awp_reg ?_ | refine awp_condB ?_ | refine awp_skip ?_ | refine awp_exit ?_); simp (maxSteps := 400000) (disch := omega) only [push_cast, seval, l17r0, l17r1, l17r2, l17r3, l17r4, l17r5, l17r6, l17r7, l17r8, l17r9, hv, hfl])
      | ((first | refine condB_split (fun h => ?_) (fun h => ?_) | refine gIf_split (fun h => ?_) (fun h => ?_) | refine qIf_split (fun h => ?_) (fun h => ?_)) <;> (try simp only [h]) <;> (try simp only [decide_eq_true_eq, decide_eq_false_iff_not, Bool.not_eq_true', Bool.not_eq_false', Bool.and_eq_true, Bool.or_eq_true, Bool.and_eq_false_iff, Bool.or_eq_false_iff, Int.not_le, Int.not_lt, bne_iff_ne, ne_eq, beq_iff_eq, Bool.not_eq_true, Bool.not_eq_false] at h) <;> (try simp only [h]) <;> (first | (exfalso; omega) | (focus (exfalso; simp_all; done)) | (simp (maxSteps := 400000) (disch := omega) only [push_cast, seval, hv, hfl]) | skip))
      | ((first | refine callD_of false ?_ | refine qcallD_of false ?_); simp (maxSteps := 400000) (disch := omega) only [push_cast, seval, hv, hfl])
      | ((first | ((first | refine call0D (BCall.ofP (iVFmt_ok _ _ _ _ ?_ ?_)) ?_ | refine qcall0D (BCall.ofP (iVFmt_ok _ _ _ _ ?_ ?_)) ⟨_, _, rfl, rfl⟩ ?_); (iterate 2 (focus (first | assumption | rfl | omega | (simp <;> omega) | (simp_all <;> omega)))); rintro _ _ ⟨rfl, rfl⟩) | ((first | refine call0D (ifields_ok _ _ _ _ ?_ ?_) ?_ | refine qcall0D (ifields_ok _ _ _ _ ?_ ?_) ⟨_, _, rfl, rfl⟩ ?_); (iterate 2 (focus (first | assumption | rfl | omega | (simp <;> omega) | (simp_all <;> omega)))); rintro _ _ ⟨rfl, rfl⟩)) <;> (try simp (maxSteps := 400000) (disch := omega) only [push_cast, seval, hv, hfl]))
      | (refine awp_ret ⟨.inr rfl, [320], [], _, by decide, rfl, ?_⟩; (try simp (maxSteps := 400000) (disch := omega) only [push_cast, seval, ↓allMem_nil, ↓allMem_cons, ↓List.map_cons, ↓List.map_nil, hv, hfl]))))
    refine awp_loop (fun k : Nat => if k = 0 then mkS [(3, .val (.slice none 0 0)), (10, .own 160 s.length 2), (11, .int .i64 s.length), (12, .int .i64 k)] [(160, IL (fL2 al s s.length))] else mkS [(3, .own 320 k 1), (10, .own 160 s.length 2), (11, .int .i64 s.length), (12, .int .i64 k)] [(320, IL ((List.range k).map (fP al s))), (160, IL (fL2 al s s.length))])
      (fun k => k ≤ s.length) (fun k => s.length - k) 0 (Nat.zero_le _) ?_ ?_
    · rw [if_pos rfl]
      (refine Sub.of_lists ?_ ?_ ?_ ?_ ?_ <;> simp [Vw.mkS, Vw.lk, Vw.hk, AV.inn, innL, innL_ints, innL_append, innL_rep, -List.map_set, -List.getD_eq_getElem?_getD, hfl])
    · intro k hk
      have hul : ((List.range k).map (fP al s)).length = k := by simp
      by_cases hlt : k < s.length
      · have g := fL2_get (al := al) (s := s) (n := s.length) (k := k) hlt
        have htd := td2 (by omega) g.1 g.2
        have hif : k * 2 + 2 ≤ s.length * 2 := by omega
        have e5 := fPL_succ al s k
        have b := fP_bound (al := al) hs k hlt
        have hk1 : ¬ k + 1 = 0 := by omega
        generalize hQ : fL2 al s s.length = Q at *
        generalize hP : fP al s k = P at *
        by_cases h0 : k = 0
        · subst h0
          rw [if_pos rfl]
          clear g b
          have e6 : (List.range 1).map (fP al s) = [P] := by simp [hP]
          have htd0 : List.take 2 (List.map (AV.int .i64) Q) = [.int .i64 P, .int .i64 (s.getD 0 0)] := htd
          (repeat' (first
      | (first | refine awp_seq ?_ | refine awp_block ?_)
      | ((first | refine awp_reg ?_ | refine awp_condB ?_ | refine awp_skip ?_ | refine awp_exit ?_); simp (maxSteps := 400000) (disch := omega) only [push_cast, seval, l17r0, l17r1, l17r2, l17r3, l17r4, l17r5, l17r6, l17r7, l17r8, l17r9, htd0, hif, hfl, List.length_map])
      | ((first | refine condB_split (fun h => ?_) (fun h => ?_) | refine gIf_split (fun h => ?_) (fun h => ?_) | refine qIf_split (fun h => ?_) (fun h => ?_)) <;> (try simp only [h]) <;> (try simp only [decide_eq_true_eq, decide_eq_false_iff_not, Bool.not_eq_true', Bool.not_eq_false', Bool.and_eq_true, Bool.or_eq_true, Bool.and_eq_false_iff, Bool.or_eq_false_iff, Int.not_le, Int.not_lt, bne_iff_ne, ne_eq, beq_iff_eq, Bool.not_eq_true, Bool.not_eq_false] at h) <;> (try simp only [h]) <;> (first | (exfalso; omega) | (focus (exfalso; simp_all; done)) | (simp (maxSteps := 400000) (disch := omega) only [push_cast, seval, htd0, hif, hfl, List.length_map]) | skip))
      | ((first | refine callD_of false ?_ | refine qcallD_of false ?_); simp (maxSteps := 400000) (disch := omega) only [push_cast, seval, htd0, hif, hfl, List.length_map])
      | ((first | ((first | refine call0D (BCall.ofP (iVFmt_ok _ _ _ _ ?_ ?_)) ?_ | refine qcall0D (BCall.ofP (iVFmt_ok _ _ _ _ ?_ ?_)) ⟨_, _, rfl, rfl⟩ ?_); (iterate 2 (focus (first | assumption | rfl | omega | (simp <;> omega) | (simp_all <;> omega)))); rintro _ _ ⟨rfl, rfl⟩) | ((first | refine call0D (ifields_ok _ _ _ _ ?_ ?_) ?_ | refine qcall0D (ifields_ok _ _ _ _ ?_ ?_) ⟨_, _, rfl, rfl⟩ ?_); (iterate 2 (focus (first | assumption | rfl | omega | (simp <;> omega) | (simp_all <;> omega)))); rintro _ _ ⟨rfl, rfl⟩)) <;> (try simp (maxSteps := 400000) (disch := omega) only [push_cast, seval, htd0, hif, hfl, List.length_map]))
      | (refine awp_ret ⟨.inr rfl, [320], [], _, by decide, rfl, ?_⟩; (try simp (maxSteps := 400000) (disch := omega) only [push_cast, seval, ↓allMem_nil, ↓allMem_cons, ↓List.map_cons, ↓List.map_nil, htd0, hif, hfl, List.length_map]))))
          refine ⟨1, by omega, by omega, ?_⟩
          rw [if_neg (by decide)]
          (refine Sub.of_lists ?_ ?_ ?_ ?_ ?_ <;> simp [Vw.mkS, Vw.lk, Vw.hk, AV.inn, innL, innL_ints, innL_append, innL_rep, -List.map_set, -List.getD_eq_getElem?_getD, e6, hP, hQ])
        · rw [if_neg h0]
          clear g b
          generalize hU : (List.range k).map (fP al s) = U at *
          (repeat' (first
      | (first | refine awp_seq ?_ | refine awp_block ?_)
      | ((first | refine awp_reg ?_ | refine awp_condB ?_ | refine awp_skip ?_ | refine awp_exit ?_); simp (maxSteps := 400000) (disch := omega) only [push_cast, seval, l17r0, l17r1, l17r2, l17r3, l17r4, l17r5, l17r6, l17r7, l17r8, l17r9, htd, hif, hfl, hul, List.length_map])
      | ((first | refine condB_split (fun h => ?_) (fun h => ?_) | refine gIf_split (fun h => ?_) (fun h => ?_) | refine qIf_split (fun h => ?_) (fun h => ?_)) <;> (try simp only [h]) <;> (try simp only [decide_eq_true_eq, decide_eq_false_iff_not, Bool.not_eq_true', Bool.not_eq_false', Bool.and_eq_true, Bool.or_eq_true, Bool.and_eq_false_iff, Bool.or_eq_false_iff, Int.not_le, Int.not_lt, bne_iff_ne, ne_eq, beq_iff_eq, Bool.not_eq_true, Bool.not_eq_false] at h) <;> (try simp only [h]) <;> (first | (exfalso; omega) | (focus (exfalso; simp_all; done)) | (simp (maxSteps := 400000) (disch := omega) only [push_cast, seval, htd, hif, hfl, hul, List.length_map]) | skip))
      | ((first | refine callD_of false ?_ | refine qcallD_of false ?_); simp (maxSteps := 400000) (disch := omega) only [push_cast, seval, htd, hif, hfl, hul, List.length_map])
      | ((first | ((first | refine call0D (BCall.ofP (iVFmt_ok _ _ _ _ ?_ ?_)) ?_ | refine qcall0D (BCall.ofP (iVFmt_ok _ _ _ _ ?_ ?_)) ⟨_, _, rfl, rfl⟩ ?_); (iterate 2 (focus (first | assumption | rfl | omega | (simp <;> omega) | (simp_all <;> omega)))); rintro _ _ ⟨rfl, rfl⟩) | ((first | refine call0D (ifields_ok _ _ _ _ ?_ ?_) ?_ | refine qcall0D (ifields_ok _ _ _ _ ?_ ?_) ⟨_, _, rfl, rfl⟩ ?_); (iterate 2 (focus (first | assumption | rfl | omega | (simp <;> omega) | (simp_all <;> omega)))); rintro _ _ ⟨rfl, rfl⟩)) <;> (try simp (maxSteps := 400000) (disch := omega) only [push_cast, seval, htd, hif, hfl, hul, List.length_map]))
      | (refine awp_ret ⟨.inr rfl, [320], [], _, by decide, rfl, ?_⟩; (try simp (maxSteps := 400000) (disch := omega) only [push_cast, seval, ↓allMem_nil, ↓allMem_cons, ↓List.map_cons, ↓List.map_nil, htd, hif, hfl, hul, List.length_map]))))
          refine ⟨k + 1, by omega, by omega, ?_⟩
          rw [if_neg hk1]
          (refine Sub.of_lists ?_ ?_ ?_ ?_ ?_ <;> simp [Vw.mkS, Vw.lk, Vw.hk, AV.inn, innL, innL_ints, innL_append, innL_rep, -List.map_set, -List.getD_eq_getElem?_getD, e5, hU, hP, hQ])
      · have e : k = s.length := by omega
        subst e
        rw [if_neg (by omega)]
        have e2 : (List.range s.length).map (fP al s) = fPL al s := rfl
        rw [e2] at hul ⊢
        (repeat' (first
      | (first | refine awp_seq ?_ | refine awp_block ?_)
      | ((first | refine awp_reg ?_ | refine awp_condB ?_ | refine awp_skip ?_ | refine awp_exit ?_); simp (maxSteps := 400000) (disch := omega) only [push_cast, seval, l17r0, l17r1, l17r2, l17r3, l17r4, l17r5, l17r6, l17r7, l17r8, l17r9, hul])
      | ((first | refine condB_split (fun h => ?_) (fun h => ?_) | refine gIf_split (fun h => ?_) (fun h => ?_) | refine qIf_split (fun h => ?_) (fun h => ?_)) <;> (try simp only [h]) <;> (try simp only [decide_eq_true_eq, decide_eq_false_iff_not, Bool.not_eq_true', Bool.not_eq_false', Bool.and_eq_true, Bool.or_eq_true, Bool.and_eq_false_iff, Bool.or_eq_false_iff, Int.not_le, Int.not_lt, bne_iff_ne, ne_eq, beq_iff_eq, Bool.not_eq_true, Bool.not_eq_false] at h) <;> (try simp only [h]) <;> (first | (exfalso; omega) | (focus (exfalso; simp_all; done)) | (simp (maxSteps := 400000) (disch := omega) only [push_cast, seval, hul]) | skip))
      | ((first | refine callD_of false ?_ | refine qcallD_of false ?_); simp (maxSteps := 400000) (disch := omega) only [push_cast, seval, hul])
      | ((first | ((first | refine call0D (BCall.ofP (iVFmt_ok _ _ _ _ ?_ ?_)) ?_ | refine qcall0D (BCall.ofP (iVFmt_ok _ _ _ _ ?_ ?_)) ⟨_, _, rfl, rfl⟩ ?_); (iterate 2 (focus (first | assumption | rfl | omega | (simp <;> omega) | (simp_all <;> omega)))); rintro _ _ ⟨rfl, rfl⟩) | ((first | refine call0D (ifields_ok _ _ _ _ ?_ ?_) ?_ | refine qcall0D (ifields_ok _ _ _ _ ?_ ?_) ⟨_, _, rfl, rfl⟩ ?_); (iterate 2 (focus (first | assumption | rfl | omega | (simp <;> omega) | (simp_all <;> omega)))); rintro _ _ ⟨rfl, rfl⟩)) <;> (try simp (maxSteps := 400000) (disch := omega) only [push_cast, seval, hul]))
      | (refine awp_ret ⟨.inr rfl, [320], [], _, by decide, rfl, ?_⟩; (try simp (maxSteps := 400000) (disch := omega) only [push_cast, seval, ↓allMem_nil, ↓allMem_cons, ↓List.map_cons, ↓List.map_nil, hul]))))
        all_goals simp [OI, MVL, hul]


theorem sISz_ok (s : List Int) (n : Nat) (big al : Bool) (hn : s.length = n) (hb : n ≤ 1099511627776) : PCall Tryd.prog 22 [.agg [.rows false (IL s) n, .bool big, .bool al]] (fun r => r = .int .i64 (if vF s = true then fN al s else -1)) := by
  subst hn
  refine pcall_of l22_eq rfl ?_
  cases hv : vF s with
  | false => (repeat' (first
      | (first | refine awp_seq ?_ | refine awp_block ?_)
      | ((first | refine awp_reg ?_ | refine awp_condB ?_ | refine awp_skip ?_ | refine awp_exit ?_); simp (maxSteps := 400000) (disch := omega) only [push_cast, seval, l22r0, l22r1, l22r2, l22r3, l22r4, hv])
      | ((first | refine condB_split (fun h => ?_) (fun h => ?_) | refine gIf_split (fun h => ?_) (fun h => ?_) | refine qIf_split (fun h => ?_) (fun h => ?_)) <;> (try simp only [h]) <;> (try simp only [decide_eq_true_eq, decide_eq_false_iff_not, Bool.not_eq_true', Bool.not_eq_false', Bool.and_eq_true, Bool.or_eq_true, Bool.and_eq_false_iff, Bool.or_eq_false_iff, Int.not_le, Int.not_lt, bne_iff_ne, ne_eq, beq_iff_eq, Bool.not_eq_true, Bool.not_eq_false] at h) <;> (try simp only [h]) <;> (first | (exfalso; omega) | (focus (exfalso; simp_all; done)) | (simp (maxSteps := 400000) (disch := omega) only [push_cast, seval, hv]) | skip))
      | ((first | refine callD_of false ?_ | refine qcallD_of false ?_); simp (maxSteps := 400000) (disch := omega) only [push_cast, seval, hv])
      | ((first | ((first | refine call0D (BCall.ofP (svFmt_ok _ _ _ _ ?_ ?_)) ?_ | refine qcall0D (BCall.ofP (svFmt_ok _ _ _ _ ?_ ?_)) ⟨_, _, rfl, rfl⟩ ?_); (iterate 2 (focus (first | assumption | rfl | omega | (simp <;> omega) | (simp_all <;> omega)))); rintro _ _ ⟨rfl, rfl⟩) | ((first | refine call0D (splaces_ok _ _ _ _ ?_ ?_) ?_ | refine qcall0D (splaces_ok _ _ _ _ ?_ ?_) ⟨_, _, rfl, rfl⟩ ?_); (iterate 2 (focus (first | assumption | rfl | omega | (simp <;> omega) | (simp_all <;> omega)))); rintro _ _ ⟨rfl, rfl⟩)) <;> (try simp (maxSteps := 400000) (disch := omega) only [push_cast, seval, hv]))
      | (refine awp_ret ⟨.inr rfl, _, rfl, ?_⟩; (try simp (maxSteps := 400000) (disch := omega) only [push_cast, seval, hv]))))
  | true => (repeat' (first
      | (first | refine awp_seq ?_ | refine awp_block ?_)
      | ((first | refine awp_reg ?_ | refine awp_condB ?_ | refine awp_skip ?_ | refine awp_exit ?_); simp (maxSteps := 400000) (disch := omega) only [push_cast, seval, l22r0, l22r1, l22r2, l22r3, l22r4, hv])
      | ((first | refine condB_split (fun h => ?_) (fun h => ?_) | refine gIf_split (fun h => ?_) (fun h => ?_) | refine qIf_split (fun h => ?_) (fun h => ?_)) <;> (try simp only [h]) <;> (try simp only [decide_eq_true_eq, decide_eq_false_iff_not, Bool.not_eq_true', Bool.not_eq_false', Bool.and_eq_true, Bool.or_eq_true, Bool.and_eq_false_iff, Bool.or_eq_false_iff, Int.not_le, Int.not_lt, bne_iff_ne, ne_eq, beq_iff_eq, Bool.not_eq_true, Bool.not_eq_false] at h) <;> (try simp only [h]) <;> (first | (exfalso; omega) | (focus (exfalso; simp_all; done)) | (simp (maxSteps := 400000) (disch := omega) only [push_cast, seval, hv]) | skip))
      | ((first | refine callD_of false ?_ | refine qcallD_of false ?_); simp (maxSteps := 400000) (disch := omega) only [push_cast, seval, hv])
      | ((first | ((first | refine call0D (BCall.ofP (svFmt_ok _ _ _ _ ?_ ?_)) ?_ | refine qcall0D (BCall.ofP (svFmt_ok _ _ _ _ ?_ ?_)) ⟨_, _, rfl, rfl⟩ ?_); (iterate 2 (focus (first | assumption | rfl | omega | (simp <;> omega) | (simp_all <;> omega)))); rintro _ _ ⟨rfl, rfl⟩) | ((first | refine call0D (splaces_ok _ _ _ _ ?_ ?_) ?_ | refine qcall0D (splaces_ok _ _ _ _ ?_ ?_) ⟨_, _, rfl, rfl⟩ ?_); (iterate 2 (focus (first | assumption | rfl | omega | (simp <;> omega) | (simp_all <;> omega)))); rintro _ _ ⟨rfl, rfl⟩)) <;> (try simp (maxSteps := 400000) (disch := omega) only [push_cast, seval, hv]))
      | (refine awp_ret ⟨.inr rfl, _, rfl, ?_⟩; (try simp (maxSteps := 400000) (disch := omega) only [push_cast, seval, hv]))))


theorem iISz_ok (s : List Int) (n : Nat) (big al : Bool) (hn : s.length = n) (hb : n ≤ 1099511627776) : PCall Tryd.prog 21 [.agg [.rows false (IL s) n, .bool big, .bool al]] (fun r => r = .int .i64 (if vF s = true then fN al s else -1)) := by
  subst hn
  refine pcall_of l21_eq rfl ?_
  cases hv : vF s with
  | false => (repeat' (first
      | (first | refine awp_seq ?_ | refine awp_block ?_)
      | ((first | refine awp_reg ?_ | refine awp_condB ?_ | refine awp_skip ?_ | refine awp_exit ?_); simp (maxSteps := 400000) (disch := omega) only [push_cast, seval, l21r0, l21r1, l21r2, l21r3, hv])
      | ((first | refine condB_split (fun h => ?_) (fun h => ?_) | refine gIf_split (fun h => ?_) (fun h => ?_) | refine qIf_split (fun h => ?_) (fun h => ?_)) <;> (try simp only [h]) <;> (try simp only [decide_eq_true_eq, decide_eq_false_iff_not, Bool.not_eq_true', Bool.not_eq_false', Bool.and_eq_true, Bool.or_eq_true, Bool.and_eq_false_iff, Bool.or_eq_false_iff, Int.not_le, Int.not_lt, bne_iff_ne, ne_eq, beq_iff_eq, Bool.not_eq_true, Bool.not_eq_false] at h) <;> (try simp only [h]) <;> (first | (exfalso; omega) | (focus (exfalso; simp_all; done)) | (simp (maxSteps := 400000) (disch := omega) only [push_cast, seval, hv]) | skip))
      | ((first | refine callD_of false ?_ | refine qcallD_of false ?_); simp (maxSteps := 400000) (disch := omega) only [push_cast, seval, hv])
      | ((first | ((first | refine call0D (BCall.ofP (iVFmt_ok _ _ _ _ ?_ ?_)) ?_ | refine qcall0D (BCall.ofP (iVFmt_ok _ _ _ _ ?_ ?_)) ⟨_, _, rfl, rfl⟩ ?_); (iterate 2 (focus (first | assumption | rfl | omega | (simp <;> omega) | (simp_all <;> omega)))); rintro _ _ ⟨rfl, rfl⟩) | ((first | refine call0D (BCall.ofP (isz_ok _ _ _ _ ?_ ?_)) ?_ | refine qcall0D (BCall.ofP (isz_ok _ _ _ _ ?_ ?_)) ⟨_, _, rfl, rfl⟩ ?_); (iterate 2 (focus (first | assumption | rfl | omega | (simp <;> omega) | (simp_all <;> omega)))); rintro _ _ ⟨rfl, rfl⟩)) <;> (try simp (maxSteps := 400000) (disch := omega) only [push_cast, seval, hv]))
      | (refine awp_ret ⟨.inr rfl, _, rfl, ?_⟩; (try simp (maxSteps := 400000) (disch := omega) only [push_cast, seval, hv]))))
  | true => (repeat' (first
      | (first | refine awp_seq ?_ | refine awp_block ?_)
      | ((first | refine awp_reg ?_ | refine awp_condB ?_ | refine awp_skip ?_ | refine awp_exit ?_); simp (maxSteps := 400000) (disch := omega) only [push_cast, seval, l21r0, l21r1, l21r2, l21r3, hv])
      | ((first | refine condB_split (fun h => ?_) (fun h => ?_) | refine gIf_split (fun h => ?_) (fun h => ?_) | refine qIf_split (fun h => ?_) (fun h => ?_)) <;> (try simp only [h]) <;> (try simp only [decide_eq_true_eq, decide_eq_false_iff_not, Bool.not_eq_true', Bool.not_eq_false', Bool.and_eq_true, Bool.or_eq_true, Bool.and_eq_false_iff, Bool.or_eq_false_iff, Int.not_le, Int.not_lt, bne_iff_ne, ne_eq, beq_iff_eq, Bool.not_eq_true, Bool.not_eq_false] at h) <;> (try simp only [h]) <;> (first | (exfalso; omega) | (focus (exfalso; simp_all; done)) | (simp (maxSteps := 400000) (disch := omega) only [push_cast, seval, hv]) | skip))
      | ((first | refine callD_of false ?_ | refine qcallD_of false ?_); simp (maxSteps := 400000) (disch := omega) only [push_cast, seval, hv])
      | ((first | ((first | refine call0D (BCall.ofP (iVFmt_ok _ _ _ _ ?_ ?_)) ?_ | refine qcall0D (BCall.ofP (iVFmt_ok _ _ _ _ ?_ ?_)) ⟨_, _, rfl, rfl⟩ ?_); (iterate 2 (focus (first | assumption | rfl | omega | (simp <;> omega) | (simp_all <;> omega)))); rintro _ _ ⟨rfl, rfl⟩) | ((first | refine call0D (BCall.ofP (isz_ok _ _ _ _ ?_ ?_)) ?_ | refine qcall0D (BCall.ofP (isz_ok _ _ _ _ ?_ ?_)) ⟨_, _, rfl, rfl⟩ ?_); (iterate 2 (focus (first | assumption | rfl | omega | (simp <;> omega) | (simp_all <;> omega)))); rintro _ _ ⟨rfl, rfl⟩)) <;> (try simp (maxSteps := 400000) (disch := omega) only [push_cast, seval, hv]))
      | (refine awp_ret ⟨.inr rfl, _, rfl, ?_⟩; (try simp (maxSteps := 400000) (disch := omega) only [push_cast, seval, hv]))))


set_option maxHeartbeats 16000000 in
theorem sPad_ok (s : List Int) (n : Nat) (big al : Bool) (hn : s.length = n) (hb : n ≤ 1099511627776) : BCall Tryd.prog 26 [.agg [.rows false (IL s) n, .bool big, .bool al]] [] (OI (MVL (vF s) (fPad al s))) := by
  subst hn
  refine bcall_of (pins := []) (pin := 0) l26_eq rfl rfl rfl ?_
  cases hv : vF s with
  | false =>
    (repeat' (first
      | (first | refine awp_seq ?_ | refine awp_block ?_)
      | ((first | refine awp_reg ?_ | refine awp_draw (mid := l26r10a) (post := l26r10b) mixed (by decide) ?_ | refine awp_condB ?_ | refine awp_skip ?_ | refine awp_exit ?_); simp (maxSteps := 400000) (disch := omega) only [push_cast, seval, l26r0, l26r1, l26r2, l26r3, l26r4, l26r5, l26r6, l26r7, l26r8, l26r9, l26r10a, l26r10b, l26r10, l26r11, l26r12, l26r13, l26r14, l26r15, hv])
      | ((first | refine condB_split (fun h => ?_) (fun h => ?_) | refine gIf_split (fun h => ?_) (fun h => ?_) | refine qIf_split (fun h => ?_) (fun h => ?_)) <;> (try simp only [h]) <;> (try simp only [decide_eq_true_eq, decide_eq_false_iff_not, Bool.not_eq_true', Bool.not_eq_false', Bool.and_eq_true, Bool.or_eq_true, Bool.and_eq_false_iff, Bool.or_eq_false_iff, Int.not_le, Int.not_lt, bne_iff_ne, ne_eq, beq_iff_eq, Bool.not_eq_true, Bool.not_eq_false] at h) <;> (try simp only [h]) <;> (first | (exfalso; omega) | (focus (exfalso; simp_all; done)) | (simp (maxSteps := 400000) (disch := omega) only [push_cast, seval, hv]) | skip))
      | ((first | refine callD_of false ?_ | refine qcallD_of false ?_); simp (maxSteps := 400000) (disch := omega) only [push_cast, seval, hv])
      | ((first | ((first | refine call0D (BCall.ofP (svFmt_ok _ _ _ _ ?_ ?_)) ?_ | refine qcall0D (BCall.ofP (svFmt_ok _ _ _ _ ?_ ?_)) ⟨_, _, rfl, rfl⟩ ?_); (iterate 2 (focus (first | assumption | rfl | omega | (simp <;> omega) | (simp_all <;> omega)))); rintro _ _ ⟨rfl, rfl⟩) | ((first | refine call0D (splaces_ok _ _ _ _ ?_ ?_) ?_ | refine qcall0D (splaces_ok _ _ _ _ ?_ ?_) ⟨_, _, rfl, rfl⟩ ?_); (iterate 2 (focus (first | assumption | rfl | omega | (simp <;> omega) | (simp_all <;> omega)))); rintro _ _ ⟨rfl, rfl⟩) | ((first | refine call0D (BCall.ofP (inRange_ok _ _ _)) ?_ | refine qcall0D (BCall.ofP (inRange_ok _ _ _)) ⟨_, _, rfl, rfl⟩ ?_); rintro _ _ ⟨rfl, rfl⟩)) <;> (try simp (maxSteps := 400000) (disch := omega) only [push_cast, seval, hv]))
      | (refine awp_ret ⟨.inr rfl, [16000], [(16000, 1)], _, by decide, rfl, ?_⟩; (try simp (maxSteps := 400000) (disch := omega) only [push_cast, seval, ↓allMem_nil, ↓allMem_cons, ↓List.map_cons, ↓List.map_nil, hv]))))
    all_goals simp [OI, MVL]
  | true =>
    obtain ⟨hs, hl1, hl2⟩ := vF_iff.1 hv
    have hfl := fPL_length al s
    have hN := (pk_room (al := al) hv (k := 0) (by omega)).2.2.2.2.2.1
    have hN38 := (pk_room (al := al) hv (k := 0) (by omega)).2.2.2.2.1
    have hPT := padT_eq (al := al) hv
    generalize hNt : (fN al s).toNat = N at *
    (repeat' (first
      | (first | refine awp_seq ?_ | refine awp_block ?_)
      | ((first | refine awp_reg ?_ | refine awp_draw (mid := l26r10a) (post := l26r10b) mixed (by decide) ?_ | refine awp_condB ?_ | refine awp_skip ?_ | refine awp_exit ?_); simp (maxSteps := 400000) (disch := omega) only [push_cast, seval, l26r0, l26r1, l26r2, l26r3, l26r4, l26r5, l26r6, l26r7, l26r8, l26r9, l26r10a, l26r10b, l26r10, l26r11, l26r12, l26r13, l26r14, l26r15, hv, hfl, hN])
      | ((first | refine condB_split (fun h => ?_) (fun h => ?_) | refine gIf_split (fun h => ?_) (fun h => ?_) | refine qIf_split (fun h => ?_) (fun h => ?_)) <;> (try simp only [h]) <;> (try simp only [decide_eq_true_eq, decide_eq_false_iff_not, Bool.not_eq_true', Bool.not_eq_false', Bool.and_eq_true, Bool.or_eq_true, Bool.and_eq_false_iff, Bool.or_eq_false_iff, Int.not_le, Int.not_lt, bne_iff_ne, ne_eq, beq_iff_eq, Bool.not_eq_true, Bool.not_eq_false] at h) <;> (try simp only [h]) <;> (first | (exfalso; omega) | (focus (exfalso; simp_all; done)) | (simp (maxSteps := 400000) (disch := omega) only [push_cast, seval, hv, hfl, hN]) | skip))
      | ((first | refine callD_of false ?_ | refine qcallD_of false ?_); simp (maxSteps := 400000) (disch := omega) only [push_cast, seval, hv, hfl, hN])
      | ((first | ((first | refine call0D (BCall.ofP (svFmt_ok _ _ _ _ ?_ ?_)) ?_ | refine qcall0D (BCall.ofP (svFmt_ok _ _ _ _ ?_ ?_)) ⟨_, _, rfl, rfl⟩ ?_); (iterate 2 (focus (first | assumption | rfl | omega | (simp <;> omega) | (simp_all <;> omega)))); rintro _ _ ⟨rfl, rfl⟩) | ((first | refine call0D (splaces_ok _ _ _ _ ?_ ?_) ?_ | refine qcall0D (splaces_ok _ _ _ _ ?_ ?_) ⟨_, _, rfl, rfl⟩ ?_); (iterate 2 (focus (first | assumption | rfl | omega | (simp <;> omega) | (simp_all <;> omega)))); rintro _ _ ⟨rfl, rfl⟩) | ((first | refine call0D (BCall.ofP (inRange_ok _ _ _)) ?_ | refine qcall0D (BCall.ofP (inRange_ok _ _ _)) ⟨_, _, rfl, rfl⟩ ?_); rintro _ _ ⟨rfl, rfl⟩)) <;> (try simp (maxSteps := 400000) (disch := omega) only [push_cast, seval, hv, hfl, hN]))
      | (refine awp_ret ⟨.inr rfl, [272], [], _, by decide, rfl, ?_⟩; (try simp (maxSteps := 400000) (disch := omega) only [push_cast, seval, ↓allMem_nil, ↓allMem_cons, ↓List.map_cons, ↓List.map_nil, hv, hfl, hN]))))
    refine awp_loop (fun x : Nat => mkS [(1, .ref 16 3 0), (3, .own 224 s.length 1), (4, .int .i64 N), (5, .own 272 (padT al s x).length 1), (6, .int .i64 x)] [(272, IL (padT al s x)), (224, IL (fPL al s)), (16, [RI s, .bool big, .bool al])])
      (fun x => x ≤ N) (fun x => N - x) 0 (Nat.zero_le _) ?_ ?_
    · have e0 : padT al s 0 = [] := rfl
      (refine Sub.of_lists ?_ ?_ ?_ ?_ ?_ <;> simp [Vw.mkS, Vw.lk, Vw.hk, AV.inn, innL, innL_ints, innL_append, innL_rep, -List.map_set, -List.getD_eq_getElem?_getD, e0, hfl])
    · intro x hx
      have hpl := padT_le al s x
      by_cases hlt : x < N
      · have e1 := padT_succ al s x
        generalize hU : padT al s x = U at *
        (repeat' (first
      | (first | refine awp_seq ?_ | refine awp_block ?_)
      | ((first | refine awp_reg ?_ | refine awp_draw (mid := l26r10a) (post := l26r10b) mixed (by decide) ?_ | refine awp_condB ?_ | refine awp_skip ?_ | refine awp_exit ?_); simp (maxSteps := 400000) (disch := omega) only [push_cast, seval, l26r0, l26r1, l26r2, l26r3, l26r4, l26r5, l26r6, l26r7, l26r8, l26r9, l26r10a, l26r10b, l26r10, l26r11, l26r12, l26r13, l26r14, l26r15])
      | ((first | refine condB_split (fun h => ?_) (fun h => ?_) | refine gIf_split (fun h => ?_) (fun h => ?_) | refine qIf_split (fun h => ?_) (fun h => ?_)) <;> (try simp only [h]) <;> (try simp only [decide_eq_true_eq, decide_eq_false_iff_not, Bool.not_eq_true', Bool.not_eq_false', Bool.and_eq_true, Bool.or_eq_true, Bool.and_eq_false_iff, Bool.or_eq_false_iff, Int.not_le, Int.not_lt, bne_iff_ne, ne_eq, beq_iff_eq, Bool.not_eq_true, Bool.not_eq_false] at h) <;> (try simp only [h]) <;> (first | (exfalso; omega) | (focus (exfalso; simp_all; done)) | (simp (maxSteps := 400000) (disch := omega) only [push_cast, seval]) | skip))
      | ((first | refine callD_of false ?_ | refine qcallD_of false ?_); simp (maxSteps := 400000) (disch := omega) only [push_cast, seval])
      | ((first | ((first | refine call0D (BCall.ofP (svFmt_ok _ _ _ _ ?_ ?_)) ?_ | refine qcall0D (BCall.ofP (svFmt_ok _ _ _ _ ?_ ?_)) ⟨_, _, rfl, rfl⟩ ?_); (iterate 2 (focus (first | assumption | rfl | omega | (simp <;> omega) | (simp_all <;> omega)))); rintro _ _ ⟨rfl, rfl⟩) | ((first | refine call0D (splaces_ok _ _ _ _ ?_ ?_) ?_ | refine qcall0D (splaces_ok _ _ _ _ ?_ ?_) ⟨_, _, rfl, rfl⟩ ?_); (iterate 2 (focus (first | assumption | rfl | omega | (simp <;> omega) | (simp_all <;> omega)))); rintro _ _ ⟨rfl, rfl⟩) | ((first | refine call0D (BCall.ofP (inRange_ok _ _ _)) ?_ | refine qcall0D (BCall.ofP (inRange_ok _ _ _)) ⟨_, _, rfl, rfl⟩ ?_); rintro _ _ ⟨rfl, rfl⟩)) <;> (try simp (maxSteps := 400000) (disch := omega) only [push_cast, seval]))
      | (refine awp_ret ⟨.inr rfl, [272], [], _, by decide, rfl, ?_⟩; (try simp (maxSteps := 400000) (disch := omega) only [push_cast, seval, ↓allMem_nil, ↓allMem_cons, ↓List.map_cons, ↓List.map_nil]))))
        refine awp_loop (fun i : Nat => mkS [(1, .ref 16 3 0), (3, .own 224 s.length 1), (4, .int .i64 N), (5, .own 272 U.length 1), (6, .int .i64 x), (7, .bool (inF al s x i)), (8, .int .i64 i)] [(272, IL U), (224, IL (fPL al s)), (16, [RI s, .bool big, .bool al])])
          (fun i => i ≤ s.length) (fun i => s.length - i) 0 (Nat.zero_le _) ?_ ?_
        · have e0 : inF al s x 0 = false := rfl
          (refine Sub.of_lists ?_ ?_ ?_ ?_ ?_ <;> simp [Vw.mkS, Vw.lk, Vw.hk, AV.inn, innL, innL_ints, innL_append, innL_rep, -List.map_set, -List.getD_eq_getElem?_getD, e0])
        · intro i hi
          by_cases hit : i < s.length
          · have g1 := fPL_getD (al := al) hit
            have g2 : inF al s x (i + 1) = (inF al s x i || (decide (fP al s i ≤ x) && decide ((x : Int) ≤ fP al s i + s.getD i 0 - 1))) := rfl
            have b := fP_bound (al := al) hs i hit
            have b2 := hs i hit
            have b3 : -1000 ≤ fP al s i ∧ fP al s i ≤ 1000 ∧ 1 ≤ s.getD i 0 ∧ s.getD i 0 ≤ 4 := by omega
            clear b b2
            generalize hQ : fPL al s = Q at *
            generalize hP : fP al s i = P at *
            generalize hS : s.getD i 0 = z at *
            cases hf : inF al s x i with
            | false =>
              rw [hf, Bool.false_or] at g2
              (repeat' (first
      | (first | refine awp_seq ?_ | refine awp_block ?_)
      | ((first | refine awp_reg ?_ | refine awp_draw (mid := l26r10a) (post := l26r10b) mixed (by decide) ?_ | refine awp_condB ?_ | refine awp_skip ?_ | refine awp_exit ?_); simp (maxSteps := 400000) (disch := omega) only [push_cast, seval, l26r0, l26r1, l26r2, l26r3, l26r4, l26r5, l26r6, l26r7, l26r8, l26r9, l26r10a, l26r10b, l26r10, l26r11, l26r12, l26r13, l26r14, l26r15, g1, hS, hfl, hf])
      | ((first | refine condB_split (fun h => ?_) (fun h => ?_) | refine gIf_split (fun h => ?_) (fun h => ?_) | refine qIf_split (fun h => ?_) (fun h => ?_)) <;> (try simp only [h]) <;> (try simp only [decide_eq_true_eq, decide_eq_false_iff_not, Bool.not_eq_true', Bool.not_eq_false', Bool.and_eq_true, Bool.or_eq_true, Bool.and_eq_false_iff, Bool.or_eq_false_iff, Int.not_le, Int.not_lt, bne_iff_ne, ne_eq, beq_iff_eq, Bool.not_eq_true, Bool.not_eq_false] at h) <;> (try simp only [h]) <;> (first | (exfalso; omega) | (focus (exfalso; simp_all; done)) | (simp (maxSteps := 400000) (disch := omega) only [push_cast, seval, g1, hS, hfl, hf]) | skip))
      | ((first | refine callD_of false ?_ | refine qcallD_of false ?_); simp (maxSteps := 400000) (disch := omega) only [push_cast, seval, g1, hS, hfl, hf])
      | ((first | ((first | refine call0D (BCall.ofP (svFmt_ok _ _ _ _ ?_ ?_)) ?_ | refine qcall0D (BCall.ofP (svFmt_ok _ _ _ _ ?_ ?_)) ⟨_, _, rfl, rfl⟩ ?_); (iterate 2 (focus (first | assumption | rfl | omega | (simp <;> omega) | (simp_all <;> omega)))); rintro _ _ ⟨rfl, rfl⟩) | ((first | refine call0D (splaces_ok _ _ _ _ ?_ ?_) ?_ | refine qcall0D (splaces_ok _ _ _ _ ?_ ?_) ⟨_, _, rfl, rfl⟩ ?_); (iterate 2 (focus (first | assumption | rfl | omega | (simp <;> omega) | (simp_all <;> omega)))); rintro _ _ ⟨rfl, rfl⟩) | ((first | refine call0D (BCall.ofP (inRange_ok _ _ _)) ?_ | refine qcall0D (BCall.ofP (inRange_ok _ _ _)) ⟨_, _, rfl, rfl⟩ ?_); rintro _ _ ⟨rfl, rfl⟩)) <;> (try simp (maxSteps := 400000) (disch := omega) only [push_cast, seval, g1, hS, hfl, hf]))
      | (refine awp_ret ⟨.inr rfl, [272], [], _, by decide, rfl, ?_⟩; (try simp (maxSteps := 400000) (disch := omega) only [push_cast, seval, ↓allMem_nil, ↓allMem_cons, ↓List.map_cons, ↓List.map_nil, g1, hS, hfl, hf]))))
              refine ⟨i + 1, by omega, by omega, ?_⟩
              (refine Sub.of_lists ?_ ?_ ?_ ?_ ?_ <;> simp [Vw.mkS, Vw.lk, Vw.hk, AV.inn, innL, innL_ints, innL_append, innL_rep, -List.map_set, -List.getD_eq_getElem?_getD, g2, hQ])
            | true =>
              rw [hf, Bool.true_or] at g2
              (repeat' (first
      | (first | refine awp_seq ?_ | refine awp_block ?_)
      | ((first | refine awp_reg ?_ | refine awp_draw (mid := l26r10a) (post := l26r10b) mixed (by decide) ?_ | refine awp_condB ?_ | refine awp_skip ?_ | refine awp_exit ?_); simp (maxSteps := 400000) (disch := omega) only [push_cast, seval, l26r0, l26r1, l26r2, l26r3, l26r4, l26r5, l26r6, l26r7, l26r8, l26r9, l26r10a, l26r10b, l26r10, l26r11, l26r12, l26r13, l26r14, l26r15, g1, hS, hfl, hf])
      | ((first | refine condB_split (fun h => ?_) (fun h => ?_) | refine gIf_split (fun h => ?_) (fun h => ?_) | refine qIf_split (fun h => ?_) (fun h => ?_)) <;> (try simp only [h]) <;> (try simp only [decide_eq_true_eq, decide_eq_false_iff_not, Bool.not_eq_true', Bool.not_eq_false', Bool.and_eq_true, Bool.or_eq_true, Bool.and_eq_false_iff, Bool.or_eq_false_iff, Int.not_le, Int.not_lt, bne_iff_ne, ne_eq, beq_iff_eq, Bool.not_eq_true, Bool.not_eq_false] at h) <;> (try simp only [h]) <;> (first | (exfalso; omega) | (focus (exfalso; simp_all; done)) | (simp (maxSteps := 400000) (disch := omega) only [push_cast, seval, g1, hS, hfl, hf]) | skip))
      | ((first | refine callD_of false ?_ | refine qcallD_of false ?_); simp (maxSteps := 400000) (disch := omega) only [push_cast, seval, g1, hS, hfl, hf])
      | ((first | ((first | refine call0D (BCall.ofP (svFmt_ok _ _ _ _ ?_ ?_)) ?_ | refine qcall0D (BCall.ofP (svFmt_ok _ _ _ _ ?_ ?_)) ⟨_, _, rfl, rfl⟩ ?_); (iterate 2 (focus (first | assumption | rfl | omega | (simp <;> omega) | (simp_all <;> omega)))); rintro _ _ ⟨rfl, rfl⟩) | ((first | refine call0D (splaces_ok _ _ _ _ ?_ ?_) ?_ | refine qcall0D (splaces_ok _ _ _ _ ?_ ?_) ⟨_, _, rfl, rfl⟩ ?_); (iterate 2 (focus (first | assumption | rfl | omega | (simp <;> omega) | (simp_all <;> omega)))); rintro _ _ ⟨rfl, rfl⟩) | ((first | refine call0D (BCall.ofP (inRange_ok _ _ _)) ?_ | refine qcall0D (BCall.ofP (inRange_ok _ _ _)) ⟨_, _, rfl, rfl⟩ ?_); rintro _ _ ⟨rfl, rfl⟩)) <;> (try simp (maxSteps := 400000) (disch := omega) only [push_cast, seval, g1, hS, hfl, hf]))
      | (refine awp_ret ⟨.inr rfl, [272], [], _, by decide, rfl, ?_⟩; (try simp (maxSteps := 400000) (disch := omega) only [push_cast, seval, ↓allMem_nil, ↓allMem_cons, ↓List.map_cons, ↓List.map_nil, g1, hS, hfl, hf]))))
              refine ⟨i + 1, by omega, by omega, ?_⟩
              (refine Sub.of_lists ?_ ?_ ?_ ?_ ?_ <;> simp [Vw.mkS, Vw.lk, Vw.hk, AV.inn, innL, innL_ints, innL_append, innL_rep, -List.map_set, -List.getD_eq_getElem?_getD, g2, hQ])
          · have e : i = s.length := by omega
            subst e
            cases hf : inF al s x s.length with
            | false =>
              rw [if_neg (by rw [hf]; decide)] at e1
              (repeat' (first
      | (first | refine awp_seq ?_ | refine awp_block ?_)
      | ((first | refine awp_reg ?_ | refine awp_draw (mid := l26r10a) (post := l26r10b) mixed (by decide) ?_ | refine awp_condB ?_ | refine awp_skip ?_ | refine awp_exit ?_); simp (maxSteps := 400000) (disch := omega) only [push_cast, seval, l26r0, l26r1, l26r2, l26r3, l26r4, l26r5, l26r6, l26r7, l26r8, l26r9, l26r10a, l26r10b, l26r10, l26r11, l26r12, l26r13, l26r14, l26r15, hf, hfl])
      | ((first | refine condB_split (fun h => ?_) (fun h => ?_) | refine gIf_split (fun h => ?_) (fun h => ?_) | refine qIf_split (fun h => ?_) (fun h => ?_)) <;> (try simp only [h]) <;> (try simp only [decide_eq_true_eq, decide_eq_false_iff_not, Bool.not_eq_true', Bool.not_eq_false', Bool.and_eq_true, Bool.or_eq_true, Bool.and_eq_false_iff, Bool.or_eq_false_iff, Int.not_le, Int.not_lt, bne_iff_ne, ne_eq, beq_iff_eq, Bool.not_eq_true, Bool.not_eq_false] at h) <;> (try simp only [h]) <;> (first | (exfalso; omega) | (focus (exfalso; simp_all; done)) | (simp (maxSteps := 400000) (disch := omega) only [push_cast, seval, hf, hfl]) | skip))
      | ((first | refine callD_of false ?_ | refine qcallD_of false ?_); simp (maxSteps := 400000) (disch := omega) only [push_cast, seval, hf, hfl])
      | ((first | ((first | refine call0D (BCall.ofP (svFmt_ok _ _ _ _ ?_ ?_)) ?_ | refine qcall0D (BCall.ofP (svFmt_ok _ _ _ _ ?_ ?_)) ⟨_, _, rfl, rfl⟩ ?_); (iterate 2 (focus (first | assumption | rfl | omega | (simp <;> omega) | (simp_all <;> omega)))); rintro _ _ ⟨rfl, rfl⟩) | ((first | refine call0D (splaces_ok _ _ _ _ ?_ ?_) ?_ | refine qcall0D (splaces_ok _ _ _ _ ?_ ?_) ⟨_, _, rfl, rfl⟩ ?_); (iterate 2 (focus (first | assumption | rfl | omega | (simp <;> omega) | (simp_all <;> omega)))); rintro _ _ ⟨rfl, rfl⟩) | ((first | refine call0D (BCall.ofP (inRange_ok _ _ _)) ?_ | refine qcall0D (BCall.ofP (inRange_ok _ _ _)) ⟨_, _, rfl, rfl⟩ ?_); rintro _ _ ⟨rfl, rfl⟩)) <;> (try simp (maxSteps := 400000) (disch := omega) only [push_cast, seval, hf, hfl]))
      | (refine awp_ret ⟨.inr rfl, [272], [], _, by decide, rfl, ?_⟩; (try simp (maxSteps := 400000) (disch := omega) only [push_cast, seval, ↓allMem_nil, ↓allMem_cons, ↓List.map_cons, ↓List.map_nil, hf, hfl]))))
              refine ⟨x + 1, by omega, by omega, ?_⟩
              (refine Sub.of_lists ?_ ?_ ?_ ?_ ?_ <;> simp [Vw.mkS, Vw.lk, Vw.hk, AV.inn, innL, innL_ints, innL_append, innL_rep, -List.map_set, -List.getD_eq_getElem?_getD, e1, hU])
            | true =>
              rw [if_pos hf] at e1
              (repeat' (first
      | (first | refine awp_seq ?_ | refine awp_block ?_)
      | ((first | refine awp_reg ?_ | refine awp_draw (mid := l26r10a) (post := l26r10b) mixed (by decide) ?_ | refine awp_condB ?_ | refine awp_skip ?_ | refine awp_exit ?_); simp (maxSteps := 400000) (disch := omega) only [push_cast, seval, l26r0, l26r1, l26r2, l26r3, l26r4, l26r5, l26r6, l26r7, l26r8, l26r9, l26r10a, l26r10b, l26r10, l26r11, l26r12, l26r13, l26r14, l26r15, hf, hfl])
      | ((first | refine condB_split (fun h => ?_) (fun h => ?_) | refine gIf_split (fun h => ?_) (fun h => ?_) | refine qIf_split (fun h => ?_) (fun h => ?_)) <;> (try simp only [h]) <;> (try simp only [decide_eq_true_eq, decide_eq_false_iff_not, Bool.not_eq_true', Bool.not_eq_false', Bool.and_eq_true, Bool.or_eq_true, Bool.and_eq_false_iff, Bool.or_eq_false_iff, Int.not_le, Int.not_lt, bne_iff_ne, ne_eq, beq_iff_eq, Bool.not_eq_true, Bool.not_eq_false] at h) <;> (try simp only [h]) <;> (first | (exfalso; omega) | (focus (exfalso; simp_all; done)) | (simp (maxSteps := 400000) (disch := omega) only [push_cast, seval, hf, hfl]) | skip))
      | ((first | refine callD_of false ?_ | refine qcallD_of false ?_); simp (maxSteps := 400000) (disch := omega) only [push_cast, seval, hf, hfl])
      | ((first | ((first | refine call0D (BCall.ofP (svFmt_ok _ _ _ _ ?_ ?_)) ?_ | refine qcall0D (BCall.ofP (svFmt_ok _ _ _ _ ?_ ?_)) ⟨_, _, rfl, rfl⟩ ?_); (iterate 2 (focus (first | assumption | rfl | omega | (simp <;> omega) | (simp_all <;> omega)))); rintro _ _ ⟨rfl, rfl⟩) | ((first | refine call0D (splaces_ok _ _ _ _ ?_ ?_) ?_ | refine qcall0D (splaces_ok _ _ _ _ ?_ ?_) ⟨_, _, rfl, rfl⟩ ?_); (iterate 2 (focus (first | assumption | rfl | omega | (simp <;> omega) | (simp_all <;> omega)))); rintro _ _ ⟨rfl, rfl⟩) | ((first | refine call0D (BCall.ofP (inRange_ok _ _ _)) ?_ | refine qcall0D (BCall.ofP (inRange_ok _ _ _)) ⟨_, _, rfl, rfl⟩ ?_); rintro _ _ ⟨rfl, rfl⟩)) <;> (try simp (maxSteps := 400000) (disch := omega) only [push_cast, seval, hf, hfl]))
      | (refine awp_ret ⟨.inr rfl, [272], [], _, by decide, rfl, ?_⟩; (try simp (maxSteps := 400000) (disch := omega) only [push_cast, seval, ↓allMem_nil, ↓allMem_cons, ↓List.map_cons, ↓List.map_nil, hf, hfl]))))
              refine ⟨x + 1, by omega, by omega, ?_⟩
              (refine Sub.of_lists ?_ ?_ ?_ ?_ ?_ <;> simp [Vw.mkS, Vw.lk, Vw.hk, AV.inn, innL, innL_ints, innL_append, innL_rep, -List.map_set, -List.getD_eq_getElem?_getD, e1, hU])
      · have e : x = N := by omega
        subst e
        rw [hPT] at hpl ⊢
        (repeat' (first
      | (first | refine awp_seq ?_ | refine awp_block ?_)
      | ((first | refine awp_reg ?_ | refine awp_draw (mid := l26r10a) (post := l26r10b) mixed (by decide) ?_ | refine awp_condB ?_ | refine awp_skip ?_ | refine awp_exit ?_); simp (maxSteps := 400000) (disch := omega) only [push_cast, seval, l26r0, l26r1, l26r2, l26r3, l26r4, l26r5, l26r6, l26r7, l26r8, l26r9, l26r10a, l26r10b, l26r10, l26r11, l26r12, l26r13, l26r14, l26r15])
      | ((first | refine condB_split (fun h => ?_) (fun h => ?_) | refine gIf_split (fun h => ?_) (fun h => ?_) | refine qIf_split (fun h => ?_) (fun h => ?_)) <;> (try simp only [h]) <;> (try simp only [decide_eq_true_eq, decide_eq_false_iff_not, Bool.not_eq_true', Bool.not_eq_false', Bool.and_eq_true, Bool.or_eq_true, Bool.and_eq_false_iff, Bool.or_eq_false_iff, Int.not_le, Int.not_lt, bne_iff_ne, ne_eq, beq_iff_eq, Bool.not_eq_true, Bool.not_eq_false] at h) <;> (try simp only [h]) <;> (first | (exfalso; omega) | (focus (exfalso; simp_all; done)) | (simp (maxSteps := 400000) (disch := omega) only [push_cast, seval]) | skip))
      | ((first | refine callD_of false ?_ | refine qcallD_of false ?_); simp (maxSteps := 400000) (disch := omega) only [push_cast, seval])
      | ((first | ((first | refine call0D (BCall.ofP (svFmt_ok _ _ _ _ ?_ ?_)) ?_ | refine qcall0D (BCall.ofP (svFmt_ok _ _ _ _ ?_ ?_)) ⟨_, _, rfl, rfl⟩ ?_); (iterate 2 (focus (first | assumption | rfl | omega | (simp <;> omega) | (simp_all <;> omega)))); rintro _ _ ⟨rfl, rfl⟩) | ((first | refine call0D (splaces_ok _ _ _ _ ?_ ?_) ?_ | refine qcall0D (splaces_ok _ _ _ _ ?_ ?_) ⟨_, _, rfl, rfl⟩ ?_); (iterate 2 (focus (first | assumption | rfl | omega | (simp <;> omega) | (simp_all <;> omega)))); rintro _ _ ⟨rfl, rfl⟩) | ((first | refine call0D (BCall.ofP (inRange_ok _ _ _)) ?_ | refine qcall0D (BCall.ofP (inRange_ok _ _ _)) ⟨_, _, rfl, rfl⟩ ?_); rintro _ _ ⟨rfl, rfl⟩)) <;> (try simp (maxSteps := 400000) (disch := omega) only [push_cast, seval]))
      | (refine awp_ret ⟨.inr rfl, [272], [], _, by decide, rfl, ?_⟩; (try simp (maxSteps := 400000) (disch := omega) only [push_cast, seval, ↓allMem_nil, ↓allMem_cons, ↓List.map_cons, ↓List.map_nil]))))
        all_goals simp [OI, MVL]


set_option maxHeartbeats 16000000 in
theorem iPad_ok (s : List Int) (n : Nat) (big al : Bool) (hn : s.length = n) (hb : n ≤ 1099511627776) : BCall Tryd.prog 24 [.agg [.rows false (IL s) n, .bool big, .bool al]] [] (OI (MVL (vF s) (fPad al s))) := by
  subst hn
  refine bcall_of (pins := []) (pin := 0) l24_eq rfl rfl rfl ?_
  cases hv : vF s with
  | false =>
    (repeat' (first
      | (first | refine awp_seq ?_ | refine awp_block ?_)
      | ((first | refine awp_reg ?_ | refine awp_condB ?_ | refine awp_skip ?_ | refine awp_exit ?_); simp (maxSteps := 400000) (disch := omega) only [push_cast, seval, l24r0, l24r1, l24r2, l24r3, l24r4, l24r5, l24r6, l24r7, l24r8, l24r9, l24r10, l24r11, hv])
      | ((first | refine condB_split (fun h => ?_) (fun h => ?_) | refine gIf_split (fun h => ?_) (fun h => ?_) | refine qIf_split (fun h => ?_) (fun h => ?_)) <;> (try simp only [h]) <;> (try simp only [decide_eq_true_eq, decide_eq_false_iff_not, Bool.not_eq_true', Bool.not_eq_false', Bool.and_eq_true, Bool.or_eq_true, Bool.and_eq_false_iff, Bool.or_eq_false_iff, Int.not_le, Int.not_lt, bne_iff_ne, ne_eq, beq_iff_eq, Bool.not_eq_true, Bool.not_eq_false] at h) <;> (try simp only [h]) <;> (first | (exfalso; omega) | (focus (exfalso; simp_all; done)) | (simp (maxSteps := 400000) (disch := omega) only [push_cast, seval, hv]) | skip))
      | ((first | refine callD_of false ?_ | refine qcallD_of false ?_); simp (maxSteps := 400000) (disch := omega) only [push_cast, seval, hv])
      | ((first | ((first | refine call0D (BCall.ofP (iVFmt_ok _ _ _ _ ?_ ?_)) ?_ | refine qcall0D (BCall.ofP (iVFmt_ok _ _ _ _ ?_ ?_)) ⟨_, _, rfl, rfl⟩ ?_); (iterate 2 (focus (first | assumption | rfl | omega | (simp <;> omega) | (simp_all <;> omega)))); rintro _ _ ⟨rfl, rfl⟩) | ((first | refine call0D (ifields_ok _ _ _ _ ?_ ?_) ?_ | refine qcall0D (ifields_ok _ _ _ _ ?_ ?_) ⟨_, _, rfl, rfl⟩ ?_); (iterate 2 (focus (first | assumption | rfl | omega | (simp <;> omega) | (simp_all <;> omega)))); rintro _ _ ⟨rfl, rfl⟩) | ((first | refine call0D (inumbers_ok _ _ _ ?_) ?_ | refine qcall0D (inumbers_ok _ _ _ ?_) ⟨_, _, rfl, rfl⟩ ?_); (focus (first | assumption | rfl | omega | (simp <;> omega) | (simp_all <;> omega))); rintro _ _ ⟨rfl, rfl⟩) | ((first | refine call0D (BCall.ofP (fEnd_ok _ _ ?_)) ?_ | refine qcall0D (BCall.ofP (fEnd_ok _ _ ?_)) ⟨_, _, rfl, rfl⟩ ?_); (focus (first | assumption | rfl | omega | (simp <;> omega) | (simp_all <;> omega))); rintro _ _ ⟨rfl, rfl⟩) | ((first | refine call0D (BCall.ofP (isz_ok _ _ _ _ ?_ ?_)) ?_ | refine qcall0D (BCall.ofP (isz_ok _ _ _ _ ?_ ?_)) ⟨_, _, rfl, rfl⟩ ?_); (iterate 2 (focus (first | assumption | rfl | omega | (simp <;> omega) | (simp_all <;> omega)))); rintro _ _ ⟨rfl, rfl⟩)) <;> (try simp (maxSteps := 400000) (disch := omega) only [push_cast, seval, hv]))
      | (refine awp_ret ⟨.inr rfl, [16000], [(16000, 1)], _, by decide, rfl, ?_⟩; (try simp (maxSteps := 400000) (disch := omega) only [push_cast, seval, ↓allMem_nil, ↓allMem_cons, ↓List.map_cons, ↓List.map_nil, hv]))))
    all_goals simp [OI, MVL]
  | true =>
    obtain ⟨hs, hl1, hl2⟩ := vF_iff.1 hv
    have hfl := fL2_length al s s.length
    (repeat' (first
      | (first | refine awp_seq ?_ | refine awp_block ?_)
      | ((first | refine awp_reg ?_ | refine awp_condB ?_ | refine awp_skip ?_ | refine awp_exit ?_); simp (maxSteps := 400000) (disch := omega) only [push_cast, seval, l24r0, l24r1, l24r2, l24r3, l24r4, l24r5, l24r6, l24r7, l24r8, l24r9, l24r10, l24r11, hv, hfl])
      | ((first | refine condB_split (fun h => ?_) (fun h => ?_) | refine gIf_split (fun h => ?_) (fun h => ?_) | refine qIf_split (fun h => ?_) (fun h => ?_)) <;> (try simp only [h]) <;> (try simp only [decide_eq_true_eq, decide_eq_false_iff_not, Bool.not_eq_true', Bool.not_eq_false', Bool.and_eq_true, Bool.or_eq_true, Bool.and_eq_false_iff, Bool.or_eq_false_iff, Int.not_le, Int.not_lt, bne_iff_ne, ne_eq, beq_iff_eq, Bool.not_eq_true, Bool.not_eq_false] at h) <;> (try simp only [h]) <;> (first | (exfalso; omega) | (focus (exfalso; simp_all; done)) | (simp (maxSteps := 400000) (disch := omega) only [push_cast, seval, hv, hfl]) | skip))
      | ((first | refine callD_of false ?_ | refine qcallD_of false ?_); simp (maxSteps := 400000) (disch := omega) only [push_cast, seval, hv, hfl])
      | ((first | ((first | refine call0D (BCall.ofP (iVFmt_ok _ _ _ _ ?_ ?_)) ?_ | refine qcall0D (BCall.ofP (iVFmt_ok _ _ _ _ ?_ ?_)) ⟨_, _, rfl, rfl⟩ ?_); (iterate 2 (focus (first | assumption | rfl | omega | (simp <;> omega) | (simp_all <;> omega)))); rintro _ _ ⟨rfl, rfl⟩) | ((first | refine call0D (ifields_ok _ _ _ _ ?_ ?_) ?_ | refine qcall0D (ifields_ok _ _ _ _ ?_ ?_) ⟨_, _, rfl, rfl⟩ ?_); (iterate 2 (focus (first | assumption | rfl | omega | (simp <;> omega) | (simp_all <;> omega)))); rintro _ _ ⟨rfl, rfl⟩) | ((first | refine call0D (inumbers_ok _ _ _ ?_) ?_ | refine qcall0D (inumbers_ok _ _ _ ?_) ⟨_, _, rfl, rfl⟩ ?_); (focus (first | assumption | rfl | omega | (simp <;> omega) | (simp_all <;> omega))); rintro _ _ ⟨rfl, rfl⟩) | ((first | refine call0D (BCall.ofP (fEnd_ok _ _ ?_)) ?_ | refine qcall0D (BCall.ofP (fEnd_ok _ _ ?_)) ⟨_, _, rfl, rfl⟩ ?_); (focus (first | assumption | rfl | omega | (simp <;> omega) | (simp_all <;> omega))); rintro _ _ ⟨rfl, rfl⟩) | ((first | refine call0D (BCall.ofP (isz_ok _ _ _ _ ?_ ?_)) ?_ | refine qcall0D (BCall.ofP (isz_ok _ _ _ _ ?_ ?_)) ⟨_, _, rfl, rfl⟩ ?_); (iterate 2 (focus (first | assumption | rfl | omega | (simp <;> omega) | (simp_all <;> omega)))); rintro _ _ ⟨rfl, rfl⟩)) <;> (try simp (maxSteps := 400000) (disch := omega) only [push_cast, seval, hv, hfl]))
      | (refine awp_ret ⟨.inr rfl, [368], [], _, by decide, rfl, ?_⟩; (try simp (maxSteps := 400000) (disch := omega) only [push_cast, seval, ↓allMem_nil, ↓allMem_cons, ↓List.map_cons, ↓List.map_nil, hv, hfl]))))
    refine awp_loop (fun k : Nat => if k = 0 then mkS [(1, .ref 16 3 0), (3, .val (.slice none 0 0)), (4, .int .i64 (fE al s k)), (11, .own 176 s.length 2), (12, .int .i64 s.length), (13, .int .i64 k)] [(176, IL (fL2 al s s.length)), (16, [RI s, .bool big, .bool al])] else mkS [(1, .ref 16 3 0), (3, .own 368 (fPadK al s k).length 1), (4, .int .i64 (fE al s k)), (11, .own 176 s.length 2), (12, .int .i64 s.length), (13, .int .i64 k)] [(368, IL (fPadK al s k)), (176, IL (fL2 al s s.length)), (16, [RI s, .bool big, .bool al])])
      (fun k => k ≤ s.length) (fun k => s.length - k) 0 (Nat.zero_le _) ?_ ?_
    · rw [if_pos rfl]
      have e0 : fE al s 0 = 0 := rfl
      (refine Sub.of_lists ?_ ?_ ?_ ?_ ?_ <;> simp [Vw.mkS, Vw.lk, Vw.hk, AV.inn, innL, innL_ints, innL_append, innL_rep, -List.map_set, -List.getD_eq_getElem?_getD, hfl, e0])
    · intro k hk
      have hpl := fPadK_le (al := al) hs k hk
      by_cases hlt : k < s.length
      · have g := fL2_get (al := al) (s := s) (n := s.length) (k := k) hlt
        have htd := td2 (by omega) g.1 g.2
        have hif : k * 2 + 2 ≤ s.length * 2 := by omega
        have e5 := fPadK_succ al s k
        have b := fP_bound (al := al) hs k hlt
        have b0 := fE_bound (al := al) hs k (by omega)
        have b1 := hs k hlt
        have hR := vR_small (a := fE al s k) (b := fP al s k) (by omega) (by omega)
        have hC : cntN (fE al s k) (fP al s k) 1 = (fP al s k - fE al s k).toNat := cntN_one
        have hq : 0 ≤ fP al s k ∧ fP al s k ≤ 1000 ∧ 0 ≤ s.getD k 0 ∧ s.getD k 0 ≤ 1000 := by omega
        have e6 : fE al s (k + 1) = fP al s k + s.getD k 0 := rfl
        have hk1 : ¬ k + 1 = 0 := by omega
        have hnl := nums_length (fE al s k) 1 (fP al s k - fE al s k).toNat
        have hc38 : (fP al s k - fE al s k).toNat ≤ 38 := by omega
        clear b b0 b1 g
        generalize hQ : fL2 al s s.length = Q at *
        generalize hP : fP al s k = P at *
        generalize hS : s.getD k 0 = z at *
        generalize hE : fE al s k = E at *
        generalize hC2 : (P - E).toNat = c at *
        by_cases h0 : k = 0
        · subst h0
          rw [if_pos rfl]
          have e7 : fPadK al s (0 + 1) = nums E 1 c := by rw [e5]; rfl
          have e8 : fE al s (0 + 1) = P + z := e6
          clear e5 e6
          generalize hM : nums E 1 c = M at *
          have htd0 : List.take 2 (List.map (AV.int .i64) Q) = [.int .i64 P, .int .i64 z] := htd
          (repeat' (first
      | (first | refine awp_seq ?_ | refine awp_block ?_)
      | ((first | refine awp_reg ?_ | refine awp_condB ?_ | refine awp_skip ?_ | refine awp_exit ?_); simp (maxSteps := 400000) (disch := omega) only [push_cast, seval, l24r0, l24r1, l24r2, l24r3, l24r4, l24r5, l24r6, l24r7, l24r8, l24r9, l24r10, l24r11, htd0, hif, hfl, hC, hM, hnl, List.length_map])
      | ((first | refine condB_split (fun h => ?_) (fun h => ?_) | refine gIf_split (fun h => ?_) (fun h => ?_) | refine qIf_split (fun h => ?_) (fun h => ?_)) <;> (try simp only [h]) <;> (try simp only [decide_eq_true_eq, decide_eq_false_iff_not, Bool.not_eq_true', Bool.not_eq_false', Bool.and_eq_true, Bool.or_eq_true, Bool.and_eq_false_iff, Bool.or_eq_false_iff, Int.not_le, Int.not_lt, bne_iff_ne, ne_eq, beq_iff_eq, Bool.not_eq_true, Bool.not_eq_false] at h) <;> (try simp only [h]) <;> (first | (exfalso; omega) | (focus (exfalso; simp_all; done)) | (simp (maxSteps := 400000) (disch := omega) only [push_cast, seval, htd0, hif, hfl, hC, hM, hnl, List.length_map]) | skip))
      | ((first | refine callD_of false ?_ | refine qcallD_of false ?_); simp (maxSteps := 400000) (disch := omega) only [push_cast, seval, htd0, hif, hfl, hC, hM, hnl, List.length_map])
      | ((first | ((first | refine call0D (BCall.ofP (iVFmt_ok _ _ _ _ ?_ ?_)) ?_ | refine qcall0D (BCall.ofP (iVFmt_ok _ _ _ _ ?_ ?_)) ⟨_, _, rfl, rfl⟩ ?_); (iterate 2 (focus (first | assumption | rfl | omega | (simp <;> omega) | (simp_all <;> omega)))); rintro _ _ ⟨rfl, rfl⟩) | ((first | refine call0D (ifields_ok _ _ _ _ ?_ ?_) ?_ | refine qcall0D (ifields_ok _ _ _ _ ?_ ?_) ⟨_, _, rfl, rfl⟩ ?_); (iterate 2 (focus (first | assumption | rfl | omega | (simp <;> omega) | (simp_all <;> omega)))); rintro _ _ ⟨rfl, rfl⟩) | ((first | refine call0D (inumbers_ok _ _ _ ?_) ?_ | refine qcall0D (inumbers_ok _ _ _ ?_) ⟨_, _, rfl, rfl⟩ ?_); (focus (first | assumption | rfl | omega | (simp <;> omega) | (simp_all <;> omega))); rintro _ _ ⟨rfl, rfl⟩) | ((first | refine call0D (BCall.ofP (fEnd_ok _ _ ?_)) ?_ | refine qcall0D (BCall.ofP (fEnd_ok _ _ ?_)) ⟨_, _, rfl, rfl⟩ ?_); (focus (first | assumption | rfl | omega | (simp <;> omega) | (simp_all <;> omega))); rintro _ _ ⟨rfl, rfl⟩) | ((first | refine call0D (BCall.ofP (isz_ok _ _ _ _ ?_ ?_)) ?_ | refine qcall0D (BCall.ofP (isz_ok _ _ _ _ ?_ ?_)) ⟨_, _, rfl, rfl⟩ ?_); (iterate 2 (focus (first | assumption | rfl | omega | (simp <;> omega) | (simp_all <;> omega)))); rintro _ _ ⟨rfl, rfl⟩)) <;> (try simp (maxSteps := 400000) (disch := omega) only [push_cast, seval, htd0, hif, hfl, hC, hM, hnl, List.length_map]))
      | (refine awp_ret ⟨.inr rfl, [368], [], _, by decide, rfl, ?_⟩; (try simp (maxSteps := 400000) (disch := omega) only [push_cast, seval, ↓allMem_nil, ↓allMem_cons, ↓List.map_cons, ↓List.map_nil, htd0, hif, hfl, hC, hM, hnl, List.length_map]))))
          refine ⟨0 + 1, by omega, by omega, ?_⟩
          rw [if_neg (by decide)]
          (refine Sub.of_lists ?_ ?_ ?_ ?_ ?_ <;> simp [Vw.mkS, Vw.lk, Vw.hk, AV.inn, innL, innL_ints, innL_append, innL_rep, -List.map_set, -List.getD_eq_getElem?_getD, e7, e8, hQ, hnl])
        · rw [if_neg h0]
          have hal : (fPadK al s (k + 1)).length = (fPadK al s k).length + c := by rw [e5, List.length_append, hnl]
          generalize hM : nums E 1 c = M at *
          generalize hU : fPadK al s k = U at *
          (repeat' (first
      | (first | refine awp_seq ?_ | refine awp_block ?_)
      | ((first | refine awp_reg ?_ | refine awp_condB ?_ | refine awp_skip ?_ | refine awp_exit ?_); simp (maxSteps := 400000) (disch := omega) only [push_cast, seval, l24r0, l24r1, l24r2, l24r3, l24r4, l24r5, l24r6, l24r7, l24r8, l24r9, l24r10, l24r11, htd, hif, hfl, hC, hM, hnl, List.length_map])
      | ((first | refine condB_split (fun h => ?_) (fun h => ?_) | refine gIf_split (fun h => ?_) (fun h => ?_) | refine qIf_split (fun h => ?_) (fun h => ?_)) <;> (try simp only [h]) <;> (try simp only [decide_eq_true_eq, decide_eq_false_iff_not, Bool.not_eq_true', Bool.not_eq_false', Bool.and_eq_true, Bool.or_eq_true, Bool.and_eq_false_iff, Bool.or_eq_false_iff, Int.not_le, Int.not_lt, bne_iff_ne, ne_eq, beq_iff_eq, Bool.not_eq_true, Bool.not_eq_false] at h) <;> (try simp only [h]) <;> (first | (exfalso; omega) | (focus (exfalso; simp_all; done)) | (simp (maxSteps := 400000) (disch := omega) only [push_cast, seval, htd, hif, hfl, hC, hM, hnl, List.length_map]) | skip))
      | ((first | refine callD_of false ?_ | refine qcallD_of false ?_); simp (maxSteps := 400000) (disch := omega) only [push_cast, seval, htd, hif, hfl, hC, hM, hnl, List.length_map])
      | ((first | ((first | refine call0D (BCall.ofP (iVFmt_ok _ _ _ _ ?_ ?_)) ?_ | refine qcall0D (BCall.ofP (iVFmt_ok _ _ _ _ ?_ ?_)) ⟨_, _, rfl, rfl⟩ ?_); (iterate 2 (focus (first | assumption | rfl | omega | (simp <;> omega) | (simp_all <;> omega)))); rintro _ _ ⟨rfl, rfl⟩) | ((first | refine call0D (ifields_ok _ _ _ _ ?_ ?_) ?_ | refine qcall0D (ifields_ok _ _ _ _ ?_ ?_) ⟨_, _, rfl, rfl⟩ ?_); (iterate 2 (focus (first | assumption | rfl | omega | (simp <;> omega) | (simp_all <;> omega)))); rintro _ _ ⟨rfl, rfl⟩) | ((first | refine call0D (inumbers_ok _ _ _ ?_) ?_ | refine qcall0D (inumbers_ok _ _ _ ?_) ⟨_, _, rfl, rfl⟩ ?_); (focus (first | assumption | rfl | omega | (simp <;> omega) | (simp_all <;> omega))); rintro _ _ ⟨rfl, rfl⟩) | ((first | refine call0D (BCall.ofP (fEnd_ok _ _ ?_)) ?_ | refine qcall0D (BCall.ofP (fEnd_ok _ _ ?_)) ⟨_, _, rfl, rfl⟩ ?_); (focus (first | assumption | rfl | omega | (simp <;> omega) | (simp_all <;> omega))); rintro _ _ ⟨rfl, rfl⟩) | ((first | refine call0D (BCall.ofP (isz_ok _ _ _ _ ?_ ?_)) ?_ | refine qcall0D (BCall.ofP (isz_ok _ _ _ _ ?_ ?_)) ⟨_, _, rfl, rfl⟩ ?_); (iterate 2 (focus (first | assumption | rfl | omega | (simp <;> omega) | (simp_all <;> omega)))); rintro _ _ ⟨rfl, rfl⟩)) <;> (try simp (maxSteps := 400000) (disch := omega) only [push_cast, seval, htd, hif, hfl, hC, hM, hnl, List.length_map]))
      | (refine awp_ret ⟨.inr rfl, [368], [], _, by decide, rfl, ?_⟩; (try simp (maxSteps := 400000) (disch := omega) only [push_cast, seval, ↓allMem_nil, ↓allMem_cons, ↓List.map_cons, ↓List.map_nil, htd, hif, hfl, hC, hM, hnl, List.length_map]))))
          refine ⟨k + 1, by omega, by omega, ?_⟩
          rw [if_neg hk1]
          (refine Sub.of_lists ?_ ?_ ?_ ?_ ?_ <;> simp [Vw.mkS, Vw.lk, Vw.hk, AV.inn, innL, innL_ints, innL_append, innL_rep, -List.map_set, -List.getD_eq_getElem?_getD, e5, e6, hU, hQ, hnl])
      · have e : k = s.length := by omega
        subst e
        rw [if_neg (by omega)]
        have bN := fN_bound (al := al) hv
        have b0 := fE_bound (al := al) hs s.length (Nat.le_refl _)
        have hR := vR_small (a := fE al s s.length) (b := fN al s) (by omega) (by omega)
        have hC : cntN (fE al s s.length) (fN al s) 1 = (fN al s - fE al s s.length).toNat := cntN_one
        have e5 : fPad al s = fPadK al s s.length ++ nums (fE al s s.length) 1 (fN al s - fE al s s.length).toNat := rfl
        have hnl := nums_length (fE al s s.length) 1 (fN al s - fE al s s.length).toNat
        have hc38 : (fN al s - fE al s s.length).toNat ≤ 38 := by omega
        generalize hE : fE al s s.length = E at *
        generalize hG : fN al s = G at *
        generalize hC2 : (G - E).toNat = c at *
        rw [e5]
        generalize hM : nums E 1 c = M at *
        generalize hU : fPadK al s s.length = U at *
        (repeat' (first
      | (first | refine awp_seq ?_ | refine awp_block ?_)
      | ((first | refine awp_reg ?_ | refine awp_condB ?_ | refine awp_skip ?_ | refine awp_exit ?_); simp (maxSteps := 400000) (disch := omega) only [push_cast, seval, l24r0, l24r1, l24r2, l24r3, l24r4, l24r5, l24r6, l24r7, l24r8, l24r9, l24r10, l24r11, hfl, hC, hM, hnl, hG])
      | ((first | refine condB_split (fun h => ?_) (fun h => ?_) | refine gIf_split (fun h => ?_) (fun h => ?_) | refine qIf_split (fun h => ?_) (fun h => ?_)) <;> (try simp only [h]) <;> (try simp only [decide_eq_true_eq, decide_eq_false_iff_not, Bool.not_eq_true', Bool.not_eq_false', Bool.and_eq_true, Bool.or_eq_true, Bool.and_eq_false_iff, Bool.or_eq_false_iff, Int.not_le, Int.not_lt, bne_iff_ne, ne_eq, beq_iff_eq, Bool.not_eq_true, Bool.not_eq_false] at h) <;> (try simp only [h]) <;> (first | (exfalso; omega) | (focus (exfalso; simp_all; done)) | (simp (maxSteps := 400000) (disch := omega) only [push_cast, seval, hfl, hC, hM, hnl, hG]) | skip))
      | ((first | refine callD_of false ?_ | refine qcallD_of false ?_); simp (maxSteps := 400000) (disch := omega) only [push_cast, seval, hfl, hC, hM, hnl, hG])
      | ((first | ((first | refine call0D (BCall.ofP (iVFmt_ok _ _ _ _ ?_ ?_)) ?_ | refine qcall0D (BCall.ofP (iVFmt_ok _ _ _ _ ?_ ?_)) ⟨_, _, rfl, rfl⟩ ?_); (iterate 2 (focus (first | assumption | rfl | omega | (simp <;> omega) | (simp_all <;> omega)))); rintro _ _ ⟨rfl, rfl⟩) | ((first | refine call0D (ifields_ok _ _ _ _ ?_ ?_) ?_ | refine qcall0D (ifields_ok _ _ _ _ ?_ ?_) ⟨_, _, rfl, rfl⟩ ?_); (iterate 2 (focus (first | assumption | rfl | omega | (simp <;> omega) | (simp_all <;> omega)))); rintro _ _ ⟨rfl, rfl⟩) | ((first | refine call0D (inumbers_ok _ _ _ ?_) ?_ | refine qcall0D (inumbers_ok _ _ _ ?_) ⟨_, _, rfl, rfl⟩ ?_); (focus (first | assumption | rfl | omega | (simp <;> omega) | (simp_all <;> omega))); rintro _ _ ⟨rfl, rfl⟩) | ((first | refine call0D (BCall.ofP (fEnd_ok _ _ ?_)) ?_ | refine qcall0D (BCall.ofP (fEnd_ok _ _ ?_)) ⟨_, _, rfl, rfl⟩ ?_); (focus (first | assumption | rfl | omega | (simp <;> omega) | (simp_all <;> omega))); rintro _ _ ⟨rfl, rfl⟩) | ((first | refine call0D (BCall.ofP (isz_ok _ _ _ _ ?_ ?_)) ?_ | refine qcall0D (BCall.ofP (isz_ok _ _ _ _ ?_ ?_)) ⟨_, _, rfl, rfl⟩ ?_); (iterate 2 (focus (first | assumption | rfl | omega | (simp <;> omega) | (simp_all <;> omega)))); rintro _ _ ⟨rfl, rfl⟩)) <;> (try simp (maxSteps := 400000) (disch := omega) only [push_cast, seval, hfl, hC, hM, hnl, hG]))
      | (refine awp_ret ⟨.inr rfl, [368], [], _, by decide, rfl, ?_⟩; (try simp (maxSteps := 400000) (disch := omega) only [push_cast, seval, ↓allMem_nil, ↓allMem_cons, ↓List.map_cons, ↓List.map_nil, hfl, hC, hM, hnl, hG]))))
        all_goals simp [OI, MVL, hnl, Function.comp_def, AV.ren]


def upB (al : Bool) (s L : List Int) : Bool := vF s && decide ((L.length : Int) = fN al s) && allI L 0 255

end Go.Proofs.YtclampodmlklpaaDoor
