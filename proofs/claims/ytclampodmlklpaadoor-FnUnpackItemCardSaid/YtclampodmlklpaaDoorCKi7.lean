import Derived.Test.YtclampodmlklpaaDoorCKm1
import Derived.Test.YtclampodmlklpaaDoorCM1
import Derived.Test.YtclampodmlklpaaDoorCW3
set_option linter.unusedSimpArgs false
set_option linter.unusedVariables false
set_option linter.unnecessarySimpa false
set_option maxRecDepth 4000
set_option maxHeartbeats 4000000
namespace Go.Proofs.YtclampodmlklpaaDoor
open VwM Vw Go

theorem sISz_ok (s : List Int) (n : Nat) (big al : Bool) (hn : s.length = n) (hb : n ≤ 1099511627776) : PCall Tryd.prog 22 [.agg [.rows false (IL s) n, .bool big, .bool al]] (fun r => r = .int .i64 (if vF s = true then fN al s else -1)) := by
  subst hn
  refine pcall_of l22_eq rfl ?_
  cases hv : vF s with
  | false => (repeat' (first
      | (first | refine awp_seq ?_ | refine awp_block ?_)
      | ((first | refine awp_reg ?_ | refine awp_condB ?_ | refine awp_skip ?_ | refine awp_exit ?_); simp (maxSteps := 400000) (disch := omega) only [push_cast, seval, l22r0, l22r1, l22r2, l22r3, l22r4, hv])
      | ((first | refine condB_split (fun h => ?_) (fun h => ?_) | refine gIf_split (fun h => ?_) (fun h => ?_) | refine qIf_split (fun h => ?_) (fun h => ?_)) <;> (try simp only [h]) <;> (try simp only [decide_eq_true_eq, decide_eq_false_iff_not, Bool.not_eq_true', Bool.not_eq_false', Bool.and_eq_true, Bool.or_eq_true, Bool.and_eq_false_iff, Bool.or_eq_false_iff, Int.not_le, Int.not_lt, bne_iff_ne, ne_eq, beq_iff_eq, Bool.not_eq_true, Bool.not_eq_false] at h) <;> (try simp only [h]) <;> (first | (exfalso; omega) | (focus (exfalso; simp_all; done)) | (simp (maxSteps := 400000) (disch := omega) only [push_cast, seval, hv]) | skip))
      | ((first | refine callD_of false ?_ | refine qcallD_of false ?_); simp (maxSteps := 400000) (disch := omega) only [push_cast, seval, hv])
      | ((first | ((first | refine call0D (BCall.ofP (svFmt_ok _ _ _ _ ?_ ?_)) ?_ | refine qcall0D (BCall.ofP (svFmt_ok _ _ _ _ ?_ ?_)) ⟨_, _, rfl, rfl⟩ ?_); (iterate 2 (focus (first | assumption | rfl | omega | (simp <;> omega) | (simp_all <;> omega)))); rintro _ _ ⟨rfl, rfl⟩) | ((first | refine call0D (splaces_ok _ _ _ _ ?_ ?_) ?_ | refine qcall0D (splaces_ok _ _ _ _ ?_ ?_) ⟨_, _, rfl, rfl⟩ ?_); (iterate 2 (focus (first | assumption | rfl | omega | (simp <;> omega) | (simp_all <;> omega)))); rintro _ _ ⟨rfl, rfl⟩)) <;> (try simp (maxSteps := 400000) (disch := omega) only [push_cast, seval, hv]))
      | (refine awp_ret ⟨.inr rfl, _, rfl, ?_⟩; (try simp (maxSteps := 400000) (disch := omega) only [push_cast, seval, hv]))))
  | true => (repeat' (first
      | (first | refine awp_seq ?_ | refine awp_block ?_)
      | ((first | refine awp_reg ?_ | refine awp_condB ?_ | refine awp_skip ?_ | refine awp_exit ?_); simp (maxSteps := 400000) (disch := omega) only [push_cast, seval, l22r0, l22r1, l22r2, l22r3, l22r4, hv])
      | ((first | refine condB_split (fun h => ?_) (fun h => ?_) | refine gIf_split (fun h => ?_) (fun h => ?_) | refine qIf_split (fun h => ?_) (fun h => ?_)) <;> (try simp only [h]) <;> (try simp only [decide_eq_true_eq, decide_eq_false_iff_not, Bool.not_eq_true', Bool.not_eq_false', Bool.and_eq_true, Bool.or_eq_true, Bool.and_eq_false_iff, Bool.or_eq_false_iff, Int.not_le, Int.not_lt, bne_iff_ne, ne_eq, beq_iff_eq, Bool.not_eq_true, Bool.not_eq_false] at h) <;> (try simp only [h]) <;> (first | (exfalso; omega) | (focus (exfalso; simp_all; done)) | (simp (maxSteps := 400000) (disch := omega) only [push_cast, seval, hv]) | skip))
      | ((first | refine callD_of false ?_ | refine qcallD_of false ?_); simp (maxSteps := 400000) (disch := omega) only [push_cast, seval, hv])
      | ((first | ((first | refine call0D (BCall.ofP (svFmt_ok _ _ _ _ ?_ ?_)) ?_ | refine qcall0D (BCall.ofP (svFmt_ok _ _ _ _ ?_ ?_)) ⟨_, _, rfl, rfl⟩ ?_); (iterate 2 (focus (first | assumption | rfl | omega | (simp <;> omega) | (simp_all <;> omega)))); rintro _ _ ⟨rfl, rfl⟩) | ((first | refine call0D (splaces_ok _ _ _ _ ?_ ?_) ?_ | refine qcall0D (splaces_ok _ _ _ _ ?_ ?_) ⟨_, _, rfl, rfl⟩ ?_); (iterate 2 (focus (first | assumption | rfl | omega | (simp <;> omega) | (simp_all <;> omega)))); rintro _ _ ⟨rfl, rfl⟩)) <;> (try simp (maxSteps := 400000) (disch := omega) only [push_cast, seval, hv]))
      | (refine awp_ret ⟨.inr rfl, _, rfl, ?_⟩; (try simp (maxSteps := 400000) (disch := omega) only [push_cast, seval, hv]))))


theorem iISz_ok (s : List Int) (n : Nat) (big al : Bool) (hn : s.length = n) (hb : n ≤ 1099511627776) : PCall Tryd.prog 21 [.agg [.rows false (IL s) n, .bool big, .bool al]] (fun r => r = .int .i64 (if vF s = true then fN al s else -1)) := by
  subst hn
  refine pcall_of l21_eq rfl ?_
  cases hv : vF s with
  | false => (repeat' (first
      | (first | refine awp_seq ?_ | refine awp_block ?_)
      | ((first | refine awp_reg ?_ | refine awp_condB ?_ | refine awp_skip ?_ | refine awp_exit ?_); simp (maxSteps := 400000) (disch := omega) only [push_cast, seval, l21r0, l21r1, l21r2, l21r3, hv])
      | ((first | refine condB_split (fun h => ?_) (fun h => ?_) | refine gIf_split (fun h => ?_) (fun h => ?_) | refine qIf_split (fun h => ?_) (fun h => ?_)) <;> (try simp only [h]) <;> (try simp only [decide_eq_true_eq, decide_eq_false_iff_not, Bool.not_eq_true', Bool.not_eq_false', Bool.and_eq_true, Bool.or_eq_true, Bool.and_eq_false_iff, Bool.or_eq_false_iff, Int.not_le, Int.not_lt, bne_iff_ne, ne_eq, beq_iff_eq, Bool.not_eq_true, Bool.not_eq_false] at h) <;> (try simp only [h]) <;> (first | (exfalso; omega) | (focus (exfalso; simp_all; done)) | (simp (maxSteps := 400000) (disch := omega) only [push_cast, seval, hv]) | skip))
      | ((first | refine callD_of false ?_ | refine qcallD_of false ?_); simp (maxSteps := 400000) (disch := omega) only [push_cast, seval, hv])
      | ((first | ((first | refine call0D (BCall.ofP (iVFmt_ok _ _ _ _ ?_ ?_)) ?_ | refine qcall0D (BCall.ofP (iVFmt_ok _ _ _ _ ?_ ?_)) ⟨_, _, rfl, rfl⟩ ?_); (iterate 2 (focus (first | assumption | rfl | omega | (simp <;> omega) | (simp_all <;> omega)))); rintro _ _ ⟨rfl, rfl⟩) | ((first | refine call0D (BCall.ofP (isz_ok _ _ _ _ ?_ ?_)) ?_ | refine qcall0D (BCall.ofP (isz_ok _ _ _ _ ?_ ?_)) ⟨_, _, rfl, rfl⟩ ?_); (iterate 2 (focus (first | assumption | rfl | omega | (simp <;> omega) | (simp_all <;> omega)))); rintro _ _ ⟨rfl, rfl⟩)) <;> (try simp (maxSteps := 400000) (disch := omega) only [push_cast, seval, hv]))
      | (refine awp_ret ⟨.inr rfl, _, rfl, ?_⟩; (try simp (maxSteps := 400000) (disch := omega) only [push_cast, seval, hv]))))
  | true => (repeat' (first
      | (first | refine awp_seq ?_ | refine awp_block ?_)
      | ((first | refine awp_reg ?_ | refine awp_condB ?_ | refine awp_skip ?_ | refine awp_exit ?_); simp (maxSteps := 400000) (disch := omega) only [push_cast, seval, l21r0, l21r1, l21r2, l21r3, hv])
      | ((first | refine condB_split (fun h => ?_) (fun h => ?_) | refine gIf_split (fun h => ?_) (fun h => ?_) | refine qIf_split (fun h => ?_) (fun h => ?_)) <;> (try simp only [h]) <;> (try simp only [decide_eq_true_eq, decide_eq_false_iff_not, Bool.not_eq_true', Bool.not_eq_false', Bool.and_eq_true, Bool.or_eq_true, Bool.and_eq_false_iff, Bool.or_eq_false_iff, Int.not_le, Int.not_lt, bne_iff_ne, ne_eq, beq_iff_eq, Bool.not_eq_true, Bool.not_eq_false] at h) <;> (try simp only [h]) <;> (first | (exfalso; omega) | (focus (exfalso; simp_all; done)) | (simp (maxSteps := 400000) (disch := omega) only [push_cast, seval, hv]) | skip))
      | ((first | refine callD_of false ?_ | refine qcallD_of false ?_); simp (maxSteps := 400000) (disch := omega) only [push_cast, seval, hv])
      | ((first | ((first | refine call0D (BCall.ofP (iVFmt_ok _ _ _ _ ?_ ?_)) ?_ | refine qcall0D (BCall.ofP (iVFmt_ok _ _ _ _ ?_ ?_)) ⟨_, _, rfl, rfl⟩ ?_); (iterate 2 (focus (first | assumption | rfl | omega | (simp <;> omega) | (simp_all <;> omega)))); rintro _ _ ⟨rfl, rfl⟩) | ((first | refine call0D (BCall.ofP (isz_ok _ _ _ _ ?_ ?_)) ?_ | refine qcall0D (BCall.ofP (isz_ok _ _ _ _ ?_ ?_)) ⟨_, _, rfl, rfl⟩ ?_); (iterate 2 (focus (first | assumption | rfl | omega | (simp <;> omega) | (simp_all <;> omega)))); rintro _ _ ⟨rfl, rfl⟩)) <;> (try simp (maxSteps := 400000) (disch := omega) only [push_cast, seval, hv]))
      | (refine awp_ret ⟨.inr rfl, _, rfl, ?_⟩; (try simp (maxSteps := 400000) (disch := omega) only [push_cast, seval, hv]))))


set_option maxHeartbeats 16000000 in
theorem iPad_ok (s : List Int) (n : Nat) (big al : Bool) (hn : s.length = n) (hb : n ≤ 1099511627776) : BCall Tryd.prog 24 [.agg [.rows false (IL s) n, .bool big, .bool al]] [] (OI (MVL (vF s) (fPad al s))) := by
  subst hn
  refine bcall_of (pins := []) (pin := 0) l24_eq rfl rfl rfl ?_
  cases hv : vF s with
  | false =>
    (repeat' (first
      | (first | refine awp_seq ?_ | refine awp_block ?_)
      | ((first | refine awp_reg ?_ | refine awp_condB ?_ | refine awp_skip ?_ | refine awp_exit ?_); simp (maxSteps := 400000) (disch := omega) only [push_cast, seval, l24r0, l24r1, l24r2, l24r3, l24r4, l24r5, l24r6, l24r7, l24r8, l24r9, l24r10, l24r11, hv])
      | ((first | refine condB_split (fun h => ?_) (fun h => ?_) | refine gIf_split (fun h => ?_) (fun h => ?_) | refine qIf_split (fun h => ?_) (fun h => ?_)) <;> (try simp only [h]) <;> (try simp only [decide_eq_true_eq, decide_eq_false_iff_not, Bool.not_eq_true', Bool.not_eq_false', Bool.and_eq_true, Bool.or_eq_true, Bool.and_eq_false_iff, Bool.or_eq_false_iff, Int.not_le, Int.not_lt, bne_iff_ne, ne_eq, beq_iff_eq, Bool.not_eq_true, Bool.not_eq_false] at h) <;> (try simp only [h]) <;> (first | (exfalso; omega) | (focus (exfalso; simp_all; done)) | (simp (maxSteps := 400000) (disch := omega) only [push_cast, seval, hv]) | skip))
      | ((first | refine callD_of false ?_ | refine qcallD_of false ?_); simp (maxSteps := 400000) (disch := omega) only [push_cast, seval, hv])
      | ((first | ((first | refine call0D (BCall.ofP (iVFmt_ok _ _ _ _ ?_ ?_)) ?_ | refine qcall0D (BCall.ofP (iVFmt_ok _ _ _ _ ?_ ?_)) ⟨_, _, rfl, rfl⟩ ?_); (iterate 2 (focus (first | assumption | rfl | omega | (simp <;> omega) | (simp_all <;> omega)))); rintro _ _ ⟨rfl, rfl⟩) | ((first | refine call0D (ifields_ok _ _ _ _ ?_ ?_) ?_ | refine qcall0D (ifields_ok _ _ _ _ ?_ ?_) ⟨_, _, rfl, rfl⟩ ?_); (iterate 2 (focus (first | assumption | rfl | omega | (simp <;> omega) | (simp_all <;> omega)))); rintro _ _ ⟨rfl, rfl⟩) | ((first | refine call0D (inumbers_ok _ _ _ ?_) ?_ | refine qcall0D (inumbers_ok _ _ _ ?_) ⟨_, _, rfl, rfl⟩ ?_); (focus (first | assumption | rfl | omega | (simp <;> omega) | (simp_all <;> omega))); rintro _ _ ⟨rfl, rfl⟩) | ((first | refine call0D (BCall.ofP (fEnd_ok _ _ ?_)) ?_ | refine qcall0D (BCall.ofP (fEnd_ok _ _ ?_)) ⟨_, _, rfl, rfl⟩ ?_); (focus (first | assumption | rfl | omega | (simp <;> omega) | (simp_all <;> omega))); rintro _ _ ⟨rfl, rfl⟩) | ((first | refine call0D (BCall.ofP (isz_ok _ _ _ _ ?_ ?_)) ?_ | refine qcall0D (BCall.ofP (isz_ok _ _ _ _ ?_ ?_)) ⟨_, _, rfl, rfl⟩ ?_); (iterate 2 (focus (first | assumption | rfl | omega | (simp <;> omega) | (simp_all <;> omega)))); rintro _ _ ⟨rfl, rfl⟩)) <;> (try simp (maxSteps := 400000) (disch := omega) only [push_cast, seval, hv]))
      | (refine awp_ret ⟨.inr rfl, [16000], [(16000, 1)], _, by decide, rfl, ?_⟩; (try simp (maxSteps := 400000) (disch := omega) only [push_cast, seval, ↓allMem_nil, ↓allMem_cons, ↓List.map_cons, ↓List.map_nil, hv]))))
    all_goals simp [OI, MVL]
  | true =>
    obtain ⟨hs, hl1, hl2⟩ := vF_iff.1 hv
    have hfl := fL2_length al s s.length
    (repeat' (first
      | (first | refine awp_seq ?_ | refine awp_block ?_)
      | ((first | refine awp_reg ?_ | refine awp_condB ?_ | refine awp_skip ?_ | refine awp_exit ?_); simp (maxSteps := 400000) (disch := omega) only [push_cast, seval, l24r0, l24r1, l24r2, l24r3, l24r4, l24r5, l24r6, l24r7, l24r8, l24r9, l24r10, l24r11, hv, hfl])
      | ((first | refine condB_split (fun h => ?_) (fun h => ?_) | refine gIf_split (fun h => ?_) (fun h => ?_) | refine qIf_split (fun h => ?_) (fun h => ?_)) <;> (try simp only [h]) <;> (try simp only [decide_eq_true_eq, decide_eq_false_iff_not, Bool.not_eq_true', Bool.not_eq_false', Bool.and_eq_true, Bool.or_eq_true, Bool.and_eq_false_iff, Bool.or_eq_false_iff, Int.not_le, Int.not_lt, bne_iff_ne, ne_eq, beq_iff_eq, Bool.not_eq_true, Bool.not_eq_false] at h) <;> (try simp only [h]) <;> (first | (exfalso; omega) | (focus (exfalso; simp_all; done)) | (simp (maxSteps := 400000) (disch := omega) only [push_cast, seval, hv, hfl]) | skip))
      | ((first | refine callD_of false ?_ | refine qcallD_of false ?_); simp (maxSteps := 400000) (disch := omega) only [push_cast, seval, hv, hfl])
      | ((first | ((first | refine call0D (BCall.ofP (iVFmt_ok _ _ _ _ ?_ ?_)) ?_ | refine qcall0D (BCall.ofP (iVFmt_ok _ _ _ _ ?_ ?_)) ⟨_, _, rfl, rfl⟩ ?_); (iterate 2 (focus (first | assumption | rfl | omega | (simp <;> omega) | (simp_all <;> omega)))); rintro _ _ ⟨rfl, rfl⟩) | ((first | refine call0D (ifields_ok _ _ _ _ ?_ ?_) ?_ | refine qcall0D (ifields_ok _ _ _ _ ?_ ?_) ⟨_, _, rfl, rfl⟩ ?_); (iterate 2 (focus (first | assumption | rfl | omega | (simp <;> omega) | (simp_all <;> omega)))); rintro _ _ ⟨rfl, rfl⟩) | ((first | refine call0D (inumbers_ok _ _ _ ?_) ?_ | refine qcall0D (inumbers_ok _ _ _ ?_) ⟨_, _, rfl, rfl⟩ ?_); (focus (first | assumption | rfl | omega | (simp <;> omega) | (simp_all <;> omega))); rintro _ _ ⟨rfl, rfl⟩) | ((first | refine call0D (BCall.ofP (fEnd_ok _ _ ?_)) ?_ | refine qcall0D (BCall.ofP (fEnd_ok _ _ ?_)) ⟨_, _, rfl, rfl⟩ ?_); (focus (first | assumption | rfl | omega | (simp <;> omega) | (simp_all <;> omega))); rintro _ _ ⟨rfl, rfl⟩) | ((first | refine call0D (BCall.ofP (isz_ok _ _ _ _ ?_ ?_)) ?_ | refine qcall0D (BCall.ofP (isz_ok _ _ _ _ ?_ ?_)) ⟨_, _, rfl, rfl⟩ ?_); (iterate 2 (focus (first | assumption | rfl | omega | (simp <;> omega) | (simp_all <;> omega)))); rintro _ _ ⟨rfl, rfl⟩)) <;> (try simp (maxSteps := 400000) (disch := omega) only [push_cast, seval, hv, hfl]))
      | (refine awp_ret ⟨.inr rfl, [368], [], _, by decide, rfl, ?_⟩; (try simp (maxSteps := 400000) (disch := omega) only [push_cast, seval, ↓allMem_nil, ↓allMem_cons, ↓List.map_cons, ↓List.map_nil, hv, hfl]))))
    refine awp_loop (fun k : Nat => if k = 0 then mkS [(1, .ref 16 3 0), (3, .val (.slice none 0 0)), (4, .int .i64 (fE al s k)), (11, .own 176 s.length 2), (12, .int .i64 s.length), (13, .int .i64 k)] [(176, IL (fL2 al s s.length)), (16, [RI s, .bool big, .bool al])] else mkS [(1, .ref 16 3 0), (3, .own 368 (fPadK al s k).length 1), (4, .int .i64 (fE al s k)), (11, .own 176 s.length 2), (12, .int .i64 s.length), (13, .int .i64 k)] [(368, IL (fPadK al s k)), (176, IL (fL2 al s s.length)), (16, [RI s, .bool big, .bool al])])
      (fun k => k ≤ s.length) (fun k => s.length - k) 0 (Nat.zero_le _) ?_ ?_
    · rw [if_pos rfl]
      have e0 : fE al s 0 = 0 := rfl
      (refine Sub.of_lists ?_ ?_ ?_ ?_ ?_ <;> simp [Vw.mkS, Vw.lk, Vw.hk, AV.inn, innL, innL_ints, innL_append, innL_rep, -List.map_set, -List.getD_eq_getElem?_getD, hfl, e0])
    · intro k hk
      have hpl := fPadK_le (al := al) hs k hk
      by_cases hlt : k < s.length
      · have g := fL2_get (al := al) (s := s) (n := s.length) (k := k) hlt
        have htd := td2 (by omega) g.1 g.2
        have hif : k * 2 + 2 ≤ s.length * 2 := by omega
        have e5 := fPadK_succ al s k
        have b := fP_bound (al := al) hs k hlt
        have b0 := fE_bound (al := al) hs k (by omega)
        have b1 := hs k hlt
        have hR := vR_small (a := fE al s k) (b := fP al s k) (by omega) (by omega)
        have hC : cntN (fE al s k) (fP al s k) 1 = (fP al s k - fE al s k).toNat := cntN_one
        have hq : 0 ≤ fP al s k ∧ fP al s k ≤ 1000 ∧ 0 ≤ s.getD k 0 ∧ s.getD k 0 ≤ 1000 := by omega
        have e6 : fE al s (k + 1) = fP al s k + s.getD k 0 := rfl
        have hk1 : ¬ k + 1 = 0 := by omega
        have hnl := nums_length (fE al s k) 1 (fP al s k - fE al s k).toNat
        have hc38 : (fP al s k - fE al s k).toNat ≤ 38 := by omega
        clear b b0 b1 g
        generalize hQ : fL2 al s s.length = Q at *
        generalize hP : fP al s k = P at *
        generalize hS : s.getD k 0 = z at *
        generalize hE : fE al s k = E at *
        generalize hC2 : (P - E).toNat = c at *
        by_cases h0 : k = 0
        · subst h0
          rw [if_pos rfl]
          have e7 : fPadK al s (0 + 1) = nums E 1 c := by rw [e5]; rfl
          have e8 : fE al s (0 + 1) = P + z := e6
          clear e5 e6
          generalize hM : nums E 1 c = M at *
          have htd0 : List.take 2 (List.map (AV.int .i64) Q) = [.int .i64 P, .int .i64 z] := htd
          (repeat' (first
      | (first | refine awp_seq ?_ | refine awp_block ?_)
      | ((first | refine awp_reg ?_ | refine awp_condB ?_ | refine awp_skip ?_ | refine awp_exit ?_); simp (maxSteps := 400000) (disch := omega) only [push_cast, seval, l24r0, l24r1, l24r2, l24r3, l24r4, l24r5, l24r6, l24r7, l24r8, l24r9, l24r10, l24r11, htd0, hif, hfl, hC, hM, hnl, List.length_map])
      | ((first | refine condB_split (fun h => ?_) (fun h => ?_) | refine gIf_split (fun h => ?_) (fun h => ?_) | refine qIf_split (fun h => ?_) (fun h => ?_)) <;> (try simp only [h]) <;> (try simp only [decide_eq_true_eq, decide_eq_false_iff_not, Bool.not_eq_true', Bool.not_eq_false', Bool.and_eq_true, Bool.or_eq_true, Bool.and_eq_false_iff, Bool.or_eq_false_iff, Int.not_le, Int.not_lt, bne_iff_ne, ne_eq, beq_iff_eq, Bool.not_eq_true, Bool.not_eq_false] at h) <;> (try simp only [h]) <;> (first | (exfalso; omega) | (focus (exfalso; simp_all; done)) | (simp (maxSteps := 400000) (disch := omega) only [push_cast, seval, htd0, hif, hfl, hC, hM, hnl, List.length_map]) | skip))
      | ((first | refine callD_of false ?_ | refine qcallD_of false ?_); simp (maxSteps := 400000) (disch := omega) only [push_cast, seval, htd0, hif, hfl, hC, hM, hnl, List.length_map])
      | ((first | ((first | refine call0D (BCall.ofP (iVFmt_ok _ _ _ _ ?_ ?_)) ?_ | refine qcall0D (BCall.ofP (iVFmt_ok _ _ _ _ ?_ ?_)) ⟨_, _, rfl, rfl⟩ ?_); (iterate 2 (focus (first | assumption | rfl | omega | (simp <;> omega) | (simp_all <;> omega)))); rintro _ _ ⟨rfl, rfl⟩) | ((first | refine call0D (ifields_ok _ _ _ _ ?_ ?_) ?_ | refine qcall0D (ifields_ok _ _ _ _ ?_ ?_) ⟨_, _, rfl, rfl⟩ ?_); (iterate 2 (focus (first | assumption | rfl | omega | (simp <;> omega) | (simp_all <;> omega)))); rintro _ _ ⟨rfl, rfl⟩) | ((first | refine call0D (inumbers_ok _ _ _ ?_) ?_ | refine qcall0D (inumbers_ok _ _ _ ?_) ⟨_, _, rfl, rfl⟩ ?_); (focus (first | assumption | rfl | omega | (simp <;> omega) | (simp_all <;> omega))); rintro _ _ ⟨rfl, rfl⟩) | ((first | refine call0D (BCall.ofP (fEnd_ok _ _ ?_)) ?_ | refine qcall0D (BCall.ofP (fEnd_ok _ _ ?_)) ⟨_, _, rfl, rfl⟩ ?_); (focus (first | assumption | rfl | omega | (simp <;> omega) | (simp_all <;> omega))); rintro _ _ ⟨rfl, rfl⟩) | ((first | refine call0D (BCall.ofP (isz_ok _ _ _ _ ?_ ?_)) ?_ | refine qcall0D (BCall.ofP (isz_ok _ _ _ _ ?_ ?_)) ⟨_, _, rfl, rfl⟩ ?_); (iterate 2 (focus (first | assumption | rfl | omega | (simp <;> omega) | (simp_all <;> omega)))); rintro _ _ ⟨rfl, rfl⟩)) <;> (try simp (maxSteps := 400000) (disch := omega) only [push_cast, seval, htd0, hif, hfl, hC, hM, hnl, List.length_map]))
      | (refine awp_ret ⟨.inr rfl, [368], [], _, by decide, rfl, ?_⟩; (try simp (maxSteps := 400000) (disch := omega) only [push_cast, seval, ↓allMem_nil, ↓allMem_cons, ↓List.map_cons, ↓List.map_nil, htd0, hif, hfl, hC, hM, hnl, List.length_map]))))
          refine ⟨0 + 1, by omega, by omega, ?_⟩
          rw [if_neg (by decide)]
          (refine Sub.of_lists ?_ ?_ ?_ ?_ ?_ <;> simp [Vw.mkS, Vw.lk, Vw.hk, AV.inn, innL, innL_ints, innL_append, innL_rep, -List.map_set, -List.getD_eq_getElem?_getD, e7, e8, hQ, hnl])
        · rw [if_neg h0]
          have hal : (fPadK al s (k + 1)).length = (fPadK al s k).length + c := by rw [e5, List.length_append, hnl]
          generalize hM : nums E 1 c = M at *
          generalize hU : fPadK al s k = U at *
          (repeat' (first
      | (first | refine awp_seq ?_ | refine awp_block ?_)
      | ((first | refine awp_reg ?_ | refine awp_condB ?_ | refine awp_skip ?_ | refine awp_exit ?_); simp (maxSteps := 400000) (disch := omega) only [push_cast, seval, l24r0, l24r1, l24r2, l24r3, l24r4, l24r5, l24r6, l24r7, l24r8, l24r9, l24r10, l24r11, htd, hif, hfl, hC, hM, hnl, List.length_map])
      | ((first | refine condB_split (fun h => ?_) (fun h => ?_) | refine gIf_split (fun h => ?_) (fun h => ?_) | refine qIf_split (fun h => ?_) (fun h => ?_)) <;> (try simp only [h]) <;> (try simp only [decide_eq_true_eq, decide_eq_false_iff_not, Bool.not_eq_true', Bool.not_eq_false', Bool.and_eq_true, Bool.or_eq_true, Bool.and_eq_false_iff, Bool.or_eq_false_iff, Int.not_le, Int.not_lt, bne_iff_ne, ne_eq, beq_iff_eq, Bool.not_eq_true, Bool.not_eq_false] at h) <;> (try simp only [h]) <;> (first | (exfalso; omega) | (focus (exfalso; simp_all; done)) | (simp (maxSteps := 400000) (disch := omega) only [push_cast, seval, htd, hif, hfl, hC, hM, hnl, List.length_map]) | skip))
      | ((first | refine callD_of false ?_ | refine qcallD_of false ?_); simp (maxSteps := 400000) (disch := omega) only [push_cast, seval, htd, hif, hfl, hC, hM, hnl, List.length_map])
      | ((first | ((first | refine call0D (BCall.ofP (iVFmt_ok _ _ _ _ ?_ ?_)) ?_ | refine qcall0D (BCall.ofP (iVFmt_ok _ _ _ _ ?_ ?_)) ⟨_, _, rfl, rfl⟩ ?_); (iterate 2 (focus (first | assumption | rfl | omega | (simp <;> omega) | (simp_all <;> omega)))); rintro _ _ ⟨rfl, rfl⟩) | ((first | refine call0D (ifields_ok _ _ _ _ ?_ ?_) ?_ | refine qcall0D (ifields_ok _ _ _ _ ?_ ?_) ⟨_, _, rfl, rfl⟩ ?_); (iterate 2 (focus (first | assumption | rfl | omega | (simp <;> omega) | (simp_all <;> omega)))); rintro _ _ ⟨rfl, rfl⟩) | ((first | refine call0D (inumbers_ok _ _ _ ?_) ?_ | refine qcall0D (inumbers_ok _ _ _ ?_) ⟨_, _, rfl, rfl⟩ ?_); (focus (first | assumption | rfl | omega | (simp <;> omega) | (simp_all <;> omega))); rintro _ _ ⟨rfl, rfl⟩) | ((first | refine call0D (BCall.ofP (fEnd_ok _ _ ?_)) ?_ | refine qcall0D (BCall.ofP (fEnd_ok _ _ ?_)) ⟨_, _, rfl, rfl⟩ ?_); (focus (first | assumption | rfl | omega | (simp <;> omega) | (simp_all <;> omega))); rintro _ _ ⟨rfl, rfl⟩) | ((first | refine call0D (BCall.ofP (isz_ok _ _ _ _ ?_ ?_)) ?_ | refine qcall0D (BCall.ofP (isz_ok _ _ _ _ ?_ ?_)) ⟨_, _, rfl, rfl⟩ ?_); (iterate 2 (focus (first | assumption | rfl | omega | (simp <;> omega) | (simp_all <;> omega)))); rintro _ _ ⟨rfl, rfl⟩)) <;> (try simp (maxSteps := 400000) (disch := omega) only [push_cast, seval, htd, hif, hfl, hC, hM, hnl, List.length_map]))
      | (refine awp_ret ⟨.inr rfl, [368], [], _, by decide, rfl, ?_⟩; (try simp (maxSteps := 400000) (disch := omega) only [push_cast, seval, ↓allMem_nil, ↓allMem_cons, ↓List.map_cons, ↓List.map_nil, htd, hif, hfl, hC, hM, hnl, List.length_map]))))
          refine ⟨k + 1, by omega, by omega, ?_⟩
          rw [if_neg hk1]
          (refine Sub.of_lists ?_ ?_ ?_ ?_ ?_ <;> simp [Vw.mkS, Vw.lk, Vw.hk, AV.inn, innL, innL_ints, innL_append, innL_rep, -List.map_set, -List.getD_eq_getElem?_getD, e5, e6, hU, hQ, hnl])
      · have e : k = s.length := by omega
        subst e
        rw [if_neg (by omega)]
        have bN := fN_bound (al := al) hv
        have b0 := fE_bound (al := al) hs s.length (Nat.le_refl _)
        have hR := vR_small (a := fE al s s.length) (b := fN al s) (by omega) (by omega)
        have hC : cntN (fE al s s.length) (fN al s) 1 = (fN al s - fE al s s.length).toNat := cntN_one
        have e5 : fPad al s = fPadK al s s.length ++ nums (fE al s s.length) 1 (fN al s - fE al s s.length).toNat := rfl
        have hnl := nums_length (fE al s s.length) 1 (fN al s - fE al s s.length).toNat
        have hc38 : (fN al s - fE al s s.length).toNat ≤ 38 := by omega
        generalize hE : fE al s s.length = E at *
        generalize hG : fN al s = G at *
        generalize hC2 : (G - E).toNat = c at *
        rw [e5]
        generalize hM : nums E 1 c = M at *
        generalize hU : fPadK al s s.length = U at *
        (repeat' (first
      | (first | refine awp_seq ?_ | refine awp_block ?_)
      | ((first | refine awp_reg ?_ | refine awp_condB ?_ | refine awp_skip ?_ | refine awp_exit ?_); simp (maxSteps := 400000) (disch := omega) only [push_cast, seval, l24r0, l24r1, l24r2, l24r3, l24r4, l24r5, l24r6, l24r7, l24r8, l24r9, l24r10, l24r11, hfl, hC, hM, hnl, hG])
      | ((first | refine condB_split (fun h => ?_) (fun h => ?_) | refine gIf_split (fun h => ?_) (fun h => ?_) | refine qIf_split (fun h => ?_) (fun h => ?_)) <;> (try simp only [h]) <;> (try simp only [decide_eq_true_eq, decide_eq_false_iff_not, Bool.not_eq_true', Bool.not_eq_false', Bool.and_eq_true, Bool.or_eq_true, Bool.and_eq_false_iff, Bool.or_eq_false_iff, Int.not_le, Int.not_lt, bne_iff_ne, ne_eq, beq_iff_eq, Bool.not_eq_true, Bool.not_eq_false] at h) <;> (try simp only [h]) <;> (first | (exfalso; omega) | (focus (exfalso; simp_all; done)) | (simp (maxSteps := 400000) (disch := omega) only [push_cast, seval, hfl, hC, hM, hnl, hG]) | skip))
      | ((first | refine callD_of false ?_ | refine qcallD_of false ?_); simp (maxSteps := 400000) (disch := omega) only [push_cast, seval, hfl, hC, hM, hnl, hG])
      | ((first | ((first | refine call0D (BCall.ofP (iVFmt_ok _ _ _ _ ?_ ?_)) ?_ | refine qcall0D (BCall.ofP (iVFmt_ok _ _ _ _ ?_ ?_)) ⟨_, _, rfl, rfl⟩ ?_); (iterate 2 (focus (first | assumption | rfl | omega | (simp <;> omega) | (simp_all <;> omega)))); rintro _ _ ⟨rfl, rfl⟩) | ((first | refine call0D (ifields_ok _ _ _ _ ?_ ?_) ?_ | refine qcall0D (ifields_ok _ _ _ _ ?_ ?_) ⟨_, _, rfl, rfl⟩ ?_); (iterate 2 (focus (first | assumption | rfl | omega | (simp <;> omega) | (simp_all <;> omega)))); rintro _ _ ⟨rfl, rfl⟩) | ((first | refine call0D (inumbers_ok _ _ _ ?_) ?_ | refine qcall0D (inumbers_ok _ _ _ ?_) ⟨_, _, rfl, rfl⟩ ?_); (focus (first | assumption | rfl | omega | (simp <;> omega) | (simp_all <;> omega))); rintro _ _ ⟨rfl, rfl⟩) | ((first | refine call0D (BCall.ofP (fEnd_ok _ _ ?_)) ?_ | refine qcall0D (BCall.ofP (fEnd_ok _ _ ?_)) ⟨_, _, rfl, rfl⟩ ?_); (focus (first | assumption | rfl | omega | (simp <;> omega) | (simp_all <;> omega))); rintro _ _ ⟨rfl, rfl⟩) | ((first | refine call0D (BCall.ofP (isz_ok _ _ _ _ ?_ ?_)) ?_ | refine qcall0D (BCall.ofP (isz_ok _ _ _ _ ?_ ?_)) ⟨_, _, rfl, rfl⟩ ?_); (iterate 2 (focus (first | assumption | rfl | omega | (simp <;> omega) | (simp_all <;> omega)))); rintro _ _ ⟨rfl, rfl⟩)) <;> (try simp (maxSteps := 400000) (disch := omega) only [push_cast, seval, hfl, hC, hM, hnl, hG]))
      | (refine awp_ret ⟨.inr rfl, [368], [], _, by decide, rfl, ?_⟩; (try simp (maxSteps := 400000) (disch := omega) only [push_cast, seval, ↓allMem_nil, ↓allMem_cons, ↓List.map_cons, ↓List.map_nil, hfl, hC, hM, hnl, hG]))))
        all_goals simp [OI, MVL, hnl, Function.comp_def, AV.ren]


theorem sPackI_ok (s : List Int) (n : Nat) (big al : Bool) (vs : List Int) (m : Nat) (hn : s.length = n) (hm : vs.length = m) (hb : n ≤ 1099511627776 ∧ m ≤ 1099511627776) : BCall Tryd.prog 31 [.agg [.rows false (IL s) n, .bool big, .bool al], .rows false (IL vs) m] [] (OI (MVL (vF s && vI s vs) (pkL al big s vs))) := by
  subst hn hm
  obtain ⟨hb1, hb2⟩ := hb
  refine bcall_of (pins := []) (pin := 0) l31_eq rfl rfl rfl ?_
  cases hv : vF s with
  | false =>
    (repeat' (first
      | (first | refine awp_seq ?_ | refine awp_block ?_)
      | ((first | refine awp_reg ?_ | refine awp_condB ?_ | refine awp_skip ?_ | refine awp_exit ?_); simp (maxSteps := 400000) (disch := omega) only [push_cast, seval, l31r0, l31r1, l31r2, l31r3, hv])
      | ((first | refine condB_split (fun h => ?_) (fun h => ?_) | refine gIf_split (fun h => ?_) (fun h => ?_) | refine qIf_split (fun h => ?_) (fun h => ?_)) <;> (try simp only [h]) <;> (try simp only [decide_eq_true_eq, decide_eq_false_iff_not, Bool.not_eq_true', Bool.not_eq_false', Bool.and_eq_true, Bool.or_eq_true, Bool.and_eq_false_iff, Bool.or_eq_false_iff, Int.not_le, Int.not_lt, bne_iff_ne, ne_eq, beq_iff_eq, Bool.not_eq_true, Bool.not_eq_false] at h) <;> (try simp only [h]) <;> (first | (exfalso; omega) | (focus (exfalso; simp_all; done)) | (simp (maxSteps := 400000) (disch := omega) only [push_cast, seval, hv]) | skip))
      | ((first | refine callD_of false ?_ | refine qcallD_of false ?_); simp (maxSteps := 400000) (disch := omega) only [push_cast, seval, hv])
      | ((first | ((first | refine call0D (BCall.ofP (svFmt_ok _ _ _ _ ?_ ?_)) ?_ | refine qcall0D (BCall.ofP (svFmt_ok _ _ _ _ ?_ ?_)) ⟨_, _, rfl, rfl⟩ ?_); (iterate 2 (focus (first | assumption | rfl | omega | (simp <;> omega) | (simp_all <;> omega)))); rintro _ _ ⟨rfl, rfl⟩) | ((first | refine call0D (BCall.ofP (svItem_ok _ _ _ _ _ _ ?_ ?_ ?_ ?_)) ?_ | refine qcall0D (BCall.ofP (svItem_ok _ _ _ _ _ _ ?_ ?_ ?_ ?_)) ⟨_, _, rfl, rfl⟩ ?_); (iterate 4 (focus (first | assumption | rfl | omega | (simp <;> omega) | (simp_all <;> omega)))); rintro _ _ ⟨rfl, rfl⟩) | ((first | refine call0D (spacked_ok _ _ _ _ _ _ ?_ ?_ ?_) ?_ | refine qcall0D (spacked_ok _ _ _ _ _ _ ?_ ?_ ?_) ⟨_, _, rfl, rfl⟩ ?_); (iterate 3 (focus (first | assumption | rfl | omega | (simp <;> omega) | (simp_all <;> omega)))); rintro _ _ ⟨rfl, rfl⟩)) <;> (try simp (maxSteps := 400000) (disch := omega) only [push_cast, seval, hv]))
      | (refine awp_ret ⟨.inr rfl, [16000], [(16000, 1)], _, by decide, rfl, ?_⟩; (try simp (maxSteps := 400000) (disch := omega) only [push_cast, seval, ↓allMem_nil, ↓allMem_cons, ↓List.map_cons, ↓List.map_nil, hv]))))
    all_goals simp [OI, MVL]
  | true =>
  cases hi : vI s vs with
  | false =>
    (repeat' (first
      | (first | refine awp_seq ?_ | refine awp_block ?_)
      | ((first | refine awp_reg ?_ | refine awp_condB ?_ | refine awp_skip ?_ | refine awp_exit ?_); simp (maxSteps := 400000) (disch := omega) only [push_cast, seval, l31r0, l31r1, l31r2, l31r3, hv, hi])
      | ((first | refine condB_split (fun h => ?_) (fun h => ?_) | refine gIf_split (fun h => ?_) (fun h => ?_) | refine qIf_split (fun h => ?_) (fun h => ?_)) <;> (try simp only [h]) <;> (try simp only [decide_eq_true_eq, decide_eq_false_iff_not, Bool.not_eq_true', Bool.not_eq_false', Bool.and_eq_true, Bool.or_eq_true, Bool.and_eq_false_iff, Bool.or_eq_false_iff, Int.not_le, Int.not_lt, bne_iff_ne, ne_eq, beq_iff_eq, Bool.not_eq_true, Bool.not_eq_false] at h) <;> (try simp only [h]) <;> (first | (exfalso; omega) | (focus (exfalso; simp_all; done)) | (simp (maxSteps := 400000) (disch := omega) only [push_cast, seval, hv, hi]) | skip))
      | ((first | refine callD_of false ?_ | refine qcallD_of false ?_); simp (maxSteps := 400000) (disch := omega) only [push_cast, seval, hv, hi])
      | ((first | ((first | refine call0D (BCall.ofP (svFmt_ok _ _ _ _ ?_ ?_)) ?_ | refine qcall0D (BCall.ofP (svFmt_ok _ _ _ _ ?_ ?_)) ⟨_, _, rfl, rfl⟩ ?_); (iterate 2 (focus (first | assumption | rfl | omega | (simp <;> omega) | (simp_all <;> omega)))); rintro _ _ ⟨rfl, rfl⟩) | ((first | refine call0D (BCall.ofP (svItem_ok _ _ _ _ _ _ ?_ ?_ ?_ ?_)) ?_ | refine qcall0D (BCall.ofP (svItem_ok _ _ _ _ _ _ ?_ ?_ ?_ ?_)) ⟨_, _, rfl, rfl⟩ ?_); (iterate 4 (focus (first | assumption | rfl | omega | (simp <;> omega) | (simp_all <;> omega)))); rintro _ _ ⟨rfl, rfl⟩) | ((first | refine call0D (spacked_ok _ _ _ _ _ _ ?_ ?_ ?_) ?_ | refine qcall0D (spacked_ok _ _ _ _ _ _ ?_ ?_ ?_) ⟨_, _, rfl, rfl⟩ ?_); (iterate 3 (focus (first | assumption | rfl | omega | (simp <;> omega) | (simp_all <;> omega)))); rintro _ _ ⟨rfl, rfl⟩)) <;> (try simp (maxSteps := 400000) (disch := omega) only [push_cast, seval, hv, hi]))
      | (refine awp_ret ⟨.inr rfl, [16000], [(16000, 1)], _, by decide, rfl, ?_⟩; (try simp (maxSteps := 400000) (disch := omega) only [push_cast, seval, ↓allMem_nil, ↓allMem_cons, ↓List.map_cons, ↓List.map_nil, hv, hi]))))
    all_goals simp [OI, MVL]
  | true =>
    have hvi : (vF s && vI s vs) = true := by rw [hv, hi]; rfl
    have hl := pkL_length al big s vs
    (repeat' (first
      | (first | refine awp_seq ?_ | refine awp_block ?_)
      | ((first | refine awp_reg ?_ | refine awp_condB ?_ | refine awp_skip ?_ | refine awp_exit ?_); simp (maxSteps := 400000) (disch := omega) only [push_cast, seval, l31r0, l31r1, l31r2, l31r3, hv, hi, hl])
      | ((first | refine condB_split (fun h => ?_) (fun h => ?_) | refine gIf_split (fun h => ?_) (fun h => ?_) | refine qIf_split (fun h => ?_) (fun h => ?_)) <;> (try simp only [h]) <;> (try simp only [decide_eq_true_eq, decide_eq_false_iff_not, Bool.not_eq_true', Bool.not_eq_false', Bool.and_eq_true, Bool.or_eq_true, Bool.and_eq_false_iff, Bool.or_eq_false_iff, Int.not_le, Int.not_lt, bne_iff_ne, ne_eq, beq_iff_eq, Bool.not_eq_true, Bool.not_eq_false] at h) <;> (try simp only [h]) <;> (first | (exfalso; omega) | (focus (exfalso; simp_all; done)) | (simp (maxSteps := 400000) (disch := omega) only [push_cast, seval, hv, hi, hl]) | skip))
      | ((first | refine callD_of false ?_ | refine qcallD_of false ?_); simp (maxSteps := 400000) (disch := omega) only [push_cast, seval, hv, hi, hl])
      | ((first | ((first | refine call0D (BCall.ofP (svFmt_ok _ _ _ _ ?_ ?_)) ?_ | refine qcall0D (BCall.ofP (svFmt_ok _ _ _ _ ?_ ?_)) ⟨_, _, rfl, rfl⟩ ?_); (iterate 2 (focus (first | assumption | rfl | omega | (simp <;> omega) | (simp_all <;> omega)))); rintro _ _ ⟨rfl, rfl⟩) | ((first | refine call0D (BCall.ofP (svItem_ok _ _ _ _ _ _ ?_ ?_ ?_ ?_)) ?_ | refine qcall0D (BCall.ofP (svItem_ok _ _ _ _ _ _ ?_ ?_ ?_ ?_)) ⟨_, _, rfl, rfl⟩ ?_); (iterate 4 (focus (first | assumption | rfl | omega | (simp <;> omega) | (simp_all <;> omega)))); rintro _ _ ⟨rfl, rfl⟩) | ((first | refine call0D (spacked_ok _ _ _ _ _ _ ?_ ?_ ?_) ?_ | refine qcall0D (spacked_ok _ _ _ _ _ _ ?_ ?_ ?_) ⟨_, _, rfl, rfl⟩ ?_); (iterate 3 (focus (first | assumption | rfl | omega | (simp <;> omega) | (simp_all <;> omega)))); rintro _ _ ⟨rfl, rfl⟩)) <;> (try simp (maxSteps := 400000) (disch := omega) only [push_cast, seval, hv, hi, hl]))
      | (refine awp_ret ⟨.inr rfl, [96], [], _, by decide, rfl, ?_⟩; (try simp (maxSteps := 400000) (disch := omega) only [push_cast, seval, ↓allMem_nil, ↓allMem_cons, ↓List.map_cons, ↓List.map_nil, hv, hi, hl]); (first | done | (show AV.own _ _ _ = _ ∧ _)))
      | (refine awp_ret ⟨.inr rfl, [176], [], _, by decide, rfl, ?_⟩; (try simp (maxSteps := 400000) (disch := omega) only [push_cast, seval, ↓allMem_nil, ↓allMem_cons, ↓List.map_cons, ↓List.map_nil, hv, hi, hl]); (first | done | (show AV.own _ _ _ = _ ∧ _)))
      | (refine awp_ret ⟨.inr rfl, [256], [], _, by decide, rfl, ?_⟩; (try simp (maxSteps := 400000) (disch := omega) only [push_cast, seval, ↓allMem_nil, ↓allMem_cons, ↓List.map_cons, ↓List.map_nil, hv, hi, hl]); (first | done | (show AV.own _ _ _ = _ ∧ _)))))
    all_goals simp [OI, MVL, hl]


theorem iPackI_ok (s : List Int) (n : Nat) (big al : Bool) (vs : List Int) (m : Nat) (hn : s.length = n) (hm : vs.length = m) (hb : n ≤ 1099511627776 ∧ m ≤ 1099511627776) : BCall Tryd.prog 30 [.agg [.rows false (IL s) n, .bool big, .bool al], .rows false (IL vs) m] [] (OI (MVL (vF s && vI s vs) (pkL al big s vs))) := by
  subst hn hm
  refine bcall_of (pins := []) (pin := 0) l30_eq rfl rfl rfl ?_
  cases hvi : vF s && vI s vs with
  | false =>
    (repeat' (first
      | (first | refine awp_seq ?_ | refine awp_block ?_)
      | ((first | refine awp_reg ?_ | refine awp_condB ?_ | refine awp_skip ?_ | refine awp_exit ?_); simp (maxSteps := 400000) (disch := omega) only [push_cast, seval, l30r0, l30r1, l30r2, l30r3, hvi])
      | ((first | refine condB_split (fun h => ?_) (fun h => ?_) | refine gIf_split (fun h => ?_) (fun h => ?_) | refine qIf_split (fun h => ?_) (fun h => ?_)) <;> (try simp only [h]) <;> (try simp only [decide_eq_true_eq, decide_eq_false_iff_not, Bool.not_eq_true', Bool.not_eq_false', Bool.and_eq_true, Bool.or_eq_true, Bool.and_eq_false_iff, Bool.or_eq_false_iff, Int.not_le, Int.not_lt, bne_iff_ne, ne_eq, beq_iff_eq, Bool.not_eq_true, Bool.not_eq_false] at h) <;> (try simp only [h]) <;> (first | (exfalso; omega) | (focus (exfalso; simp_all; done)) | (simp (maxSteps := 400000) (disch := omega) only [push_cast, seval, hvi]) | skip))
      | ((first | refine callD_of false ?_ | refine qcallD_of false ?_); simp (maxSteps := 400000) (disch := omega) only [push_cast, seval, hvi])
      | ((first | ((first | refine call0D (BCall.ofP (canHold_ok _ _ _ _ _ _ ?_ ?_ ?_)) ?_ | refine qcall0D (BCall.ofP (canHold_ok _ _ _ _ _ _ ?_ ?_ ?_)) ⟨_, _, rfl, rfl⟩ ?_); (iterate 3 (focus (first | assumption | rfl | omega | (simp <;> omega) | (simp_all <;> omega)))); rintro _ _ ⟨rfl, rfl⟩) | ((first | refine call0D (ipacked_ok _ _ _ _ _ _ ?_ ?_ ?_) ?_ | refine qcall0D (ipacked_ok _ _ _ _ _ _ ?_ ?_ ?_) ⟨_, _, rfl, rfl⟩ ?_); (iterate 3 (focus (first | assumption | rfl | omega | (simp <;> omega) | (simp_all <;> omega)))); rintro _ _ ⟨rfl, rfl⟩)) <;> (try simp (maxSteps := 400000) (disch := omega) only [push_cast, seval, hvi]))
      | (refine awp_ret ⟨.inr rfl, [16000], [(16000, 1)], _, by decide, rfl, ?_⟩; (try simp (maxSteps := 400000) (disch := omega) only [push_cast, seval, ↓allMem_nil, ↓allMem_cons, ↓List.map_cons, ↓List.map_nil, hvi]))))
    all_goals simp [OI, MVL]
  | true =>
    have hl := pkL_length al big s vs
    (repeat' (first
      | (first | refine awp_seq ?_ | refine awp_block ?_)
      | ((first | refine awp_reg ?_ | refine awp_condB ?_ | refine awp_skip ?_ | refine awp_exit ?_); simp (maxSteps := 400000) (disch := omega) only [push_cast, seval, l30r0, l30r1, l30r2, l30r3, hvi, hl])
      | ((first | refine condB_split (fun h => ?_) (fun h => ?_) | refine gIf_split (fun h => ?_) (fun h => ?_) | refine qIf_split (fun h => ?_) (fun h => ?_)) <;> (try simp only [h]) <;> (try simp only [decide_eq_true_eq, decide_eq_false_iff_not, Bool.not_eq_true', Bool.not_eq_false', Bool.and_eq_true, Bool.or_eq_true, Bool.and_eq_false_iff, Bool.or_eq_false_iff, Int.not_le, Int.not_lt, bne_iff_ne, ne_eq, beq_iff_eq, Bool.not_eq_true, Bool.not_eq_false] at h) <;> (try simp only [h]) <;> (first | (exfalso; omega) | (focus (exfalso; simp_all; done)) | (simp (maxSteps := 400000) (disch := omega) only [push_cast, seval, hvi, hl]) | skip))
      | ((first | refine callD_of false ?_ | refine qcallD_of false ?_); simp (maxSteps := 400000) (disch := omega) only [push_cast, seval, hvi, hl])
      | ((first | ((first | refine call0D (BCall.ofP (canHold_ok _ _ _ _ _ _ ?_ ?_ ?_)) ?_ | refine qcall0D (BCall.ofP (canHold_ok _ _ _ _ _ _ ?_ ?_ ?_)) ⟨_, _, rfl, rfl⟩ ?_); (iterate 3 (focus (first | assumption | rfl | omega | (simp <;> omega) | (simp_all <;> omega)))); rintro _ _ ⟨rfl, rfl⟩) | ((first | refine call0D (ipacked_ok _ _ _ _ _ _ ?_ ?_ ?_) ?_ | refine qcall0D (ipacked_ok _ _ _ _ _ _ ?_ ?_ ?_) ⟨_, _, rfl, rfl⟩ ?_); (iterate 3 (focus (first | assumption | rfl | omega | (simp <;> omega) | (simp_all <;> omega)))); rintro _ _ ⟨rfl, rfl⟩)) <;> (try simp (maxSteps := 400000) (disch := omega) only [push_cast, seval, hvi, hl]))
      | (refine awp_ret ⟨.inr rfl, [112], [], _, by decide, rfl, ?_⟩; (try simp (maxSteps := 400000) (disch := omega) only [push_cast, seval, ↓allMem_nil, ↓allMem_cons, ↓List.map_cons, ↓List.map_nil, hvi, hl]); (first | done | (show AV.own _ _ _ = _ ∧ _)))
      | (refine awp_ret ⟨.inr rfl, [176], [], _, by decide, rfl, ?_⟩; (try simp (maxSteps := 400000) (disch := omega) only [push_cast, seval, ↓allMem_nil, ↓allMem_cons, ↓List.map_cons, ↓List.map_nil, hvi, hl]); (first | done | (show AV.own _ _ _ = _ ∧ _)))))
    all_goals simp [OI, MVL, hl]


def upB (al : Bool) (s L : List Int) : Bool := vF s && decide ((L.length : Int) = fN al s) && allI L 0 255


theorem sUnpI_ok (s : List Int) (n : Nat) (big al : Bool) (L : List Int) (m : Nat) (hn : s.length = n) (hm : L.length = m) (hb : n ≤ 1099511627776 ∧ m ≤ 1099511627776) : BCall Tryd.prog 35 [.agg [.rows false (IL s) n, .bool big, .bool al], .rows false (IL L) m] [] (fun r H' => r = .tup [.own 0 (MVL (upB al s L) (upL al big s L)).length 1, .bool (upB al s L)] ∧ H' = [IL (MVL (upB al s L) (upL al big s L))]) := by
  subst hn hm
  obtain ⟨hb1, hb2⟩ := hb
  unfold upB
  refine bcall_of (pins := []) (pin := 0) l35_eq rfl rfl rfl ?_
  cases hv : vF s with
  | false =>
    (repeat' (first
      | (first | refine awp_seq ?_ | refine awp_block ?_)
      | ((first | refine awp_reg ?_ | refine awp_condB ?_ | refine awp_skip ?_ | refine awp_exit ?_); simp (maxSteps := 400000) (disch := omega) only [push_cast, seval, l35r0, l35r1, l35r2, l35r3, hv])
      | ((first | refine condB_split (fun h => ?_) (fun h => ?_) | refine gIf_split (fun h => ?_) (fun h => ?_) | refine qIf_split (fun h => ?_) (fun h => ?_)) <;> (try simp only [h]) <;> (try simp only [decide_eq_true_eq, decide_eq_false_iff_not, Bool.not_eq_true', Bool.not_eq_false', Bool.and_eq_true, Bool.or_eq_true, Bool.and_eq_false_iff, Bool.or_eq_false_iff, Int.not_le, Int.not_lt, bne_iff_ne, ne_eq, beq_iff_eq, Bool.not_eq_true, Bool.not_eq_false] at h) <;> (try simp only [h]) <;> (first | (exfalso; omega) | (focus (exfalso; simp_all; done)) | (simp (maxSteps := 400000) (disch := omega) only [push_cast, seval, hv]) | skip))
      | ((first | refine callD_of false ?_ | refine qcallD_of false ?_); simp (maxSteps := 400000) (disch := omega) only [push_cast, seval, hv])
      | ((first | ((first | refine call0D (BCall.ofP (svFmt_ok _ _ _ _ ?_ ?_)) ?_ | refine qcall0D (BCall.ofP (svFmt_ok _ _ _ _ ?_ ?_)) ⟨_, _, rfl, rfl⟩ ?_); (iterate 2 (focus (first | assumption | rfl | omega | (simp <;> omega) | (simp_all <;> omega)))); rintro _ _ ⟨rfl, rfl⟩) | ((first | refine call0D (BCall.ofP (sISz_ok _ _ _ _ ?_ ?_)) ?_ | refine qcall0D (BCall.ofP (sISz_ok _ _ _ _ ?_ ?_)) ⟨_, _, rfl, rfl⟩ ?_); (iterate 2 (focus (first | assumption | rfl | omega | (simp <;> omega) | (simp_all <;> omega)))); rintro _ _ ⟨rfl, rfl⟩) | ((first | refine call0D (BCall.ofP (allIn_ok _ _ _ _ ?_ ?_)) ?_ | refine qcall0D (BCall.ofP (allIn_ok _ _ _ _ ?_ ?_)) ⟨_, _, rfl, rfl⟩ ?_); (iterate 2 (focus (first | assumption | rfl | omega | (simp <;> omega) | (simp_all <;> omega)))); rintro _ _ ⟨rfl, rfl⟩) | ((first | refine call0D (sunp_ok _ _ _ _ _ _ ?_ ?_ ?_) ?_ | refine qcall0D (sunp_ok _ _ _ _ _ _ ?_ ?_ ?_) ⟨_, _, rfl, rfl⟩ ?_); (iterate 3 (focus (first | assumption | rfl | omega | (simp <;> omega) | (simp_all <;> omega)))); rintro _ _ ⟨rfl, rfl⟩)) <;> (try simp (maxSteps := 400000) (disch := omega) only [push_cast, seval, hv]))
      | (refine awp_ret ⟨.inr rfl, [16000], [(16000, 1)], _, by decide, rfl, ?_⟩; (try simp (maxSteps := 400000) (disch := omega) only [push_cast, seval, ↓allMem_nil, ↓allMem_cons, ↓List.map_cons, ↓List.map_nil, hv]))))
    all_goals simp [MVL]
  | true =>
  by_cases hl : (L.length : Int) = fN al s
  · cases ha : allI L 0 255 with
    | false =>
      (repeat' (first
      | (first | refine awp_seq ?_ | refine awp_block ?_)
      | ((first | refine awp_reg ?_ | refine awp_condB ?_ | refine awp_skip ?_ | refine awp_exit ?_); simp (maxSteps := 400000) (disch := omega) only [push_cast, seval, l35r0, l35r1, l35r2, l35r3, hv, hl, ha])
      | ((first | refine condB_split (fun h => ?_) (fun h => ?_) | refine gIf_split (fun h => ?_) (fun h => ?_) | refine qIf_split (fun h => ?_) (fun h => ?_)) <;> (try simp only [h]) <;> (try simp only [decide_eq_true_eq, decide_eq_false_iff_not, Bool.not_eq_true', Bool.not_eq_false', Bool.and_eq_true, Bool.or_eq_true, Bool.and_eq_false_iff, Bool.or_eq_false_iff, Int.not_le, Int.not_lt, bne_iff_ne, ne_eq, beq_iff_eq, Bool.not_eq_true, Bool.not_eq_false] at h) <;> (try simp only [h]) <;> (first | (exfalso; omega) | (focus (exfalso; simp_all; done)) | (simp (maxSteps := 400000) (disch := omega) only [push_cast, seval, hv, hl, ha]) | skip))
      | ((first | refine callD_of false ?_ | refine qcallD_of false ?_); simp (maxSteps := 400000) (disch := omega) only [push_cast, seval, hv, hl, ha])
      | ((first | ((first | refine call0D (BCall.ofP (svFmt_ok _ _ _ _ ?_ ?_)) ?_ | refine qcall0D (BCall.ofP (svFmt_ok _ _ _ _ ?_ ?_)) ⟨_, _, rfl, rfl⟩ ?_); (iterate 2 (focus (first | assumption | rfl | omega | (simp <;> omega) | (simp_all <;> omega)))); rintro _ _ ⟨rfl, rfl⟩) | ((first | refine call0D (BCall.ofP (sISz_ok _ _ _ _ ?_ ?_)) ?_ | refine qcall0D (BCall.ofP (sISz_ok _ _ _ _ ?_ ?_)) ⟨_, _, rfl, rfl⟩ ?_); (iterate 2 (focus (first | assumption | rfl | omega | (simp <;> omega) | (simp_all <;> omega)))); rintro _ _ ⟨rfl, rfl⟩) | ((first | refine call0D (BCall.ofP (allIn_ok _ _ _ _ ?_ ?_)) ?_ | refine qcall0D (BCall.ofP (allIn_ok _ _ _ _ ?_ ?_)) ⟨_, _, rfl, rfl⟩ ?_); (iterate 2 (focus (first | assumption | rfl | omega | (simp <;> omega) | (simp_all <;> omega)))); rintro _ _ ⟨rfl, rfl⟩) | ((first | refine call0D (sunp_ok _ _ _ _ _ _ ?_ ?_ ?_) ?_ | refine qcall0D (sunp_ok _ _ _ _ _ _ ?_ ?_ ?_) ⟨_, _, rfl, rfl⟩ ?_); (iterate 3 (focus (first | assumption | rfl | omega | (simp <;> omega) | (simp_all <;> omega)))); rintro _ _ ⟨rfl, rfl⟩)) <;> (try simp (maxSteps := 400000) (disch := omega) only [push_cast, seval, hv, hl, ha]))
      | (refine awp_ret ⟨.inr rfl, [16000], [(16000, 1)], _, by decide, rfl, ?_⟩; (try simp (maxSteps := 400000) (disch := omega) only [push_cast, seval, ↓allMem_nil, ↓allMem_cons, ↓List.map_cons, ↓List.map_nil, hv, hl, ha]))))
      all_goals simp [MVL]
    | true =>
      have hq : (vF s = true ∧ L.length = (fN al s).toNat) ∧ allI L 0 255 = true := ⟨⟨hv, by omega⟩, ha⟩
      have hul := upL_length al big s L
      (repeat' (first
      | (first | refine awp_seq ?_ | refine awp_block ?_)
      | ((first | refine awp_reg ?_ | refine awp_condB ?_ | refine awp_skip ?_ | refine awp_exit ?_); simp (maxSteps := 400000) (disch := omega) only [push_cast, seval, l35r0, l35r1, l35r2, l35r3, hv, hl, ha, hul, decide_true])
      | ((first | refine condB_split (fun h => ?_) (fun h => ?_) | refine gIf_split (fun h => ?_) (fun h => ?_) | refine qIf_split (fun h => ?_) (fun h => ?_)) <;> (try simp only [h]) <;> (try simp only [decide_eq_true_eq, decide_eq_false_iff_not, Bool.not_eq_true', Bool.not_eq_false', Bool.and_eq_true, Bool.or_eq_true, Bool.and_eq_false_iff, Bool.or_eq_false_iff, Int.not_le, Int.not_lt, bne_iff_ne, ne_eq, beq_iff_eq, Bool.not_eq_true, Bool.not_eq_false] at h) <;> (try simp only [h]) <;> (first | (exfalso; omega) | (focus (exfalso; simp_all; done)) | (simp (maxSteps := 400000) (disch := omega) only [push_cast, seval, hv, hl, ha, hul, decide_true]) | skip))
      | ((first | refine callD_of false ?_ | refine qcallD_of false ?_); simp (maxSteps := 400000) (disch := omega) only [push_cast, seval, hv, hl, ha, hul, decide_true])
      | ((first | ((first | refine call0D (BCall.ofP (svFmt_ok _ _ _ _ ?_ ?_)) ?_ | refine qcall0D (BCall.ofP (svFmt_ok _ _ _ _ ?_ ?_)) ⟨_, _, rfl, rfl⟩ ?_); (iterate 2 (focus (first | assumption | rfl | omega | (simp <;> omega) | (simp_all <;> omega)))); rintro _ _ ⟨rfl, rfl⟩) | ((first | refine call0D (BCall.ofP (sISz_ok _ _ _ _ ?_ ?_)) ?_ | refine qcall0D (BCall.ofP (sISz_ok _ _ _ _ ?_ ?_)) ⟨_, _, rfl, rfl⟩ ?_); (iterate 2 (focus (first | assumption | rfl | omega | (simp <;> omega) | (simp_all <;> omega)))); rintro _ _ ⟨rfl, rfl⟩) | ((first | refine call0D (BCall.ofP (allIn_ok _ _ _ _ ?_ ?_)) ?_ | refine qcall0D (BCall.ofP (allIn_ok _ _ _ _ ?_ ?_)) ⟨_, _, rfl, rfl⟩ ?_); (iterate 2 (focus (first | assumption | rfl | omega | (simp <;> omega) | (simp_all <;> omega)))); rintro _ _ ⟨rfl, rfl⟩) | ((first | refine call0D (sunp_ok _ _ _ _ _ _ ?_ ?_ ?_) ?_ | refine qcall0D (sunp_ok _ _ _ _ _ _ ?_ ?_ ?_) ⟨_, _, rfl, rfl⟩ ?_); (iterate 3 (focus (first | assumption | rfl | omega | (simp <;> omega) | (simp_all <;> omega)))); rintro _ _ ⟨rfl, rfl⟩)) <;> (try simp (maxSteps := 400000) (disch := omega) only [push_cast, seval, hv, hl, ha, hul, decide_true]))
      | (refine awp_ret ⟨.inr rfl, [368], [], _, by decide, rfl, ?_⟩; (try simp (maxSteps := 400000) (disch := omega) only [push_cast, seval, ↓allMem_nil, ↓allMem_cons, ↓List.map_cons, ↓List.map_nil, hv, hl, ha, hul, decide_true]))))
      all_goals simp [MVL, hul]
  · (repeat' (first
      | (first | refine awp_seq ?_ | refine awp_block ?_)
      | ((first | refine awp_reg ?_ | refine awp_condB ?_ | refine awp_skip ?_ | refine awp_exit ?_); simp (maxSteps := 400000) (disch := omega) only [push_cast, seval, l35r0, l35r1, l35r2, l35r3, hv, hl])
      | ((first | refine condB_split (fun h => ?_) (fun h => ?_) | refine gIf_split (fun h => ?_) (fun h => ?_) | refine qIf_split (fun h => ?_) (fun h => ?_)) <;> (try simp only [h]) <;> (try simp only [decide_eq_true_eq, decide_eq_false_iff_not, Bool.not_eq_true', Bool.not_eq_false', Bool.and_eq_true, Bool.or_eq_true, Bool.and_eq_false_iff, Bool.or_eq_false_iff, Int.not_le, Int.not_lt, bne_iff_ne, ne_eq, beq_iff_eq, Bool.not_eq_true, Bool.not_eq_false] at h) <;> (try simp only [h]) <;> (first | (exfalso; omega) | (focus (exfalso; simp_all; done)) | (simp (maxSteps := 400000) (disch := omega) only [push_cast, seval, hv, hl]) | skip))
      | ((first | refine callD_of false ?_ | refine qcallD_of false ?_); simp (maxSteps := 400000) (disch := omega) only [push_cast, seval, hv, hl])
      | ((first | ((first | refine call0D (BCall.ofP (svFmt_ok _ _ _ _ ?_ ?_)) ?_ | refine qcall0D (BCall.ofP (svFmt_ok _ _ _ _ ?_ ?_)) ⟨_, _, rfl, rfl⟩ ?_); (iterate 2 (focus (first | assumption | rfl | omega | (simp <;> omega) | (simp_all <;> omega)))); rintro _ _ ⟨rfl, rfl⟩) | ((first | refine call0D (BCall.ofP (sISz_ok _ _ _ _ ?_ ?_)) ?_ | refine qcall0D (BCall.ofP (sISz_ok _ _ _ _ ?_ ?_)) ⟨_, _, rfl, rfl⟩ ?_); (iterate 2 (focus (first | assumption | rfl | omega | (simp <;> omega) | (simp_all <;> omega)))); rintro _ _ ⟨rfl, rfl⟩) | ((first | refine call0D (BCall.ofP (allIn_ok _ _ _ _ ?_ ?_)) ?_ | refine qcall0D (BCall.ofP (allIn_ok _ _ _ _ ?_ ?_)) ⟨_, _, rfl, rfl⟩ ?_); (iterate 2 (focus (first | assumption | rfl | omega | (simp <;> omega) | (simp_all <;> omega)))); rintro _ _ ⟨rfl, rfl⟩) | ((first | refine call0D (sunp_ok _ _ _ _ _ _ ?_ ?_ ?_) ?_ | refine qcall0D (sunp_ok _ _ _ _ _ _ ?_ ?_ ?_) ⟨_, _, rfl, rfl⟩ ?_); (iterate 3 (focus (first | assumption | rfl | omega | (simp <;> omega) | (simp_all <;> omega)))); rintro _ _ ⟨rfl, rfl⟩)) <;> (try simp (maxSteps := 400000) (disch := omega) only [push_cast, seval, hv, hl]))
      | (refine awp_ret ⟨.inr rfl, [16000], [(16000, 1)], _, by decide, rfl, ?_⟩; (try simp (maxSteps := 400000) (disch := omega) only [push_cast, seval, ↓allMem_nil, ↓allMem_cons, ↓List.map_cons, ↓List.map_nil, hv, hl]))))
    all_goals simp [MVL, hl]


theorem iUnpI_ok (s : List Int) (n : Nat) (big al : Bool) (L : List Int) (m : Nat) (hn : s.length = n) (hm : L.length = m) (hb : n ≤ 1099511627776 ∧ m ≤ 1099511627776) : BCall Tryd.prog 32 [.agg [.rows false (IL s) n, .bool big, .bool al], .rows false (IL L) m] [] (fun r H' => r = .tup [.own 0 (MVL (upB al s L) (upL al big s L)).length 1, .bool (upB al s L)] ∧ H' = [IL (MVL (upB al s L) (upL al big s L))]) := by
  subst hn hm
  obtain ⟨hb1, hb2⟩ := hb
  unfold upB
  refine bcall_of (pins := []) (pin := 0) l32_eq rfl rfl rfl ?_
  cases hv : vF s with
  | false =>
    (repeat' (first
      | (first | refine awp_seq ?_ | refine awp_block ?_)
      | ((first | refine awp_reg ?_ | refine awp_condB ?_ | refine awp_skip ?_ | refine awp_exit ?_); simp (maxSteps := 400000) (disch := omega) only [push_cast, seval, l32r0, l32r1, l32r2, l32r3, hv])
      | ((first | refine condB_split (fun h => ?_) (fun h => ?_) | refine gIf_split (fun h => ?_) (fun h => ?_) | refine qIf_split (fun h => ?_) (fun h => ?_)) <;> (try simp only [h]) <;> (try simp only [decide_eq_true_eq, decide_eq_false_iff_not, Bool.not_eq_true', Bool.not_eq_false', Bool.and_eq_true, Bool.or_eq_true, Bool.and_eq_false_iff, Bool.or_eq_false_iff, Int.not_le, Int.not_lt, bne_iff_ne, ne_eq, beq_iff_eq, Bool.not_eq_true, Bool.not_eq_false] at h) <;> (try simp only [h]) <;> (first | (exfalso; omega) | (focus (exfalso; simp_all; done)) | (simp (maxSteps := 400000) (disch := omega) only [push_cast, seval, hv]) | skip))
      | ((first | refine callD_of false ?_ | refine qcallD_of false ?_); simp (maxSteps := 400000) (disch := omega) only [push_cast, seval, hv])
      | ((first | ((first | refine call0D (BCall.ofP (iVFmt_ok _ _ _ _ ?_ ?_)) ?_ | refine qcall0D (BCall.ofP (iVFmt_ok _ _ _ _ ?_ ?_)) ⟨_, _, rfl, rfl⟩ ?_); (iterate 2 (focus (first | assumption | rfl | omega | (simp <;> omega) | (simp_all <;> omega)))); rintro _ _ ⟨rfl, rfl⟩) | ((first | refine call0D (BCall.ofP (isz_ok _ _ _ _ ?_ ?_)) ?_ | refine qcall0D (BCall.ofP (isz_ok _ _ _ _ ?_ ?_)) ⟨_, _, rfl, rfl⟩ ?_); (iterate 2 (focus (first | assumption | rfl | omega | (simp <;> omega) | (simp_all <;> omega)))); rintro _ _ ⟨rfl, rfl⟩) | ((first | refine call0D (BCall.ofP (validValues_ok _ _ ?_ ?_)) ?_ | refine qcall0D (BCall.ofP (validValues_ok _ _ ?_ ?_)) ⟨_, _, rfl, rfl⟩ ?_); (iterate 2 (focus (first | assumption | rfl | omega | (simp <;> omega) | (simp_all <;> omega)))); rintro _ _ ⟨rfl, rfl⟩) | ((first | refine call0D (iunp_ok _ _ _ _ _ _ ?_ ?_ ?_) ?_ | refine qcall0D (iunp_ok _ _ _ _ _ _ ?_ ?_ ?_) ⟨_, _, rfl, rfl⟩ ?_); (iterate 3 (focus (first | assumption | rfl | omega | (simp <;> omega) | (simp_all <;> omega)))); rintro _ _ ⟨rfl, rfl⟩)) <;> (try simp (maxSteps := 400000) (disch := omega) only [push_cast, seval, hv]))
      | (refine awp_ret ⟨.inr rfl, [16000], [(16000, 1)], _, by decide, rfl, ?_⟩; (try simp (maxSteps := 400000) (disch := omega) only [push_cast, seval, ↓allMem_nil, ↓allMem_cons, ↓List.map_cons, ↓List.map_nil, hv]))))
    all_goals simp [MVL]
  | true =>
  by_cases hl : (L.length : Int) = fN al s
  · cases ha : allI L 0 255 with
    | false =>
      (repeat' (first
      | (first | refine awp_seq ?_ | refine awp_block ?_)
      | ((first | refine awp_reg ?_ | refine awp_condB ?_ | refine awp_skip ?_ | refine awp_exit ?_); simp (maxSteps := 400000) (disch := omega) only [push_cast, seval, l32r0, l32r1, l32r2, l32r3, hv, hl, ha])
      | ((first | refine condB_split (fun h => ?_) (fun h => ?_) | refine gIf_split (fun h => ?_) (fun h => ?_) | refine qIf_split (fun h => ?_) (fun h => ?_)) <;> (try simp only [h]) <;> (try simp only [decide_eq_true_eq, decide_eq_false_iff_not, Bool.not_eq_true', Bool.not_eq_false', Bool.and_eq_true, Bool.or_eq_true, Bool.and_eq_false_iff, Bool.or_eq_false_iff, Int.not_le, Int.not_lt, bne_iff_ne, ne_eq, beq_iff_eq, Bool.not_eq_true, Bool.not_eq_false] at h) <;> (try simp only [h]) <;> (first | (exfalso; omega) | (focus (exfalso; simp_all; done)) | (simp (maxSteps := 400000) (disch := omega) only [push_cast, seval, hv, hl, ha]) | skip))
      | ((first | refine callD_of false ?_ | refine qcallD_of false ?_); simp (maxSteps := 400000) (disch := omega) only [push_cast, seval, hv, hl, ha])
      | ((first | ((first | refine call0D (BCall.ofP (iVFmt_ok _ _ _ _ ?_ ?_)) ?_ | refine qcall0D (BCall.ofP (iVFmt_ok _ _ _ _ ?_ ?_)) ⟨_, _, rfl, rfl⟩ ?_); (iterate 2 (focus (first | assumption | rfl | omega | (simp <;> omega) | (simp_all <;> omega)))); rintro _ _ ⟨rfl, rfl⟩) | ((first | refine call0D (BCall.ofP (isz_ok _ _ _ _ ?_ ?_)) ?_ | refine qcall0D (BCall.ofP (isz_ok _ _ _ _ ?_ ?_)) ⟨_, _, rfl, rfl⟩ ?_); (iterate 2 (focus (first | assumption | rfl | omega | (simp <;> omega) | (simp_all <;> omega)))); rintro _ _ ⟨rfl, rfl⟩) | ((first | refine call0D (BCall.ofP (validValues_ok _ _ ?_ ?_)) ?_ | refine qcall0D (BCall.ofP (validValues_ok _ _ ?_ ?_)) ⟨_, _, rfl, rfl⟩ ?_); (iterate 2 (focus (first | assumption | rfl | omega | (simp <;> omega) | (simp_all <;> omega)))); rintro _ _ ⟨rfl, rfl⟩) | ((first | refine call0D (iunp_ok _ _ _ _ _ _ ?_ ?_ ?_) ?_ | refine qcall0D (iunp_ok _ _ _ _ _ _ ?_ ?_ ?_) ⟨_, _, rfl, rfl⟩ ?_); (iterate 3 (focus (first | assumption | rfl | omega | (simp <;> omega) | (simp_all <;> omega)))); rintro _ _ ⟨rfl, rfl⟩)) <;> (try simp (maxSteps := 400000) (disch := omega) only [push_cast, seval, hv, hl, ha]))
      | (refine awp_ret ⟨.inr rfl, [16000], [(16000, 1)], _, by decide, rfl, ?_⟩; (try simp (maxSteps := 400000) (disch := omega) only [push_cast, seval, ↓allMem_nil, ↓allMem_cons, ↓List.map_cons, ↓List.map_nil, hv, hl, ha]))))
      all_goals simp [MVL]
    | true =>
      have hq : (vF s = true ∧ L.length = (fN al s).toNat) ∧ allI L 0 255 = true := ⟨⟨hv, by omega⟩, ha⟩
      have hul := upL_length al big s L
      (repeat' (first
      | (first | refine awp_seq ?_ | refine awp_block ?_)
      | ((first | refine awp_reg ?_ | refine awp_condB ?_ | refine awp_skip ?_ | refine awp_exit ?_); simp (maxSteps := 400000) (disch := omega) only [push_cast, seval, l32r0, l32r1, l32r2, l32r3, hv, hl, ha, hul, decide_true])
      | ((first | refine condB_split (fun h => ?_) (fun h => ?_) | refine gIf_split (fun h => ?_) (fun h => ?_) | refine qIf_split (fun h => ?_) (fun h => ?_)) <;> (try simp only [h]) <;> (try simp only [decide_eq_true_eq, decide_eq_false_iff_not, Bool.not_eq_true', Bool.not_eq_false', Bool.and_eq_true, Bool.or_eq_true, Bool.and_eq_false_iff, Bool.or_eq_false_iff, Int.not_le, Int.not_lt, bne_iff_ne, ne_eq, beq_iff_eq, Bool.not_eq_true, Bool.not_eq_false] at h) <;> (try simp only [h]) <;> (first | (exfalso; omega) | (focus (exfalso; simp_all; done)) | (simp (maxSteps := 400000) (disch := omega) only [push_cast, seval, hv, hl, ha, hul, decide_true]) | skip))
      | ((first | refine callD_of false ?_ | refine qcallD_of false ?_); simp (maxSteps := 400000) (disch := omega) only [push_cast, seval, hv, hl, ha, hul, decide_true])
      | ((first | ((first | refine call0D (BCall.ofP (iVFmt_ok _ _ _ _ ?_ ?_)) ?_ | refine qcall0D (BCall.ofP (iVFmt_ok _ _ _ _ ?_ ?_)) ⟨_, _, rfl, rfl⟩ ?_); (iterate 2 (focus (first | assumption | rfl | omega | (simp <;> omega) | (simp_all <;> omega)))); rintro _ _ ⟨rfl, rfl⟩) | ((first | refine call0D (BCall.ofP (isz_ok _ _ _ _ ?_ ?_)) ?_ | refine qcall0D (BCall.ofP (isz_ok _ _ _ _ ?_ ?_)) ⟨_, _, rfl, rfl⟩ ?_); (iterate 2 (focus (first | assumption | rfl | omega | (simp <;> omega) | (simp_all <;> omega)))); rintro _ _ ⟨rfl, rfl⟩) | ((first | refine call0D (BCall.ofP (validValues_ok _ _ ?_ ?_)) ?_ | refine qcall0D (BCall.ofP (validValues_ok _ _ ?_ ?_)) ⟨_, _, rfl, rfl⟩ ?_); (iterate 2 (focus (first | assumption | rfl | omega | (simp <;> omega) | (simp_all <;> omega)))); rintro _ _ ⟨rfl, rfl⟩) | ((first | refine call0D (iunp_ok _ _ _ _ _ _ ?_ ?_ ?_) ?_ | refine qcall0D (iunp_ok _ _ _ _ _ _ ?_ ?_ ?_) ⟨_, _, rfl, rfl⟩ ?_); (iterate 3 (focus (first | assumption | rfl | omega | (simp <;> omega) | (simp_all <;> omega)))); rintro _ _ ⟨rfl, rfl⟩)) <;> (try simp (maxSteps := 400000) (disch := omega) only [push_cast, seval, hv, hl, ha, hul, decide_true]))
      | (refine awp_ret ⟨.inr rfl, [368], [], _, by decide, rfl, ?_⟩; (try simp (maxSteps := 400000) (disch := omega) only [push_cast, seval, ↓allMem_nil, ↓allMem_cons, ↓List.map_cons, ↓List.map_nil, hv, hl, ha, hul, decide_true]))))
      all_goals simp [MVL, hul]
  · (repeat' (first
      | (first | refine awp_seq ?_ | refine awp_block ?_)
      | ((first | refine awp_reg ?_ | refine awp_condB ?_ | refine awp_skip ?_ | refine awp_exit ?_); simp (maxSteps := 400000) (disch := omega) only [push_cast, seval, l32r0, l32r1, l32r2, l32r3, hv, hl])
      | ((first | refine condB_split (fun h => ?_) (fun h => ?_) | refine gIf_split (fun h => ?_) (fun h => ?_) | refine qIf_split (fun h => ?_) (fun h => ?_)) <;> (try simp only [h]) <;> (try simp only [decide_eq_true_eq, decide_eq_false_iff_not, Bool.not_eq_true', Bool.not_eq_false', Bool.and_eq_true, Bool.or_eq_true, Bool.and_eq_false_iff, Bool.or_eq_false_iff, Int.not_le, Int.not_lt, bne_iff_ne, ne_eq, beq_iff_eq, Bool.not_eq_true, Bool.not_eq_false] at h) <;> (try simp only [h]) <;> (first | (exfalso; omega) | (focus (exfalso; simp_all; done)) | (simp (maxSteps := 400000) (disch := omega) only [push_cast, seval, hv, hl]) | skip))
      | ((first | refine callD_of false ?_ | refine qcallD_of false ?_); simp (maxSteps := 400000) (disch := omega) only [push_cast, seval, hv, hl])
      | ((first | ((first | refine call0D (BCall.ofP (iVFmt_ok _ _ _ _ ?_ ?_)) ?_ | refine qcall0D (BCall.ofP (iVFmt_ok _ _ _ _ ?_ ?_)) ⟨_, _, rfl, rfl⟩ ?_); (iterate 2 (focus (first | assumption | rfl | omega | (simp <;> omega) | (simp_all <;> omega)))); rintro _ _ ⟨rfl, rfl⟩) | ((first | refine call0D (BCall.ofP (isz_ok _ _ _ _ ?_ ?_)) ?_ | refine qcall0D (BCall.ofP (isz_ok _ _ _ _ ?_ ?_)) ⟨_, _, rfl, rfl⟩ ?_); (iterate 2 (focus (first | assumption | rfl | omega | (simp <;> omega) | (simp_all <;> omega)))); rintro _ _ ⟨rfl, rfl⟩) | ((first | refine call0D (BCall.ofP (validValues_ok _ _ ?_ ?_)) ?_ | refine qcall0D (BCall.ofP (validValues_ok _ _ ?_ ?_)) ⟨_, _, rfl, rfl⟩ ?_); (iterate 2 (focus (first | assumption | rfl | omega | (simp <;> omega) | (simp_all <;> omega)))); rintro _ _ ⟨rfl, rfl⟩) | ((first | refine call0D (iunp_ok _ _ _ _ _ _ ?_ ?_ ?_) ?_ | refine qcall0D (iunp_ok _ _ _ _ _ _ ?_ ?_ ?_) ⟨_, _, rfl, rfl⟩ ?_); (iterate 3 (focus (first | assumption | rfl | omega | (simp <;> omega) | (simp_all <;> omega)))); rintro _ _ ⟨rfl, rfl⟩)) <;> (try simp (maxSteps := 400000) (disch := omega) only [push_cast, seval, hv, hl]))
      | (refine awp_ret ⟨.inr rfl, [16000], [(16000, 1)], _, by decide, rfl, ?_⟩; (try simp (maxSteps := 400000) (disch := omega) only [push_cast, seval, ↓allMem_nil, ↓allMem_cons, ↓List.map_cons, ↓List.map_nil, hv, hl]))))
    all_goals simp [MVL, hl]

end Go.Proofs.YtclampodmlklpaaDoor
