import Derived.Test.YtclampodmlklpaaDoorCKi5
import Derived.Test.YtclampodmlklpaaDoorCM1
import Derived.Test.YtclampodmlklpaaDoorCW3
set_option linter.unusedSimpArgs false
set_option linter.unusedVariables false
set_option linter.unnecessarySimpa false
set_option maxRecDepth 4000
set_option maxHeartbeats 4000000
namespace Go.Proofs.YtclampodmlklpaaDoor
open VwM Vw Go

set_option maxHeartbeats 16000000 in
theorem sunp_ok (s : List Int) (n : Nat) (big al : Bool) (L : List Int) (m : Nat) (hn : s.length = n) (hm : L.length = m) (hv : (vF s = true ∧ L.length = (fN al s).toNat) ∧ allI L 0 255 = true) : BCall Tryd.prog 74 [.agg [.rows false (IL s) n, .bool big, .bool al], .rows false (IL L) m] [] (fun r H' => r = .own 0 n 1 ∧ H' = [IL (upL al big s L)]) := by
  subst hn hm
  obtain ⟨⟨hv, hL⟩, hb⟩ := hv
  have hbL := allI_iff.1 hb
  obtain ⟨hs, hl1, hl2⟩ := vF_iff.1 hv
  have hfl := fPL_length al s
  refine bcall_of (pins := []) (pin := 0) l74_eq rfl rfl rfl ?_
  (repeat' (first
      | (first | refine awp_seq ?_ | refine awp_block ?_)
      | ((first | refine awp_reg ?_ | refine awp_draw (mid := l74r5a) (post := l74r5b) mixed (by decide) ?_ | refine awp_condB ?_ | refine awp_skip ?_ | refine awp_exit ?_); simp (maxSteps := 400000) (disch := omega) only [push_cast, seval, l74r0, l74r1, l74r2, l74r3, l74r4, l74r5a, l74r5b, l74r5, l74r6, l74r7])
      | ((first | refine condB_split (fun h => ?_) (fun h => ?_) | refine gIf_split (fun h => ?_) (fun h => ?_) | refine qIf_split (fun h => ?_) (fun h => ?_)) <;> (try simp only [h]) <;> (try simp only [decide_eq_true_eq, decide_eq_false_iff_not, Bool.not_eq_true', Bool.not_eq_false', Bool.and_eq_true, Bool.or_eq_true, Bool.and_eq_false_iff, Bool.or_eq_false_iff, Int.not_le, Int.not_lt, bne_iff_ne, ne_eq, beq_iff_eq, Bool.not_eq_true, Bool.not_eq_false] at h) <;> (try simp only [h]) <;> (first | (exfalso; omega) | (focus (exfalso; simp_all; done)) | (simp (maxSteps := 400000) (disch := omega) only [push_cast, seval]) | skip))
      | ((first | refine callD_of false ?_ | refine qcallD_of false ?_); simp (maxSteps := 400000) (disch := omega) only [push_cast, seval])
      | ((first | ((first | refine call0D (splaces_ok _ _ _ _ ?_ ?_) ?_ | refine qcall0D (splaces_ok _ _ _ _ ?_ ?_) ⟨_, _, rfl, rfl⟩ ?_); (iterate 2 (focus (first | assumption | rfl | omega | (simp <;> omega) | (simp_all <;> omega)))); rintro _ _ ⟨rfl, rfl⟩) | ((first | refine call0D (BCall.ofP (snum_ok _ _ _ ?_ ?_)) ?_ | refine qcall0D (BCall.ofP (snum_ok _ _ _ ?_ ?_)) ⟨_, _, rfl, rfl⟩ ?_); (iterate 2 (focus (first | assumption | rfl | omega | (simp <;> omega) | (simp_all <;> omega)))); rintro _ _ ⟨rfl, rfl⟩)) <;> (try simp (maxSteps := 400000) (disch := omega) only [push_cast, seval]))
      | (refine awp_ret ⟨.inr rfl, [224], [], _, by decide, rfl, ?_⟩; (try simp (maxSteps := 400000) (disch := omega) only [push_cast, seval, ↓allMem_nil, ↓allMem_cons, ↓List.map_cons, ↓List.map_nil]))))
  refine awp_loop (fun k : Nat => mkS [(1, RI L), (2, .ref 32 3 0), (5, .own 176 s.length 1), (7, .own 224 k 1), (8, .int .i64 k)] [(224, IL ((List.range k).map (upF al big s L))), (176, IL (fPL al s)), (32, [RI s, .bool big, .bool al])])
    (fun k => k ≤ s.length) (fun k => s.length - k) 0 (Nat.zero_le _) ?_ ?_
  · (refine Sub.of_lists ?_ ?_ ?_ ?_ ?_ <;> simp [Vw.mkS, Vw.lk, Vw.hk, AV.inn, innL, innL_ints, innL_append, innL_rep, -List.map_set, -List.getD_eq_getElem?_getD, List.range_zero, List.map_nil])
  · intro k hk
    have hul : ((List.range k).map (upF al big s L)).length = k := by simp
    by_cases hlt : k < s.length
    · obtain ⟨r1, r2, r3, r4, r5, r6, r7, r8⟩ := pk_room (al := al) hv hlt
      rw [← hL] at r1 r5
      have e1 := (fPL_getD (al := al) hlt).trans r7
      have e5 := upF_succ al big s L k
      have e6 : upF al big s L k = nmO ((L.drop (fP al s k).toNat).take (s.getD k 0).toNat) big := (nmO_rd r1).symm
      generalize hp : (fP al s k).toNat = p at *
      generalize hz : (s.getD k 0).toNat = z at *
      have htl : ((L.drop p).take z).length = z := by simp; omega
      have hq : z ≤ 4 ∧ ∀ x ∈ (L.drop p).take z, 0 ≤ x ∧ x ≤ 255 := ⟨by omega, fun x hx => hbL x (List.mem_of_mem_drop (List.mem_of_mem_take hx))⟩
      have tk : List.take z (List.drop p (L.map (AV.int .i64))) = ((L.drop p).take z).map (AV.int .i64) := by rw [List.map_take, List.map_drop]
      rw [e6] at e5
      generalize hT : (L.drop p).take z = T at *
      generalize hU : (List.range k).map (upF al big s L) = U at *
      generalize hQ : fPL al s = Q at *
      obtain ⟨y, hy⟩ : ∃ y : Nat, p + z = y := ⟨_, rfl⟩
      have hyi : (p : Int) + (z : Int) = (y : Int) := by omega
      have hyl : y ≤ L.length := by omega
      have hyd : (y : Int) - (p : Int) = (z : Int) := by omega
      have hyd2 : y - p = z := by omega
      clear hbL hb r2 r3 r4 r6 r7 hs
      (repeat' (first
      | (first | refine awp_seq ?_ | refine awp_block ?_)
      | ((first | refine awp_reg ?_ | refine awp_draw (mid := l74r5a) (post := l74r5b) mixed (by decide) ?_ | refine awp_condB ?_ | refine awp_skip ?_ | refine awp_exit ?_); simp (maxSteps := 400000) (disch := omega) only [push_cast, seval, l74r0, l74r1, l74r2, l74r3, l74r4, l74r5a, l74r5b, l74r5, l74r6, l74r7, e1, r8, hyi, hyd, hyd2, tk, htl, hfl, hul, Nat.mul_one, Nat.one_mul])
      | ((first | refine condB_split (fun h => ?_) (fun h => ?_) | refine gIf_split (fun h => ?_) (fun h => ?_) | refine qIf_split (fun h => ?_) (fun h => ?_)) <;> (try simp only [h]) <;> (try simp only [decide_eq_true_eq, decide_eq_false_iff_not, Bool.not_eq_true', Bool.not_eq_false', Bool.and_eq_true, Bool.or_eq_true, Bool.and_eq_false_iff, Bool.or_eq_false_iff, Int.not_le, Int.not_lt, bne_iff_ne, ne_eq, beq_iff_eq, Bool.not_eq_true, Bool.not_eq_false] at h) <;> (try simp only [h]) <;> (first | (exfalso; omega) | (focus (exfalso; simp_all; done)) | (simp (maxSteps := 400000) (disch := omega) only [push_cast, seval, e1, r8, hyi, hyd, hyd2, tk, htl, hfl, hul, Nat.mul_one, Nat.one_mul]) | skip))
      | ((first | refine callD_of false ?_ | refine qcallD_of false ?_); simp (maxSteps := 400000) (disch := omega) only [push_cast, seval, e1, r8, hyi, hyd, hyd2, tk, htl, hfl, hul, Nat.mul_one, Nat.one_mul])
      | ((first | ((first | refine call0D (splaces_ok _ _ _ _ ?_ ?_) ?_ | refine qcall0D (splaces_ok _ _ _ _ ?_ ?_) ⟨_, _, rfl, rfl⟩ ?_); (iterate 2 (focus (first | assumption | rfl | omega | (simp <;> omega) | (simp_all <;> omega)))); rintro _ _ ⟨rfl, rfl⟩) | ((first | refine call0D (BCall.ofP (snum_ok _ _ _ ?_ ?_)) ?_ | refine qcall0D (BCall.ofP (snum_ok _ _ _ ?_ ?_)) ⟨_, _, rfl, rfl⟩ ?_); (iterate 2 (focus (first | assumption | rfl | omega | (simp <;> omega) | (simp_all <;> omega)))); rintro _ _ ⟨rfl, rfl⟩)) <;> (try simp (maxSteps := 400000) (disch := omega) only [push_cast, seval, e1, r8, hyi, hyd, hyd2, tk, htl, hfl, hul, Nat.mul_one, Nat.one_mul]))
      | (refine awp_ret ⟨.inr rfl, [224], [], _, by decide, rfl, ?_⟩; (try simp (maxSteps := 400000) (disch := omega) only [push_cast, seval, ↓allMem_nil, ↓allMem_cons, ↓List.map_cons, ↓List.map_nil, e1, r8, hyi, hyd, hyd2, tk, htl, hfl, hul, Nat.mul_one, Nat.one_mul]))))
      refine ⟨k + 1, by omega, by omega, ?_⟩
      (refine Sub.of_lists ?_ ?_ ?_ ?_ ?_ <;> simp [Vw.mkS, Vw.lk, Vw.hk, AV.inn, innL, innL_ints, innL_append, innL_rep, -List.map_set, -List.getD_eq_getElem?_getD, e5, hU, hQ])
    · have e : k = s.length := by omega
      subst e
      rw [← upL_eq] at hul ⊢
      (repeat' (first
      | (first | refine awp_seq ?_ | refine awp_block ?_)
      | ((first | refine awp_reg ?_ | refine awp_draw (mid := l74r5a) (post := l74r5b) mixed (by decide) ?_ | refine awp_condB ?_ | refine awp_skip ?_ | refine awp_exit ?_); simp (maxSteps := 400000) (disch := omega) only [push_cast, seval, l74r0, l74r1, l74r2, l74r3, l74r4, l74r5a, l74r5b, l74r5, l74r6, l74r7, hul, hfl])
      | ((first | refine condB_split (fun h => ?_) (fun h => ?_) | refine gIf_split (fun h => ?_) (fun h => ?_) | refine qIf_split (fun h => ?_) (fun h => ?_)) <;> (try simp only [h]) <;> (try simp only [decide_eq_true_eq, decide_eq_false_iff_not, Bool.not_eq_true', Bool.not_eq_false', Bool.and_eq_true, Bool.or_eq_true, Bool.and_eq_false_iff, Bool.or_eq_false_iff, Int.not_le, Int.not_lt, bne_iff_ne, ne_eq, beq_iff_eq, Bool.not_eq_true, Bool.not_eq_false] at h) <;> (try simp only [h]) <;> (first | (exfalso; omega) | (focus (exfalso; simp_all; done)) | (simp (maxSteps := 400000) (disch := omega) only [push_cast, seval, hul, hfl]) | skip))
      | ((first | refine callD_of false ?_ | refine qcallD_of false ?_); simp (maxSteps := 400000) (disch := omega) only [push_cast, seval, hul, hfl])
      | ((first | ((first | refine call0D (splaces_ok _ _ _ _ ?_ ?_) ?_ | refine qcall0D (splaces_ok _ _ _ _ ?_ ?_) ⟨_, _, rfl, rfl⟩ ?_); (iterate 2 (focus (first | assumption | rfl | omega | (simp <;> omega) | (simp_all <;> omega)))); rintro _ _ ⟨rfl, rfl⟩) | ((first | refine call0D (BCall.ofP (snum_ok _ _ _ ?_ ?_)) ?_ | refine qcall0D (BCall.ofP (snum_ok _ _ _ ?_ ?_)) ⟨_, _, rfl, rfl⟩ ?_); (iterate 2 (focus (first | assumption | rfl | omega | (simp <;> omega) | (simp_all <;> omega)))); rintro _ _ ⟨rfl, rfl⟩)) <;> (try simp (maxSteps := 400000) (disch := omega) only [push_cast, seval, hul, hfl]))
      | (refine awp_ret ⟨.inr rfl, [224], [], _, by decide, rfl, ?_⟩; (try simp (maxSteps := 400000) (disch := omega) only [push_cast, seval, ↓allMem_nil, ↓allMem_cons, ↓List.map_cons, ↓List.map_nil, hul, hfl]))))
      all_goals simp


set_option maxHeartbeats 16000000 in
theorem iunp_ok (s : List Int) (n : Nat) (big al : Bool) (L : List Int) (m : Nat) (hn : s.length = n) (hm : L.length = m) (hv : (vF s = true ∧ L.length = (fN al s).toNat) ∧ allI L 0 255 = true) : BCall Tryd.prog 70 [.agg [.rows false (IL s) n, .bool big, .bool al], .rows false (IL L) m] [] (fun r H' => r = .own 0 n 1 ∧ H' = [IL (upL al big s L)]) := by
  subst hn hm
  obtain ⟨⟨hv, hL⟩, hb⟩ := hv
  have hbL := allI_iff.1 hb
  obtain ⟨hs, hl1, hl2⟩ := vF_iff.1 hv
  have hfl := fL2_length al s s.length
  refine bcall_of (pins := []) (pin := 0) l70_eq rfl rfl rfl ?_
  cases big with
  | true =>
    (repeat' (first
      | (first | refine awp_seq ?_ | refine awp_block ?_)
      | ((first | refine awp_reg ?_ | refine awp_draw (mid := l70r1a) (post := l70r1b) mixed (by decide) ?_ | refine awp_condB ?_ | refine awp_skip ?_ | refine awp_exit ?_); simp (maxSteps := 400000) (disch := omega) only [push_cast, seval, l70r0, l70r1a, l70r1b, l70r1, l70r2, l70r3, l70r4, l70r5, l70r6, l70r7, Int.toNat_natCast])
      | ((first | refine condB_split (fun h => ?_) (fun h => ?_) | refine gIf_split (fun h => ?_) (fun h => ?_) | refine qIf_split (fun h => ?_) (fun h => ?_)) <;> (try simp only [h]) <;> (try simp only [decide_eq_true_eq, decide_eq_false_iff_not, Bool.not_eq_true', Bool.not_eq_false', Bool.and_eq_true, Bool.or_eq_true, Bool.and_eq_false_iff, Bool.or_eq_false_iff, Int.not_le, Int.not_lt, bne_iff_ne, ne_eq, beq_iff_eq, Bool.not_eq_true, Bool.not_eq_false] at h) <;> (try simp only [h]) <;> (first | (exfalso; omega) | (focus (exfalso; simp_all; done)) | (simp (maxSteps := 400000) (disch := omega) only [push_cast, seval, Int.toNat_natCast]) | skip))
      | ((first | refine callD_of false ?_ | refine qcallD_of false ?_); simp (maxSteps := 400000) (disch := omega) only [push_cast, seval, Int.toNat_natCast])
      | ((first | ((first | refine call0D (BCall.ofP (order_ok _ _ _ _)) ?_ | refine qcall0D (BCall.ofP (order_ok _ _ _ _)) ⟨_, _, rfl, rfl⟩ ?_); rintro _ _ ⟨rfl, rfl⟩) | ((first | refine call0D (ifields_ok _ _ _ _ ?_ ?_) ?_ | refine qcall0D (ifields_ok _ _ _ _ ?_ ?_) ⟨_, _, rfl, rfl⟩ ?_); (iterate 2 (focus (first | assumption | rfl | omega | (simp <;> omega) | (simp_all <;> omega)))); rintro _ _ ⟨rfl, rfl⟩) | ((first | refine call0D (BCall.ofP (readH_ok _ _ _ _ ?_ ?_)) ?_ | refine qcall0D (BCall.ofP (readH_ok _ _ _ _ ?_ ?_)) ⟨_, _, rfl, rfl⟩ ?_); (iterate 2 (focus (first | assumption | rfl | omega | (simp <;> omega) | (simp_all <;> omega)))); rintro _ _ ⟨rfl, rfl⟩) | ((first | refine call0D (BCall.ofP (readL_ok _ _ _ _ ?_ ?_)) ?_ | refine qcall0D (BCall.ofP (readL_ok _ _ _ _ ?_ ?_)) ⟨_, _, rfl, rfl⟩ ?_); (iterate 2 (focus (first | assumption | rfl | omega | (simp <;> omega) | (simp_all <;> omega)))); rintro _ _ ⟨rfl, rfl⟩)) <;> (try simp (maxSteps := 400000) (disch := omega) only [push_cast, seval, Int.toNat_natCast]))
      | (refine awp_ret ⟨.inr rfl, [192], [], _, by decide, rfl, ?_⟩; (try simp (maxSteps := 400000) (disch := omega) only [push_cast, seval, ↓allMem_nil, ↓allMem_cons, ↓List.map_cons, ↓List.map_nil, Int.toNat_natCast]))))
    refine awp_loop (fun k : Nat => mkS [(1, RI L), (5, .own 192 s.length 1), (6, .ref 96 1 0), (16, .own 256 s.length 2), (17, .int .i64 s.length), (18, .int .i64 k)] [(192, IL (filled (upF al true s L) s.length k)), (96, [.val (.func (.func 103) #[] #[])]), (256, IL (fL2 al s s.length))])
      (fun k => k ≤ s.length) (fun k => s.length - k) 0 (Nat.zero_le _) ?_ ?_
    · (refine Sub.of_lists ?_ ?_ ?_ ?_ ?_ <;> simp [Vw.mkS, Vw.lk, Vw.hk, AV.inn, innL, innL_ints, innL_append, innL_rep, -List.map_set, -List.getD_eq_getElem?_getD, filled_zero])
    · intro k hk
      have hul := filled_length (upF al true s L) s.length k
      by_cases hlt : k < s.length
      · obtain ⟨r1, r2, r3, r4, r5, r6, r7, r8⟩ := pk_room (al := al) hv hlt
        rw [← hL] at r1 r5
        have g := fL2_get (al := al) (s := s) (n := s.length) (k := k) hlt
        have htd := td2 (by omega) (g.1.trans r7) (g.2.trans r8)
        have e5 := filled_set (upF al true s L) s.length k hlt
        have e6 : upF al true s L k = rdK L true (fP al s k).toNat (s.getD k 0).toNat (s.getD k 0).toNat := rfl
        have hif : k * 2 + 2 ≤ s.length * 2 := by omega
        have hz1 : 1 ≤ (s.getD k 0).toNat := by omega
        have hz2 : (s.getD k 0).toNat ≤ 4 := by omega
        have hm100 : L.length ≤ 100 := by omega
        clear g r2 r3 r4 r6 r7 r8
        generalize hp : (fP al s k).toNat = p at *
        generalize hz : (s.getD k 0).toNat = z at *
        rw [e6] at e5
        have hq : (L.length ≤ 100 ∧ (1 ≤ z ∧ z ≤ 4) ∧ p + z ≤ L.length) ∧ ∀ x ∈ L, 0 ≤ x ∧ x ≤ 255 := ⟨by omega, hbL⟩
        generalize hU : filled (upF al true s L) s.length k = U at *
        generalize hQ : fL2 al s s.length = Q at *
        clear hb hs hbL
        (repeat' (first
      | (first | refine awp_seq ?_ | refine awp_block ?_)
      | ((first | refine awp_reg ?_ | refine awp_draw (mid := l70r1a) (post := l70r1b) mixed (by decide) ?_ | refine awp_condB ?_ | refine awp_skip ?_ | refine awp_exit ?_); simp (maxSteps := 400000) (disch := omega) only [push_cast, seval, l70r0, l70r1a, l70r1b, l70r1, l70r2, l70r3, l70r4, l70r5, l70r6, l70r7, htd, hif, hfl, hul, IL_set, List.length_map])
      | ((first | refine condB_split (fun h => ?_) (fun h => ?_) | refine gIf_split (fun h => ?_) (fun h => ?_) | refine qIf_split (fun h => ?_) (fun h => ?_)) <;> (try simp only [h]) <;> (try simp only [decide_eq_true_eq, decide_eq_false_iff_not, Bool.not_eq_true', Bool.not_eq_false', Bool.and_eq_true, Bool.or_eq_true, Bool.and_eq_false_iff, Bool.or_eq_false_iff, Int.not_le, Int.not_lt, bne_iff_ne, ne_eq, beq_iff_eq, Bool.not_eq_true, Bool.not_eq_false] at h) <;> (try simp only [h]) <;> (first | (exfalso; omega) | (focus (exfalso; simp_all; done)) | (simp (maxSteps := 400000) (disch := omega) only [push_cast, seval, htd, hif, hfl, hul, IL_set, List.length_map]) | skip))
      | ((first | refine callD_of false ?_ | refine qcallD_of false ?_); simp (maxSteps := 400000) (disch := omega) only [push_cast, seval, htd, hif, hfl, hul, IL_set, List.length_map])
      | ((first | ((first | refine call0D (BCall.ofP (order_ok _ _ _ _)) ?_ | refine qcall0D (BCall.ofP (order_ok _ _ _ _)) ⟨_, _, rfl, rfl⟩ ?_); rintro _ _ ⟨rfl, rfl⟩) | ((first | refine call0D (ifields_ok _ _ _ _ ?_ ?_) ?_ | refine qcall0D (ifields_ok _ _ _ _ ?_ ?_) ⟨_, _, rfl, rfl⟩ ?_); (iterate 2 (focus (first | assumption | rfl | omega | (simp <;> omega) | (simp_all <;> omega)))); rintro _ _ ⟨rfl, rfl⟩) | ((first | refine call0D (BCall.ofP (readH_ok _ _ _ _ ?_ ?_)) ?_ | refine qcall0D (BCall.ofP (readH_ok _ _ _ _ ?_ ?_)) ⟨_, _, rfl, rfl⟩ ?_); (iterate 2 (focus (first | assumption | rfl | omega | (simp <;> omega) | (simp_all <;> omega)))); rintro _ _ ⟨rfl, rfl⟩) | ((first | refine call0D (BCall.ofP (readL_ok _ _ _ _ ?_ ?_)) ?_ | refine qcall0D (BCall.ofP (readL_ok _ _ _ _ ?_ ?_)) ⟨_, _, rfl, rfl⟩ ?_); (iterate 2 (focus (first | assumption | rfl | omega | (simp <;> omega) | (simp_all <;> omega)))); rintro _ _ ⟨rfl, rfl⟩)) <;> (try simp (maxSteps := 400000) (disch := omega) only [push_cast, seval, htd, hif, hfl, hul, IL_set, List.length_map]))
      | (refine awp_ret ⟨.inr rfl, [192], [], _, by decide, rfl, ?_⟩; (try simp (maxSteps := 400000) (disch := omega) only [push_cast, seval, ↓allMem_nil, ↓allMem_cons, ↓List.map_cons, ↓List.map_nil, htd, hif, hfl, hul, IL_set, List.length_map]))))
        refine ⟨k + 1, by omega, by omega, ?_⟩
        (refine Sub.of_lists ?_ ?_ ?_ ?_ ?_ <;> simp [Vw.mkS, Vw.lk, Vw.hk, AV.inn, innL, innL_ints, innL_append, innL_rep, -List.map_set, -List.getD_eq_getElem?_getD, e5, hU, hQ])
      · have e : k = s.length := by omega
        subst e
        rw [filled_all, ← upL_eq] at hul ⊢
        (repeat' (first
      | (first | refine awp_seq ?_ | refine awp_block ?_)
      | ((first | refine awp_reg ?_ | refine awp_draw (mid := l70r1a) (post := l70r1b) mixed (by decide) ?_ | refine awp_condB ?_ | refine awp_skip ?_ | refine awp_exit ?_); simp (maxSteps := 400000) (disch := omega) only [push_cast, seval, l70r0, l70r1a, l70r1b, l70r1, l70r2, l70r3, l70r4, l70r5, l70r6, l70r7, hul, hfl])
      | ((first | refine condB_split (fun h => ?_) (fun h => ?_) | refine gIf_split (fun h => ?_) (fun h => ?_) | refine qIf_split (fun h => ?_) (fun h => ?_)) <;> (try simp only [h]) <;> (try simp only [decide_eq_true_eq, decide_eq_false_iff_not, Bool.not_eq_true', Bool.not_eq_false', Bool.and_eq_true, Bool.or_eq_true, Bool.and_eq_false_iff, Bool.or_eq_false_iff, Int.not_le, Int.not_lt, bne_iff_ne, ne_eq, beq_iff_eq, Bool.not_eq_true, Bool.not_eq_false] at h) <;> (try simp only [h]) <;> (first | (exfalso; omega) | (focus (exfalso; simp_all; done)) | (simp (maxSteps := 400000) (disch := omega) only [push_cast, seval, hul, hfl]) | skip))
      | ((first | refine callD_of false ?_ | refine qcallD_of false ?_); simp (maxSteps := 400000) (disch := omega) only [push_cast, seval, hul, hfl])
      | ((first | ((first | refine call0D (BCall.ofP (order_ok _ _ _ _)) ?_ | refine qcall0D (BCall.ofP (order_ok _ _ _ _)) ⟨_, _, rfl, rfl⟩ ?_); rintro _ _ ⟨rfl, rfl⟩) | ((first | refine call0D (ifields_ok _ _ _ _ ?_ ?_) ?_ | refine qcall0D (ifields_ok _ _ _ _ ?_ ?_) ⟨_, _, rfl, rfl⟩ ?_); (iterate 2 (focus (first | assumption | rfl | omega | (simp <;> omega) | (simp_all <;> omega)))); rintro _ _ ⟨rfl, rfl⟩) | ((first | refine call0D (BCall.ofP (readH_ok _ _ _ _ ?_ ?_)) ?_ | refine qcall0D (BCall.ofP (readH_ok _ _ _ _ ?_ ?_)) ⟨_, _, rfl, rfl⟩ ?_); (iterate 2 (focus (first | assumption | rfl | omega | (simp <;> omega) | (simp_all <;> omega)))); rintro _ _ ⟨rfl, rfl⟩) | ((first | refine call0D (BCall.ofP (readL_ok _ _ _ _ ?_ ?_)) ?_ | refine qcall0D (BCall.ofP (readL_ok _ _ _ _ ?_ ?_)) ⟨_, _, rfl, rfl⟩ ?_); (iterate 2 (focus (first | assumption | rfl | omega | (simp <;> omega) | (simp_all <;> omega)))); rintro _ _ ⟨rfl, rfl⟩)) <;> (try simp (maxSteps := 400000) (disch := omega) only [push_cast, seval, hul, hfl]))
      | (refine awp_ret ⟨.inr rfl, [192], [], _, by decide, rfl, ?_⟩; (try simp (maxSteps := 400000) (disch := omega) only [push_cast, seval, ↓allMem_nil, ↓allMem_cons, ↓List.map_cons, ↓List.map_nil, hul, hfl]))))
        all_goals simp
  | false =>
    (repeat' (first
      | (first | refine awp_seq ?_ | refine awp_block ?_)
      | ((first | refine awp_reg ?_ | refine awp_draw (mid := l70r1a) (post := l70r1b) mixed (by decide) ?_ | refine awp_condB ?_ | refine awp_skip ?_ | refine awp_exit ?_); simp (maxSteps := 400000) (disch := omega) only [push_cast, seval, l70r0, l70r1a, l70r1b, l70r1, l70r2, l70r3, l70r4, l70r5, l70r6, l70r7, Int.toNat_natCast])
      | ((first | refine condB_split (fun h => ?_) (fun h => ?_) | refine gIf_split (fun h => ?_) (fun h => ?_) | refine qIf_split (fun h => ?_) (fun h => ?_)) <;> (try simp only [h]) <;> (try simp only [decide_eq_true_eq, decide_eq_false_iff_not, Bool.not_eq_true', Bool.not_eq_false', Bool.and_eq_true, Bool.or_eq_true, Bool.and_eq_false_iff, Bool.or_eq_false_iff, Int.not_le, Int.not_lt, bne_iff_ne, ne_eq, beq_iff_eq, Bool.not_eq_true, Bool.not_eq_false] at h) <;> (try simp only [h]) <;> (first | (exfalso; omega) | (focus (exfalso; simp_all; done)) | (simp (maxSteps := 400000) (disch := omega) only [push_cast, seval, Int.toNat_natCast]) | skip))
      | ((first | refine callD_of false ?_ | refine qcallD_of false ?_); simp (maxSteps := 400000) (disch := omega) only [push_cast, seval, Int.toNat_natCast])
      | ((first | ((first | refine call0D (BCall.ofP (order_ok _ _ _ _)) ?_ | refine qcall0D (BCall.ofP (order_ok _ _ _ _)) ⟨_, _, rfl, rfl⟩ ?_); rintro _ _ ⟨rfl, rfl⟩) | ((first | refine call0D (ifields_ok _ _ _ _ ?_ ?_) ?_ | refine qcall0D (ifields_ok _ _ _ _ ?_ ?_) ⟨_, _, rfl, rfl⟩ ?_); (iterate 2 (focus (first | assumption | rfl | omega | (simp <;> omega) | (simp_all <;> omega)))); rintro _ _ ⟨rfl, rfl⟩) | ((first | refine call0D (BCall.ofP (readH_ok _ _ _ _ ?_ ?_)) ?_ | refine qcall0D (BCall.ofP (readH_ok _ _ _ _ ?_ ?_)) ⟨_, _, rfl, rfl⟩ ?_); (iterate 2 (focus (first | assumption | rfl | omega | (simp <;> omega) | (simp_all <;> omega)))); rintro _ _ ⟨rfl, rfl⟩) | ((first | refine call0D (BCall.ofP (readL_ok _ _ _ _ ?_ ?_)) ?_ | refine qcall0D (BCall.ofP (readL_ok _ _ _ _ ?_ ?_)) ⟨_, _, rfl, rfl⟩ ?_); (iterate 2 (focus (first | assumption | rfl | omega | (simp <;> omega) | (simp_all <;> omega)))); rintro _ _ ⟨rfl, rfl⟩)) <;> (try simp (maxSteps := 400000) (disch := omega) only [push_cast, seval, Int.toNat_natCast]))
      | (refine awp_ret ⟨.inr rfl, [192], [], _, by decide, rfl, ?_⟩; (try simp (maxSteps := 400000) (disch := omega) only [push_cast, seval, ↓allMem_nil, ↓allMem_cons, ↓List.map_cons, ↓List.map_nil, Int.toNat_natCast]))))
    refine awp_loop (fun k : Nat => mkS [(1, RI L), (5, .own 192 s.length 1), (6, .ref 96 1 0), (16, .own 256 s.length 2), (17, .int .i64 s.length), (18, .int .i64 k)] [(192, IL (filled (upF al false s L) s.length k)), (96, [.val (.func (.func 104) #[] #[])]), (256, IL (fL2 al s s.length))])
      (fun k => k ≤ s.length) (fun k => s.length - k) 0 (Nat.zero_le _) ?_ ?_
    · (refine Sub.of_lists ?_ ?_ ?_ ?_ ?_ <;> simp [Vw.mkS, Vw.lk, Vw.hk, AV.inn, innL, innL_ints, innL_append, innL_rep, -List.map_set, -List.getD_eq_getElem?_getD, filled_zero])
    · intro k hk
      have hul := filled_length (upF al false s L) s.length k
      by_cases hlt : k < s.length
      · obtain ⟨r1, r2, r3, r4, r5, r6, r7, r8⟩ := pk_room (al := al) hv hlt
        rw [← hL] at r1 r5
        have g := fL2_get (al := al) (s := s) (n := s.length) (k := k) hlt
        have htd := td2 (by omega) (g.1.trans r7) (g.2.trans r8)
        have e5 := filled_set (upF al false s L) s.length k hlt
        have e6 : upF al false s L k = rdK L false (fP al s k).toNat (s.getD k 0).toNat (s.getD k 0).toNat := rfl
        have hif : k * 2 + 2 ≤ s.length * 2 := by omega
        have hz1 : 1 ≤ (s.getD k 0).toNat := by omega
        have hz2 : (s.getD k 0).toNat ≤ 4 := by omega
        have hm100 : L.length ≤ 100 := by omega
        clear g r2 r3 r4 r6 r7 r8
        generalize hp : (fP al s k).toNat = p at *
        generalize hz : (s.getD k 0).toNat = z at *
        rw [e6] at e5
        have hq : (L.length ≤ 100 ∧ (1 ≤ z ∧ z ≤ 4) ∧ p + z ≤ L.length) ∧ ∀ x ∈ L, 0 ≤ x ∧ x ≤ 255 := ⟨by omega, hbL⟩
        generalize hU : filled (upF al false s L) s.length k = U at *
        generalize hQ : fL2 al s s.length = Q at *
        clear hb hs hbL
        (repeat' (first
      | (first | refine awp_seq ?_ | refine awp_block ?_)
      | ((first | refine awp_reg ?_ | refine awp_draw (mid := l70r1a) (post := l70r1b) mixed (by decide) ?_ | refine awp_condB ?_ | refine awp_skip ?_ | refine awp_exit ?_); simp (maxSteps := 400000) (disch := omega) only [push_cast, seval, l70r0, l70r1a, l70r1b, l70r1, l70r2, l70r3, l70r4, l70r5, l70r6, l70r7, htd, hif, hfl, hul, IL_set, List.length_map])
      | ((first | refine condB_split (fun h => ?_) (fun h => ?_) | refine gIf_split (fun h => ?_) (fun h => ?_) | refine qIf_split (fun h => ?_) (fun h => ?_)) <;> (try simp only [h]) <;> (try simp only [decide_eq_true_eq, decide_eq_false_iff_not, Bool.not_eq_true', Bool.not_eq_false', Bool.and_eq_true, Bool.or_eq_true, Bool.and_eq_false_iff, Bool.or_eq_false_iff, Int.not_le, Int.not_lt, bne_iff_ne, ne_eq, beq_iff_eq, Bool.not_eq_true, Bool.not_eq_false] at h) <;> (try simp only [h]) <;> (first | (exfalso; omega) | (focus (exfalso; simp_all; done)) | (simp (maxSteps := 400000) (disch := omega) only [push_cast, seval, htd, hif, hfl, hul, IL_set, List.length_map]) | skip))
      | ((first | refine callD_of false ?_ | refine qcallD_of false ?_); simp (maxSteps := 400000) (disch := omega) only [push_cast, seval, htd, hif, hfl, hul, IL_set, List.length_map])
      | ((first | ((first | refine call0D (BCall.ofP (order_ok _ _ _ _)) ?_ | refine qcall0D (BCall.ofP (order_ok _ _ _ _)) ⟨_, _, rfl, rfl⟩ ?_); rintro _ _ ⟨rfl, rfl⟩) | ((first | refine call0D (ifields_ok _ _ _ _ ?_ ?_) ?_ | refine qcall0D (ifields_ok _ _ _ _ ?_ ?_) ⟨_, _, rfl, rfl⟩ ?_); (iterate 2 (focus (first | assumption | rfl | omega | (simp <;> omega) | (simp_all <;> omega)))); rintro _ _ ⟨rfl, rfl⟩) | ((first | refine call0D (BCall.ofP (readH_ok _ _ _ _ ?_ ?_)) ?_ | refine qcall0D (BCall.ofP (readH_ok _ _ _ _ ?_ ?_)) ⟨_, _, rfl, rfl⟩ ?_); (iterate 2 (focus (first | assumption | rfl | omega | (simp <;> omega) | (simp_all <;> omega)))); rintro _ _ ⟨rfl, rfl⟩) | ((first | refine call0D (BCall.ofP (readL_ok _ _ _ _ ?_ ?_)) ?_ | refine qcall0D (BCall.ofP (readL_ok _ _ _ _ ?_ ?_)) ⟨_, _, rfl, rfl⟩ ?_); (iterate 2 (focus (first | assumption | rfl | omega | (simp <;> omega) | (simp_all <;> omega)))); rintro _ _ ⟨rfl, rfl⟩)) <;> (try simp (maxSteps := 400000) (disch := omega) only [push_cast, seval, htd, hif, hfl, hul, IL_set, List.length_map]))
      | (refine awp_ret ⟨.inr rfl, [192], [], _, by decide, rfl, ?_⟩; (try simp (maxSteps := 400000) (disch := omega) only [push_cast, seval, ↓allMem_nil, ↓allMem_cons, ↓List.map_cons, ↓List.map_nil, htd, hif, hfl, hul, IL_set, List.length_map]))))
        refine ⟨k + 1, by omega, by omega, ?_⟩
        (refine Sub.of_lists ?_ ?_ ?_ ?_ ?_ <;> simp [Vw.mkS, Vw.lk, Vw.hk, AV.inn, innL, innL_ints, innL_append, innL_rep, -List.map_set, -List.getD_eq_getElem?_getD, e5, hU, hQ])
      · have e : k = s.length := by omega
        subst e
        rw [filled_all, ← upL_eq] at hul ⊢
        (repeat' (first
      | (first | refine awp_seq ?_ | refine awp_block ?_)
      | ((first | refine awp_reg ?_ | refine awp_draw (mid := l70r1a) (post := l70r1b) mixed (by decide) ?_ | refine awp_condB ?_ | refine awp_skip ?_ | refine awp_exit ?_); simp (maxSteps := 400000) (disch := omega) only [push_cast, seval, l70r0, l70r1a, l70r1b, l70r1, l70r2, l70r3, l70r4, l70r5, l70r6, l70r7, hul, hfl])
      | ((first | refine condB_split (fun h => ?_) (fun h => ?_) | refine gIf_split (fun h => ?_) (fun h => ?_) | refine qIf_split (fun h => ?_) (fun h => ?_)) <;> (try simp only [h]) <;> (try simp only [decide_eq_true_eq, decide_eq_false_iff_not, Bool.not_eq_true', Bool.not_eq_false', Bool.and_eq_true, Bool.or_eq_true, Bool.and_eq_false_iff, Bool.or_eq_false_iff, Int.not_le, Int.not_lt, bne_iff_ne, ne_eq, beq_iff_eq, Bool.not_eq_true, Bool.not_eq_false] at h) <;> (try simp only [h]) <;> (first | (exfalso; omega) | (focus (exfalso; simp_all; done)) | (simp (maxSteps := 400000) (disch := omega) only [push_cast, seval, hul, hfl]) | skip))
      | ((first | refine callD_of false ?_ | refine qcallD_of false ?_); simp (maxSteps := 400000) (disch := omega) only [push_cast, seval, hul, hfl])
      | ((first | ((first | refine call0D (BCall.ofP (order_ok _ _ _ _)) ?_ | refine qcall0D (BCall.ofP (order_ok _ _ _ _)) ⟨_, _, rfl, rfl⟩ ?_); rintro _ _ ⟨rfl, rfl⟩) | ((first | refine call0D (ifields_ok _ _ _ _ ?_ ?_) ?_ | refine qcall0D (ifields_ok _ _ _ _ ?_ ?_) ⟨_, _, rfl, rfl⟩ ?_); (iterate 2 (focus (first | assumption | rfl | omega | (simp <;> omega) | (simp_all <;> omega)))); rintro _ _ ⟨rfl, rfl⟩) | ((first | refine call0D (BCall.ofP (readH_ok _ _ _ _ ?_ ?_)) ?_ | refine qcall0D (BCall.ofP (readH_ok _ _ _ _ ?_ ?_)) ⟨_, _, rfl, rfl⟩ ?_); (iterate 2 (focus (first | assumption | rfl | omega | (simp <;> omega) | (simp_all <;> omega)))); rintro _ _ ⟨rfl, rfl⟩) | ((first | refine call0D (BCall.ofP (readL_ok _ _ _ _ ?_ ?_)) ?_ | refine qcall0D (BCall.ofP (readL_ok _ _ _ _ ?_ ?_)) ⟨_, _, rfl, rfl⟩ ?_); (iterate 2 (focus (first | assumption | rfl | omega | (simp <;> omega) | (simp_all <;> omega)))); rintro _ _ ⟨rfl, rfl⟩)) <;> (try simp (maxSteps := 400000) (disch := omega) only [push_cast, seval, hul, hfl]))
      | (refine awp_ret ⟨.inr rfl, [192], [], _, by decide, rfl, ?_⟩; (try simp (maxSteps := 400000) (disch := omega) only [push_cast, seval, ↓allMem_nil, ↓allMem_cons, ↓List.map_cons, ↓List.map_nil, hul, hfl]))))
        all_goals simp

end Go.Proofs.YtclampodmlklpaaDoor
