import Derived.Test.YtclampodmlklpaaDoorCKi1
import Derived.Test.YtclampodmlklpaaDoorCM1
import Derived.Test.YtclampodmlklpaaDoorCW3
set_option linter.unusedSimpArgs false
set_option linter.unusedVariables false
set_option linter.unnecessarySimpa false
set_option maxRecDepth 4000
set_option maxHeartbeats 4000000
namespace Go.Proofs.YtclampodmlklpaaDoor
open VwM Vw Go

theorem vI_snoc {s vs : List Int} {k : Nat} (h : ∀ j : Nat, j < k → 0 ≤ vs.getD j 0 ∧ vs.getD j 0 ≤ pw (s.getD j 0).toNat - 1) (hk : 0 ≤ vs.getD k 0 ∧ vs.getD k 0 ≤ pw (s.getD k 0).toNat - 1) : ∀ j : Nat, j < k + 1 → 0 ≤ vs.getD j 0 ∧ vs.getD j 0 ≤ pw (s.getD j 0).toNat - 1 := fun j hj => by
  by_cases e : j = k
  · rw [e]; exact hk
  · exact h j (by omega)


set_option maxHeartbeats 8000000 in
theorem ifields_ok (s : List Int) (n : Nat) (big al : Bool) (hn : s.length = n) (hv : vF s = true) : BCall Tryd.prog 58 [.agg [.rows false (IL s) n, .bool big, .bool al]] [] (fun r H' => r = .own 0 n 2 ∧ H' = [IL (fL2 al s n)]) := by
  subst hn
  obtain ⟨hs, hl1, hl2⟩ := vF_iff.1 hv
  clear hv
  refine bcall_of (pins := []) (pin := 0) l58_eq rfl rfl rfl ?_
  (repeat' (first
      | (first | refine awp_seq ?_ | refine awp_block ?_)
      | ((first | refine awp_reg ?_ | refine awp_condB ?_ | refine awp_skip ?_ | refine awp_exit ?_); simp (maxSteps := 400000) (disch := omega) only [push_cast, seval, l58r0, l58r1, l58r2, l58r3, l58r4, l58r5, l58r6, l58r7, l58r8, l58r9, zcells2, Int.toNat_natCast])
      | ((first | refine condB_split (fun h => ?_) (fun h => ?_) | refine gIf_split (fun h => ?_) (fun h => ?_) | refine qIf_split (fun h => ?_) (fun h => ?_)) <;> (try simp only [h]) <;> (try simp only [decide_eq_true_eq, decide_eq_false_iff_not, Bool.not_eq_true', Bool.not_eq_false', Bool.and_eq_true, Bool.or_eq_true, Bool.and_eq_false_iff, Bool.or_eq_false_iff, Int.not_le, Int.not_lt, bne_iff_ne, ne_eq, beq_iff_eq, Bool.not_eq_true, Bool.not_eq_false] at h) <;> (try simp only [h]) <;> (first | (exfalso; omega) | (focus (exfalso; simp_all; done)) | (simp (maxSteps := 400000) (disch := omega) only [push_cast, seval, zcells2, Int.toNat_natCast]) | skip))
      | ((first | refine callD_of false ?_ | refine qcallD_of false ?_); simp (maxSteps := 400000) (disch := omega) only [push_cast, seval, zcells2, Int.toNat_natCast])
      | ((first | ((first | refine call0D (BCall.ofP (alg_ok _ _ _ _ _ _ ?_)) ?_ | refine qcall0D (BCall.ofP (alg_ok _ _ _ _ _ _ ?_)) ⟨_, _, rfl, rfl⟩ ?_); (focus (first | assumption | rfl | omega | (simp <;> omega) | (simp_all <;> omega))); rintro _ _ ⟨rfl, rfl⟩) | ((first | refine call0D (BCall.ofP (fEnd_ok _ _ ?_)) ?_ | refine qcall0D (BCall.ofP (fEnd_ok _ _ ?_)) ⟨_, _, rfl, rfl⟩ ?_); (focus (first | assumption | rfl | omega | (simp <;> omega) | (simp_all <;> omega))); rintro _ _ ⟨rfl, rfl⟩)) <;> (try simp (maxSteps := 400000) (disch := omega) only [push_cast, seval, zcells2, Int.toNat_natCast]))
      | (refine awp_ret ⟨.inr rfl, [160], [], _, by decide, rfl, ?_⟩; (try simp (maxSteps := 400000) (disch := omega) only [push_cast, seval, ↓allMem_nil, ↓allMem_cons, ↓List.map_cons, ↓List.map_nil, zcells2, Int.toNat_natCast]); (first | done | (show AV.own _ _ _ = _ ∧ _)))
      | (refine awp_ret ⟨.inr rfl, [384], [], _, by decide, rfl, ?_⟩; (try simp (maxSteps := 400000) (disch := omega) only [push_cast, seval, ↓allMem_nil, ↓allMem_cons, ↓List.map_cons, ↓List.map_nil, zcells2, Int.toNat_natCast]); (first | done | (show AV.own _ _ _ = _ ∧ _)))
      | (refine awp_ret ⟨.inr rfl, [512], [], _, by decide, rfl, ?_⟩; (try simp (maxSteps := 400000) (disch := omega) only [push_cast, seval, ↓allMem_nil, ↓allMem_cons, ↓List.map_cons, ↓List.map_nil, zcells2, Int.toNat_natCast]); (first | done | (show AV.own _ _ _ = _ ∧ _)))))
  refine awp_loop (fun k : Nat => mkS [(1, .ref 16 3 0), (3, .own 160 s.length 2), (4, .int .i64 (fE al s k)), (12, RI s), (13, .int .i64 s.length), (14, .int .i64 k)] [(160, IL (fZ2 al s k)), (16, [RI s, .bool big, .bool al])])
    (fun k => k ≤ s.length) (fun k => s.length - k) 0 (Nat.zero_le _) ?_ ?_
  · rw [fZ2_zero]
    have e0 : fE al s 0 = 0 := rfl
    (refine Sub.of_lists ?_ ?_ ?_ ?_ ?_ <;> simp [Vw.mkS, Vw.lk, Vw.hk, AV.inn, innL, innL_ints, innL_append, innL_rep, -List.map_set, -List.getD_eq_getElem?_getD, e0])
  · intro k hk
    have hfl := fZ2_length al s k hk
    by_cases hlt : k < s.length
    · have b1 := fP_bound (al := al) hs k hlt
      have b2 := hs k hlt
      have b3 := fE_bound (al := al) hs k (by omega)
      have hq : (0 ≤ fE al s k ∧ fE al s k ≤ 1000) ∧ 1 ≤ s.getD k 0 ∧ s.getD k 0 ≤ 4 := by omega
      have hq2 : 0 ≤ fP al s k ∧ fP al s k ≤ 1000 ∧ 0 ≤ s.getD k 0 ∧ s.getD k 0 ≤ 1000 := by omega
      have e1 : alg al (fE al s k) (s.getD k 0) = fP al s k := rfl
      have e2 := fZ2_set (al := al) hlt
      have e3 : fE al s (k + 1) = fP al s k + s.getD k 0 := rfl
      have hfl2 := fZ2_length al s (k + 1) (by omega)
      have g1 := fZ2_get (al := al) (s := s) (n := k + 1) (k := k) (by omega)
      generalize hZ : fZ2 al s k = Z at *
      generalize hZ2 : fZ2 al s (k + 1) = Z2 at *
      generalize hP : fP al s k = P at *
      generalize hS : s.getD k 0 = x at *
      obtain ⟨g1, g2⟩ := g1
      have htd := td2 (by omega) g1 g2
      clear hZ b1 b2
      (repeat' (first
      | (first | refine awp_seq ?_ | refine awp_block ?_)
      | ((first | refine awp_reg ?_ | refine awp_condB ?_ | refine awp_skip ?_ | refine awp_exit ?_); simp (maxSteps := 400000) (disch := omega) only [push_cast, seval, l58r0, l58r1, l58r2, l58r3, l58r4, l58r5, l58r6, l58r7, l58r8, l58r9, e1, hS, hfl, List.length_map, setRange2, IL_set, e2, hfl2, htd])
      | ((first | refine condB_split (fun h => ?_) (fun h => ?_) | refine gIf_split (fun h => ?_) (fun h => ?_) | refine qIf_split (fun h => ?_) (fun h => ?_)) <;> (try simp only [h]) <;> (try simp only [decide_eq_true_eq, decide_eq_false_iff_not, Bool.not_eq_true', Bool.not_eq_false', Bool.and_eq_true, Bool.or_eq_true, Bool.and_eq_false_iff, Bool.or_eq_false_iff, Int.not_le, Int.not_lt, bne_iff_ne, ne_eq, beq_iff_eq, Bool.not_eq_true, Bool.not_eq_false] at h) <;> (try simp only [h]) <;> (first | (exfalso; omega) | (focus (exfalso; simp_all; done)) | (simp (maxSteps := 400000) (disch := omega) only [push_cast, seval, e1, hS, hfl, List.length_map, setRange2, IL_set, e2, hfl2, htd]) | skip))
      | ((first | refine callD_of false ?_ | refine qcallD_of false ?_); simp (maxSteps := 400000) (disch := omega) only [push_cast, seval, e1, hS, hfl, List.length_map, setRange2, IL_set, e2, hfl2, htd])
      | ((first | ((first | refine call0D (BCall.ofP (alg_ok _ _ _ _ _ _ ?_)) ?_ | refine qcall0D (BCall.ofP (alg_ok _ _ _ _ _ _ ?_)) ⟨_, _, rfl, rfl⟩ ?_); (focus (first | assumption | rfl | omega | (simp <;> omega) | (simp_all <;> omega))); rintro _ _ ⟨rfl, rfl⟩) | ((first | refine call0D (BCall.ofP (fEnd_ok _ _ ?_)) ?_ | refine qcall0D (BCall.ofP (fEnd_ok _ _ ?_)) ⟨_, _, rfl, rfl⟩ ?_); (focus (first | assumption | rfl | omega | (simp <;> omega) | (simp_all <;> omega))); rintro _ _ ⟨rfl, rfl⟩)) <;> (try simp (maxSteps := 400000) (disch := omega) only [push_cast, seval, e1, hS, hfl, List.length_map, setRange2, IL_set, e2, hfl2, htd]))
      | (refine awp_ret ⟨.inr rfl, [160], [], _, by decide, rfl, ?_⟩; (try simp (maxSteps := 400000) (disch := omega) only [push_cast, seval, ↓allMem_nil, ↓allMem_cons, ↓List.map_cons, ↓List.map_nil, e1, hS, hfl, List.length_map, setRange2, IL_set, e2, hfl2, htd]); (first | done | (show AV.own _ _ _ = _ ∧ _)))
      | (refine awp_ret ⟨.inr rfl, [384], [], _, by decide, rfl, ?_⟩; (try simp (maxSteps := 400000) (disch := omega) only [push_cast, seval, ↓allMem_nil, ↓allMem_cons, ↓List.map_cons, ↓List.map_nil, e1, hS, hfl, List.length_map, setRange2, IL_set, e2, hfl2, htd]); (first | done | (show AV.own _ _ _ = _ ∧ _)))
      | (refine awp_ret ⟨.inr rfl, [512], [], _, by decide, rfl, ?_⟩; (try simp (maxSteps := 400000) (disch := omega) only [push_cast, seval, ↓allMem_nil, ↓allMem_cons, ↓List.map_cons, ↓List.map_nil, e1, hS, hfl, List.length_map, setRange2, IL_set, e2, hfl2, htd]); (first | done | (show AV.own _ _ _ = _ ∧ _)))))
      refine ⟨k + 1, by omega, by omega, ?_⟩
      (refine Sub.of_lists ?_ ?_ ?_ ?_ ?_ <;> simp [Vw.mkS, Vw.lk, Vw.hk, AV.inn, innL, innL_ints, innL_append, innL_rep, -List.map_set, -List.getD_eq_getElem?_getD, e3, hP, hS, hZ2])
    · have e : k = s.length := by omega
      subst e
      rw [fZ2_all] at hfl ⊢
      (repeat' (first
      | (first | refine awp_seq ?_ | refine awp_block ?_)
      | ((first | refine awp_reg ?_ | refine awp_condB ?_ | refine awp_skip ?_ | refine awp_exit ?_); simp (maxSteps := 400000) (disch := omega) only [push_cast, seval, l58r0, l58r1, l58r2, l58r3, l58r4, l58r5, l58r6, l58r7, l58r8, l58r9, hfl])
      | ((first | refine condB_split (fun h => ?_) (fun h => ?_) | refine gIf_split (fun h => ?_) (fun h => ?_) | refine qIf_split (fun h => ?_) (fun h => ?_)) <;> (try simp only [h]) <;> (try simp only [decide_eq_true_eq, decide_eq_false_iff_not, Bool.not_eq_true', Bool.not_eq_false', Bool.and_eq_true, Bool.or_eq_true, Bool.and_eq_false_iff, Bool.or_eq_false_iff, Int.not_le, Int.not_lt, bne_iff_ne, ne_eq, beq_iff_eq, Bool.not_eq_true, Bool.not_eq_false] at h) <;> (try simp only [h]) <;> (first | (exfalso; omega) | (focus (exfalso; simp_all; done)) | (simp (maxSteps := 400000) (disch := omega) only [push_cast, seval, hfl]) | skip))
      | ((first | refine callD_of false ?_ | refine qcallD_of false ?_); simp (maxSteps := 400000) (disch := omega) only [push_cast, seval, hfl])
      | ((first | ((first | refine call0D (BCall.ofP (alg_ok _ _ _ _ _ _ ?_)) ?_ | refine qcall0D (BCall.ofP (alg_ok _ _ _ _ _ _ ?_)) ⟨_, _, rfl, rfl⟩ ?_); (focus (first | assumption | rfl | omega | (simp <;> omega) | (simp_all <;> omega))); rintro _ _ ⟨rfl, rfl⟩) | ((first | refine call0D (BCall.ofP (fEnd_ok _ _ ?_)) ?_ | refine qcall0D (BCall.ofP (fEnd_ok _ _ ?_)) ⟨_, _, rfl, rfl⟩ ?_); (focus (first | assumption | rfl | omega | (simp <;> omega) | (simp_all <;> omega))); rintro _ _ ⟨rfl, rfl⟩)) <;> (try simp (maxSteps := 400000) (disch := omega) only [push_cast, seval, hfl]))
      | (refine awp_ret ⟨.inr rfl, [160], [], _, by decide, rfl, ?_⟩; (try simp (maxSteps := 400000) (disch := omega) only [push_cast, seval, ↓allMem_nil, ↓allMem_cons, ↓List.map_cons, ↓List.map_nil, hfl]); (first | done | (show AV.own _ _ _ = _ ∧ _)))
      | (refine awp_ret ⟨.inr rfl, [384], [], _, by decide, rfl, ?_⟩; (try simp (maxSteps := 400000) (disch := omega) only [push_cast, seval, ↓allMem_nil, ↓allMem_cons, ↓List.map_cons, ↓List.map_nil, hfl]); (first | done | (show AV.own _ _ _ = _ ∧ _)))
      | (refine awp_ret ⟨.inr rfl, [512], [], _, by decide, rfl, ?_⟩; (try simp (maxSteps := 400000) (disch := omega) only [push_cast, seval, ↓allMem_nil, ↓allMem_cons, ↓List.map_cons, ↓List.map_nil, hfl]); (first | done | (show AV.own _ _ _ = _ ∧ _)))))
      all_goals simp


set_option maxHeartbeats 8000000 in
theorem splaces_ok (s : List Int) (n : Nat) (big al : Bool) (hn : s.length = n) (hv : vF s = true) : BCall Tryd.prog 59 [.agg [.rows false (IL s) n, .bool big, .bool al]] [] (fun r H' => r = .tup [.own 0 n 1, .int .i64 (fN al s)] ∧ H' = [IL (fPL al s)]) := by
  subst hn
  obtain ⟨hs, hl1, hl2⟩ := vF_iff.1 hv
  refine bcall_of (pins := []) (pin := 0) l59_eq rfl rfl rfl ?_
  (repeat' (first
      | (first | refine awp_seq ?_ | refine awp_block ?_)
      | ((first | refine awp_reg ?_ | refine awp_condB ?_ | refine awp_skip ?_ | refine awp_exit ?_); simp (maxSteps := 400000) (disch := omega) only [push_cast, seval, l59r0, l59r1, l59r2, l59r3, l59r4, l59r5, l59r6, l59r7, l59r8, l59r9, l59r10, l59r11, l59r12])
      | ((first | refine condB_split (fun h => ?_) (fun h => ?_) | refine gIf_split (fun h => ?_) (fun h => ?_) | refine qIf_split (fun h => ?_) (fun h => ?_)) <;> (try simp only [h]) <;> (try simp only [decide_eq_true_eq, decide_eq_false_iff_not, Bool.not_eq_true', Bool.not_eq_false', Bool.and_eq_true, Bool.or_eq_true, Bool.and_eq_false_iff, Bool.or_eq_false_iff, Int.not_le, Int.not_lt, bne_iff_ne, ne_eq, beq_iff_eq, Bool.not_eq_true, Bool.not_eq_false] at h) <;> (try simp only [h]) <;> (first | (exfalso; omega) | (focus (exfalso; simp_all; done)) | (simp (maxSteps := 400000) (disch := omega) only [push_cast, seval]) | skip))
      | ((first | refine callD_of false ?_ | refine qcallD_of false ?_); simp (maxSteps := 400000) (disch := omega) only [push_cast, seval])
      | ((first | ((first | refine call0D (BCall.ofP (rup_ok _ _ ?_)) ?_ | refine qcall0D (BCall.ofP (rup_ok _ _ ?_)) ⟨_, _, rfl, rfl⟩ ?_); (focus (first | assumption | rfl | omega | (simp <;> omega) | (simp_all <;> omega))); rintro _ _ ⟨rfl, rfl⟩)) <;> (try simp (maxSteps := 400000) (disch := omega) only [push_cast, seval]))
      | (refine awp_ret ⟨.inr rfl, [128], [], _, by decide, rfl, ?_⟩; (try simp (maxSteps := 400000) (disch := omega) only [push_cast, seval, ↓allMem_nil, ↓allMem_cons, ↓List.map_cons, ↓List.map_nil]))))
  refine awp_loop (fun k : Nat => mkS [(1, .ref 16 3 0), (4, .own 128 k 1), (5, .int .i64 (fE al s k)), (6, .int .i64 (fM al s k)), (7, .int .i64 k)] [(128, IL ((List.range k).map (fP al s))), (16, [RI s, .bool big, .bool al])])
    (fun k => k ≤ s.length) (fun k => s.length - k) 0 (Nat.zero_le _) ?_ ?_
  · have e0 : fE al s 0 = 0 := rfl
    have e1 : fM al s 0 = 1 := rfl
    (refine Sub.of_lists ?_ ?_ ?_ ?_ ?_ <;> simp [Vw.mkS, Vw.lk, Vw.hk, AV.inn, innL, innL_ints, innL_append, innL_rep, -List.map_set, -List.getD_eq_getElem?_getD, e0, e1, List.range_zero, List.map_nil])
  · intro k hk
    have b4 := fM_or (al := al) hs k hk
    have b3 := fE_bound (al := al) hs k (by omega)
    by_cases hlt : k < s.length
    · have b1 := fP_bound (al := al) hs k hlt
      have b2 := hs k hlt
      have hq : (0 ≤ fE al s k ∧ fE al s k ≤ 1000) ∧ 1 ≤ s.getD k 0 ∧ s.getD k 0 ≤ 4 := by omega
      have e1 : alg al (fE al s k) (s.getD k 0) = fP al s k := rfl
      have e2 : fE al s (k + 1) = fP al s k + s.getD k 0 := rfl
      have e4 : fM al s (k + 1) = if al = true then max (fM al s k) (s.getD k 0) else fM al s k := rfl
      have e5 := fPL_succ al s k
      have hq2 : 0 ≤ fP al s k ∧ fP al s k ≤ 1000 := by omega
      have hL : ((List.range k).map (fP al s)).length = k := by simp
      generalize hM : fM al s k = m at *
      generalize hP : fP al s k = P at *
      generalize hS : s.getD k 0 = x at *
      generalize hE : fE al s k = e at *
      generalize hLL : (List.range k).map (fP al s) = L at *
      clear b1
      cases al with
      | false =>
        simp only [alg, Bool.false_eq_true, if_false] at e1 e4
        subst e1
        (repeat' (first
      | (first | refine awp_seq ?_ | refine awp_block ?_)
      | ((first | refine awp_reg ?_ | refine awp_condB ?_ | refine awp_skip ?_ | refine awp_exit ?_); simp (maxSteps := 400000) (disch := omega) only [push_cast, seval, l59r0, l59r1, l59r2, l59r3, l59r4, l59r5, l59r6, l59r7, l59r8, l59r9, l59r10, l59r11, l59r12, hS, hL])
      | ((first | refine condB_split (fun h => ?_) (fun h => ?_) | refine gIf_split (fun h => ?_) (fun h => ?_) | refine qIf_split (fun h => ?_) (fun h => ?_)) <;> (try simp only [h]) <;> (try simp only [decide_eq_true_eq, decide_eq_false_iff_not, Bool.not_eq_true', Bool.not_eq_false', Bool.and_eq_true, Bool.or_eq_true, Bool.and_eq_false_iff, Bool.or_eq_false_iff, Int.not_le, Int.not_lt, bne_iff_ne, ne_eq, beq_iff_eq, Bool.not_eq_true, Bool.not_eq_false] at h) <;> (try simp only [h]) <;> (first | (exfalso; omega) | (focus (exfalso; simp_all; done)) | (simp (maxSteps := 400000) (disch := omega) only [push_cast, seval, hS, hL]) | skip))
      | ((first | refine callD_of false ?_ | refine qcallD_of false ?_); simp (maxSteps := 400000) (disch := omega) only [push_cast, seval, hS, hL])
      | ((first | ((first | refine call0D (BCall.ofP (rup_ok _ _ ?_)) ?_ | refine qcall0D (BCall.ofP (rup_ok _ _ ?_)) ⟨_, _, rfl, rfl⟩ ?_); (focus (first | assumption | rfl | omega | (simp <;> omega) | (simp_all <;> omega))); rintro _ _ ⟨rfl, rfl⟩)) <;> (try simp (maxSteps := 400000) (disch := omega) only [push_cast, seval, hS, hL]))
      | (refine awp_ret ⟨.inr rfl, [128], [], _, by decide, rfl, ?_⟩; (try simp (maxSteps := 400000) (disch := omega) only [push_cast, seval, ↓allMem_nil, ↓allMem_cons, ↓List.map_cons, ↓List.map_nil, hS, hL]))))
        refine ⟨k + 1, by omega, by omega, ?_⟩
        (refine Sub.of_lists ?_ ?_ ?_ ?_ ?_ <;> simp [Vw.mkS, Vw.lk, Vw.hk, AV.inn, innL, innL_ints, innL_append, innL_rep, -List.map_set, -List.getD_eq_getElem?_getD, e2, e4, e5, hP, hS, hM, hE])
      | true =>
        simp only [alg, if_true] at e1 e4
        (repeat' (first
      | (first | refine awp_seq ?_ | refine awp_block ?_)
      | ((first | refine awp_reg ?_ | refine awp_condB ?_ | refine awp_skip ?_ | refine awp_exit ?_); simp (maxSteps := 400000) (disch := omega) only [push_cast, seval, l59r0, l59r1, l59r2, l59r3, l59r4, l59r5, l59r6, l59r7, l59r8, l59r9, l59r10, l59r11, l59r12, hS, hL, e1])
      | ((first | refine condB_split (fun h => ?_) (fun h => ?_) | refine gIf_split (fun h => ?_) (fun h => ?_) | refine qIf_split (fun h => ?_) (fun h => ?_)) <;> (try simp only [h]) <;> (try simp only [decide_eq_true_eq, decide_eq_false_iff_not, Bool.not_eq_true', Bool.not_eq_false', Bool.and_eq_true, Bool.or_eq_true, Bool.and_eq_false_iff, Bool.or_eq_false_iff, Int.not_le, Int.not_lt, bne_iff_ne, ne_eq, beq_iff_eq, Bool.not_eq_true, Bool.not_eq_false] at h) <;> (try simp only [h]) <;> (first | (exfalso; omega) | (focus (exfalso; simp_all; done)) | (simp (maxSteps := 400000) (disch := omega) only [push_cast, seval, hS, hL, e1]) | skip))
      | ((first | refine callD_of false ?_ | refine qcallD_of false ?_); simp (maxSteps := 400000) (disch := omega) only [push_cast, seval, hS, hL, e1])
      | ((first | ((first | refine call0D (BCall.ofP (rup_ok _ _ ?_)) ?_ | refine qcall0D (BCall.ofP (rup_ok _ _ ?_)) ⟨_, _, rfl, rfl⟩ ?_); (focus (first | assumption | rfl | omega | (simp <;> omega) | (simp_all <;> omega))); rintro _ _ ⟨rfl, rfl⟩)) <;> (try simp (maxSteps := 400000) (disch := omega) only [push_cast, seval, hS, hL, e1]))
      | (refine awp_ret ⟨.inr rfl, [128], [], _, by decide, rfl, ?_⟩; (try simp (maxSteps := 400000) (disch := omega) only [push_cast, seval, ↓allMem_nil, ↓allMem_cons, ↓List.map_cons, ↓List.map_nil, hS, hL, e1]))))
        refine ⟨k + 1, by omega, by omega, ?_⟩
        (refine Sub.of_lists ?_ ?_ ?_ ?_ ?_ <;> simp [Vw.mkS, Vw.lk, Vw.hk, AV.inn, innL, innL_ints, innL_append, innL_rep, -List.map_set, -List.getD_eq_getElem?_getD, e2, e4, e5, hP, hS, hM, hE])
    · have e : k = s.length := by omega
      subst e
      have hq : (0 ≤ fE al s s.length ∧ fE al s s.length ≤ 1000) ∧ 1 ≤ fM al s s.length ∧ fM al s s.length ≤ 4 := by omega
      have e1 : rup (fE al s s.length) (fM al s s.length) = fN al s := rfl
      have e5 : (List.range s.length).map (fP al s) = fPL al s := rfl
      have hL := fPL_length al s
      rw [e5]
      (repeat' (first
      | (first | refine awp_seq ?_ | refine awp_block ?_)
      | ((first | refine awp_reg ?_ | refine awp_condB ?_ | refine awp_skip ?_ | refine awp_exit ?_); simp (maxSteps := 400000) (disch := omega) only [push_cast, seval, l59r0, l59r1, l59r2, l59r3, l59r4, l59r5, l59r6, l59r7, l59r8, l59r9, l59r10, l59r11, l59r12, e1, hL])
      | ((first | refine condB_split (fun h => ?_) (fun h => ?_) | refine gIf_split (fun h => ?_) (fun h => ?_) | refine qIf_split (fun h => ?_) (fun h => ?_)) <;> (try simp only [h]) <;> (try simp only [decide_eq_true_eq, decide_eq_false_iff_not, Bool.not_eq_true', Bool.not_eq_false', Bool.and_eq_true, Bool.or_eq_true, Bool.and_eq_false_iff, Bool.or_eq_false_iff, Int.not_le, Int.not_lt, bne_iff_ne, ne_eq, beq_iff_eq, Bool.not_eq_true, Bool.not_eq_false] at h) <;> (try simp only [h]) <;> (first | (exfalso; omega) | (focus (exfalso; simp_all; done)) | (simp (maxSteps := 400000) (disch := omega) only [push_cast, seval, e1, hL]) | skip))
      | ((first | refine callD_of false ?_ | refine qcallD_of false ?_); simp (maxSteps := 400000) (disch := omega) only [push_cast, seval, e1, hL])
      | ((first | ((first | refine call0D (BCall.ofP (rup_ok _ _ ?_)) ?_ | refine qcall0D (BCall.ofP (rup_ok _ _ ?_)) ⟨_, _, rfl, rfl⟩ ?_); (focus (first | assumption | rfl | omega | (simp <;> omega) | (simp_all <;> omega))); rintro _ _ ⟨rfl, rfl⟩)) <;> (try simp (maxSteps := 400000) (disch := omega) only [push_cast, seval, e1, hL]))
      | (refine awp_ret ⟨.inr rfl, [128], [], _, by decide, rfl, ?_⟩; (try simp (maxSteps := 400000) (disch := omega) only [push_cast, seval, ↓allMem_nil, ↓allMem_cons, ↓List.map_cons, ↓List.map_nil, e1, hL]))))
      all_goals simp


theorem smax_ok (s : List Int) (n : Nat) (hn : s.length = n) (hb : 1 ≤ n ∧ n ≤ 1099511627776) : PCall Tryd.prog 93 [.rows false (IL s) n] (fun r => r = .int .i64 (mxL s n)) := by
  subst hn
  refine pcall_of l93_eq rfl ?_
  have h1 : ¬ (s.length : Int) < 1 := by omega
  (repeat' (first
      | (first | refine awp_seq ?_ | refine awp_block ?_)
      | ((first | refine awp_reg ?_ | refine awp_condB ?_ | refine awp_skip ?_ | refine awp_exit ?_); simp (maxSteps := 400000) (disch := omega) only [push_cast, seval, l93r0, l93r1, l93r2, l93r3, l93r4, l93r5, l93r6, l93r7, l93r8, h1])
      | ((first | refine condB_split (fun h => ?_) (fun h => ?_) | refine gIf_split (fun h => ?_) (fun h => ?_) | refine qIf_split (fun h => ?_) (fun h => ?_)) <;> (try simp only [h]) <;> (try simp only [decide_eq_true_eq, decide_eq_false_iff_not, Bool.not_eq_true', Bool.not_eq_false', Bool.and_eq_true, Bool.or_eq_true, Bool.and_eq_false_iff, Bool.or_eq_false_iff, Int.not_le, Int.not_lt, bne_iff_ne, ne_eq, beq_iff_eq, Bool.not_eq_true, Bool.not_eq_false] at h) <;> (try simp only [h]) <;> (first | (exfalso; omega) | (focus (exfalso; simp_all; done)) | (simp (maxSteps := 400000) (disch := omega) only [push_cast, seval, h1]) | skip))
      | (refine awp_ret ⟨.inr rfl, _, rfl, ?_⟩; (try simp (maxSteps := 400000) (disch := omega) only [push_cast, seval, h1]))))
  refine awp_loop (fun k : Nat => mkS [(0, RI s), (3, .int .i64 (mxL s (k + 1))), (4, .int .i64 ((k : Int) + 1))] []) (fun k => k + 1 ≤ s.length) (fun k => s.length - k) 0 (by omega) ?_ ?_
  · have e0 : mxL s (0 + 1) = s.getD 0 0 := by simp [mxL]
    (refine Sub.of_lists ?_ ?_ ?_ ?_ ?_ <;> simp [Vw.mkS, Vw.lk, Vw.hk, AV.inn, innL, innL_ints, innL_append, innL_rep, -List.map_set, -List.getD_eq_getElem?_getD, e0])
  · intro k hk
    by_cases hlt : k + 1 < s.length
    · have e : mxL s (k + 1 + 1) = max (mxL s (k + 1)) (s.getD (k + 1) 0) := rfl
      obtain ⟨q, hq⟩ : ∃ q, k + 1 = q := ⟨_, rfl⟩
      have hqi : (k : Int) + 1 = (q : Int) := by omega
      rw [hq] at hlt e ⊢
      rw [hqi]
      (repeat' (first
      | (first | refine awp_seq ?_ | refine awp_block ?_)
      | ((first | refine awp_reg ?_ | refine awp_condB ?_ | refine awp_skip ?_ | refine awp_exit ?_); simp (maxSteps := 400000) (disch := omega) only [push_cast, seval, l93r0, l93r1, l93r2, l93r3, l93r4, l93r5, l93r6, l93r7, l93r8])
      | ((first | refine condB_split (fun h => ?_) (fun h => ?_) | refine gIf_split (fun h => ?_) (fun h => ?_) | refine qIf_split (fun h => ?_) (fun h => ?_)) <;> (try simp only [h]) <;> (try simp only [decide_eq_true_eq, decide_eq_false_iff_not, Bool.not_eq_true', Bool.not_eq_false', Bool.and_eq_true, Bool.or_eq_true, Bool.and_eq_false_iff, Bool.or_eq_false_iff, Int.not_le, Int.not_lt, bne_iff_ne, ne_eq, beq_iff_eq, Bool.not_eq_true, Bool.not_eq_false] at h) <;> (try simp only [h]) <;> (first | (exfalso; omega) | (focus (exfalso; simp_all; done)) | (simp (maxSteps := 400000) (disch := omega) only [push_cast, seval]) | skip))
      | (refine awp_ret ⟨.inr rfl, _, rfl, ?_⟩; (try simp (maxSteps := 400000) (disch := omega) only [push_cast, seval]))))
      refine ⟨q, by omega, by omega, ?_⟩
      have hqi2 : (q : Int) + 1 = ((q + 1 : Nat) : Int) := by omega
      (refine Sub.of_lists ?_ ?_ ?_ ?_ ?_ <;> simp [Vw.mkS, Vw.lk, Vw.hk, AV.inn, innL, innL_ints, innL_append, innL_rep, -List.map_set, -List.getD_eq_getElem?_getD, e])
    · have e : k + 1 = s.length := by omega
      have hqi : (k : Int) + 1 = (s.length : Int) := by omega
      rw [e, hqi]
      (repeat' (first
      | (first | refine awp_seq ?_ | refine awp_block ?_)
      | ((first | refine awp_reg ?_ | refine awp_condB ?_ | refine awp_skip ?_ | refine awp_exit ?_); simp (maxSteps := 400000) (disch := omega) only [push_cast, seval, l93r0, l93r1, l93r2, l93r3, l93r4, l93r5, l93r6, l93r7, l93r8])
      | ((first | refine condB_split (fun h => ?_) (fun h => ?_) | refine gIf_split (fun h => ?_) (fun h => ?_) | refine qIf_split (fun h => ?_) (fun h => ?_)) <;> (try simp only [h]) <;> (try simp only [decide_eq_true_eq, decide_eq_false_iff_not, Bool.not_eq_true', Bool.not_eq_false', Bool.and_eq_true, Bool.or_eq_true, Bool.and_eq_false_iff, Bool.or_eq_false_iff, Int.not_le, Int.not_lt, bne_iff_ne, ne_eq, beq_iff_eq, Bool.not_eq_true, Bool.not_eq_false] at h) <;> (try simp only [h]) <;> (first | (exfalso; omega) | (focus (exfalso; simp_all; done)) | (simp (maxSteps := 400000) (disch := omega) only [push_cast, seval]) | skip))
      | (refine awp_ret ⟨.inr rfl, _, rfl, ?_⟩; (try simp (maxSteps := 400000) (disch := omega) only [push_cast, seval]))))


theorem isz_ok (s : List Int) (n : Nat) (big al : Bool) (hn : s.length = n) (hv : vF s = true) : PCall Tryd.prog 60 [.agg [.rows false (IL s) n, .bool big, .bool al]] (fun r => r = .int .i64 (fN al s)) := by
  subst hn
  obtain ⟨hs, hl1, hl2⟩ := vF_iff.1 hv
  refine pcall_of l60_eq rfl ?_
  obtain ⟨q, hq⟩ : ∃ q, s.length = q + 1 := ⟨s.length - 1, by omega⟩
  have hb1 : 1 ≤ s.length ∧ s.length ≤ 1099511627776 := by omega
  have b1 := fP_bound (al := al) hs q (by omega)
  have b2 := hs q (by omega)
  have b3 := fE_bound (al := al) hs s.length (Nat.le_refl _)
  have hq2 : 0 ≤ fP al s q ∧ fP al s q ≤ 1000 ∧ 0 ≤ s.getD q 0 ∧ s.getD q 0 ≤ 1000 := by omega
  have g := fL2_get (al := al) (s := s) (n := s.length) (k := q) (by omega)
  obtain ⟨g1, g2⟩ := g
  have hl := fL2_length al s s.length
  have hm : 1 ≤ mxL s s.length ∧ mxL s s.length ≤ 4 := by
    have := mxL_spec (xs := s) (by omega) s.length (Nat.le_refl _)
    obtain ⟨j, hj, e⟩ := List.getElem_of_mem this.1
    have := hs j hj
    rw [List.getD, List.getElem?_eq_getElem hj, Option.getD_some, e] at this
    omega
  have e1 := fN_alg (al := al) hv
  have e2 : fE al s s.length = fP al s q + s.getD q 0 := by rw [hq]; rfl
  have hq3 : (0 ≤ fE al s s.length ∧ fE al s s.length ≤ 1000) ∧ 1 ≤ mxL s s.length ∧ mxL s s.length ≤ 4 := by omega
  have hqi : (s.length : Int) - 1 = (q : Int) := by omega
  have hlt : q < s.length := by omega
  rw [e2] at e1 hq3
  generalize hP : fP al s q = P at *
  generalize hS : s.getD q 0 = x at *
  have htd := td2 (by omega) g1 g2
  have hif : q * 2 + 2 ≤ s.length * 2 := by omega
  clear b1 b2 b3 e2
  (repeat' (first
      | (first | refine awp_seq ?_ | refine awp_block ?_)
      | ((first | refine awp_reg ?_ | refine awp_draw (mid := l60r1a) (post := l60r1b) mixed (by decide) ?_ | refine awp_draw (mid := l60r2a) (post := l60r2b) mixed (by decide) ?_ | refine awp_condB ?_ | refine awp_skip ?_ | refine awp_exit ?_); simp (maxSteps := 400000) (disch := omega) only [push_cast, seval, l60r0, l60r1a, l60r1b, l60r1, l60r2a, l60r2b, l60r2, hqi, hl, hif, htd, e1])
      | ((first | refine condB_split (fun h => ?_) (fun h => ?_) | refine gIf_split (fun h => ?_) (fun h => ?_) | refine qIf_split (fun h => ?_) (fun h => ?_)) <;> (try simp only [h]) <;> (try simp only [decide_eq_true_eq, decide_eq_false_iff_not, Bool.not_eq_true', Bool.not_eq_false', Bool.and_eq_true, Bool.or_eq_true, Bool.and_eq_false_iff, Bool.or_eq_false_iff, Int.not_le, Int.not_lt, bne_iff_ne, ne_eq, beq_iff_eq, Bool.not_eq_true, Bool.not_eq_false] at h) <;> (try simp only [h]) <;> (first | (exfalso; omega) | (focus (exfalso; simp_all; done)) | (simp (maxSteps := 400000) (disch := omega) only [push_cast, seval, hqi, hl, hif, htd, e1]) | skip))
      | ((first | refine callD_of false ?_ | refine qcallD_of false ?_); simp (maxSteps := 400000) (disch := omega) only [push_cast, seval, hqi, hl, hif, htd, e1])
      | ((first | ((first | refine call0D (ifields_ok _ _ _ _ ?_ ?_) ?_ | refine qcall0D (BCall.ofP (plain2 (ifields_ok _ _ _ _ ?_ ?_) (fL2_length _ _ _))) ⟨_, _, rfl, rfl⟩ ?_); (iterate 2 (focus (first | assumption | rfl | omega | (simp <;> omega) | (simp_all <;> omega)))); rintro _ _ ⟨rfl, rfl⟩) | ((first | refine call0D (BCall.ofP (fEnd_ok _ _ ?_)) ?_ | refine qcall0D (BCall.ofP (fEnd_ok _ _ ?_)) ⟨_, _, rfl, rfl⟩ ?_); (focus (first | assumption | rfl | omega | (simp <;> omega) | (simp_all <;> omega))); rintro _ _ ⟨rfl, rfl⟩) | ((first | refine call0D (BCall.ofP (smax_ok _ _ ?_ ?_)) ?_ | refine qcall0D (BCall.ofP (smax_ok _ _ ?_ ?_)) ⟨_, _, rfl, rfl⟩ ?_); (iterate 2 (focus (first | assumption | rfl | omega | (simp <;> omega) | (simp_all <;> omega)))); rintro _ _ ⟨rfl, rfl⟩) | ((first | refine call0D (BCall.ofP (alg_ok _ _ _ _ _ _ ?_)) ?_ | refine qcall0D (BCall.ofP (alg_ok _ _ _ _ _ _ ?_)) ⟨_, _, rfl, rfl⟩ ?_); (focus (first | assumption | rfl | omega | (simp <;> omega) | (simp_all <;> omega))); rintro _ _ ⟨rfl, rfl⟩)) <;> (try simp (maxSteps := 400000) (disch := omega) only [push_cast, seval, hqi, hl, hif, htd, e1]))
      | (refine awp_ret ⟨.inr rfl, _, rfl, ?_⟩; (try simp (maxSteps := 400000) (disch := omega) only [push_cast, seval, hqi, hl, hif, htd, e1]))))


theorem svItem_ok (s : List Int) (n : Nat) (big al : Bool) (vs : List Int) (m : Nat) (hn : s.length = n) (hm : vs.length = m) (hv : vF s = true) (hb : m ≤ 1099511627776) : PCall Tryd.prog 67 [.agg [.rows false (IL s) n, .bool big, .bool al], .rows false (IL vs) m] (fun r => r = .bool (vI s vs)) := by
  subst hn hm
  obtain ⟨hs, hl1, hl2⟩ := vF_iff.1 hv
  refine pcall_of l67_eq rfl ?_
  by_cases hl : vs.length = s.length
  · have hl' : (vs.length : Int) = (s.length : Int) := by omega
    (repeat' (first
      | (first | refine awp_seq ?_ | refine awp_block ?_)
      | ((first | refine awp_reg ?_ | refine awp_draw (mid := l67r5a) (post := l67r5b) mixed (by decide) ?_ | refine awp_condB ?_ | refine awp_skip ?_ | refine awp_exit ?_); simp (maxSteps := 400000) (disch := omega) only [push_cast, seval, l67r0, l67r1, l67r2, l67r3, l67r4, l67r5a, l67r5b, l67r5, l67r6, l67r7, l67r8, hl', decide_true])
      | ((first | refine condB_split (fun h => ?_) (fun h => ?_) | refine gIf_split (fun h => ?_) (fun h => ?_) | refine qIf_split (fun h => ?_) (fun h => ?_)) <;> (try simp only [h]) <;> (try simp only [decide_eq_true_eq, decide_eq_false_iff_not, Bool.not_eq_true', Bool.not_eq_false', Bool.and_eq_true, Bool.or_eq_true, Bool.and_eq_false_iff, Bool.or_eq_false_iff, Int.not_le, Int.not_lt, bne_iff_ne, ne_eq, beq_iff_eq, Bool.not_eq_true, Bool.not_eq_false] at h) <;> (try simp only [h]) <;> (first | (exfalso; omega) | (focus (exfalso; simp_all; done)) | (simp (maxSteps := 400000) (disch := omega) only [push_cast, seval, hl', decide_true]) | skip))
      | ((first | refine callD_of false ?_ | refine qcallD_of false ?_); simp (maxSteps := 400000) (disch := omega) only [push_cast, seval, hl', decide_true])
      | ((first | ((first | refine call0D (BCall.ofP (spow_ok _ ?_)) ?_ | refine qcall0D (BCall.ofP (spow_ok _ ?_)) ⟨_, _, rfl, rfl⟩ ?_); (focus (first | assumption | rfl | omega | (simp <;> omega) | (simp_all <;> omega))); rintro _ _ ⟨rfl, rfl⟩) | ((first | refine call0D (BCall.ofP (inRange_ok _ _ _)) ?_ | refine qcall0D (BCall.ofP (inRange_ok _ _ _)) ⟨_, _, rfl, rfl⟩ ?_); rintro _ _ ⟨rfl, rfl⟩)) <;> (try simp (maxSteps := 400000) (disch := omega) only [push_cast, seval, hl', decide_true]))
      | (refine awp_ret ⟨.inr rfl, _, rfl, ?_⟩; (try simp (maxSteps := 400000) (disch := omega) only [push_cast, seval, hl', decide_true]))))
    refine awp_loop (fun k : Nat => mkS [(1, RI vs), (2, .ref 32 3 0), (5, .int .i64 k)] [(32, [RI s, .bool big, .bool al])]) (fun k => k ≤ vs.length ∧ ∀ j : Nat, j < k → 0 ≤ vs.getD j 0 ∧ vs.getD j 0 ≤ pw (s.getD j 0).toNat - 1) (fun k => vs.length - k) 0 ⟨Nat.zero_le _, fun j h => absurd h (by omega)⟩ ?_ ?_
    · (refine Sub.of_lists ?_ ?_ ?_ ?_ ?_ <;> simp [Vw.mkS, Vw.lk, Vw.hk, AV.inn, innL, innL_ints, innL_append, innL_rep, -List.map_set, -List.getD_eq_getElem?_getD, hl'])
    · rintro k ⟨hk, hj⟩
      by_cases hlt : k < vs.length
      · have hks : k < s.length := by omega
        have b2 := hs k hks
        obtain ⟨z, hz⟩ : ∃ z : Nat, s.getD k 0 = z := ⟨(s.getD k 0).toNat, by omega⟩
        have hz4 : z ≤ 4 := by omega
        have bp := pw_bound hz4
        have hzn : (s.getD k 0).toNat = z := by omega
        by_cases hx : 0 ≤ vs.getD k 0 ∧ vs.getD k 0 ≤ pw z - 1
        · (repeat' (first
      | (first | refine awp_seq ?_ | refine awp_block ?_)
      | ((first | refine awp_reg ?_ | refine awp_draw (mid := l67r5a) (post := l67r5b) mixed (by decide) ?_ | refine awp_condB ?_ | refine awp_skip ?_ | refine awp_exit ?_); simp (maxSteps := 400000) (disch := omega) only [push_cast, seval, l67r0, l67r1, l67r2, l67r3, l67r4, l67r5a, l67r5b, l67r5, l67r6, l67r7, l67r8, hz, hx])
      | ((first | refine condB_split (fun h => ?_) (fun h => ?_) | refine gIf_split (fun h => ?_) (fun h => ?_) | refine qIf_split (fun h => ?_) (fun h => ?_)) <;> (try simp only [h]) <;> (try simp only [decide_eq_true_eq, decide_eq_false_iff_not, Bool.not_eq_true', Bool.not_eq_false', Bool.and_eq_true, Bool.or_eq_true, Bool.and_eq_false_iff, Bool.or_eq_false_iff, Int.not_le, Int.not_lt, bne_iff_ne, ne_eq, beq_iff_eq, Bool.not_eq_true, Bool.not_eq_false] at h) <;> (try simp only [h]) <;> (first | (exfalso; omega) | (focus (exfalso; simp_all; done)) | (simp (maxSteps := 400000) (disch := omega) only [push_cast, seval, hz, hx]) | skip))
      | ((first | refine callD_of false ?_ | refine qcallD_of false ?_); simp (maxSteps := 400000) (disch := omega) only [push_cast, seval, hz, hx])
      | ((first | ((first | refine call0D (BCall.ofP (spow_ok _ ?_)) ?_ | refine qcall0D (BCall.ofP (spow_ok _ ?_)) ⟨_, _, rfl, rfl⟩ ?_); (focus (first | assumption | rfl | omega | (simp <;> omega) | (simp_all <;> omega))); rintro _ _ ⟨rfl, rfl⟩) | ((first | refine call0D (BCall.ofP (inRange_ok _ _ _)) ?_ | refine qcall0D (BCall.ofP (inRange_ok _ _ _)) ⟨_, _, rfl, rfl⟩ ?_); rintro _ _ ⟨rfl, rfl⟩)) <;> (try simp (maxSteps := 400000) (disch := omega) only [push_cast, seval, hz, hx]))
      | (refine awp_ret ⟨.inr rfl, _, rfl, ?_⟩; (try simp (maxSteps := 400000) (disch := omega) only [push_cast, seval, hz, hx]))))
          all_goals (refine ⟨k + 1, ⟨by omega, vI_snoc hj (by rw [hzn]; exact hx)⟩, by omega, ?_⟩; (refine Sub.of_lists ?_ ?_ ?_ ?_ ?_ <;> simp [Vw.mkS, Vw.lk, Vw.hk, AV.inn, innL, innL_ints, innL_append, innL_rep, -List.map_set, -List.getD_eq_getElem?_getD]))
        · have e := vI_bad hlt (by rw [hzn]; exact hx)
          (repeat' (first
      | (first | refine awp_seq ?_ | refine awp_block ?_)
      | ((first | refine awp_reg ?_ | refine awp_draw (mid := l67r5a) (post := l67r5b) mixed (by decide) ?_ | refine awp_condB ?_ | refine awp_skip ?_ | refine awp_exit ?_); simp (maxSteps := 400000) (disch := omega) only [push_cast, seval, l67r0, l67r1, l67r2, l67r3, l67r4, l67r5a, l67r5b, l67r5, l67r6, l67r7, l67r8, hz, e, hx])
      | ((first | refine condB_split (fun h => ?_) (fun h => ?_) | refine gIf_split (fun h => ?_) (fun h => ?_) | refine qIf_split (fun h => ?_) (fun h => ?_)) <;> (try simp only [h]) <;> (try simp only [decide_eq_true_eq, decide_eq_false_iff_not, Bool.not_eq_true', Bool.not_eq_false', Bool.and_eq_true, Bool.or_eq_true, Bool.and_eq_false_iff, Bool.or_eq_false_iff, Int.not_le, Int.not_lt, bne_iff_ne, ne_eq, beq_iff_eq, Bool.not_eq_true, Bool.not_eq_false] at h) <;> (try simp only [h]) <;> (first | (exfalso; omega) | (focus (exfalso; simp_all; done)) | (simp (maxSteps := 400000) (disch := omega) only [push_cast, seval, hz, e, hx]) | skip))
      | ((first | refine callD_of false ?_ | refine qcallD_of false ?_); simp (maxSteps := 400000) (disch := omega) only [push_cast, seval, hz, e, hx])
      | ((first | ((first | refine call0D (BCall.ofP (spow_ok _ ?_)) ?_ | refine qcall0D (BCall.ofP (spow_ok _ ?_)) ⟨_, _, rfl, rfl⟩ ?_); (focus (first | assumption | rfl | omega | (simp <;> omega) | (simp_all <;> omega))); rintro _ _ ⟨rfl, rfl⟩) | ((first | refine call0D (BCall.ofP (inRange_ok _ _ _)) ?_ | refine qcall0D (BCall.ofP (inRange_ok _ _ _)) ⟨_, _, rfl, rfl⟩ ?_); rintro _ _ ⟨rfl, rfl⟩)) <;> (try simp (maxSteps := 400000) (disch := omega) only [push_cast, seval, hz, e, hx]))
      | (refine awp_ret ⟨.inr rfl, _, rfl, ?_⟩; (try simp (maxSteps := 400000) (disch := omega) only [push_cast, seval, hz, e, hx]))))
      · have e : vI s vs = true := vI_iff.2 ⟨hl, fun i hi => hj i (by omega)⟩
        rw [e]
        (repeat' (first
      | (first | refine awp_seq ?_ | refine awp_block ?_)
      | ((first | refine awp_reg ?_ | refine awp_draw (mid := l67r5a) (post := l67r5b) mixed (by decide) ?_ | refine awp_condB ?_ | refine awp_skip ?_ | refine awp_exit ?_); simp (maxSteps := 400000) (disch := omega) only [push_cast, seval, l67r0, l67r1, l67r2, l67r3, l67r4, l67r5a, l67r5b, l67r5, l67r6, l67r7, l67r8])
      | ((first | refine condB_split (fun h => ?_) (fun h => ?_) | refine gIf_split (fun h => ?_) (fun h => ?_) | refine qIf_split (fun h => ?_) (fun h => ?_)) <;> (try simp only [h]) <;> (try simp only [decide_eq_true_eq, decide_eq_false_iff_not, Bool.not_eq_true', Bool.not_eq_false', Bool.and_eq_true, Bool.or_eq_true, Bool.and_eq_false_iff, Bool.or_eq_false_iff, Int.not_le, Int.not_lt, bne_iff_ne, ne_eq, beq_iff_eq, Bool.not_eq_true, Bool.not_eq_false] at h) <;> (try simp only [h]) <;> (first | (exfalso; omega) | (focus (exfalso; simp_all; done)) | (simp (maxSteps := 400000) (disch := omega) only [push_cast, seval]) | skip))
      | ((first | refine callD_of false ?_ | refine qcallD_of false ?_); simp (maxSteps := 400000) (disch := omega) only [push_cast, seval])
      | ((first | ((first | refine call0D (BCall.ofP (spow_ok _ ?_)) ?_ | refine qcall0D (BCall.ofP (spow_ok _ ?_)) ⟨_, _, rfl, rfl⟩ ?_); (focus (first | assumption | rfl | omega | (simp <;> omega) | (simp_all <;> omega))); rintro _ _ ⟨rfl, rfl⟩) | ((first | refine call0D (BCall.ofP (inRange_ok _ _ _)) ?_ | refine qcall0D (BCall.ofP (inRange_ok _ _ _)) ⟨_, _, rfl, rfl⟩ ?_); rintro _ _ ⟨rfl, rfl⟩)) <;> (try simp (maxSteps := 400000) (disch := omega) only [push_cast, seval]))
      | (refine awp_ret ⟨.inr rfl, _, rfl, ?_⟩; (try simp (maxSteps := 400000) (disch := omega) only [push_cast, seval]))))
  · have e := vI_len hl
    have hl' : ¬ (vs.length : Int) = (s.length : Int) := by omega
    rw [e]
    (repeat' (first
      | (first | refine awp_seq ?_ | refine awp_block ?_)
      | ((first | refine awp_reg ?_ | refine awp_draw (mid := l67r5a) (post := l67r5b) mixed (by decide) ?_ | refine awp_condB ?_ | refine awp_skip ?_ | refine awp_exit ?_); simp (maxSteps := 400000) (disch := omega) only [push_cast, seval, l67r0, l67r1, l67r2, l67r3, l67r4, l67r5a, l67r5b, l67r5, l67r6, l67r7, l67r8, hl'])
      | ((first | refine condB_split (fun h => ?_) (fun h => ?_) | refine gIf_split (fun h => ?_) (fun h => ?_) | refine qIf_split (fun h => ?_) (fun h => ?_)) <;> (try simp only [h]) <;> (try simp only [decide_eq_true_eq, decide_eq_false_iff_not, Bool.not_eq_true', Bool.not_eq_false', Bool.and_eq_true, Bool.or_eq_true, Bool.and_eq_false_iff, Bool.or_eq_false_iff, Int.not_le, Int.not_lt, bne_iff_ne, ne_eq, beq_iff_eq, Bool.not_eq_true, Bool.not_eq_false] at h) <;> (try simp only [h]) <;> (first | (exfalso; omega) | (focus (exfalso; simp_all; done)) | (simp (maxSteps := 400000) (disch := omega) only [push_cast, seval, hl']) | skip))
      | ((first | refine callD_of false ?_ | refine qcallD_of false ?_); simp (maxSteps := 400000) (disch := omega) only [push_cast, seval, hl'])
      | ((first | ((first | refine call0D (BCall.ofP (spow_ok _ ?_)) ?_ | refine qcall0D (BCall.ofP (spow_ok _ ?_)) ⟨_, _, rfl, rfl⟩ ?_); (focus (first | assumption | rfl | omega | (simp <;> omega) | (simp_all <;> omega))); rintro _ _ ⟨rfl, rfl⟩) | ((first | refine call0D (BCall.ofP (inRange_ok _ _ _)) ?_ | refine qcall0D (BCall.ofP (inRange_ok _ _ _)) ⟨_, _, rfl, rfl⟩ ?_); rintro _ _ ⟨rfl, rfl⟩)) <;> (try simp (maxSteps := 400000) (disch := omega) only [push_cast, seval, hl']))
      | (refine awp_ret ⟨.inr rfl, _, rfl, ?_⟩; (try simp (maxSteps := 400000) (disch := omega) only [push_cast, seval, hl']))))


theorem canHold_ok (s : List Int) (n : Nat) (big al : Bool) (vs : List Int) (m : Nat) (hn : s.length = n) (hm : vs.length = m) (hb : n ≤ 1099511627776 ∧ m ≤ 1099511627776) : PCall Tryd.prog 65 [.agg [.rows false (IL s) n, .bool big, .bool al], .rows false (IL vs) m] (fun r => r = .bool (vF s && vI s vs)) := by
  subst hn hm
  obtain ⟨hb1, hb2⟩ := hb
  refine pcall_of l65_eq rfl ?_
  cases hv : vF s with
  | false =>
    rw [Bool.false_and]
    (repeat' (first
      | (first | refine awp_seq ?_ | refine awp_block ?_)
      | ((first | refine awp_reg ?_ | refine awp_condB ?_ | refine awp_skip ?_ | refine awp_exit ?_); simp (maxSteps := 400000) (disch := omega) only [push_cast, seval, l65r0, l65r1, l65r2, l65r3, l65r4, l65r5, l65r6, l65r7, l65r8, l65r9, hv])
      | ((first | refine condB_split (fun h => ?_) (fun h => ?_) | refine gIf_split (fun h => ?_) (fun h => ?_) | refine qIf_split (fun h => ?_) (fun h => ?_)) <;> (try simp only [h]) <;> (try simp only [decide_eq_true_eq, decide_eq_false_iff_not, Bool.not_eq_true', Bool.not_eq_false', Bool.and_eq_true, Bool.or_eq_true, Bool.and_eq_false_iff, Bool.or_eq_false_iff, Int.not_le, Int.not_lt, bne_iff_ne, ne_eq, beq_iff_eq, Bool.not_eq_true, Bool.not_eq_false] at h) <;> (try simp only [h]) <;> (first | (exfalso; omega) | (focus (exfalso; simp_all; done)) | (simp (maxSteps := 400000) (disch := omega) only [push_cast, seval, hv]) | skip))
      | ((first | refine callD_of false ?_ | refine qcallD_of false ?_); simp (maxSteps := 400000) (disch := omega) only [push_cast, seval, hv])
      | ((first | ((first | refine call0D (BCall.ofP (iVFmt_ok _ _ _ _ ?_ ?_)) ?_ | refine qcall0D (BCall.ofP (iVFmt_ok _ _ _ _ ?_ ?_)) ⟨_, _, rfl, rfl⟩ ?_); (iterate 2 (focus (first | assumption | rfl | omega | (simp <;> omega) | (simp_all <;> omega)))); rintro _ _ ⟨rfl, rfl⟩) | ((first | refine call0D (BCall.ofP (grt_ok _ ?_)) ?_ | refine qcall0D (BCall.ofP (grt_ok _ ?_)) ⟨_, _, rfl, rfl⟩ ?_); (focus (first | assumption | rfl | omega | (simp <;> omega) | (simp_all <;> omega))); rintro _ _ ⟨rfl, rfl⟩) | ((first | refine call0D (BCall.ofP (upTo_ok _ _)) ?_ | refine qcall0D (BCall.ofP (upTo_ok _ _)) ⟨_, _, rfl, rfl⟩ ?_); rintro _ _ ⟨rfl, rfl⟩)) <;> (try simp (maxSteps := 400000) (disch := omega) only [push_cast, seval, hv]))
      | (refine awp_ret ⟨.inr rfl, _, rfl, ?_⟩; (try simp (maxSteps := 400000) (disch := omega) only [push_cast, seval, hv]))))
  | true =>
  obtain ⟨hs, hl1, hl2⟩ := vF_iff.1 hv
  rw [Bool.true_and]
  by_cases hl : vs.length = s.length
  · have hl' : (vs.length : Int) = (s.length : Int) := by omega
    (repeat' (first
      | (first | refine awp_seq ?_ | refine awp_block ?_)
      | ((first | refine awp_reg ?_ | refine awp_condB ?_ | refine awp_skip ?_ | refine awp_exit ?_); simp (maxSteps := 400000) (disch := omega) only [push_cast, seval, l65r0, l65r1, l65r2, l65r3, l65r4, l65r5, l65r6, l65r7, l65r8, l65r9, hv, hl'])
      | ((first | refine condB_split (fun h => ?_) (fun h => ?_) | refine gIf_split (fun h => ?_) (fun h => ?_) | refine qIf_split (fun h => ?_) (fun h => ?_)) <;> (try simp only [h]) <;> (try simp only [decide_eq_true_eq, decide_eq_false_iff_not, Bool.not_eq_true', Bool.not_eq_false', Bool.and_eq_true, Bool.or_eq_true, Bool.and_eq_false_iff, Bool.or_eq_false_iff, Int.not_le, Int.not_lt, bne_iff_ne, ne_eq, beq_iff_eq, Bool.not_eq_true, Bool.not_eq_false] at h) <;> (try simp only [h]) <;> (first | (exfalso; omega) | (focus (exfalso; simp_all; done)) | (simp (maxSteps := 400000) (disch := omega) only [push_cast, seval, hv, hl']) | skip))
      | ((first | refine callD_of false ?_ | refine qcallD_of false ?_); simp (maxSteps := 400000) (disch := omega) only [push_cast, seval, hv, hl'])
      | ((first | ((first | refine call0D (BCall.ofP (iVFmt_ok _ _ _ _ ?_ ?_)) ?_ | refine qcall0D (BCall.ofP (iVFmt_ok _ _ _ _ ?_ ?_)) ⟨_, _, rfl, rfl⟩ ?_); (iterate 2 (focus (first | assumption | rfl | omega | (simp <;> omega) | (simp_all <;> omega)))); rintro _ _ ⟨rfl, rfl⟩) | ((first | refine call0D (BCall.ofP (grt_ok _ ?_)) ?_ | refine qcall0D (BCall.ofP (grt_ok _ ?_)) ⟨_, _, rfl, rfl⟩ ?_); (focus (first | assumption | rfl | omega | (simp <;> omega) | (simp_all <;> omega))); rintro _ _ ⟨rfl, rfl⟩) | ((first | refine call0D (BCall.ofP (upTo_ok _ _)) ?_ | refine qcall0D (BCall.ofP (upTo_ok _ _)) ⟨_, _, rfl, rfl⟩ ?_); rintro _ _ ⟨rfl, rfl⟩)) <;> (try simp (maxSteps := 400000) (disch := omega) only [push_cast, seval, hv, hl']))
      | (refine awp_ret ⟨.inr rfl, _, rfl, ?_⟩; (try simp (maxSteps := 400000) (disch := omega) only [push_cast, seval, hv, hl']))))
    refine awp_loop (fun k : Nat => mkS [(2, .ref 32 3 0), (18, RI vs), (19, .int .i64 vs.length), (20, .int .i64 k)] [(32, [RI s, .bool big, .bool al])]) (fun k => k ≤ vs.length ∧ ∀ j : Nat, j < k → 0 ≤ vs.getD j 0 ∧ vs.getD j 0 ≤ pw (s.getD j 0).toNat - 1) (fun k => vs.length - k) 0 ⟨Nat.zero_le _, fun j h => absurd h (by omega)⟩ ?_ ?_
    · (refine Sub.of_lists ?_ ?_ ?_ ?_ ?_ <;> simp [Vw.mkS, Vw.lk, Vw.hk, AV.inn, innL, innL_ints, innL_append, innL_rep, -List.map_set, -List.getD_eq_getElem?_getD, hl'])
    · rintro k ⟨hk, hj⟩
      by_cases hlt : k < vs.length
      · have hks : k < s.length := by omega
        have b2 := hs k hks
        obtain ⟨z, hz⟩ : ∃ z : Nat, s.getD k 0 = z := ⟨(s.getD k 0).toNat, by omega⟩
        have hz4 : z ≤ 4 := by omega
        have bp := pw_bound hz4
        have hzn : (s.getD k 0).toNat = z := by omega
        by_cases hx : 0 ≤ vs.getD k 0 ∧ vs.getD k 0 ≤ pw z - 1
        · have hd : (decide (0 ≤ vs.getD k 0) && decide (vs.getD k 0 ≤ pw z - 1)) = true := by rw [decide_eq_true hx.1, decide_eq_true hx.2]; rfl
          (repeat' (first
      | (first | refine awp_seq ?_ | refine awp_block ?_)
      | ((first | refine awp_reg ?_ | refine awp_condB ?_ | refine awp_skip ?_ | refine awp_exit ?_); simp (maxSteps := 400000) (disch := omega) only [push_cast, seval, l65r0, l65r1, l65r2, l65r3, l65r4, l65r5, l65r6, l65r7, l65r8, l65r9, hz, hd])
      | ((first | refine condB_split (fun h => ?_) (fun h => ?_) | refine gIf_split (fun h => ?_) (fun h => ?_) | refine qIf_split (fun h => ?_) (fun h => ?_)) <;> (try simp only [h]) <;> (try simp only [decide_eq_true_eq, decide_eq_false_iff_not, Bool.not_eq_true', Bool.not_eq_false', Bool.and_eq_true, Bool.or_eq_true, Bool.and_eq_false_iff, Bool.or_eq_false_iff, Int.not_le, Int.not_lt, bne_iff_ne, ne_eq, beq_iff_eq, Bool.not_eq_true, Bool.not_eq_false] at h) <;> (try simp only [h]) <;> (first | (exfalso; omega) | (focus (exfalso; simp_all; done)) | (simp (maxSteps := 400000) (disch := omega) only [push_cast, seval, hz, hd]) | skip))
      | ((first | refine callD_of false ?_ | refine qcallD_of false ?_); simp (maxSteps := 400000) (disch := omega) only [push_cast, seval, hz, hd])
      | ((first | ((first | refine call0D (BCall.ofP (iVFmt_ok _ _ _ _ ?_ ?_)) ?_ | refine qcall0D (BCall.ofP (iVFmt_ok _ _ _ _ ?_ ?_)) ⟨_, _, rfl, rfl⟩ ?_); (iterate 2 (focus (first | assumption | rfl | omega | (simp <;> omega) | (simp_all <;> omega)))); rintro _ _ ⟨rfl, rfl⟩) | ((first | refine call0D (BCall.ofP (grt_ok _ ?_)) ?_ | refine qcall0D (BCall.ofP (grt_ok _ ?_)) ⟨_, _, rfl, rfl⟩ ?_); (focus (first | assumption | rfl | omega | (simp <;> omega) | (simp_all <;> omega))); rintro _ _ ⟨rfl, rfl⟩) | ((first | refine call0D (BCall.ofP (upTo_ok _ _)) ?_ | refine qcall0D (BCall.ofP (upTo_ok _ _)) ⟨_, _, rfl, rfl⟩ ?_); rintro _ _ ⟨rfl, rfl⟩)) <;> (try simp (maxSteps := 400000) (disch := omega) only [push_cast, seval, hz, hd]))
      | (refine awp_ret ⟨.inr rfl, _, rfl, ?_⟩; (try simp (maxSteps := 400000) (disch := omega) only [push_cast, seval, hz, hd]))))
          all_goals (refine ⟨k + 1, ⟨by omega, vI_snoc hj (by rw [hzn]; exact hx)⟩, by omega, ?_⟩; (refine Sub.of_lists ?_ ?_ ?_ ?_ ?_ <;> simp [Vw.mkS, Vw.lk, Vw.hk, AV.inn, innL, innL_ints, innL_append, innL_rep, -List.map_set, -List.getD_eq_getElem?_getD]))
        · have e := vI_bad hlt (by rw [hzn]; exact hx)
          have hd : (decide (0 ≤ vs.getD k 0) && decide (vs.getD k 0 ≤ pw z - 1)) = false := by
            rw [Bool.eq_false_iff]; intro h; simp at h; exact hx h
          (repeat' (first
      | (first | refine awp_seq ?_ | refine awp_block ?_)
      | ((first | refine awp_reg ?_ | refine awp_condB ?_ | refine awp_skip ?_ | refine awp_exit ?_); simp (maxSteps := 400000) (disch := omega) only [push_cast, seval, l65r0, l65r1, l65r2, l65r3, l65r4, l65r5, l65r6, l65r7, l65r8, l65r9, hz, hd, e])
      | ((first | refine condB_split (fun h => ?_) (fun h => ?_) | refine gIf_split (fun h => ?_) (fun h => ?_) | refine qIf_split (fun h => ?_) (fun h => ?_)) <;> (try simp only [h]) <;> (try simp only [decide_eq_true_eq, decide_eq_false_iff_not, Bool.not_eq_true', Bool.not_eq_false', Bool.and_eq_true, Bool.or_eq_true, Bool.and_eq_false_iff, Bool.or_eq_false_iff, Int.not_le, Int.not_lt, bne_iff_ne, ne_eq, beq_iff_eq, Bool.not_eq_true, Bool.not_eq_false] at h) <;> (try simp only [h]) <;> (first | (exfalso; omega) | (focus (exfalso; simp_all; done)) | (simp (maxSteps := 400000) (disch := omega) only [push_cast, seval, hz, hd, e]) | skip))
      | ((first | refine callD_of false ?_ | refine qcallD_of false ?_); simp (maxSteps := 400000) (disch := omega) only [push_cast, seval, hz, hd, e])
      | ((first | ((first | refine call0D (BCall.ofP (iVFmt_ok _ _ _ _ ?_ ?_)) ?_ | refine qcall0D (BCall.ofP (iVFmt_ok _ _ _ _ ?_ ?_)) ⟨_, _, rfl, rfl⟩ ?_); (iterate 2 (focus (first | assumption | rfl | omega | (simp <;> omega) | (simp_all <;> omega)))); rintro _ _ ⟨rfl, rfl⟩) | ((first | refine call0D (BCall.ofP (grt_ok _ ?_)) ?_ | refine qcall0D (BCall.ofP (grt_ok _ ?_)) ⟨_, _, rfl, rfl⟩ ?_); (focus (first | assumption | rfl | omega | (simp <;> omega) | (simp_all <;> omega))); rintro _ _ ⟨rfl, rfl⟩) | ((first | refine call0D (BCall.ofP (upTo_ok _ _)) ?_ | refine qcall0D (BCall.ofP (upTo_ok _ _)) ⟨_, _, rfl, rfl⟩ ?_); rintro _ _ ⟨rfl, rfl⟩)) <;> (try simp (maxSteps := 400000) (disch := omega) only [push_cast, seval, hz, hd, e]))
      | (refine awp_ret ⟨.inr rfl, _, rfl, ?_⟩; (try simp (maxSteps := 400000) (disch := omega) only [push_cast, seval, hz, hd, e]))))
      · have e : vI s vs = true := vI_iff.2 ⟨hl, fun i hi => hj i (by omega)⟩
        rw [e]
        (repeat' (first
      | (first | refine awp_seq ?_ | refine awp_block ?_)
      | ((first | refine awp_reg ?_ | refine awp_condB ?_ | refine awp_skip ?_ | refine awp_exit ?_); simp (maxSteps := 400000) (disch := omega) only [push_cast, seval, l65r0, l65r1, l65r2, l65r3, l65r4, l65r5, l65r6, l65r7, l65r8, l65r9])
      | ((first | refine condB_split (fun h => ?_) (fun h => ?_) | refine gIf_split (fun h => ?_) (fun h => ?_) | refine qIf_split (fun h => ?_) (fun h => ?_)) <;> (try simp only [h]) <;> (try simp only [decide_eq_true_eq, decide_eq_false_iff_not, Bool.not_eq_true', Bool.not_eq_false', Bool.and_eq_true, Bool.or_eq_true, Bool.and_eq_false_iff, Bool.or_eq_false_iff, Int.not_le, Int.not_lt, bne_iff_ne, ne_eq, beq_iff_eq, Bool.not_eq_true, Bool.not_eq_false] at h) <;> (try simp only [h]) <;> (first | (exfalso; omega) | (focus (exfalso; simp_all; done)) | (simp (maxSteps := 400000) (disch := omega) only [push_cast, seval]) | skip))
      | ((first | refine callD_of false ?_ | refine qcallD_of false ?_); simp (maxSteps := 400000) (disch := omega) only [push_cast, seval])
      | ((first | ((first | refine call0D (BCall.ofP (iVFmt_ok _ _ _ _ ?_ ?_)) ?_ | refine qcall0D (BCall.ofP (iVFmt_ok _ _ _ _ ?_ ?_)) ⟨_, _, rfl, rfl⟩ ?_); (iterate 2 (focus (first | assumption | rfl | omega | (simp <;> omega) | (simp_all <;> omega)))); rintro _ _ ⟨rfl, rfl⟩) | ((first | refine call0D (BCall.ofP (grt_ok _ ?_)) ?_ | refine qcall0D (BCall.ofP (grt_ok _ ?_)) ⟨_, _, rfl, rfl⟩ ?_); (focus (first | assumption | rfl | omega | (simp <;> omega) | (simp_all <;> omega))); rintro _ _ ⟨rfl, rfl⟩) | ((first | refine call0D (BCall.ofP (upTo_ok _ _)) ?_ | refine qcall0D (BCall.ofP (upTo_ok _ _)) ⟨_, _, rfl, rfl⟩ ?_); rintro _ _ ⟨rfl, rfl⟩)) <;> (try simp (maxSteps := 400000) (disch := omega) only [push_cast, seval]))
      | (refine awp_ret ⟨.inr rfl, _, rfl, ?_⟩; (try simp (maxSteps := 400000) (disch := omega) only [push_cast, seval]))))
  · have e := vI_len hl
    have hl' : ¬ (vs.length : Int) = (s.length : Int) := by omega
    rw [e]
    (repeat' (first
      | (first | refine awp_seq ?_ | refine awp_block ?_)
      | ((first | refine awp_reg ?_ | refine awp_condB ?_ | refine awp_skip ?_ | refine awp_exit ?_); simp (maxSteps := 400000) (disch := omega) only [push_cast, seval, l65r0, l65r1, l65r2, l65r3, l65r4, l65r5, l65r6, l65r7, l65r8, l65r9, hv, hl'])
      | ((first | refine condB_split (fun h => ?_) (fun h => ?_) | refine gIf_split (fun h => ?_) (fun h => ?_) | refine qIf_split (fun h => ?_) (fun h => ?_)) <;> (try simp only [h]) <;> (try simp only [decide_eq_true_eq, decide_eq_false_iff_not, Bool.not_eq_true', Bool.not_eq_false', Bool.and_eq_true, Bool.or_eq_true, Bool.and_eq_false_iff, Bool.or_eq_false_iff, Int.not_le, Int.not_lt, bne_iff_ne, ne_eq, beq_iff_eq, Bool.not_eq_true, Bool.not_eq_false] at h) <;> (try simp only [h]) <;> (first | (exfalso; omega) | (focus (exfalso; simp_all; done)) | (simp (maxSteps := 400000) (disch := omega) only [push_cast, seval, hv, hl']) | skip))
      | ((first | refine callD_of false ?_ | refine qcallD_of false ?_); simp (maxSteps := 400000) (disch := omega) only [push_cast, seval, hv, hl'])
      | ((first | ((first | refine call0D (BCall.ofP (iVFmt_ok _ _ _ _ ?_ ?_)) ?_ | refine qcall0D (BCall.ofP (iVFmt_ok _ _ _ _ ?_ ?_)) ⟨_, _, rfl, rfl⟩ ?_); (iterate 2 (focus (first | assumption | rfl | omega | (simp <;> omega) | (simp_all <;> omega)))); rintro _ _ ⟨rfl, rfl⟩) | ((first | refine call0D (BCall.ofP (grt_ok _ ?_)) ?_ | refine qcall0D (BCall.ofP (grt_ok _ ?_)) ⟨_, _, rfl, rfl⟩ ?_); (focus (first | assumption | rfl | omega | (simp <;> omega) | (simp_all <;> omega))); rintro _ _ ⟨rfl, rfl⟩) | ((first | refine call0D (BCall.ofP (upTo_ok _ _)) ?_ | refine qcall0D (BCall.ofP (upTo_ok _ _)) ⟨_, _, rfl, rfl⟩ ?_); rintro _ _ ⟨rfl, rfl⟩)) <;> (try simp (maxSteps := 400000) (disch := omega) only [push_cast, seval, hv, hl']))
      | (refine awp_ret ⟨.inr rfl, _, rfl, ?_⟩; (try simp (maxSteps := 400000) (disch := omega) only [push_cast, seval, hv, hl']))))

end Go.Proofs.YtclampodmlklpaaDoor
