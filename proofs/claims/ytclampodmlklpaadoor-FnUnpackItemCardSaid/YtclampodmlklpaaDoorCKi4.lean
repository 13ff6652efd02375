import Derived.Test.YtclampodmlklpaaDoorCKi3b
import Derived.Test.YtclampodmlklpaaDoorCM1
import Derived.Test.YtclampodmlklpaaDoorCW3
set_option linter.unusedSimpArgs false
set_option linter.unusedVariables false
set_option linter.unnecessarySimpa false
set_option maxRecDepth 4000
set_option maxHeartbeats 4000000
namespace Go.Proofs.YtclampodmlklpaaDoor
open VwM Vw Go

theorem order_ok (s : List Int) (n : Nat) (big al : Bool) : PCall Tryd.prog 79 [.agg [.rows false (IL s) n, .bool big, .bool al]] (fun r => r = if big = true then .agg [.val (.func (.func 103) #[] #[])] else .agg [.val (.func (.func 104) #[] #[])]) := by
  refine pcall_of l79_eq rfl ?_
  cases big with
  | false => (repeat' (first
      | (first | refine awp_seq ?_ | refine awp_block ?_)
      | ((first | refine awp_reg ?_ | refine awp_condB ?_ | refine awp_skip ?_ | refine awp_exit ?_); simp (maxSteps := 400000) (disch := omega) only [push_cast, seval, l79r0, l79r1, l79r2, l79r3, ev_func])
      | ((first | refine condB_split (fun h => ?_) (fun h => ?_) | refine gIf_split (fun h => ?_) (fun h => ?_) | refine qIf_split (fun h => ?_) (fun h => ?_)) <;> (try simp only [h]) <;> (try simp only [decide_eq_true_eq, decide_eq_false_iff_not, Bool.not_eq_true', Bool.not_eq_false', Bool.and_eq_true, Bool.or_eq_true, Bool.and_eq_false_iff, Bool.or_eq_false_iff, Int.not_le, Int.not_lt, bne_iff_ne, ne_eq, beq_iff_eq, Bool.not_eq_true, Bool.not_eq_false] at h) <;> (try simp only [h]) <;> (first | (exfalso; omega) | (focus (exfalso; simp_all; done)) | (simp (maxSteps := 400000) (disch := omega) only [push_cast, seval, ev_func]) | skip))
      | (refine awp_ret ⟨.inr rfl, _, rfl, ?_⟩; (try simp (maxSteps := 400000) (disch := omega) only [push_cast, seval, ev_func]))))
  | true => (repeat' (first
      | (first | refine awp_seq ?_ | refine awp_block ?_)
      | ((first | refine awp_reg ?_ | refine awp_condB ?_ | refine awp_skip ?_ | refine awp_exit ?_); simp (maxSteps := 400000) (disch := omega) only [push_cast, seval, l79r0, l79r1, l79r2, l79r3, ev_func])
      | ((first | refine condB_split (fun h => ?_) (fun h => ?_) | refine gIf_split (fun h => ?_) (fun h => ?_) | refine qIf_split (fun h => ?_) (fun h => ?_)) <;> (try simp only [h]) <;> (try simp only [decide_eq_true_eq, decide_eq_false_iff_not, Bool.not_eq_true', Bool.not_eq_false', Bool.and_eq_true, Bool.or_eq_true, Bool.and_eq_false_iff, Bool.or_eq_false_iff, Int.not_le, Int.not_lt, bne_iff_ne, ne_eq, beq_iff_eq, Bool.not_eq_true, Bool.not_eq_false] at h) <;> (try simp only [h]) <;> (first | (exfalso; omega) | (focus (exfalso; simp_all; done)) | (simp (maxSteps := 400000) (disch := omega) only [push_cast, seval, ev_func]) | skip))
      | (refine awp_ret ⟨.inr rfl, _, rfl, ?_⟩; (try simp (maxSteps := 400000) (disch := omega) only [push_cast, seval, ev_func]))))


set_option maxHeartbeats 8000000 in
theorem writeH_ok (L : List Int) (m : Nat) (q x : Nat) (v : Int) (hL : L.length = m) (hb : (m ≤ 100 ∧ (1 ≤ x ∧ x ≤ 4) ∧ q + x ≤ m) ∧ 0 ≤ v ∧ v ≤ 4294967296) : BCall Tryd.prog 97 [.agg [.val (.func (.func 103) #[] #[])], .own 0 m 1, .agg [.int .i64 (q : Int), .int .i64 (x : Int)], .int .i64 v] [IL L] (fun r H' => r = .tup [] ∧ H' = [IL (wrK L true q x v x)]) := by
  subst hL
  obtain ⟨⟨hm, ⟨hz1, hz2⟩, hq⟩, hv1, hv2⟩ := hb
  refine bcall_of (pins := [0]) (pin := 1) l97_eq rfl rfl rfl ?_
  (repeat' (first
      | (first | refine awp_seq ?_ | refine awp_block ?_)
      | ((first | refine awp_reg ?_ | refine awp_condB ?_ | refine awp_skip ?_ | refine awp_exit ?_); simp (maxSteps := 400000) (disch := omega) only [push_cast, seval, l97r0, l97r1, l97r2, l97r3, l97r4, l97r5, l97r6])
      | ((first | refine condB_split (fun h => ?_) (fun h => ?_) | refine gIf_split (fun h => ?_) (fun h => ?_) | refine qIf_split (fun h => ?_) (fun h => ?_)) <;> (try simp only [h]) <;> (try simp only [decide_eq_true_eq, decide_eq_false_iff_not, Bool.not_eq_true', Bool.not_eq_false', Bool.and_eq_true, Bool.or_eq_true, Bool.and_eq_false_iff, Bool.or_eq_false_iff, Int.not_le, Int.not_lt, bne_iff_ne, ne_eq, beq_iff_eq, Bool.not_eq_true, Bool.not_eq_false] at h) <;> (try simp only [h]) <;> (first | (exfalso; omega) | (focus (exfalso; simp_all; done)) | (simp (maxSteps := 400000) (disch := omega) only [push_cast, seval]) | skip))
      | ((first | refine callD_of false ?_ | refine qcallD_of false ?_); simp (maxSteps := 400000) (disch := omega) only [push_cast, seval])
      | ((first | ((first | refine call0D (BCall.ofP (cellH_ok _ _ _ ?_)) ?_ | refine qcall0D (BCall.ofP (cellH_ok _ _ _ ?_)) ⟨_, _, rfl, rfl⟩ ?_); (focus (first | assumption | rfl | omega | (simp <;> omega) | (simp_all <;> omega))); rintro _ _ ⟨rfl, rfl⟩) | ((first | refine call0D (BCall.ofP (cellL_ok _ _ _ ?_)) ?_ | refine qcall0D (BCall.ofP (cellL_ok _ _ _ ?_)) ⟨_, _, rfl, rfl⟩ ?_); (focus (first | assumption | rfl | omega | (simp <;> omega) | (simp_all <;> omega))); rintro _ _ ⟨rfl, rfl⟩)) <;> (try simp (maxSteps := 400000) (disch := omega) only [push_cast, seval]))
      | (refine awp_ret ⟨.inr rfl, [], [], _, by decide, rfl, ?_⟩; (try simp (maxSteps := 400000) (disch := omega) only [push_cast, seval, ↓allMem_nil, ↓allMem_cons, ↓List.map_cons, ↓List.map_nil]))))
  refine awp_loop (fun k : Nat => mkS [(1, .own 0 L.length 1), (3, .int .i64 (shB v k)), (4, .ref 64 1 0), (6, .ref 96 2 0), (10, .int .i64 x), (11, .int .i64 k)] [(0, IL (wrK L true q x v k)), (64, [.val (.func (.func 103) #[] #[])]), (96, [.int .i64 q, .int .i64 x])])
    (fun k => k ≤ x) (fun k => x - k) 0 (Nat.zero_le _) ?_ ?_
  · have e0 : shB v 0 = v := rfl
    have e1 : wrK L true q x v 0 = L := rfl
    (refine Sub.of_lists ?_ ?_ ?_ ?_ ?_ <;> simp [Vw.mkS, Vw.lk, Vw.hk, AV.inn, innL, innL_ints, innL_append, innL_rep, -List.map_set, -List.getD_eq_getElem?_getD, e0, e1])
  · intro k hk
    have b1 := shB_bound hv1 k
    have hwl := wrK_length L true q x v k
    by_cases hlt : k < x
    · have b2 := byt_bound hv1 k
      have hq2 : (0 ≤ (q : Int) ∧ (q : Int) ≤ 1000) ∧ (0 ≤ (x : Int) ∧ (x : Int) ≤ 1000) ∧ 0 ≤ (k : Int) ∧ (k : Int) ≤ 1000 := by omega
      have e1 : (shB v k).tmod 256 = byt v k := rfl
      have e2 : (shB v k).tdiv 256 = shB v (k + 1) := rfl
      obtain ⟨y, hy⟩ : ∃ y : Nat, q + (x - 1 - k) = y := ⟨_, rfl⟩
      have hyi : (q : Int) + ((x : Int) - 1 - (k : Int)) = (y : Int) := by omega
      have hyl : y < L.length := by omega
      have b3 := tdiv_bound (x := shB v k) (y := 256) (by omega) b1.1
      rw [e2] at b3
      have e3 : wrK L true q x v (k + 1) = (wrK L true q x v k).set y (byt v k) := by
        simp only [wrK, plc, if_true]
        rw [hy]
      generalize hW : wrK L true q x v k = W at *
      (repeat' (first
      | (first | refine awp_seq ?_ | refine awp_block ?_)
      | ((first | refine awp_reg ?_ | refine awp_condB ?_ | refine awp_skip ?_ | refine awp_exit ?_); simp (maxSteps := 400000) (disch := omega) only [push_cast, seval, l97r0, l97r1, l97r2, l97r3, l97r4, l97r5, l97r6, e1, e2, hyi, hwl, IL_set, List.length_map, Int.toNat_natCast])
      | ((first | refine condB_split (fun h => ?_) (fun h => ?_) | refine gIf_split (fun h => ?_) (fun h => ?_) | refine qIf_split (fun h => ?_) (fun h => ?_)) <;> (try simp only [h]) <;> (try simp only [decide_eq_true_eq, decide_eq_false_iff_not, Bool.not_eq_true', Bool.not_eq_false', Bool.and_eq_true, Bool.or_eq_true, Bool.and_eq_false_iff, Bool.or_eq_false_iff, Int.not_le, Int.not_lt, bne_iff_ne, ne_eq, beq_iff_eq, Bool.not_eq_true, Bool.not_eq_false] at h) <;> (try simp only [h]) <;> (first | (exfalso; omega) | (focus (exfalso; simp_all; done)) | (simp (maxSteps := 400000) (disch := omega) only [push_cast, seval, e1, e2, hyi, hwl, IL_set, List.length_map, Int.toNat_natCast]) | skip))
      | ((first | refine callD_of false ?_ | refine qcallD_of false ?_); simp (maxSteps := 400000) (disch := omega) only [push_cast, seval, e1, e2, hyi, hwl, IL_set, List.length_map, Int.toNat_natCast])
      | ((first | ((first | refine call0D (BCall.ofP (cellH_ok _ _ _ ?_)) ?_ | refine qcall0D (BCall.ofP (cellH_ok _ _ _ ?_)) ⟨_, _, rfl, rfl⟩ ?_); (focus (first | assumption | rfl | omega | (simp <;> omega) | (simp_all <;> omega))); rintro _ _ ⟨rfl, rfl⟩) | ((first | refine call0D (BCall.ofP (cellL_ok _ _ _ ?_)) ?_ | refine qcall0D (BCall.ofP (cellL_ok _ _ _ ?_)) ⟨_, _, rfl, rfl⟩ ?_); (focus (first | assumption | rfl | omega | (simp <;> omega) | (simp_all <;> omega))); rintro _ _ ⟨rfl, rfl⟩)) <;> (try simp (maxSteps := 400000) (disch := omega) only [push_cast, seval, e1, e2, hyi, hwl, IL_set, List.length_map, Int.toNat_natCast]))
      | (refine awp_ret ⟨.inr rfl, [], [], _, by decide, rfl, ?_⟩; (try simp (maxSteps := 400000) (disch := omega) only [push_cast, seval, ↓allMem_nil, ↓allMem_cons, ↓List.map_cons, ↓List.map_nil, e1, e2, hyi, hwl, IL_set, List.length_map, Int.toNat_natCast]))))
      refine ⟨k + 1, by omega, by omega, ?_⟩
      (refine Sub.of_lists ?_ ?_ ?_ ?_ ?_ <;> simp [Vw.mkS, Vw.lk, Vw.hk, AV.inn, innL, innL_ints, innL_append, innL_rep, -List.map_set, -List.getD_eq_getElem?_getD, e3, hW])
    · have e : k = x := by omega
      subst e
      (repeat' (first
      | (first | refine awp_seq ?_ | refine awp_block ?_)
      | ((first | refine awp_reg ?_ | refine awp_condB ?_ | refine awp_skip ?_ | refine awp_exit ?_); simp (maxSteps := 400000) (disch := omega) only [push_cast, seval, l97r0, l97r1, l97r2, l97r3, l97r4, l97r5, l97r6])
      | ((first | refine condB_split (fun h => ?_) (fun h => ?_) | refine gIf_split (fun h => ?_) (fun h => ?_) | refine qIf_split (fun h => ?_) (fun h => ?_)) <;> (try simp only [h]) <;> (try simp only [decide_eq_true_eq, decide_eq_false_iff_not, Bool.not_eq_true', Bool.not_eq_false', Bool.and_eq_true, Bool.or_eq_true, Bool.and_eq_false_iff, Bool.or_eq_false_iff, Int.not_le, Int.not_lt, bne_iff_ne, ne_eq, beq_iff_eq, Bool.not_eq_true, Bool.not_eq_false] at h) <;> (try simp only [h]) <;> (first | (exfalso; omega) | (focus (exfalso; simp_all; done)) | (simp (maxSteps := 400000) (disch := omega) only [push_cast, seval]) | skip))
      | ((first | refine callD_of false ?_ | refine qcallD_of false ?_); simp (maxSteps := 400000) (disch := omega) only [push_cast, seval])
      | ((first | ((first | refine call0D (BCall.ofP (cellH_ok _ _ _ ?_)) ?_ | refine qcall0D (BCall.ofP (cellH_ok _ _ _ ?_)) ⟨_, _, rfl, rfl⟩ ?_); (focus (first | assumption | rfl | omega | (simp <;> omega) | (simp_all <;> omega))); rintro _ _ ⟨rfl, rfl⟩) | ((first | refine call0D (BCall.ofP (cellL_ok _ _ _ ?_)) ?_ | refine qcall0D (BCall.ofP (cellL_ok _ _ _ ?_)) ⟨_, _, rfl, rfl⟩ ?_); (focus (first | assumption | rfl | omega | (simp <;> omega) | (simp_all <;> omega))); rintro _ _ ⟨rfl, rfl⟩)) <;> (try simp (maxSteps := 400000) (disch := omega) only [push_cast, seval]))
      | (refine awp_ret ⟨.inr rfl, [], [], _, by decide, rfl, ?_⟩; (try simp (maxSteps := 400000) (disch := omega) only [push_cast, seval, ↓allMem_nil, ↓allMem_cons, ↓List.map_cons, ↓List.map_nil]))))
      all_goals exact ⟨[], [], [], ⟨by decide, by simp⟩, rfl, by simp, rfl, rfl⟩
set_option maxHeartbeats 8000000 in
theorem writeL_ok (L : List Int) (m : Nat) (q x : Nat) (v : Int) (hL : L.length = m) (hb : (m ≤ 100 ∧ (1 ≤ x ∧ x ≤ 4) ∧ q + x ≤ m) ∧ 0 ≤ v ∧ v ≤ 4294967296) : BCall Tryd.prog 97 [.agg [.val (.func (.func 104) #[] #[])], .own 0 m 1, .agg [.int .i64 (q : Int), .int .i64 (x : Int)], .int .i64 v] [IL L] (fun r H' => r = .tup [] ∧ H' = [IL (wrK L false q x v x)]) := by
  subst hL
  obtain ⟨⟨hm, ⟨hz1, hz2⟩, hq⟩, hv1, hv2⟩ := hb
  refine bcall_of (pins := [0]) (pin := 1) l97_eq rfl rfl rfl ?_
  (repeat' (first
      | (first | refine awp_seq ?_ | refine awp_block ?_)
      | ((first | refine awp_reg ?_ | refine awp_condB ?_ | refine awp_skip ?_ | refine awp_exit ?_); simp (maxSteps := 400000) (disch := omega) only [push_cast, seval, l97r0, l97r1, l97r2, l97r3, l97r4, l97r5, l97r6])
      | ((first | refine condB_split (fun h => ?_) (fun h => ?_) | refine gIf_split (fun h => ?_) (fun h => ?_) | refine qIf_split (fun h => ?_) (fun h => ?_)) <;> (try simp only [h]) <;> (try simp only [decide_eq_true_eq, decide_eq_false_iff_not, Bool.not_eq_true', Bool.not_eq_false', Bool.and_eq_true, Bool.or_eq_true, Bool.and_eq_false_iff, Bool.or_eq_false_iff, Int.not_le, Int.not_lt, bne_iff_ne, ne_eq, beq_iff_eq, Bool.not_eq_true, Bool.not_eq_false] at h) <;> (try simp only [h]) <;> (first | (exfalso; omega) | (focus (exfalso; simp_all; done)) | (simp (maxSteps := 400000) (disch := omega) only [push_cast, seval]) | skip))
      | ((first | refine callD_of false ?_ | refine qcallD_of false ?_); simp (maxSteps := 400000) (disch := omega) only [push_cast, seval])
      | ((first | ((first | refine call0D (BCall.ofP (cellH_ok _ _ _ ?_)) ?_ | refine qcall0D (BCall.ofP (cellH_ok _ _ _ ?_)) ⟨_, _, rfl, rfl⟩ ?_); (focus (first | assumption | rfl | omega | (simp <;> omega) | (simp_all <;> omega))); rintro _ _ ⟨rfl, rfl⟩) | ((first | refine call0D (BCall.ofP (cellL_ok _ _ _ ?_)) ?_ | refine qcall0D (BCall.ofP (cellL_ok _ _ _ ?_)) ⟨_, _, rfl, rfl⟩ ?_); (focus (first | assumption | rfl | omega | (simp <;> omega) | (simp_all <;> omega))); rintro _ _ ⟨rfl, rfl⟩)) <;> (try simp (maxSteps := 400000) (disch := omega) only [push_cast, seval]))
      | (refine awp_ret ⟨.inr rfl, [], [], _, by decide, rfl, ?_⟩; (try simp (maxSteps := 400000) (disch := omega) only [push_cast, seval, ↓allMem_nil, ↓allMem_cons, ↓List.map_cons, ↓List.map_nil]))))
  refine awp_loop (fun k : Nat => mkS [(1, .own 0 L.length 1), (3, .int .i64 (shB v k)), (4, .ref 64 1 0), (6, .ref 96 2 0), (10, .int .i64 x), (11, .int .i64 k)] [(0, IL (wrK L false q x v k)), (64, [.val (.func (.func 104) #[] #[])]), (96, [.int .i64 q, .int .i64 x])])
    (fun k => k ≤ x) (fun k => x - k) 0 (Nat.zero_le _) ?_ ?_
  · have e0 : shB v 0 = v := rfl
    have e1 : wrK L false q x v 0 = L := rfl
    (refine Sub.of_lists ?_ ?_ ?_ ?_ ?_ <;> simp [Vw.mkS, Vw.lk, Vw.hk, AV.inn, innL, innL_ints, innL_append, innL_rep, -List.map_set, -List.getD_eq_getElem?_getD, e0, e1])
  · intro k hk
    have b1 := shB_bound hv1 k
    have hwl := wrK_length L false q x v k
    by_cases hlt : k < x
    · have b2 := byt_bound hv1 k
      have hq2 : (0 ≤ (q : Int) ∧ (q : Int) ≤ 1000) ∧ (0 ≤ (x : Int) ∧ (x : Int) ≤ 1000) ∧ 0 ≤ (k : Int) ∧ (k : Int) ≤ 1000 := by omega
      have e1 : (shB v k).tmod 256 = byt v k := rfl
      have e2 : (shB v k).tdiv 256 = shB v (k + 1) := rfl
      obtain ⟨y, hy⟩ : ∃ y : Nat, q + k = y := ⟨_, rfl⟩
      have hyi : (q : Int) + (k : Int) = (y : Int) := by omega
      have hyl : y < L.length := by omega
      have b3 := tdiv_bound (x := shB v k) (y := 256) (by omega) b1.1
      rw [e2] at b3
      have e3 : wrK L false q x v (k + 1) = (wrK L false q x v k).set y (byt v k) := by
        simp only [wrK, plc, Bool.false_eq_true, if_false]
        rw [hy]
      generalize hW : wrK L false q x v k = W at *
      (repeat' (first
      | (first | refine awp_seq ?_ | refine awp_block ?_)
      | ((first | refine awp_reg ?_ | refine awp_condB ?_ | refine awp_skip ?_ | refine awp_exit ?_); simp (maxSteps := 400000) (disch := omega) only [push_cast, seval, l97r0, l97r1, l97r2, l97r3, l97r4, l97r5, l97r6, e1, e2, hyi, hwl, IL_set, List.length_map, Int.toNat_natCast])
      | ((first | refine condB_split (fun h => ?_) (fun h => ?_) | refine gIf_split (fun h => ?_) (fun h => ?_) | refine qIf_split (fun h => ?_) (fun h => ?_)) <;> (try simp only [h]) <;> (try simp only [decide_eq_true_eq, decide_eq_false_iff_not, Bool.not_eq_true', Bool.not_eq_false', Bool.and_eq_true, Bool.or_eq_true, Bool.and_eq_false_iff, Bool.or_eq_false_iff, Int.not_le, Int.not_lt, bne_iff_ne, ne_eq, beq_iff_eq, Bool.not_eq_true, Bool.not_eq_false] at h) <;> (try simp only [h]) <;> (first | (exfalso; omega) | (focus (exfalso; simp_all; done)) | (simp (maxSteps := 400000) (disch := omega) only [push_cast, seval, e1, e2, hyi, hwl, IL_set, List.length_map, Int.toNat_natCast]) | skip))
      | ((first | refine callD_of false ?_ | refine qcallD_of false ?_); simp (maxSteps := 400000) (disch := omega) only [push_cast, seval, e1, e2, hyi, hwl, IL_set, List.length_map, Int.toNat_natCast])
      | ((first | ((first | refine call0D (BCall.ofP (cellH_ok _ _ _ ?_)) ?_ | refine qcall0D (BCall.ofP (cellH_ok _ _ _ ?_)) ⟨_, _, rfl, rfl⟩ ?_); (focus (first | assumption | rfl | omega | (simp <;> omega) | (simp_all <;> omega))); rintro _ _ ⟨rfl, rfl⟩) | ((first | refine call0D (BCall.ofP (cellL_ok _ _ _ ?_)) ?_ | refine qcall0D (BCall.ofP (cellL_ok _ _ _ ?_)) ⟨_, _, rfl, rfl⟩ ?_); (focus (first | assumption | rfl | omega | (simp <;> omega) | (simp_all <;> omega))); rintro _ _ ⟨rfl, rfl⟩)) <;> (try simp (maxSteps := 400000) (disch := omega) only [push_cast, seval, e1, e2, hyi, hwl, IL_set, List.length_map, Int.toNat_natCast]))
      | (refine awp_ret ⟨.inr rfl, [], [], _, by decide, rfl, ?_⟩; (try simp (maxSteps := 400000) (disch := omega) only [push_cast, seval, ↓allMem_nil, ↓allMem_cons, ↓List.map_cons, ↓List.map_nil, e1, e2, hyi, hwl, IL_set, List.length_map, Int.toNat_natCast]))))
      refine ⟨k + 1, by omega, by omega, ?_⟩
      (refine Sub.of_lists ?_ ?_ ?_ ?_ ?_ <;> simp [Vw.mkS, Vw.lk, Vw.hk, AV.inn, innL, innL_ints, innL_append, innL_rep, -List.map_set, -List.getD_eq_getElem?_getD, e3, hW])
    · have e : k = x := by omega
      subst e
      (repeat' (first
      | (first | refine awp_seq ?_ | refine awp_block ?_)
      | ((first | refine awp_reg ?_ | refine awp_condB ?_ | refine awp_skip ?_ | refine awp_exit ?_); simp (maxSteps := 400000) (disch := omega) only [push_cast, seval, l97r0, l97r1, l97r2, l97r3, l97r4, l97r5, l97r6])
      | ((first | refine condB_split (fun h => ?_) (fun h => ?_) | refine gIf_split (fun h => ?_) (fun h => ?_) | refine qIf_split (fun h => ?_) (fun h => ?_)) <;> (try simp only [h]) <;> (try simp only [decide_eq_true_eq, decide_eq_false_iff_not, Bool.not_eq_true', Bool.not_eq_false', Bool.and_eq_true, Bool.or_eq_true, Bool.and_eq_false_iff, Bool.or_eq_false_iff, Int.not_le, Int.not_lt, bne_iff_ne, ne_eq, beq_iff_eq, Bool.not_eq_true, Bool.not_eq_false] at h) <;> (try simp only [h]) <;> (first | (exfalso; omega) | (focus (exfalso; simp_all; done)) | (simp (maxSteps := 400000) (disch := omega) only [push_cast, seval]) | skip))
      | ((first | refine callD_of false ?_ | refine qcallD_of false ?_); simp (maxSteps := 400000) (disch := omega) only [push_cast, seval])
      | ((first | ((first | refine call0D (BCall.ofP (cellH_ok _ _ _ ?_)) ?_ | refine qcall0D (BCall.ofP (cellH_ok _ _ _ ?_)) ⟨_, _, rfl, rfl⟩ ?_); (focus (first | assumption | rfl | omega | (simp <;> omega) | (simp_all <;> omega))); rintro _ _ ⟨rfl, rfl⟩) | ((first | refine call0D (BCall.ofP (cellL_ok _ _ _ ?_)) ?_ | refine qcall0D (BCall.ofP (cellL_ok _ _ _ ?_)) ⟨_, _, rfl, rfl⟩ ?_); (focus (first | assumption | rfl | omega | (simp <;> omega) | (simp_all <;> omega))); rintro _ _ ⟨rfl, rfl⟩)) <;> (try simp (maxSteps := 400000) (disch := omega) only [push_cast, seval]))
      | (refine awp_ret ⟨.inr rfl, [], [], _, by decide, rfl, ?_⟩; (try simp (maxSteps := 400000) (disch := omega) only [push_cast, seval, ↓allMem_nil, ↓allMem_cons, ↓List.map_cons, ↓List.map_nil]))))
      all_goals exact ⟨[], [], [], ⟨by decide, by simp⟩, rfl, by simp, rfl, rfl⟩


set_option maxHeartbeats 8000000 in
theorem readH_ok (L : List Int) (m : Nat) (q x : Nat) (hL : L.length = m) (hb : (m ≤ 100 ∧ (1 ≤ x ∧ x ≤ 4) ∧ q + x ≤ m) ∧ ∀ x ∈ L, 0 ≤ x ∧ x ≤ 255) : PCall Tryd.prog 100 [.agg [.val (.func (.func 103) #[] #[])], .rows false (IL L) m, .agg [.int .i64 (q : Int), .int .i64 (x : Int)]] (fun r => r = .int .i64 (rdK L true q x x)) := by
  subst hL
  obtain ⟨⟨hm, ⟨hz1, hz2⟩, hq⟩, hv⟩ := hb
  refine pcall_of l100_eq rfl ?_
  (repeat' (first
      | (first | refine awp_seq ?_ | refine awp_block ?_)
      | ((first | refine awp_reg ?_ | refine awp_condB ?_ | refine awp_skip ?_ | refine awp_exit ?_); simp (maxSteps := 400000) (disch := omega) only [push_cast, seval, l100r0, l100r1, l100r2, l100r3, l100r4, l100r5, l100r6])
      | ((first | refine condB_split (fun h => ?_) (fun h => ?_) | refine gIf_split (fun h => ?_) (fun h => ?_) | refine qIf_split (fun h => ?_) (fun h => ?_)) <;> (try simp only [h]) <;> (try simp only [decide_eq_true_eq, decide_eq_false_iff_not, Bool.not_eq_true', Bool.not_eq_false', Bool.and_eq_true, Bool.or_eq_true, Bool.and_eq_false_iff, Bool.or_eq_false_iff, Int.not_le, Int.not_lt, bne_iff_ne, ne_eq, beq_iff_eq, Bool.not_eq_true, Bool.not_eq_false] at h) <;> (try simp only [h]) <;> (first | (exfalso; omega) | (focus (exfalso; simp_all; done)) | (simp (maxSteps := 400000) (disch := omega) only [push_cast, seval]) | skip))
      | ((first | refine callD_of false ?_ | refine qcallD_of false ?_); simp (maxSteps := 400000) (disch := omega) only [push_cast, seval])
      | ((first | ((first | refine call0D (BCall.ofP (cellH_ok _ _ _ ?_)) ?_ | refine qcall0D (BCall.ofP (cellH_ok _ _ _ ?_)) ⟨_, _, rfl, rfl⟩ ?_); (focus (first | assumption | rfl | omega | (simp <;> omega) | (simp_all <;> omega))); rintro _ _ ⟨rfl, rfl⟩) | ((first | refine call0D (BCall.ofP (cellL_ok _ _ _ ?_)) ?_ | refine qcall0D (BCall.ofP (cellL_ok _ _ _ ?_)) ⟨_, _, rfl, rfl⟩ ?_); (focus (first | assumption | rfl | omega | (simp <;> omega) | (simp_all <;> omega))); rintro _ _ ⟨rfl, rfl⟩)) <;> (try simp (maxSteps := 400000) (disch := omega) only [push_cast, seval]))
      | (refine awp_ret ⟨.inr rfl, _, rfl, ?_⟩; (try simp (maxSteps := 400000) (disch := omega) only [push_cast, seval]))))
  refine awp_loop (fun k : Nat => mkS [(1, RI L), (3, .ref 48 1 0), (5, .ref 80 2 0), (7, .int .i64 (rdK L true q x k)), (8, .int .i64 ((x : Int) - 1 - (k : Int)))] [(48, [.val (.func (.func 103) #[] #[])]), (80, [.int .i64 q, .int .i64 x])])
    (fun k => k ≤ x) (fun k => x - k) 0 (Nat.zero_le _) ?_ ?_
  · have e0 : rdK L true q x 0 = 0 := rfl
    (refine Sub.of_lists ?_ ?_ ?_ ?_ ?_ <;> simp [Vw.mkS, Vw.lk, Vw.hk, AV.inn, innL, innL_ints, innL_append, innL_rep, -List.map_set, -List.getD_eq_getElem?_getD, e0])
  · intro k hk
    have b1 := rdK_bound (big := true) (p := q) (z := x) hv k
    have b4 := pw_bound (k := k) (by omega)
    by_cases hlt : k < x
    · obtain ⟨r, hr⟩ : ∃ r : Nat, x - 1 - k = r := ⟨_, rfl⟩
      have hri : (x : Int) - 1 - (k : Int) = (r : Int) := by omega
      have hq2 : (0 ≤ (q : Int) ∧ (q : Int) ≤ 1000) ∧ (0 ≤ (x : Int) ∧ (x : Int) ≤ 1000) ∧ 0 ≤ (r : Int) ∧ (r : Int) ≤ 1000 := by omega
      obtain ⟨y, hy⟩ : ∃ y : Nat, q + (x - 1 - r) = y := ⟨_, rfl⟩
      have hyi : (q : Int) + ((x : Int) - 1 - (r : Int)) = (y : Int) := by omega
      have hyl : y < L.length := by omega
      have hx := hv _ (getD_mem hyl)
      have e3 : rdK L true q x (k + 1) = rdK L true q x k * 256 + L.getD y 0 := by
        simp only [rdK, plc, if_true]
        rw [hr, hy]
      have b2 := rdK_bound (big := true) (p := q) (z := x) hv (k + 1)
      have b5 := pw_bound (k := k + 1) (by omega)
      have hr0 : 0 ≤ (r : Int) := by omega
      have e5 : (x : Int) - 1 - ((k : Int) + 1) = (r : Int) - 1 := by omega
      rw [e3] at b2
      rw [hri]
      generalize hR : rdK L true q x k = R at *
      (repeat' (first
      | (first | refine awp_seq ?_ | refine awp_block ?_)
      | ((first | refine awp_reg ?_ | refine awp_condB ?_ | refine awp_skip ?_ | refine awp_exit ?_); simp (maxSteps := 400000) (disch := omega) only [push_cast, seval, l100r0, l100r1, l100r2, l100r3, l100r4, l100r5, l100r6, hyi])
      | ((first | refine condB_split (fun h => ?_) (fun h => ?_) | refine gIf_split (fun h => ?_) (fun h => ?_) | refine qIf_split (fun h => ?_) (fun h => ?_)) <;> (try simp only [h]) <;> (try simp only [decide_eq_true_eq, decide_eq_false_iff_not, Bool.not_eq_true', Bool.not_eq_false', Bool.and_eq_true, Bool.or_eq_true, Bool.and_eq_false_iff, Bool.or_eq_false_iff, Int.not_le, Int.not_lt, bne_iff_ne, ne_eq, beq_iff_eq, Bool.not_eq_true, Bool.not_eq_false] at h) <;> (try simp only [h]) <;> (first | (exfalso; omega) | (focus (exfalso; simp_all; done)) | (simp (maxSteps := 400000) (disch := omega) only [push_cast, seval, hyi]) | skip))
      | ((first | refine callD_of false ?_ | refine qcallD_of false ?_); simp (maxSteps := 400000) (disch := omega) only [push_cast, seval, hyi])
      | ((first | ((first | refine call0D (BCall.ofP (cellH_ok _ _ _ ?_)) ?_ | refine qcall0D (BCall.ofP (cellH_ok _ _ _ ?_)) ⟨_, _, rfl, rfl⟩ ?_); (focus (first | assumption | rfl | omega | (simp <;> omega) | (simp_all <;> omega))); rintro _ _ ⟨rfl, rfl⟩) | ((first | refine call0D (BCall.ofP (cellL_ok _ _ _ ?_)) ?_ | refine qcall0D (BCall.ofP (cellL_ok _ _ _ ?_)) ⟨_, _, rfl, rfl⟩ ?_); (focus (first | assumption | rfl | omega | (simp <;> omega) | (simp_all <;> omega))); rintro _ _ ⟨rfl, rfl⟩)) <;> (try simp (maxSteps := 400000) (disch := omega) only [push_cast, seval, hyi]))
      | (refine awp_ret ⟨.inr rfl, _, rfl, ?_⟩; (try simp (maxSteps := 400000) (disch := omega) only [push_cast, seval, hyi]))))
      refine ⟨k + 1, by omega, by omega, ?_⟩
      (refine Sub.of_lists ?_ ?_ ?_ ?_ ?_ <;> simp [Vw.mkS, Vw.lk, Vw.hk, AV.inn, innL, innL_ints, innL_append, innL_rep, -List.map_set, -List.getD_eq_getElem?_getD, e3, hR, e5])
    · have e : k = x := by omega
      subst e
      have h1 : ¬ ((k : Int) - 1 - (k : Int) ≥ 0) := by omega
      (repeat' (first
      | (first | refine awp_seq ?_ | refine awp_block ?_)
      | ((first | refine awp_reg ?_ | refine awp_condB ?_ | refine awp_skip ?_ | refine awp_exit ?_); simp (maxSteps := 400000) (disch := omega) only [push_cast, seval, l100r0, l100r1, l100r2, l100r3, l100r4, l100r5, l100r6, h1])
      | ((first | refine condB_split (fun h => ?_) (fun h => ?_) | refine gIf_split (fun h => ?_) (fun h => ?_) | refine qIf_split (fun h => ?_) (fun h => ?_)) <;> (try simp only [h]) <;> (try simp only [decide_eq_true_eq, decide_eq_false_iff_not, Bool.not_eq_true', Bool.not_eq_false', Bool.and_eq_true, Bool.or_eq_true, Bool.and_eq_false_iff, Bool.or_eq_false_iff, Int.not_le, Int.not_lt, bne_iff_ne, ne_eq, beq_iff_eq, Bool.not_eq_true, Bool.not_eq_false] at h) <;> (try simp only [h]) <;> (first | (exfalso; omega) | (focus (exfalso; simp_all; done)) | (simp (maxSteps := 400000) (disch := omega) only [push_cast, seval, h1]) | skip))
      | ((first | refine callD_of false ?_ | refine qcallD_of false ?_); simp (maxSteps := 400000) (disch := omega) only [push_cast, seval, h1])
      | ((first | ((first | refine call0D (BCall.ofP (cellH_ok _ _ _ ?_)) ?_ | refine qcall0D (BCall.ofP (cellH_ok _ _ _ ?_)) ⟨_, _, rfl, rfl⟩ ?_); (focus (first | assumption | rfl | omega | (simp <;> omega) | (simp_all <;> omega))); rintro _ _ ⟨rfl, rfl⟩) | ((first | refine call0D (BCall.ofP (cellL_ok _ _ _ ?_)) ?_ | refine qcall0D (BCall.ofP (cellL_ok _ _ _ ?_)) ⟨_, _, rfl, rfl⟩ ?_); (focus (first | assumption | rfl | omega | (simp <;> omega) | (simp_all <;> omega))); rintro _ _ ⟨rfl, rfl⟩)) <;> (try simp (maxSteps := 400000) (disch := omega) only [push_cast, seval, h1]))
      | (refine awp_ret ⟨.inr rfl, _, rfl, ?_⟩; (try simp (maxSteps := 400000) (disch := omega) only [push_cast, seval, h1]))))
set_option maxHeartbeats 8000000 in
theorem readL_ok (L : List Int) (m : Nat) (q x : Nat) (hL : L.length = m) (hb : (m ≤ 100 ∧ (1 ≤ x ∧ x ≤ 4) ∧ q + x ≤ m) ∧ ∀ x ∈ L, 0 ≤ x ∧ x ≤ 255) : PCall Tryd.prog 100 [.agg [.val (.func (.func 104) #[] #[])], .rows false (IL L) m, .agg [.int .i64 (q : Int), .int .i64 (x : Int)]] (fun r => r = .int .i64 (rdK L false q x x)) := by
  subst hL
  obtain ⟨⟨hm, ⟨hz1, hz2⟩, hq⟩, hv⟩ := hb
  refine pcall_of l100_eq rfl ?_
  (repeat' (first
      | (first | refine awp_seq ?_ | refine awp_block ?_)
      | ((first | refine awp_reg ?_ | refine awp_condB ?_ | refine awp_skip ?_ | refine awp_exit ?_); simp (maxSteps := 400000) (disch := omega) only [push_cast, seval, l100r0, l100r1, l100r2, l100r3, l100r4, l100r5, l100r6])
      | ((first | refine condB_split (fun h => ?_) (fun h => ?_) | refine gIf_split (fun h => ?_) (fun h => ?_) | refine qIf_split (fun h => ?_) (fun h => ?_)) <;> (try simp only [h]) <;> (try simp only [decide_eq_true_eq, decide_eq_false_iff_not, Bool.not_eq_true', Bool.not_eq_false', Bool.and_eq_true, Bool.or_eq_true, Bool.and_eq_false_iff, Bool.or_eq_false_iff, Int.not_le, Int.not_lt, bne_iff_ne, ne_eq, beq_iff_eq, Bool.not_eq_true, Bool.not_eq_false] at h) <;> (try simp only [h]) <;> (first | (exfalso; omega) | (focus (exfalso; simp_all; done)) | (simp (maxSteps := 400000) (disch := omega) only [push_cast, seval]) | skip))
      | ((first | refine callD_of false ?_ | refine qcallD_of false ?_); simp (maxSteps := 400000) (disch := omega) only [push_cast, seval])
      | ((first | ((first | refine call0D (BCall.ofP (cellH_ok _ _ _ ?_)) ?_ | refine qcall0D (BCall.ofP (cellH_ok _ _ _ ?_)) ⟨_, _, rfl, rfl⟩ ?_); (focus (first | assumption | rfl | omega | (simp <;> omega) | (simp_all <;> omega))); rintro _ _ ⟨rfl, rfl⟩) | ((first | refine call0D (BCall.ofP (cellL_ok _ _ _ ?_)) ?_ | refine qcall0D (BCall.ofP (cellL_ok _ _ _ ?_)) ⟨_, _, rfl, rfl⟩ ?_); (focus (first | assumption | rfl | omega | (simp <;> omega) | (simp_all <;> omega))); rintro _ _ ⟨rfl, rfl⟩)) <;> (try simp (maxSteps := 400000) (disch := omega) only [push_cast, seval]))
      | (refine awp_ret ⟨.inr rfl, _, rfl, ?_⟩; (try simp (maxSteps := 400000) (disch := omega) only [push_cast, seval]))))
  refine awp_loop (fun k : Nat => mkS [(1, RI L), (3, .ref 48 1 0), (5, .ref 80 2 0), (7, .int .i64 (rdK L false q x k)), (8, .int .i64 ((x : Int) - 1 - (k : Int)))] [(48, [.val (.func (.func 104) #[] #[])]), (80, [.int .i64 q, .int .i64 x])])
    (fun k => k ≤ x) (fun k => x - k) 0 (Nat.zero_le _) ?_ ?_
  · have e0 : rdK L false q x 0 = 0 := rfl
    (refine Sub.of_lists ?_ ?_ ?_ ?_ ?_ <;> simp [Vw.mkS, Vw.lk, Vw.hk, AV.inn, innL, innL_ints, innL_append, innL_rep, -List.map_set, -List.getD_eq_getElem?_getD, e0])
  · intro k hk
    have b1 := rdK_bound (big := false) (p := q) (z := x) hv k
    have b4 := pw_bound (k := k) (by omega)
    by_cases hlt : k < x
    · obtain ⟨r, hr⟩ : ∃ r : Nat, x - 1 - k = r := ⟨_, rfl⟩
      have hri : (x : Int) - 1 - (k : Int) = (r : Int) := by omega
      have hq2 : (0 ≤ (q : Int) ∧ (q : Int) ≤ 1000) ∧ (0 ≤ (x : Int) ∧ (x : Int) ≤ 1000) ∧ 0 ≤ (r : Int) ∧ (r : Int) ≤ 1000 := by omega
      obtain ⟨y, hy⟩ : ∃ y : Nat, q + r = y := ⟨_, rfl⟩
      have hyi : (q : Int) + (r : Int) = (y : Int) := by omega
      have hyl : y < L.length := by omega
      have hx := hv _ (getD_mem hyl)
      have e3 : rdK L false q x (k + 1) = rdK L false q x k * 256 + L.getD y 0 := by
        simp only [rdK, plc, Bool.false_eq_true, if_false]
        rw [hr, hy]
      have b2 := rdK_bound (big := false) (p := q) (z := x) hv (k + 1)
      have b5 := pw_bound (k := k + 1) (by omega)
      have hr0 : 0 ≤ (r : Int) := by omega
      have e5 : (x : Int) - 1 - ((k : Int) + 1) = (r : Int) - 1 := by omega
      rw [e3] at b2
      rw [hri]
      generalize hR : rdK L false q x k = R at *
      (repeat' (first
      | (first | refine awp_seq ?_ | refine awp_block ?_)
      | ((first | refine awp_reg ?_ | refine awp_condB ?_ | refine awp_skip ?_ | refine awp_exit ?_); simp (maxSteps := 400000) (disch := omega) only [push_cast, seval, l100r0, l100r1, l100r2, l100r3, l100r4, l100r5, l100r6, hyi])
      | ((first | refine condB_split (fun h => ?_) (fun h => ?_) | refine gIf_split (fun h => ?_) (fun h => ?_) | refine qIf_split (fun h => ?_) (fun h => ?_)) <;> (try simp only [h]) <;> (try simp only [decide_eq_true_eq, decide_eq_false_iff_not, Bool.not_eq_true', Bool.not_eq_false', Bool.and_eq_true, Bool.or_eq_true, Bool.and_eq_false_iff, Bool.or_eq_false_iff, Int.not_le, Int.not_lt, bne_iff_ne, ne_eq, beq_iff_eq, Bool.not_eq_true, Bool.not_eq_false] at h) <;> (try simp only [h]) <;> (first | (exfalso; omega) | (focus (exfalso; simp_all; done)) | (simp (maxSteps := 400000) (disch := omega) only [push_cast, seval, hyi]) | skip))
      | ((first | refine callD_of false ?_ | refine qcallD_of false ?_); simp (maxSteps := 400000) (disch := omega) only [push_cast, seval, hyi])
      | ((first | ((first | refine call0D (BCall.ofP (cellH_ok _ _ _ ?_)) ?_ | refine qcall0D (BCall.ofP (cellH_ok _ _ _ ?_)) ⟨_, _, rfl, rfl⟩ ?_); (focus (first | assumption | rfl | omega | (simp <;> omega) | (simp_all <;> omega))); rintro _ _ ⟨rfl, rfl⟩) | ((first | refine call0D (BCall.ofP (cellL_ok _ _ _ ?_)) ?_ | refine qcall0D (BCall.ofP (cellL_ok _ _ _ ?_)) ⟨_, _, rfl, rfl⟩ ?_); (focus (first | assumption | rfl | omega | (simp <;> omega) | (simp_all <;> omega))); rintro _ _ ⟨rfl, rfl⟩)) <;> (try simp (maxSteps := 400000) (disch := omega) only [push_cast, seval, hyi]))
      | (refine awp_ret ⟨.inr rfl, _, rfl, ?_⟩; (try simp (maxSteps := 400000) (disch := omega) only [push_cast, seval, hyi]))))
      refine ⟨k + 1, by omega, by omega, ?_⟩
      (refine Sub.of_lists ?_ ?_ ?_ ?_ ?_ <;> simp [Vw.mkS, Vw.lk, Vw.hk, AV.inn, innL, innL_ints, innL_append, innL_rep, -List.map_set, -List.getD_eq_getElem?_getD, e3, hR, e5])
    · have e : k = x := by omega
      subst e
      have h1 : ¬ ((k : Int) - 1 - (k : Int) ≥ 0) := by omega
      (repeat' (first
      | (first | refine awp_seq ?_ | refine awp_block ?_)
      | ((first | refine awp_reg ?_ | refine awp_condB ?_ | refine awp_skip ?_ | refine awp_exit ?_); simp (maxSteps := 400000) (disch := omega) only [push_cast, seval, l100r0, l100r1, l100r2, l100r3, l100r4, l100r5, l100r6, h1])
      | ((first | refine condB_split (fun h => ?_) (fun h => ?_) | refine gIf_split (fun h => ?_) (fun h => ?_) | refine qIf_split (fun h => ?_) (fun h => ?_)) <;> (try simp only [h]) <;> (try simp only [decide_eq_true_eq, decide_eq_false_iff_not, Bool.not_eq_true', Bool.not_eq_false', Bool.and_eq_true, Bool.or_eq_true, Bool.and_eq_false_iff, Bool.or_eq_false_iff, Int.not_le, Int.not_lt, bne_iff_ne, ne_eq, beq_iff_eq, Bool.not_eq_true, Bool.not_eq_false] at h) <;> (try simp only [h]) <;> (first | (exfalso; omega) | (focus (exfalso; simp_all; done)) | (simp (maxSteps := 400000) (disch := omega) only [push_cast, seval, h1]) | skip))
      | ((first | refine callD_of false ?_ | refine qcallD_of false ?_); simp (maxSteps := 400000) (disch := omega) only [push_cast, seval, h1])
      | ((first | ((first | refine call0D (BCall.ofP (cellH_ok _ _ _ ?_)) ?_ | refine qcall0D (BCall.ofP (cellH_ok _ _ _ ?_)) ⟨_, _, rfl, rfl⟩ ?_); (focus (first | assumption | rfl | omega | (simp <;> omega) | (simp_all <;> omega))); rintro _ _ ⟨rfl, rfl⟩) | ((first | refine call0D (BCall.ofP (cellL_ok _ _ _ ?_)) ?_ | refine qcall0D (BCall.ofP (cellL_ok _ _ _ ?_)) ⟨_, _, rfl, rfl⟩ ?_); (focus (first | assumption | rfl | omega | (simp <;> omega) | (simp_all <;> omega))); rintro _ _ ⟨rfl, rfl⟩)) <;> (try simp (maxSteps := 400000) (disch := omega) only [push_cast, seval, h1]))
      | (refine awp_ret ⟨.inr rfl, _, rfl, ?_⟩; (try simp (maxSteps := 400000) (disch := omega) only [push_cast, seval, h1]))))


set_option maxHeartbeats 8000000 in
theorem sbytes_ok (v : Int) (x : Nat) (big : Bool) (hb : x ≤ 4 ∧ 0 ≤ v ∧ v ≤ 4294967296) : BCall Tryd.prog 99 [.int .i64 v, .int .i64 (x : Int), .bool big] [] (OI (byO v x big)) := by
  obtain ⟨hx, hv1, hv2⟩ := hb
  refine bcall_of (pins := []) (pin := 0) l99_eq rfl rfl rfl ?_
  (repeat' (first
      | (first | refine awp_seq ?_ | refine awp_block ?_)
      | ((first | refine awp_reg ?_ | refine awp_condB ?_ | refine awp_skip ?_ | refine awp_exit ?_); simp (maxSteps := 400000) (disch := omega) only [push_cast, seval, l99r0, l99r1, l99r2, l99r3, l99r4, l99r5, l99r6, l99r7, l99r8, l99r9])
      | ((first | refine condB_split (fun h => ?_) (fun h => ?_) | refine gIf_split (fun h => ?_) (fun h => ?_) | refine qIf_split (fun h => ?_) (fun h => ?_)) <;> (try simp only [h]) <;> (try simp only [decide_eq_true_eq, decide_eq_false_iff_not, Bool.not_eq_true', Bool.not_eq_false', Bool.and_eq_true, Bool.or_eq_true, Bool.and_eq_false_iff, Bool.or_eq_false_iff, Int.not_le, Int.not_lt, bne_iff_ne, ne_eq, beq_iff_eq, Bool.not_eq_true, Bool.not_eq_false] at h) <;> (try simp only [h]) <;> (first | (exfalso; omega) | (focus (exfalso; simp_all; done)) | (simp (maxSteps := 400000) (disch := omega) only [push_cast, seval]) | skip))
      | ((first | refine callD_of false ?_ | refine qcallD_of false ?_); simp (maxSteps := 400000) (disch := omega) only [push_cast, seval])
      | ((first | ((first | refine call0D (sreversed_ok _ _ ?_ ?_) ?_ | refine qcall0D (sreversed_ok _ _ ?_ ?_) ⟨_, _, rfl, rfl⟩ ?_); (iterate 2 (focus (first | assumption | rfl | omega | (simp <;> omega) | (simp_all <;> omega)))); rintro _ _ ⟨rfl, rfl⟩)) <;> (try simp (maxSteps := 400000) (disch := omega) only [push_cast, seval]))
      | (refine awp_ret ⟨.inr rfl, [144], [], _, by decide, rfl, ?_⟩; (try simp (maxSteps := 400000) (disch := omega) only [push_cast, seval, ↓allMem_nil, ↓allMem_cons, ↓List.map_cons, ↓List.map_nil]))))
  refine awp_loop (fun k : Nat => mkS [(0, .int .i64 (shB v k)), (1, .int .i64 x), (2, .bool big), (7, .own 144 k 1), (8, .int .i64 k)] [(144, IL (byL v k))])
    (fun k => k ≤ x) (fun k => x - k) 0 (Nat.zero_le _) ?_ ?_
  · have e0 : shB v 0 = v := rfl
    have e1 : byL v 0 = [] := rfl
    (refine Sub.of_lists ?_ ?_ ?_ ?_ ?_ <;> simp [Vw.mkS, Vw.lk, Vw.hk, AV.inn, innL, innL_ints, innL_append, innL_rep, -List.map_set, -List.getD_eq_getElem?_getD, e0, e1])
  · intro k hk
    have b1 := shB_bound hv1 k
    have hl := byL_length v k
    by_cases hlt : k < x
    · have e2 : (shB v k).tdiv 256 = shB v (k + 1) := rfl
      have e3 := byL_succ v k
      have b3 := tdiv_bound (x := shB v k) (y := 256) (by omega) b1.1
      have b4 := byt_bound hv1 k
      have e1 : (shB v k).tmod 256 = byt v k := rfl
      rw [e2] at b3
      rw [e1] at e3
      generalize hB : byL v k = L at *
      (repeat' (first
      | (first | refine awp_seq ?_ | refine awp_block ?_)
      | ((first | refine awp_reg ?_ | refine awp_condB ?_ | refine awp_skip ?_ | refine awp_exit ?_); simp (maxSteps := 400000) (disch := omega) only [push_cast, seval, l99r0, l99r1, l99r2, l99r3, l99r4, l99r5, l99r6, l99r7, l99r8, l99r9, e1, e2, hl])
      | ((first | refine condB_split (fun h => ?_) (fun h => ?_) | refine gIf_split (fun h => ?_) (fun h => ?_) | refine qIf_split (fun h => ?_) (fun h => ?_)) <;> (try simp only [h]) <;> (try simp only [decide_eq_true_eq, decide_eq_false_iff_not, Bool.not_eq_true', Bool.not_eq_false', Bool.and_eq_true, Bool.or_eq_true, Bool.and_eq_false_iff, Bool.or_eq_false_iff, Int.not_le, Int.not_lt, bne_iff_ne, ne_eq, beq_iff_eq, Bool.not_eq_true, Bool.not_eq_false] at h) <;> (try simp only [h]) <;> (first | (exfalso; omega) | (focus (exfalso; simp_all; done)) | (simp (maxSteps := 400000) (disch := omega) only [push_cast, seval, e1, e2, hl]) | skip))
      | ((first | refine callD_of false ?_ | refine qcallD_of false ?_); simp (maxSteps := 400000) (disch := omega) only [push_cast, seval, e1, e2, hl])
      | ((first | ((first | refine call0D (sreversed_ok _ _ ?_ ?_) ?_ | refine qcall0D (sreversed_ok _ _ ?_ ?_) ⟨_, _, rfl, rfl⟩ ?_); (iterate 2 (focus (first | assumption | rfl | omega | (simp <;> omega) | (simp_all <;> omega)))); rintro _ _ ⟨rfl, rfl⟩)) <;> (try simp (maxSteps := 400000) (disch := omega) only [push_cast, seval, e1, e2, hl]))
      | (refine awp_ret ⟨.inr rfl, [144], [], _, by decide, rfl, ?_⟩; (try simp (maxSteps := 400000) (disch := omega) only [push_cast, seval, ↓allMem_nil, ↓allMem_cons, ↓List.map_cons, ↓List.map_nil, e1, e2, hl]))))
      refine ⟨k + 1, by omega, by omega, ?_⟩
      (refine Sub.of_lists ?_ ?_ ?_ ?_ ?_ <;> simp [Vw.mkS, Vw.lk, Vw.hk, AV.inn, innL, innL_ints, innL_append, innL_rep, -List.map_set, -List.getD_eq_getElem?_getD, e3, hB])
    · have e : k = x := by omega
      subst e
      cases big with
      | false =>
        have e0 := byO_low v k
        (repeat' (first
      | (first | refine awp_seq ?_ | refine awp_block ?_)
      | ((first | refine awp_reg ?_ | refine awp_condB ?_ | refine awp_skip ?_ | refine awp_exit ?_); simp (maxSteps := 400000) (disch := omega) only [push_cast, seval, l99r0, l99r1, l99r2, l99r3, l99r4, l99r5, l99r6, l99r7, l99r8, l99r9, hl])
      | ((first | refine condB_split (fun h => ?_) (fun h => ?_) | refine gIf_split (fun h => ?_) (fun h => ?_) | refine qIf_split (fun h => ?_) (fun h => ?_)) <;> (try simp only [h]) <;> (try simp only [decide_eq_true_eq, decide_eq_false_iff_not, Bool.not_eq_true', Bool.not_eq_false', Bool.and_eq_true, Bool.or_eq_true, Bool.and_eq_false_iff, Bool.or_eq_false_iff, Int.not_le, Int.not_lt, bne_iff_ne, ne_eq, beq_iff_eq, Bool.not_eq_true, Bool.not_eq_false] at h) <;> (try simp only [h]) <;> (first | (exfalso; omega) | (focus (exfalso; simp_all; done)) | (simp (maxSteps := 400000) (disch := omega) only [push_cast, seval, hl]) | skip))
      | ((first | refine callD_of false ?_ | refine qcallD_of false ?_); simp (maxSteps := 400000) (disch := omega) only [push_cast, seval, hl])
      | ((first | ((first | refine call0D (sreversed_ok _ _ ?_ ?_) ?_ | refine qcall0D (sreversed_ok _ _ ?_ ?_) ⟨_, _, rfl, rfl⟩ ?_); (iterate 2 (focus (first | assumption | rfl | omega | (simp <;> omega) | (simp_all <;> omega)))); rintro _ _ ⟨rfl, rfl⟩)) <;> (try simp (maxSteps := 400000) (disch := omega) only [push_cast, seval, hl]))
      | (refine awp_ret ⟨.inr rfl, [144], [], _, by decide, rfl, ?_⟩; (try simp (maxSteps := 400000) (disch := omega) only [push_cast, seval, ↓allMem_nil, ↓allMem_cons, ↓List.map_cons, ↓List.map_nil, hl]))))
        all_goals (rw [e0]; simp [OI, hl])
      | true =>
        have e0 := byO_high v k
        have hk9 : k ≤ 1099511627776 := by omega
        (repeat' (first
      | (first | refine awp_seq ?_ | refine awp_block ?_)
      | ((first | refine awp_reg ?_ | refine awp_condB ?_ | refine awp_skip ?_ | refine awp_exit ?_); simp (maxSteps := 400000) (disch := omega) only [push_cast, seval, l99r0, l99r1, l99r2, l99r3, l99r4, l99r5, l99r6, l99r7, l99r8, l99r9, hl])
      | ((first | refine condB_split (fun h => ?_) (fun h => ?_) | refine gIf_split (fun h => ?_) (fun h => ?_) | refine qIf_split (fun h => ?_) (fun h => ?_)) <;> (try simp only [h]) <;> (try simp only [decide_eq_true_eq, decide_eq_false_iff_not, Bool.not_eq_true', Bool.not_eq_false', Bool.and_eq_true, Bool.or_eq_true, Bool.and_eq_false_iff, Bool.or_eq_false_iff, Int.not_le, Int.not_lt, bne_iff_ne, ne_eq, beq_iff_eq, Bool.not_eq_true, Bool.not_eq_false] at h) <;> (try simp only [h]) <;> (first | (exfalso; omega) | (focus (exfalso; simp_all; done)) | (simp (maxSteps := 400000) (disch := omega) only [push_cast, seval, hl]) | skip))
      | ((first | refine callD_of false ?_ | refine qcallD_of false ?_); simp (maxSteps := 400000) (disch := omega) only [push_cast, seval, hl])
      | ((first | ((first | refine call0D (sreversed_ok _ _ ?_ ?_) ?_ | refine qcall0D (sreversed_ok _ _ ?_ ?_) ⟨_, _, rfl, rfl⟩ ?_); (iterate 2 (focus (first | assumption | rfl | omega | (simp <;> omega) | (simp_all <;> omega)))); rintro _ _ ⟨rfl, rfl⟩)) <;> (try simp (maxSteps := 400000) (disch := omega) only [push_cast, seval, hl]))
      | (refine awp_ret ⟨.inr rfl, [144], [], _, by decide, rfl, ?_⟩; (try simp (maxSteps := 400000) (disch := omega) only [push_cast, seval, ↓allMem_nil, ↓allMem_cons, ↓List.map_cons, ↓List.map_nil, hl]); (first | done | (show AV.own _ _ _ = _ ∧ _)))
      | (refine awp_ret ⟨.inr rfl, [288], [], _, by decide, rfl, ?_⟩; (try simp (maxSteps := 400000) (disch := omega) only [push_cast, seval, ↓allMem_nil, ↓allMem_cons, ↓List.map_cons, ↓List.map_nil, hl]); (first | done | (show AV.own _ _ _ = _ ∧ _)))
      | (refine awp_ret ⟨.inr rfl, [304], [], _, by decide, rfl, ?_⟩; (try simp (maxSteps := 400000) (disch := omega) only [push_cast, seval, ↓allMem_nil, ↓allMem_cons, ↓List.map_cons, ↓List.map_nil, hl]); (first | done | (show AV.own _ _ _ = _ ∧ _)))
      | (refine awp_ret ⟨.inr rfl, [384], [], _, by decide, rfl, ?_⟩; (try simp (maxSteps := 400000) (disch := omega) only [push_cast, seval, ↓allMem_nil, ↓allMem_cons, ↓List.map_cons, ↓List.map_nil, hl]); (first | done | (show AV.own _ _ _ = _ ∧ _)))))
        all_goals (rw [e0]; simp [OI, hl])

end Go.Proofs.YtclampodmlklpaaDoor
