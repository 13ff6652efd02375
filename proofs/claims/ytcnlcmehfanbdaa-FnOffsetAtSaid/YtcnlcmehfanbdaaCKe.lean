import Derived.Test.YtcnlcmehfanbdaaCKd
import Derived.Test.YtcnlcmehfanbdaaCM1

set_option linter.unusedSimpArgs false
set_option linter.unusedVariables false
set_option linter.unnecessarySimpa false
set_option maxRecDepth 4000
set_option maxHeartbeats 4000000
namespace Go.Proofs.Ytcnlcmehfanbdaa
open VwM Vw Go

theorem svalidIndex_ok (sh idx : List Int) (n m : Nat) (hn : sh.length = n) (hm : idx.length = m) (hb : (good4 sh ∧ n ≤ 1099511627776) ∧ m ≤ 1099511627776) : PCall Try.prog 53 [.rows false (IL sh) n, .rows false (IL idx) m] (fun r => r = .bool (vIx sh idx)) := by
  subst hn hm
  obtain ⟨⟨hg, hb1⟩, hb2⟩ := hb
  refine pcall_of l53_eq rfl ?_
  by_cases hlen : idx.length = sh.length
  · (repeat' (first
      | (first | refine awp_seq ?_ | refine awp_block ?_)
      | ((first | refine awp_reg ?_ | refine awp_draw (mid := l53r5a) (post := l53r5b) mixed (by decide) ?_ | refine awp_condB ?_ | refine awp_skip ?_ | refine awp_exit ?_); simp (maxSteps := 400000) (disch := omega) only [push_cast, seval, Bool.false_eq_true, List.length_replicate, l53r0, l53r1, l53r2, l53r3, l53r4, l53r5a, l53r5b, l53r5, l53r6, l53r7, l53r8, hlen])
      | ((first | refine condB_split (fun h => ?_) (fun h => ?_) | refine gIf_split (fun h => ?_) (fun h => ?_) | refine qIf_split (fun h => ?_) (fun h => ?_)) <;> (try simp only [h]) <;> (try simp only [decide_eq_true_eq, decide_eq_false_iff_not, Bool.not_eq_true', Bool.not_eq_false', Bool.and_eq_true, Bool.or_eq_true, Bool.and_eq_false_iff, Bool.or_eq_false_iff, Int.not_le, Int.not_lt, bne_iff_ne, ne_eq, beq_iff_eq, Bool.not_eq_true, Bool.not_eq_false] at h) <;> (try simp only [h]) <;> (first | (exfalso; omega) | (focus (exfalso; simp_all; done)) | (simp (maxSteps := 400000) (disch := omega) only [push_cast, seval, Bool.false_eq_true, List.length_replicate, hlen]) | skip))
      | ((first | refine callD_of false ?_ | refine qcallD_of false ?_); simp (maxSteps := 400000) (disch := omega) only [push_cast, seval, Bool.false_eq_true, List.length_replicate, hlen])
      | ((first | ((first | refine call0D (BCall.ofP (inRange_ok _ _ _)) ?_ | refine qcall0D (BCall.ofP (inRange_ok _ _ _)) ⟨_, _, rfl, rfl⟩ ?_); rintro _ _ ⟨rfl, rfl⟩)); (try simp (maxSteps := 400000) (disch := omega) only [push_cast, seval, Bool.false_eq_true, List.length_replicate, hlen]))
      | (refine awp_ret ⟨.inr rfl, _, rfl, ?_⟩; (try simp (maxSteps := 400000) (disch := omega) only [push_cast, seval, Bool.false_eq_true, List.length_replicate, hlen]))))
    refine awp_loop (fun k : Nat => mkS [(0, RI sh), (1, .rows false (IL idx) sh.length), (5, .int .i64 k)] []) (fun k => k ≤ idx.length ∧ ∀ j : Nat, j < k → 0 ≤ idx.getD j 0 ∧ idx.getD j 0 ≤ sh.getD j 0 - 1) (fun k => idx.length - k) 0 ⟨Nat.zero_le _, fun j h => absurd h (Nat.not_lt_zero _)⟩ ?_ ?_
    · (refine Sub.of_lists ?_ ?_ ?_ ?_ ?_ <;> simp [Vw.mkS, Vw.lk, Vw.hk, AV.inn, innL, innL_ints, innL_append, innL_rep, -List.map_set, -List.getD_eq_getElem?_getD])
    · rintro k ⟨hk, hj⟩
      by_cases hlt : k < idx.length
      · have h4 := good4_at hg (k := k) (by omega)
        (repeat' (first
      | (first | refine awp_seq ?_ | refine awp_block ?_)
      | ((first | refine awp_reg ?_ | refine awp_draw (mid := l53r5a) (post := l53r5b) mixed (by decide) ?_ | refine awp_condB ?_ | refine awp_skip ?_ | refine awp_exit ?_); simp (maxSteps := 400000) (disch := omega) only [push_cast, seval, Bool.false_eq_true, List.length_replicate, l53r0, l53r1, l53r2, l53r3, l53r4, l53r5a, l53r5b, l53r5, l53r6, l53r7, l53r8])
      | ((first | refine condB_split (fun h => ?_) (fun h => ?_) | refine gIf_split (fun h => ?_) (fun h => ?_) | refine qIf_split (fun h => ?_) (fun h => ?_)) <;> (try simp only [h]) <;> (try simp only [decide_eq_true_eq, decide_eq_false_iff_not, Bool.not_eq_true', Bool.not_eq_false', Bool.and_eq_true, Bool.or_eq_true, Bool.and_eq_false_iff, Bool.or_eq_false_iff, Int.not_le, Int.not_lt, bne_iff_ne, ne_eq, beq_iff_eq, Bool.not_eq_true, Bool.not_eq_false] at h) <;> (try simp only [h]) <;> (first | (exfalso; omega) | (focus (exfalso; simp_all; done)) | (simp (maxSteps := 400000) (disch := omega) only [push_cast, seval, Bool.false_eq_true, List.length_replicate]) | skip))
      | ((first | refine callD_of false ?_ | refine qcallD_of false ?_); simp (maxSteps := 400000) (disch := omega) only [push_cast, seval, Bool.false_eq_true, List.length_replicate])
      | ((first | ((first | refine call0D (BCall.ofP (inRange_ok _ _ _)) ?_ | refine qcall0D (BCall.ofP (inRange_ok _ _ _)) ⟨_, _, rfl, rfl⟩ ?_); rintro _ _ ⟨rfl, rfl⟩)); (try simp (maxSteps := 400000) (disch := omega) only [push_cast, seval, Bool.false_eq_true, List.length_replicate]))
      | (refine awp_ret ⟨.inr rfl, _, rfl, ?_⟩; (try simp (maxSteps := 400000) (disch := omega) only [push_cast, seval, Bool.false_eq_true, List.length_replicate]))))
        · rw [vIx_false (j := k) hlt (by assumption)]
        · refine ⟨k + 1, ⟨by omega, fun j h => ?_⟩, by omega, ?_⟩
          · by_cases hjk : j = k
            · subst hjk; assumption
            · exact hj j (by omega)
          · (refine Sub.of_lists ?_ ?_ ?_ ?_ ?_ <;> simp [Vw.mkS, Vw.lk, Vw.hk, AV.inn, innL, innL_ints, innL_append, innL_rep, -List.map_set, -List.getD_eq_getElem?_getD])
      · (repeat' (first
      | (first | refine awp_seq ?_ | refine awp_block ?_)
      | ((first | refine awp_reg ?_ | refine awp_draw (mid := l53r5a) (post := l53r5b) mixed (by decide) ?_ | refine awp_condB ?_ | refine awp_skip ?_ | refine awp_exit ?_); simp (maxSteps := 400000) (disch := omega) only [push_cast, seval, Bool.false_eq_true, List.length_replicate, l53r0, l53r1, l53r2, l53r3, l53r4, l53r5a, l53r5b, l53r5, l53r6, l53r7, l53r8])
      | ((first | refine condB_split (fun h => ?_) (fun h => ?_) | refine gIf_split (fun h => ?_) (fun h => ?_) | refine qIf_split (fun h => ?_) (fun h => ?_)) <;> (try simp only [h]) <;> (try simp only [decide_eq_true_eq, decide_eq_false_iff_not, Bool.not_eq_true', Bool.not_eq_false', Bool.and_eq_true, Bool.or_eq_true, Bool.and_eq_false_iff, Bool.or_eq_false_iff, Int.not_le, Int.not_lt, bne_iff_ne, ne_eq, beq_iff_eq, Bool.not_eq_true, Bool.not_eq_false] at h) <;> (try simp only [h]) <;> (first | (exfalso; omega) | (focus (exfalso; simp_all; done)) | (simp (maxSteps := 400000) (disch := omega) only [push_cast, seval, Bool.false_eq_true, List.length_replicate]) | skip))
      | ((first | refine callD_of false ?_ | refine qcallD_of false ?_); simp (maxSteps := 400000) (disch := omega) only [push_cast, seval, Bool.false_eq_true, List.length_replicate])
      | ((first | ((first | refine call0D (BCall.ofP (inRange_ok _ _ _)) ?_ | refine qcall0D (BCall.ofP (inRange_ok _ _ _)) ⟨_, _, rfl, rfl⟩ ?_); rintro _ _ ⟨rfl, rfl⟩)); (try simp (maxSteps := 400000) (disch := omega) only [push_cast, seval, Bool.false_eq_true, List.length_replicate]))
      | (refine awp_ret ⟨.inr rfl, _, rfl, ?_⟩; (try simp (maxSteps := 400000) (disch := omega) only [push_cast, seval, Bool.false_eq_true, List.length_replicate]))))
        rw [vIx_spec.2 ⟨hlen, fun i hi => hj i (by omega)⟩]
  · have hlen' : ¬ (idx.length : Int) = sh.length := by omega
    (repeat' (first
      | (first | refine awp_seq ?_ | refine awp_block ?_)
      | ((first | refine awp_reg ?_ | refine awp_draw (mid := l53r5a) (post := l53r5b) mixed (by decide) ?_ | refine awp_condB ?_ | refine awp_skip ?_ | refine awp_exit ?_); simp (maxSteps := 400000) (disch := omega) only [push_cast, seval, Bool.false_eq_true, List.length_replicate, l53r0, l53r1, l53r2, l53r3, l53r4, l53r5a, l53r5b, l53r5, l53r6, l53r7, l53r8, hlen'])
      | ((first | refine condB_split (fun h => ?_) (fun h => ?_) | refine gIf_split (fun h => ?_) (fun h => ?_) | refine qIf_split (fun h => ?_) (fun h => ?_)) <;> (try simp only [h]) <;> (try simp only [decide_eq_true_eq, decide_eq_false_iff_not, Bool.not_eq_true', Bool.not_eq_false', Bool.and_eq_true, Bool.or_eq_true, Bool.and_eq_false_iff, Bool.or_eq_false_iff, Int.not_le, Int.not_lt, bne_iff_ne, ne_eq, beq_iff_eq, Bool.not_eq_true, Bool.not_eq_false] at h) <;> (try simp only [h]) <;> (first | (exfalso; omega) | (focus (exfalso; simp_all; done)) | (simp (maxSteps := 400000) (disch := omega) only [push_cast, seval, Bool.false_eq_true, List.length_replicate, hlen']) | skip))
      | ((first | refine callD_of false ?_ | refine qcallD_of false ?_); simp (maxSteps := 400000) (disch := omega) only [push_cast, seval, Bool.false_eq_true, List.length_replicate, hlen'])
      | ((first | ((first | refine call0D (BCall.ofP (inRange_ok _ _ _)) ?_ | refine qcall0D (BCall.ofP (inRange_ok _ _ _)) ⟨_, _, rfl, rfl⟩ ?_); rintro _ _ ⟨rfl, rfl⟩)); (try simp (maxSteps := 400000) (disch := omega) only [push_cast, seval, Bool.false_eq_true, List.length_replicate, hlen']))
      | (refine awp_ret ⟨.inr rfl, _, rfl, ?_⟩; (try simp (maxSteps := 400000) (disch := omega) only [push_cast, seval, Bool.false_eq_true, List.length_replicate, hlen']))))
    rw [vIx_len hlen]


theorem placesOf_ok (sh idx : List Int) (n m : Nat) (hn : sh.length = n) (hm : idx.length = m) (hb : (good4 sh ∧ n ≤ 1099511627776) ∧ m ≤ 1099511627776) : PCall Try.prog 51 [.rows false (IL sh) n, .rows false (IL idx) m] (fun r => r = .tup [AP (idxP sh idx), .bool (vIx sh idx)]) := by
  subst hn hm
  obtain ⟨⟨hg, hb1⟩, hb2⟩ := hb
  have hl := hg.2
  refine pcall_of l51_eq rfl ?_
  have z4 : ∀ f : Nat → Int, (∀ i, f i = 0) → pad4 f = pad4 fun _ => 0 := fun f hf => pad4_congr fun i _ => hf i
  by_cases hlen : idx.length = sh.length
  · (repeat' (first
      | (first | refine awp_seq ?_ | refine awp_block ?_)
      | ((first | refine awp_reg ?_ | refine awp_condB ?_ | refine awp_skip ?_ | refine awp_exit ?_); simp (maxSteps := 400000) (disch := omega) only [push_cast, seval, Bool.false_eq_true, List.length_replicate, l51r0, l51r1, l51r2, l51r3, l51r4, l51r5, l51r6, l51r7, l51r8, l51r9, l51r10, l51r11, hlen])
      | ((first | refine condB_split (fun h => ?_) (fun h => ?_) | refine gIf_split (fun h => ?_) (fun h => ?_) | refine qIf_split (fun h => ?_) (fun h => ?_)) <;> (try simp only [h]) <;> (try simp only [decide_eq_true_eq, decide_eq_false_iff_not, Bool.not_eq_true', Bool.not_eq_false', Bool.and_eq_true, Bool.or_eq_true, Bool.and_eq_false_iff, Bool.or_eq_false_iff, Int.not_le, Int.not_lt, bne_iff_ne, ne_eq, beq_iff_eq, Bool.not_eq_true, Bool.not_eq_false] at h) <;> (try simp only [h]) <;> (first | (exfalso; omega) | (focus (exfalso; simp_all; done)) | (simp (maxSteps := 400000) (disch := omega) only [push_cast, seval, Bool.false_eq_true, List.length_replicate, hlen]) | skip))
      | ((first | refine callD_of false ?_ | refine qcallD_of false ?_); simp (maxSteps := 400000) (disch := omega) only [push_cast, seval, Bool.false_eq_true, List.length_replicate, hlen])
      | ((first | ((first | refine call0D (BCall.ofP (upTo_ok _ _)) ?_ | refine qcall0D (BCall.ofP (upTo_ok _ _)) ⟨_, _, rfl, rfl⟩ ?_); rintro _ _ ⟨rfl, rfl⟩)); (try simp (maxSteps := 400000) (disch := omega) only [push_cast, seval, Bool.false_eq_true, List.length_replicate, hlen]))
      | (refine awp_ret ⟨.inr rfl, _, rfl, ?_⟩; (try simp (maxSteps := 400000) (disch := omega) only [push_cast, seval, Bool.false_eq_true, List.length_replicate, hlen]))))
    refine awp_loop (fun k : Nat => mkS [(1, .rows false (IL idx) sh.length), (4, .ref 64 4 0), (6, .ref 96 4 0), (15, RI sh), (16, .int .i64 sh.length), (17, .int .i64 k)] [(64, IL (pad4 fun _ => 0)), (96, IL (pad4 fun i => if i < k then idx.getD i 0 else 0))]) (fun k => k ≤ idx.length ∧ ∀ j : Nat, j < k → 0 ≤ idx.getD j 0 ∧ idx.getD j 0 ≤ sh.getD j 0 - 1) (fun k => idx.length - k) 0 ⟨Nat.zero_le _, fun j h => absurd h (Nat.not_lt_zero _)⟩ ?_ ?_
    · (refine Sub.of_lists ?_ ?_ ?_ ?_ ?_ <;> simp [Vw.mkS, Vw.lk, Vw.hk, AV.inn, innL, innL_ints, innL_append, innL_rep, -List.map_set, -List.getD_eq_getElem?_getD, pad4])
    · rintro k ⟨hk, hj⟩
      by_cases hlt : k < idx.length
      · have h4 := good4_at hg (k := k) (by omega)
        have e3 : (pad4 fun i => if i < k then idx.getD i 0 else 0).set k (idx.getD k 0) = pad4 fun i => if i < k + 1 then idx.getD i 0 else 0 := by
          rw [pad4_set _ _ _ (by omega)]
          refine pad4_congr fun i hi => ?_
          by_cases h : i = k
          · subst h; rw [if_pos rfl, if_pos (by omega)]
          · rw [if_neg h]
            by_cases h5 : i < k
            · rw [if_pos h5, if_pos (by omega)]
            · rw [if_neg h5, if_neg (by omega)]
        (repeat' (first
      | (first | refine awp_seq ?_ | refine awp_block ?_)
      | ((first | refine awp_reg ?_ | refine awp_condB ?_ | refine awp_skip ?_ | refine awp_exit ?_); simp (maxSteps := 400000) (disch := omega) only [push_cast, seval, Bool.false_eq_true, List.length_replicate, l51r0, l51r1, l51r2, l51r3, l51r4, l51r5, l51r6, l51r7, l51r8, l51r9, l51r10, l51r11])
      | ((first | refine condB_split (fun h => ?_) (fun h => ?_) | refine gIf_split (fun h => ?_) (fun h => ?_) | refine qIf_split (fun h => ?_) (fun h => ?_)) <;> (try simp only [h]) <;> (try simp only [decide_eq_true_eq, decide_eq_false_iff_not, Bool.not_eq_true', Bool.not_eq_false', Bool.and_eq_true, Bool.or_eq_true, Bool.and_eq_false_iff, Bool.or_eq_false_iff, Int.not_le, Int.not_lt, bne_iff_ne, ne_eq, beq_iff_eq, Bool.not_eq_true, Bool.not_eq_false] at h) <;> (try simp only [h]) <;> (first | (exfalso; omega) | (focus (exfalso; simp_all; done)) | (simp (maxSteps := 400000) (disch := omega) only [push_cast, seval, Bool.false_eq_true, List.length_replicate]) | skip))
      | ((first | refine callD_of false ?_ | refine qcallD_of false ?_); simp (maxSteps := 400000) (disch := omega) only [push_cast, seval, Bool.false_eq_true, List.length_replicate])
      | ((first | ((first | refine call0D (BCall.ofP (upTo_ok _ _)) ?_ | refine qcall0D (BCall.ofP (upTo_ok _ _)) ⟨_, _, rfl, rfl⟩ ?_); rintro _ _ ⟨rfl, rfl⟩)); (try simp (maxSteps := 400000) (disch := omega) only [push_cast, seval, Bool.false_eq_true, List.length_replicate]))
      | (refine awp_ret ⟨.inr rfl, _, rfl, ?_⟩; (try simp (maxSteps := 400000) (disch := omega) only [push_cast, seval, Bool.false_eq_true, List.length_replicate]))))
        · have hf := vIx_false (sh := sh) (j := k) hlt (by assumption)
          rw [hf]
          simp (maxSteps := 400000) (disch := omega) only [push_cast, seval, Bool.false_eq_true, List.length_replicate, pad4, List.map_cons, List.map_nil]
          rw [AP, idxP_false hf]
          simp [pad4]
        · refine ⟨k + 1, ⟨by omega, fun j h => ?_⟩, by omega, ?_⟩
          · by_cases hjk : j = k
            · subst hjk; assumption
            · exact hj j (by omega)
          · (refine Sub.of_lists ?_ ?_ ?_ ?_ ?_ <;> simp [Vw.mkS, Vw.lk, Vw.hk, AV.inn, innL, innL_ints, innL_append, innL_rep, -List.map_set, -List.getD_eq_getElem?_getD, IL_set, e3])
      · have hv : vIx sh idx = true := vIx_spec.2 ⟨hlen, fun i hi => hj i (by omega)⟩
        (repeat' (first
      | (first | refine awp_seq ?_ | refine awp_block ?_)
      | ((first | refine awp_reg ?_ | refine awp_condB ?_ | refine awp_skip ?_ | refine awp_exit ?_); simp (maxSteps := 400000) (disch := omega) only [push_cast, seval, Bool.false_eq_true, List.length_replicate, l51r0, l51r1, l51r2, l51r3, l51r4, l51r5, l51r6, l51r7, l51r8, l51r9, l51r10, l51r11])
      | ((first | refine condB_split (fun h => ?_) (fun h => ?_) | refine gIf_split (fun h => ?_) (fun h => ?_) | refine qIf_split (fun h => ?_) (fun h => ?_)) <;> (try simp only [h]) <;> (try simp only [decide_eq_true_eq, decide_eq_false_iff_not, Bool.not_eq_true', Bool.not_eq_false', Bool.and_eq_true, Bool.or_eq_true, Bool.and_eq_false_iff, Bool.or_eq_false_iff, Int.not_le, Int.not_lt, bne_iff_ne, ne_eq, beq_iff_eq, Bool.not_eq_true, Bool.not_eq_false] at h) <;> (try simp only [h]) <;> (first | (exfalso; omega) | (focus (exfalso; simp_all; done)) | (simp (maxSteps := 400000) (disch := omega) only [push_cast, seval, Bool.false_eq_true, List.length_replicate]) | skip))
      | ((first | refine callD_of false ?_ | refine qcallD_of false ?_); simp (maxSteps := 400000) (disch := omega) only [push_cast, seval, Bool.false_eq_true, List.length_replicate])
      | ((first | ((first | refine call0D (BCall.ofP (upTo_ok _ _)) ?_ | refine qcall0D (BCall.ofP (upTo_ok _ _)) ⟨_, _, rfl, rfl⟩ ?_); rintro _ _ ⟨rfl, rfl⟩)); (try simp (maxSteps := 400000) (disch := omega) only [push_cast, seval, Bool.false_eq_true, List.length_replicate]))
      | (refine awp_ret ⟨.inr rfl, _, rfl, ?_⟩; (try simp (maxSteps := 400000) (disch := omega) only [push_cast, seval, Bool.false_eq_true, List.length_replicate]))))
        rw [hv]
        have e2 : pad4 (fun i => if i < k then idx.getD i 0 else 0) = pad4 (idxP sh idx) := pad4_congr fun i _ => by
          unfold idxP
          by_cases h : i < k
          · rw [if_pos h, if_pos ⟨hv, by omega⟩]
          · rw [if_neg h, if_neg (fun hh => by omega)]
        exact congrArg (fun l => AV.tup [AV.agg (IL l), AV.bool true]) e2
  · have hlen' : ¬ (idx.length : Int) = sh.length := by omega
    (repeat' (first
      | (first | refine awp_seq ?_ | refine awp_block ?_)
      | ((first | refine awp_reg ?_ | refine awp_condB ?_ | refine awp_skip ?_ | refine awp_exit ?_); simp (maxSteps := 400000) (disch := omega) only [push_cast, seval, Bool.false_eq_true, List.length_replicate, l51r0, l51r1, l51r2, l51r3, l51r4, l51r5, l51r6, l51r7, l51r8, l51r9, l51r10, l51r11, hlen'])
      | ((first | refine condB_split (fun h => ?_) (fun h => ?_) | refine gIf_split (fun h => ?_) (fun h => ?_) | refine qIf_split (fun h => ?_) (fun h => ?_)) <;> (try simp only [h]) <;> (try simp only [decide_eq_true_eq, decide_eq_false_iff_not, Bool.not_eq_true', Bool.not_eq_false', Bool.and_eq_true, Bool.or_eq_true, Bool.and_eq_false_iff, Bool.or_eq_false_iff, Int.not_le, Int.not_lt, bne_iff_ne, ne_eq, beq_iff_eq, Bool.not_eq_true, Bool.not_eq_false] at h) <;> (try simp only [h]) <;> (first | (exfalso; omega) | (focus (exfalso; simp_all; done)) | (simp (maxSteps := 400000) (disch := omega) only [push_cast, seval, Bool.false_eq_true, List.length_replicate, hlen']) | skip))
      | ((first | refine callD_of false ?_ | refine qcallD_of false ?_); simp (maxSteps := 400000) (disch := omega) only [push_cast, seval, Bool.false_eq_true, List.length_replicate, hlen'])
      | ((first | ((first | refine call0D (BCall.ofP (upTo_ok _ _)) ?_ | refine qcall0D (BCall.ofP (upTo_ok _ _)) ⟨_, _, rfl, rfl⟩ ?_); rintro _ _ ⟨rfl, rfl⟩)); (try simp (maxSteps := 400000) (disch := omega) only [push_cast, seval, Bool.false_eq_true, List.length_replicate, hlen']))
      | (refine awp_ret ⟨.inr rfl, _, rfl, ?_⟩; (try simp (maxSteps := 400000) (disch := omega) only [push_cast, seval, Bool.false_eq_true, List.length_replicate, hlen']))))
    rw [vIx_len hlen, AP, idxP_false (vIx_len hlen)]
    simp (maxSteps := 400000) (disch := omega) only [push_cast, seval, Bool.false_eq_true, List.length_replicate, pad4, List.map_cons, List.map_nil]



theorem along_ok (f : Nat → Int) (st : List Int) (n : Nat) (hn : st.length = n) (hb : n ≤ 4 ∧ ∀ i, i < n → (-60 ≤ f i ∧ f i ≤ 60) ∧ -12960000 ≤ st.getD i 0 ∧ st.getD i 0 ≤ 12960000) : PCall Try.prog 55 [AP f, .rows false (IL st) n] (fun r => r = .int .i64 (dot f st n)) := by
  subst hn
  obtain ⟨hl, hb⟩ := hb
  refine pcall_of l55_eq rfl ?_
  (repeat' (first
      | (first | refine awp_seq ?_ | refine awp_block ?_)
      | ((first | refine awp_reg ?_ | refine awp_condB ?_ | refine awp_skip ?_ | refine awp_exit ?_); simp (maxSteps := 400000) (disch := omega) only [push_cast, seval, Bool.false_eq_true, List.length_replicate, l55r0, l55r1, l55r2, l55r3, l55r4, l55r5, l55r6, l55r7])
      | ((first | refine condB_split (fun h => ?_) (fun h => ?_) | refine gIf_split (fun h => ?_) (fun h => ?_) | refine qIf_split (fun h => ?_) (fun h => ?_)) <;> (try simp only [h]) <;> (try simp only [decide_eq_true_eq, decide_eq_false_iff_not, Bool.not_eq_true', Bool.not_eq_false', Bool.and_eq_true, Bool.or_eq_true, Bool.and_eq_false_iff, Bool.or_eq_false_iff, Int.not_le, Int.not_lt, bne_iff_ne, ne_eq, beq_iff_eq, Bool.not_eq_true, Bool.not_eq_false] at h) <;> (try simp only [h]) <;> (first | (exfalso; omega) | (focus (exfalso; simp_all; done)) | (simp (maxSteps := 400000) (disch := omega) only [push_cast, seval, Bool.false_eq_true, List.length_replicate]) | skip))
      | (refine awp_ret ⟨.inr rfl, _, rfl, ?_⟩; (try simp (maxSteps := 400000) (disch := omega) only [push_cast, seval, Bool.false_eq_true, List.length_replicate]))))
  refine awp_loop (fun k : Nat => mkS [(2, .ref 32 4 0), (5, .int .i64 (dot f st k)), (8, RI st), (9, .int .i64 st.length), (10, .int .i64 k)] [(32, IL (pad4 f))]) (fun k => k ≤ st.length) (fun k => st.length - k) 0 (Nat.zero_le _) ?_ ?_
  · (refine Sub.of_lists ?_ ?_ ?_ ?_ ?_ <;> simp [Vw.mkS, Vw.lk, Vw.hk, AV.inn, innL, innL_ints, innL_append, innL_rep, -List.map_set, -List.getD_eq_getElem?_getD, dot, pad4])
  · intro k hk
    by_cases hlt : k < st.length
    · have h1 := dot_bound (f := f) (st := st) (B := 60) (C := 12960000) k fun i hi => hb i (by omega)
      have h2 := mul_abs_bound (hb k hlt).1 (hb k hlt).2
      have h3 := pad4_getD f k (by omega)
      (repeat' (first
      | (first | refine awp_seq ?_ | refine awp_block ?_)
      | ((first | refine awp_reg ?_ | refine awp_condB ?_ | refine awp_skip ?_ | refine awp_exit ?_); simp (maxSteps := 400000) (disch := omega) only [push_cast, seval, Bool.false_eq_true, List.length_replicate, l55r0, l55r1, l55r2, l55r3, l55r4, l55r5, l55r6, l55r7, h3])
      | ((first | refine condB_split (fun h => ?_) (fun h => ?_) | refine gIf_split (fun h => ?_) (fun h => ?_) | refine qIf_split (fun h => ?_) (fun h => ?_)) <;> (try simp only [h]) <;> (try simp only [decide_eq_true_eq, decide_eq_false_iff_not, Bool.not_eq_true', Bool.not_eq_false', Bool.and_eq_true, Bool.or_eq_true, Bool.and_eq_false_iff, Bool.or_eq_false_iff, Int.not_le, Int.not_lt, bne_iff_ne, ne_eq, beq_iff_eq, Bool.not_eq_true, Bool.not_eq_false] at h) <;> (try simp only [h]) <;> (first | (exfalso; omega) | (focus (exfalso; simp_all; done)) | (simp (maxSteps := 400000) (disch := omega) only [push_cast, seval, Bool.false_eq_true, List.length_replicate, h3]) | skip))
      | (refine awp_ret ⟨.inr rfl, _, rfl, ?_⟩; (try simp (maxSteps := 400000) (disch := omega) only [push_cast, seval, Bool.false_eq_true, List.length_replicate, h3]))))
      refine ⟨k + 1, by omega, by omega, ?_⟩
      (refine Sub.of_lists ?_ ?_ ?_ ?_ ?_ <;> simp [Vw.mkS, Vw.lk, Vw.hk, AV.inn, innL, innL_ints, innL_append, innL_rep, -List.map_set, -List.getD_eq_getElem?_getD, dot])
    · (repeat' (first
      | (first | refine awp_seq ?_ | refine awp_block ?_)
      | ((first | refine awp_reg ?_ | refine awp_condB ?_ | refine awp_skip ?_ | refine awp_exit ?_); simp (maxSteps := 400000) (disch := omega) only [push_cast, seval, Bool.false_eq_true, List.length_replicate, l55r0, l55r1, l55r2, l55r3, l55r4, l55r5, l55r6, l55r7])
      | ((first | refine condB_split (fun h => ?_) (fun h => ?_) | refine gIf_split (fun h => ?_) (fun h => ?_) | refine qIf_split (fun h => ?_) (fun h => ?_)) <;> (try simp only [h]) <;> (try simp only [decide_eq_true_eq, decide_eq_false_iff_not, Bool.not_eq_true', Bool.not_eq_false', Bool.and_eq_true, Bool.or_eq_true, Bool.and_eq_false_iff, Bool.or_eq_false_iff, Int.not_le, Int.not_lt, bne_iff_ne, ne_eq, beq_iff_eq, Bool.not_eq_true, Bool.not_eq_false] at h) <;> (try simp only [h]) <;> (first | (exfalso; omega) | (focus (exfalso; simp_all; done)) | (simp (maxSteps := 400000) (disch := omega) only [push_cast, seval, Bool.false_eq_true, List.length_replicate]) | skip))
      | (refine awp_ret ⟨.inr rfl, _, rfl, ?_⟩; (try simp (maxSteps := 400000) (disch := omega) only [push_cast, seval, Bool.false_eq_true, List.length_replicate]))))
      rw [show k = st.length by omega]


theorem iRankOf_ok (sh idx : List Int) (n m : Nat) (hn : sh.length = n) (hm : idx.length = m) (hb : n ≤ 1099511627776 ∧ m ≤ 1099511627776) : PCall Try.prog 18 [.rows false (IL sh) n, .rows false (IL idx) m] (fun r => r = .int .i64 (rankD sh idx)) := by
  subst hn hm
  obtain ⟨hb1, hb2⟩ := hb
  refine pcall_of l18_eq rfl ?_
  cases hv : vSh sh with
  | false =>
    (repeat' (first
      | (first | refine awp_seq ?_ | refine awp_block ?_)
      | ((first | refine awp_reg ?_ | refine awp_draw (mid := l18r6a) (post := l18r6b) mixed (by decide) ?_ | refine awp_condB ?_ | refine awp_skip ?_ | refine awp_exit ?_); simp (maxSteps := 400000) (disch := omega) only [push_cast, seval, Bool.false_eq_true, List.length_replicate, l18r0, l18r1, l18r2, l18r3, l18r4, l18r5, l18r6a, l18r6b, l18r6, hv])
      | ((first | refine condB_split (fun h => ?_) (fun h => ?_) | refine gIf_split (fun h => ?_) (fun h => ?_) | refine qIf_split (fun h => ?_) (fun h => ?_)) <;> (try simp only [h]) <;> (try simp only [decide_eq_true_eq, decide_eq_false_iff_not, Bool.not_eq_true', Bool.not_eq_false', Bool.and_eq_true, Bool.or_eq_true, Bool.and_eq_false_iff, Bool.or_eq_false_iff, Int.not_le, Int.not_lt, bne_iff_ne, ne_eq, beq_iff_eq, Bool.not_eq_true, Bool.not_eq_false] at h) <;> (try simp only [h]) <;> (first | (exfalso; omega) | (focus (exfalso; simp_all; done)) | (simp (maxSteps := 400000) (disch := omega) only [push_cast, seval, Bool.false_eq_true, List.length_replicate, hv]) | skip))
      | ((first | refine callD_of false ?_ | refine qcallD_of false ?_); simp (maxSteps := 400000) (disch := omega) only [push_cast, seval, Bool.false_eq_true, List.length_replicate, hv])
      | ((first | ((first | refine call0D (BCall.ofP (iValidShape_ok _ _ ?_ ?_)) ?_ | refine qcall0D (BCall.ofP (iValidShape_ok _ _ ?_ ?_)) ⟨_, _, rfl, rfl⟩ ?_); (iterate 2 (focus (first | assumption | rfl | omega | (simp; done) | (simp; omega) | (simp_all; done) | (simp_all; omega)))); rintro _ _ ⟨rfl, rfl⟩) | ((first | refine call0D (BCall.ofP (placesOf_ok _ _ _ _ ?_ ?_ ?_)) ?_ | refine qcall0D (BCall.ofP (placesOf_ok _ _ _ _ ?_ ?_ ?_)) ⟨_, _, rfl, rfl⟩ ?_); (iterate 3 (focus (first | assumption | rfl | omega | (simp; done) | (simp; omega) | (simp_all; done) | (simp_all; omega)))); rintro _ _ ⟨rfl, rfl⟩) | ((first | refine call0D (iRowStrides_ok _ _ ?_ ?_) ?_ | refine qcall0D (iRowStrides_ok _ _ ?_ ?_) ⟨_, _, rfl, rfl⟩ ?_); (iterate 2 (focus (first | assumption | rfl | omega | (simp; done) | (simp; omega) | (simp_all; done) | (simp_all; omega)))); rintro _ _ ⟨rfl, rfl⟩) | ((first | refine call0D (BCall.ofP (along_ok _ _ _ ?_ ?_)) ?_ | refine qcall0D (BCall.ofP (along_ok _ _ _ ?_ ?_)) ⟨_, _, rfl, rfl⟩ ?_); (iterate 2 (focus (first | assumption | rfl | omega | (simp; done) | (simp; omega) | (simp_all; done) | (simp_all; omega)))); rintro _ _ ⟨rfl, rfl⟩)); (try simp (maxSteps := 400000) (disch := omega) only [push_cast, seval, Bool.false_eq_true, List.length_replicate, hv]))
      | (refine awp_ret ⟨.inr rfl, _, rfl, ?_⟩; (try simp (maxSteps := 400000) (disch := omega) only [push_cast, seval, Bool.false_eq_true, List.length_replicate, hv]))))
    simp [rankD, hv]
  | true =>
    have hg := (vSh_good hv).1
    have hl := hg.2
    have hs : (good4 sh ∧ sh.length ≤ 1099511627776) ∧ idx.length ≤ 1099511627776 := ⟨⟨hg, hb1⟩, hb2⟩
    have hone : (if true = true then rowS sh else []) = rowS sh := rfl
    cases hi : vIx sh idx with
    | false =>
      (repeat' (first
      | (first | refine awp_seq ?_ | refine awp_block ?_)
      | ((first | refine awp_reg ?_ | refine awp_draw (mid := l18r6a) (post := l18r6b) mixed (by decide) ?_ | refine awp_condB ?_ | refine awp_skip ?_ | refine awp_exit ?_); simp (maxSteps := 400000) (disch := omega) only [push_cast, seval, Bool.false_eq_true, List.length_replicate, l18r0, l18r1, l18r2, l18r3, l18r4, l18r5, l18r6a, l18r6b, l18r6, hv, hi])
      | ((first | refine condB_split (fun h => ?_) (fun h => ?_) | refine gIf_split (fun h => ?_) (fun h => ?_) | refine qIf_split (fun h => ?_) (fun h => ?_)) <;> (try simp only [h]) <;> (try simp only [decide_eq_true_eq, decide_eq_false_iff_not, Bool.not_eq_true', Bool.not_eq_false', Bool.and_eq_true, Bool.or_eq_true, Bool.and_eq_false_iff, Bool.or_eq_false_iff, Int.not_le, Int.not_lt, bne_iff_ne, ne_eq, beq_iff_eq, Bool.not_eq_true, Bool.not_eq_false] at h) <;> (try simp only [h]) <;> (first | (exfalso; omega) | (focus (exfalso; simp_all; done)) | (simp (maxSteps := 400000) (disch := omega) only [push_cast, seval, Bool.false_eq_true, List.length_replicate, hv, hi]) | skip))
      | ((first | refine callD_of false ?_ | refine qcallD_of false ?_); simp (maxSteps := 400000) (disch := omega) only [push_cast, seval, Bool.false_eq_true, List.length_replicate, hv, hi])
      | ((first | ((first | refine call0D (BCall.ofP (iValidShape_ok _ _ ?_ ?_)) ?_ | refine qcall0D (BCall.ofP (iValidShape_ok _ _ ?_ ?_)) ⟨_, _, rfl, rfl⟩ ?_); (iterate 2 (focus (first | assumption | rfl | omega | (simp; done) | (simp; omega) | (simp_all; done) | (simp_all; omega)))); rintro _ _ ⟨rfl, rfl⟩) | ((first | refine call0D (BCall.ofP (placesOf_ok _ _ _ _ ?_ ?_ ?_)) ?_ | refine qcall0D (BCall.ofP (placesOf_ok _ _ _ _ ?_ ?_ ?_)) ⟨_, _, rfl, rfl⟩ ?_); (iterate 3 (focus (first | assumption | rfl | omega | (simp; done) | (simp; omega) | (simp_all; done) | (simp_all; omega)))); rintro _ _ ⟨rfl, rfl⟩) | ((first | refine call0D (iRowStrides_ok _ _ ?_ ?_) ?_ | refine qcall0D (iRowStrides_ok _ _ ?_ ?_) ⟨_, _, rfl, rfl⟩ ?_); (iterate 2 (focus (first | assumption | rfl | omega | (simp; done) | (simp; omega) | (simp_all; done) | (simp_all; omega)))); rintro _ _ ⟨rfl, rfl⟩) | ((first | refine call0D (BCall.ofP (along_ok _ _ _ ?_ ?_)) ?_ | refine qcall0D (BCall.ofP (along_ok _ _ _ ?_ ?_)) ⟨_, _, rfl, rfl⟩ ?_); (iterate 2 (focus (first | assumption | rfl | omega | (simp; done) | (simp; omega) | (simp_all; done) | (simp_all; omega)))); rintro _ _ ⟨rfl, rfl⟩)); (try simp (maxSteps := 400000) (disch := omega) only [push_cast, seval, Bool.false_eq_true, List.length_replicate, hv, hi]))
      | (refine awp_ret ⟨.inr rfl, _, rfl, ?_⟩; (try simp (maxSteps := 400000) (disch := omega) only [push_cast, seval, Bool.false_eq_true, List.length_replicate, hv, hi]))))
      simp [rankD, hi]
    | true =>
      have hs2 : sh.length ≤ 4 ∧ ∀ i, i < sh.length → (-60 ≤ idxP sh idx i ∧ idxP sh idx i ≤ 60) ∧ -12960000 ≤ (rowS sh).getD i 0 ∧ (rowS sh).getD i 0 ≤ 12960000 := by
        refine ⟨hl, fun i h => ?_⟩
        have h1 := rowS_bound hg i h
        have h2 := vIx_bound hg hi i h
        rw [idxP, if_pos ⟨hi, h⟩]
        omega
      have e : dot (idxP sh idx) (rowS sh) sh.length = dot (fun i => idx.getD i 0) (rowS sh) sh.length := dot_congr fun i h => by rw [idxP, if_pos ⟨hi, h⟩]
      (repeat' (first
      | (first | refine awp_seq ?_ | refine awp_block ?_)
      | ((first | refine awp_reg ?_ | refine awp_draw (mid := l18r6a) (post := l18r6b) mixed (by decide) ?_ | refine awp_condB ?_ | refine awp_skip ?_ | refine awp_exit ?_); simp (maxSteps := 400000) (disch := omega) only [push_cast, seval, Bool.false_eq_true, List.length_replicate, l18r0, l18r1, l18r2, l18r3, l18r4, l18r5, l18r6a, l18r6b, l18r6, hv, hi])
      | ((first | refine condB_split (fun h => ?_) (fun h => ?_) | refine gIf_split (fun h => ?_) (fun h => ?_) | refine qIf_split (fun h => ?_) (fun h => ?_)) <;> (try simp only [h]) <;> (try simp only [decide_eq_true_eq, decide_eq_false_iff_not, Bool.not_eq_true', Bool.not_eq_false', Bool.and_eq_true, Bool.or_eq_true, Bool.and_eq_false_iff, Bool.or_eq_false_iff, Int.not_le, Int.not_lt, bne_iff_ne, ne_eq, beq_iff_eq, Bool.not_eq_true, Bool.not_eq_false] at h) <;> (try simp only [h]) <;> (first | (exfalso; omega) | (focus (exfalso; simp_all; done)) | (simp (maxSteps := 400000) (disch := omega) only [push_cast, seval, Bool.false_eq_true, List.length_replicate, hv, hi]) | skip))
      | ((first | refine callD_of false ?_ | refine qcallD_of false ?_); simp (maxSteps := 400000) (disch := omega) only [push_cast, seval, Bool.false_eq_true, List.length_replicate, hv, hi])
      | ((first | ((first | refine call0D (BCall.ofP (iValidShape_ok _ _ ?_ ?_)) ?_ | refine qcall0D (BCall.ofP (iValidShape_ok _ _ ?_ ?_)) ⟨_, _, rfl, rfl⟩ ?_); (iterate 2 (focus (first | assumption | rfl | omega | (simp; done) | (simp; omega) | (simp_all; done) | (simp_all; omega)))); rintro _ _ ⟨rfl, rfl⟩) | ((first | refine call0D (BCall.ofP (placesOf_ok _ _ _ _ ?_ ?_ ?_)) ?_ | refine qcall0D (BCall.ofP (placesOf_ok _ _ _ _ ?_ ?_ ?_)) ⟨_, _, rfl, rfl⟩ ?_); (iterate 3 (focus (first | assumption | rfl | omega | (simp; done) | (simp; omega) | (simp_all; done) | (simp_all; omega)))); rintro _ _ ⟨rfl, rfl⟩) | ((first | refine call0D (iRowStrides_ok _ _ ?_ ?_) ?_ | refine qcall0D (iRowStrides_ok _ _ ?_ ?_) ⟨_, _, rfl, rfl⟩ ?_); (iterate 2 (focus (first | assumption | rfl | omega | (simp; done) | (simp; omega) | (simp_all; done) | (simp_all; omega)))); rintro _ _ ⟨rfl, rfl⟩) | ((first | refine call0D (BCall.ofP (along_ok _ _ _ ?_ ?_)) ?_ | refine qcall0D (BCall.ofP (along_ok _ _ _ ?_ ?_)) ⟨_, _, rfl, rfl⟩ ?_); (iterate 2 (focus (first | assumption | rfl | omega | (simp; done) | (simp; omega) | (simp_all; done) | (simp_all; omega)))); rintro _ _ ⟨rfl, rfl⟩)); (try simp (maxSteps := 400000) (disch := omega) only [push_cast, seval, Bool.false_eq_true, List.length_replicate, hv, hi]))
      | (refine awp_ret ⟨.inr rfl, _, rfl, ?_⟩; (try simp (maxSteps := 400000) (disch := omega) only [push_cast, seval, Bool.false_eq_true, List.length_replicate, hv, hi]))))
      rw [e]
      simp [rankD, hv, hi]

end Go.Proofs.Ytcnlcmehfanbdaa
