import Derived.Test.YtejbfjmiidofcaaCKp8
import Derived.Test.YtejbfjmiidofcaaCM1
import Derived.Test.YtejbfjmiidofcaaCW3
set_option linter.unusedSimpArgs false
set_option linter.unusedVariables false
set_option maxRecDepth 4000
set_option maxHeartbeats 4000000
namespace Go.Proofs.Ytejbfjmiidofcaa
open VwM Vw Go

def pairB (i j : Int) (n : Nat) : Bool := !decide (i = j) && (decide (0 ≤ i) && decide (i ≤ (n : Int) - 1)) && (decide (0 ≤ j) && decide (j ≤ (n : Int) - 1))
def cbI (ts : List Tn) (ls : List (List Int)) (out : List Int) (i j : Int) : Int := match exP ts ls out with | none => -1 | some e => if pairB i j ts.length = true then cbN e ls out i.toNat j.toNat else -1
theorem pairB_nat {i j : Int} {n : Nat} (h : pairB i j n = true) : ∃ p q : Nat,i = p ∧ j = q ∧ p < n ∧ q < n ∧ p ≠ q := by
  simp only [pairB,Bool.and_eq_true,Bool.not_eq_true',decide_eq_false_iff_not,decide_eq_true_eq] at h
  exact ⟨i.toNat,j.toNat,by omega,by omega,by omega,by omega,by omega⟩
theorem cbN_at {ls : List (List Int)} {p q : Nat} {a b : List Int} (ha : ls[p]? = some a) (hb : ls[q]? = some b) (e out : List Int) : cbN e ls out p q = cbE e ls out a b p q := by
  unfold cbN
  simp [List.getD,ha,hb]
theorem exP_some {ts : List Tn} {ls : List (List Int)} {out e : List Int} (h : exP ts ls out = some e) : allI out 0 4 = true ∧ exO ts ls = some e := by
  rw [exP_eq] at h
  split at h
  · rename_i hc; exact ⟨hc,h⟩
  · cases h
theorem exP_none {ts : List Tn} {ls : List (List Int)} {out : List Int} (h : exP ts ls out = none) : allI out 0 4 = false ∨ exO ts ls = none := by
  rw [exP_eq] at h
  cases hc : allI out 0 4 with
  | false => exact .inl rfl
  | true => rw [hc,if_pos rfl] at h; exact .inr h
theorem lab_len {ts : List Tn} {ls : List (List Int)} {e : List Int} (h : exO ts ls = some e) : ls.length ≤ 3 ∧ ∀ l ∈ ls,l.length ≤ 4 := by
  obtain ⟨h1,h2,h3,h4⟩ := exO_some h
  obtain ⟨_,_,_,_,_,f6,f7,f8⟩ := exO_facts h
  refine ⟨by omega,fun l hl => ?_⟩
  obtain ⟨i,hi⟩ := List.mem_iff_getElem?.1 hl
  have hil := (List.getElem?_eq_some_iff.1 hi).1
  obtain ⟨t,ht⟩ := mem_lt (l := ts) (i := i) (by omega)
  have := (f6 i t l ht hi).1
  have := (vT_len60 (f7 t (List.mem_of_getElem? ht))).1
  omega


set_option maxHeartbeats 16000000 in
theorem sCostBy_ok (ts : List Tn) (ls : List (List Int)) (out : List Int) (n m q : Nat) (i j : Int) (hn : ts.length = n) (hm : ls.length = m) (hq : out.length = q) (hb : n ≤ 1048576 ∧ m ≤ 1048576 ∧ q ≤ 1048576 ∧ (∀ t ∈ ts,t.1.length ≤ 1048576 ∧ t.2.length ≤ 1048576) ∧ ∀ l ∈ ls,l.length ≤ 1048576) :
    PCall Try.prog 28 [.rows false (TL false ts) n,.rows false (LL false ls) m,.rows false (IL out) q,.int .i64 i,.int .i64 j] (fun r => r = .int .i64 (cbI ts ls out i j)) := by
  subst hn hm hq
  obtain ⟨hb0,hb1,hb2,hb3,hb4⟩ := hb
  have q0 : ts.length ≤ 1099511627776 ∧ ls.length ≤ 1099511627776 ∧ (∀ t ∈ ts,t.1.length ≤ 1099511627776 ∧ t.2.length ≤ 1099511627776) ∧ ∀ l ∈ ls,l.length ≤ 1099511627776 := ⟨by omega,by omega,fun t ht => by have := hb3 t ht; omega,fun l hl => by have := hb4 l hl; omega⟩
  refine pcall_of l28_eq rfl ?_
  unfold cbI
  have hpb : pairB i j ts.length = (!decide (i = j) && (decide (0 ≤ i) && decide (i ≤ (ts.length : Int) - 1)) && (decide (0 ≤ j) && decide (j ≤ (ts.length : Int) - 1))) := rfl
  cases hx : exO ts ls with
  | none =>
    have hp : exP ts ls out = none := by rw [exP_eq,hx]; split <;> rfl
    rw [hp]
    (repeat' (first
 | (first | refine awp_seq ?_ | refine awp_block ?_)
 | ((first | refine awp_reg ?_ | refine awp_condB ?_ | refine awp_skip ?_ | refine awp_exit ?_); simp (disch := omega) only [push_cast,seval,l28r0,l28r1,l28r2,l28r3,l28r4,hx,Option.isSome_none,innL_TL,innL_LL])
 | ((first | refine condB_split (fun h => ?_) (fun h => ?_) | refine gIf_split (fun h => ?_) (fun h => ?_) | refine qIf_split (fun h => ?_) (fun h => ?_)) <;> (try simp only [h]) <;> (try simp only [bitvec_to_nat] at h) <;> (try simp only [h]) <;> (first | (exfalso; omega) | (focus (exfalso; simp_all; done)) | (simp (disch := omega) only [push_cast,seval,hx,Option.isSome_none,innL_TL,innL_LL]) | skip))
 | ((first | refine callD_of false ?_ | refine qcallD_of false ?_); simp (disch := omega) only [push_cast,seval,hx,Option.isSome_none,innL_TL,innL_LL])
 | ((first | ((first | refine call0D (sExO_ok _ _ _ _ ?_ ?_ ?_) ?_ | refine qcall0D (BCall.ofP (plainI (sExO_ok _ _ _ _ ?_ ?_ ?_))) ⟨_,_,rfl,rfl⟩ ?_); (iterate 3 (exact sd)); rintro _ _ ⟨rfl,rfl⟩) | ((first | refine call0D (BCall.ofP (allIn_ok _ _ _ _ ?_ ?_)) ?_ | refine qcall0D (BCall.ofP (allIn_ok _ _ _ _ ?_ ?_)) ⟨_,_,rfl,rfl⟩ ?_); (iterate 2 (exact sd)); rintro _ _ ⟨rfl,rfl⟩) | ((first | refine call0D (BCall.ofP (inRange_ok _ _ _)) ?_ | refine qcall0D (BCall.ofP (inRange_ok _ _ _)) ⟨_,_,rfl,rfl⟩ ?_); rintro _ _ ⟨rfl,rfl⟩) | ((first | refine call0D (BCall.ofP (scostBy_ok _ _ _ _ _ _ _ _ _ _ (by assumption) (by assumption) ?_ ?_ ?_ ?_)) ?_ | refine qcall0D (BCall.ofP (scostBy_ok _ _ _ _ _ _ _ _ _ _ (by assumption) (by assumption) ?_ ?_ ?_ ?_)) ⟨_,_,rfl,rfl⟩ ?_); (iterate 4 (exact sd)); rintro _ _ ⟨rfl,rfl⟩)) <;> (try simp (disch := omega) only [push_cast,seval,hx,Option.isSome_none,innL_TL,innL_LL]))
 | (refine awp_ret ⟨.inr rfl,_,rfl,?_⟩; (try simp (disch := omega) only [push_cast,seval,hx,Option.isSome_none,innL_TL,innL_LL]))))
  | some e =>
    cases ho : allI out 0 4 with
    | false =>
      have hp : exP ts ls out = none := by rw [exP_eq,ho]; rfl
      rw [hp]
      (repeat' (first
 | (first | refine awp_seq ?_ | refine awp_block ?_)
 | ((first | refine awp_reg ?_ | refine awp_condB ?_ | refine awp_skip ?_ | refine awp_exit ?_); simp (disch := omega) only [push_cast,seval,l28r0,l28r1,l28r2,l28r3,l28r4,hx,ho,Option.isSome_some,innL_TL,innL_LL])
 | ((first | refine condB_split (fun h => ?_) (fun h => ?_) | refine gIf_split (fun h => ?_) (fun h => ?_) | refine qIf_split (fun h => ?_) (fun h => ?_)) <;> (try simp only [h]) <;> (try simp only [bitvec_to_nat] at h) <;> (try simp only [h]) <;> (first | (exfalso; omega) | (focus (exfalso; simp_all; done)) | (simp (disch := omega) only [push_cast,seval,hx,ho,Option.isSome_some,innL_TL,innL_LL]) | skip))
 | ((first | refine callD_of false ?_ | refine qcallD_of false ?_); simp (disch := omega) only [push_cast,seval,hx,ho,Option.isSome_some,innL_TL,innL_LL])
 | ((first | ((first | refine call0D (sExO_ok _ _ _ _ ?_ ?_ ?_) ?_ | refine qcall0D (BCall.ofP (plainI (sExO_ok _ _ _ _ ?_ ?_ ?_))) ⟨_,_,rfl,rfl⟩ ?_); (iterate 3 (exact sd)); rintro _ _ ⟨rfl,rfl⟩) | ((first | refine call0D (BCall.ofP (allIn_ok _ _ _ _ ?_ ?_)) ?_ | refine qcall0D (BCall.ofP (allIn_ok _ _ _ _ ?_ ?_)) ⟨_,_,rfl,rfl⟩ ?_); (iterate 2 (exact sd)); rintro _ _ ⟨rfl,rfl⟩) | ((first | refine call0D (BCall.ofP (inRange_ok _ _ _)) ?_ | refine qcall0D (BCall.ofP (inRange_ok _ _ _)) ⟨_,_,rfl,rfl⟩ ?_); rintro _ _ ⟨rfl,rfl⟩) | ((first | refine call0D (BCall.ofP (scostBy_ok _ _ _ _ _ _ _ _ _ _ (by assumption) (by assumption) ?_ ?_ ?_ ?_)) ?_ | refine qcall0D (BCall.ofP (scostBy_ok _ _ _ _ _ _ _ _ _ _ (by assumption) (by assumption) ?_ ?_ ?_ ?_)) ⟨_,_,rfl,rfl⟩ ?_); (iterate 4 (exact sd)); rintro _ _ ⟨rfl,rfl⟩)) <;> (try simp (disch := omega) only [push_cast,seval,hx,ho,Option.isSome_some,innL_TL,innL_LL]))
 | (refine awp_ret ⟨.inr rfl,_,rfl,?_⟩; (try simp (disch := omega) only [push_cast,seval,hx,ho,Option.isSome_some,innL_TL,innL_LL]))))
    | true =>
      have hp : exP ts ls out = some e := by rw [exP_eq,ho,hx]; rfl
      rw [hp]
      obtain ⟨h5,f1,f2,f3,f4,f5,f6,f7⟩ := exO_facts hx
      obtain ⟨l1,l2⟩ := lab_len hx
      cases hB : pairB i j ts.length with
 | false =>
        simp only [Bool.false_eq_true,if_false]
        rw [hpb] at hB
        by_cases h1 : 0 ≤ i ∧ i ≤ (ts.length : Int) - 1
        · have w1 : (decide (0 ≤ i) && decide (i ≤ (ts.length : Int) - 1)) = true := by rw [Bool.and_eq_true,decide_eq_true_eq,decide_eq_true_eq]; exact h1
          by_cases h2 : 0 ≤ j ∧ j ≤ (ts.length : Int) - 1
          · have w2 : (decide (0 ≤ j) && decide (j ≤ (ts.length : Int) - 1)) = true := by rw [Bool.and_eq_true,decide_eq_true_eq,decide_eq_true_eq]; exact h2
            rw [w1,w2] at hB
            have h3 : i = j := by simpa using hB
            have h3' : (i = j) = True := eq_true h3
            (repeat' (first
 | (first | refine awp_seq ?_ | refine awp_block ?_)
 | ((first | refine awp_reg ?_ | refine awp_condB ?_ | refine awp_skip ?_ | refine awp_exit ?_); simp (disch := omega) only [push_cast,seval,l28r0,l28r1,l28r2,l28r3,l28r4,hx,ho,w1,w2,h3',Option.isSome_some,innL_TL,innL_LL])
 | ((first | refine condB_split (fun h => ?_) (fun h => ?_) | refine gIf_split (fun h => ?_) (fun h => ?_) | refine qIf_split (fun h => ?_) (fun h => ?_)) <;> (try simp only [h]) <;> (try simp only [bitvec_to_nat] at h) <;> (try simp only [h]) <;> (first | (exfalso; omega) | (focus (exfalso; simp_all; done)) | (simp (disch := omega) only [push_cast,seval,hx,ho,w1,w2,h3',Option.isSome_some,innL_TL,innL_LL]) | skip))
 | ((first | refine callD_of false ?_ | refine qcallD_of false ?_); simp (disch := omega) only [push_cast,seval,hx,ho,w1,w2,h3',Option.isSome_some,innL_TL,innL_LL])
 | ((first | ((first | refine call0D (sExO_ok _ _ _ _ ?_ ?_ ?_) ?_ | refine qcall0D (BCall.ofP (plainI (sExO_ok _ _ _ _ ?_ ?_ ?_))) ⟨_,_,rfl,rfl⟩ ?_); (iterate 3 (exact sd)); rintro _ _ ⟨rfl,rfl⟩) | ((first | refine call0D (BCall.ofP (allIn_ok _ _ _ _ ?_ ?_)) ?_ | refine qcall0D (BCall.ofP (allIn_ok _ _ _ _ ?_ ?_)) ⟨_,_,rfl,rfl⟩ ?_); (iterate 2 (exact sd)); rintro _ _ ⟨rfl,rfl⟩) | ((first | refine call0D (BCall.ofP (inRange_ok _ _ _)) ?_ | refine qcall0D (BCall.ofP (inRange_ok _ _ _)) ⟨_,_,rfl,rfl⟩ ?_); rintro _ _ ⟨rfl,rfl⟩) | ((first | refine call0D (BCall.ofP (scostBy_ok _ _ _ _ _ _ _ _ _ _ (by assumption) (by assumption) ?_ ?_ ?_ ?_)) ?_ | refine qcall0D (BCall.ofP (scostBy_ok _ _ _ _ _ _ _ _ _ _ (by assumption) (by assumption) ?_ ?_ ?_ ?_)) ⟨_,_,rfl,rfl⟩ ?_); (iterate 4 (exact sd)); rintro _ _ ⟨rfl,rfl⟩)) <;> (try simp (disch := omega) only [push_cast,seval,hx,ho,w1,w2,h3',Option.isSome_some,innL_TL,innL_LL]))
 | (refine awp_ret ⟨.inr rfl,_,rfl,?_⟩; (try simp (disch := omega) only [push_cast,seval,hx,ho,w1,w2,h3',Option.isSome_some,innL_TL,innL_LL]))))
          · have w2 : (decide (0 ≤ j) && decide (j ≤ (ts.length : Int) - 1)) = false := by rw [Bool.and_eq_false_iff,decide_eq_false_iff_not,decide_eq_false_iff_not]; omega
            (repeat' (first
 | (first | refine awp_seq ?_ | refine awp_block ?_)
 | ((first | refine awp_reg ?_ | refine awp_condB ?_ | refine awp_skip ?_ | refine awp_exit ?_); simp (disch := omega) only [push_cast,seval,l28r0,l28r1,l28r2,l28r3,l28r4,hx,ho,w1,w2,Option.isSome_some,innL_TL,innL_LL])
 | ((first | refine condB_split (fun h => ?_) (fun h => ?_) | refine gIf_split (fun h => ?_) (fun h => ?_) | refine qIf_split (fun h => ?_) (fun h => ?_)) <;> (try simp only [h]) <;> (try simp only [bitvec_to_nat] at h) <;> (try simp only [h]) <;> (first | (exfalso; omega) | (focus (exfalso; simp_all; done)) | (simp (disch := omega) only [push_cast,seval,hx,ho,w1,w2,Option.isSome_some,innL_TL,innL_LL]) | skip))
 | ((first | refine callD_of false ?_ | refine qcallD_of false ?_); simp (disch := omega) only [push_cast,seval,hx,ho,w1,w2,Option.isSome_some,innL_TL,innL_LL])
 | ((first | ((first | refine call0D (sExO_ok _ _ _ _ ?_ ?_ ?_) ?_ | refine qcall0D (BCall.ofP (plainI (sExO_ok _ _ _ _ ?_ ?_ ?_))) ⟨_,_,rfl,rfl⟩ ?_); (iterate 3 (exact sd)); rintro _ _ ⟨rfl,rfl⟩) | ((first | refine call0D (BCall.ofP (allIn_ok _ _ _ _ ?_ ?_)) ?_ | refine qcall0D (BCall.ofP (allIn_ok _ _ _ _ ?_ ?_)) ⟨_,_,rfl,rfl⟩ ?_); (iterate 2 (exact sd)); rintro _ _ ⟨rfl,rfl⟩) | ((first | refine call0D (BCall.ofP (inRange_ok _ _ _)) ?_ | refine qcall0D (BCall.ofP (inRange_ok _ _ _)) ⟨_,_,rfl,rfl⟩ ?_); rintro _ _ ⟨rfl,rfl⟩) | ((first | refine call0D (BCall.ofP (scostBy_ok _ _ _ _ _ _ _ _ _ _ (by assumption) (by assumption) ?_ ?_ ?_ ?_)) ?_ | refine qcall0D (BCall.ofP (scostBy_ok _ _ _ _ _ _ _ _ _ _ (by assumption) (by assumption) ?_ ?_ ?_ ?_)) ⟨_,_,rfl,rfl⟩ ?_); (iterate 4 (exact sd)); rintro _ _ ⟨rfl,rfl⟩)) <;> (try simp (disch := omega) only [push_cast,seval,hx,ho,w1,w2,Option.isSome_some,innL_TL,innL_LL]))
 | (refine awp_ret ⟨.inr rfl,_,rfl,?_⟩; (try simp (disch := omega) only [push_cast,seval,hx,ho,w1,w2,Option.isSome_some,innL_TL,innL_LL]))))
        · have w1 : (decide (0 ≤ i) && decide (i ≤ (ts.length : Int) - 1)) = false := by rw [Bool.and_eq_false_iff,decide_eq_false_iff_not,decide_eq_false_iff_not]; omega
          (repeat' (first
 | (first | refine awp_seq ?_ | refine awp_block ?_)
 | ((first | refine awp_reg ?_ | refine awp_condB ?_ | refine awp_skip ?_ | refine awp_exit ?_); simp (disch := omega) only [push_cast,seval,l28r0,l28r1,l28r2,l28r3,l28r4,hx,ho,w1,Option.isSome_some,innL_TL,innL_LL])
 | ((first | refine condB_split (fun h => ?_) (fun h => ?_) | refine gIf_split (fun h => ?_) (fun h => ?_) | refine qIf_split (fun h => ?_) (fun h => ?_)) <;> (try simp only [h]) <;> (try simp only [bitvec_to_nat] at h) <;> (try simp only [h]) <;> (first | (exfalso; omega) | (focus (exfalso; simp_all; done)) | (simp (disch := omega) only [push_cast,seval,hx,ho,w1,Option.isSome_some,innL_TL,innL_LL]) | skip))
 | ((first | refine callD_of false ?_ | refine qcallD_of false ?_); simp (disch := omega) only [push_cast,seval,hx,ho,w1,Option.isSome_some,innL_TL,innL_LL])
 | ((first | ((first | refine call0D (sExO_ok _ _ _ _ ?_ ?_ ?_) ?_ | refine qcall0D (BCall.ofP (plainI (sExO_ok _ _ _ _ ?_ ?_ ?_))) ⟨_,_,rfl,rfl⟩ ?_); (iterate 3 (exact sd)); rintro _ _ ⟨rfl,rfl⟩) | ((first | refine call0D (BCall.ofP (allIn_ok _ _ _ _ ?_ ?_)) ?_ | refine qcall0D (BCall.ofP (allIn_ok _ _ _ _ ?_ ?_)) ⟨_,_,rfl,rfl⟩ ?_); (iterate 2 (exact sd)); rintro _ _ ⟨rfl,rfl⟩) | ((first | refine call0D (BCall.ofP (inRange_ok _ _ _)) ?_ | refine qcall0D (BCall.ofP (inRange_ok _ _ _)) ⟨_,_,rfl,rfl⟩ ?_); rintro _ _ ⟨rfl,rfl⟩) | ((first | refine call0D (BCall.ofP (scostBy_ok _ _ _ _ _ _ _ _ _ _ (by assumption) (by assumption) ?_ ?_ ?_ ?_)) ?_ | refine qcall0D (BCall.ofP (scostBy_ok _ _ _ _ _ _ _ _ _ _ (by assumption) (by assumption) ?_ ?_ ?_ ?_)) ⟨_,_,rfl,rfl⟩ ?_); (iterate 4 (exact sd)); rintro _ _ ⟨rfl,rfl⟩)) <;> (try simp (disch := omega) only [push_cast,seval,hx,ho,w1,Option.isSome_some,innL_TL,innL_LL]))
 | (refine awp_ret ⟨.inr rfl,_,rfl,?_⟩; (try simp (disch := omega) only [push_cast,seval,hx,ho,w1,Option.isSome_some,innL_TL,innL_LL]))))
 | true =>
        simp only [if_true]
        obtain ⟨p,p',rfl,rfl,hpl,hpl',hne⟩ := pairB_nat hB
        obtain ⟨a,ha⟩ := mem_lt (l := ls) (i := p) (by omega)
        obtain ⟨b,hb⟩ := mem_lt (l := ls) (i := p') (by omega)
        have w1 : (decide (0 ≤ (p : Int)) && decide ((p : Int) ≤ (ts.length : Int) - 1)) = true := by rw [Bool.and_eq_true,decide_eq_true_eq,decide_eq_true_eq]; omega
        have w2 : (decide (0 ≤ (p' : Int)) && decide ((p' : Int) ≤ (ts.length : Int) - 1)) = true := by rw [Bool.and_eq_true,decide_eq_true_eq,decide_eq_true_eq]; omega
        have h3 : ((p : Int) = p') = False := eq_false (by omega)
        have q9 : (e.length = 5 ∧ ls.length ≤ 1000 ∧ out.length ≤ 100000000) ∧ (∀ l ∈ ls,l.length ≤ 100000000) ∧ ∀ k : Nat,k < 5 → (k : Int) ∈ ls.flatten → e.getD k 0 ≤ 60 := ⟨⟨h5,by omega,by omega⟩,fun l hl => by have := l2 l hl; omega,fun k hk hm => (f2 k hk hm).2⟩
        rw [Int.toNat_natCast,Int.toNat_natCast,cbN_at ha hb]
        clear hpb hB
        (repeat' (first
 | (first | refine awp_seq ?_ | refine awp_block ?_)
 | ((first | refine awp_reg ?_ | refine awp_condB ?_ | refine awp_skip ?_ | refine awp_exit ?_); simp (disch := omega) only [push_cast,seval,l28r0,l28r1,l28r2,l28r3,l28r4,hx,ho,w1,w2,h3,Option.isSome_some,Option.getD_some,innL_TL,innL_LL])
 | ((first | refine condB_split (fun h => ?_) (fun h => ?_) | refine gIf_split (fun h => ?_) (fun h => ?_) | refine qIf_split (fun h => ?_) (fun h => ?_)) <;> (try simp only [h]) <;> (try simp only [bitvec_to_nat] at h) <;> (try simp only [h]) <;> (first | (exfalso; omega) | (focus (exfalso; simp_all; done)) | (simp (disch := omega) only [push_cast,seval,hx,ho,w1,w2,h3,Option.isSome_some,Option.getD_some,innL_TL,innL_LL]) | skip))
 | ((first | refine callD_of false ?_ | refine qcallD_of false ?_); simp (disch := omega) only [push_cast,seval,hx,ho,w1,w2,h3,Option.isSome_some,Option.getD_some,innL_TL,innL_LL])
 | ((first | ((first | refine call0D (sExO_ok _ _ _ _ ?_ ?_ ?_) ?_ | refine qcall0D (BCall.ofP (plainI (sExO_ok _ _ _ _ ?_ ?_ ?_))) ⟨_,_,rfl,rfl⟩ ?_); (iterate 3 (exact sd)); rintro _ _ ⟨rfl,rfl⟩) | ((first | refine call0D (BCall.ofP (allIn_ok _ _ _ _ ?_ ?_)) ?_ | refine qcall0D (BCall.ofP (allIn_ok _ _ _ _ ?_ ?_)) ⟨_,_,rfl,rfl⟩ ?_); (iterate 2 (exact sd)); rintro _ _ ⟨rfl,rfl⟩) | ((first | refine call0D (BCall.ofP (inRange_ok _ _ _)) ?_ | refine qcall0D (BCall.ofP (inRange_ok _ _ _)) ⟨_,_,rfl,rfl⟩ ?_); rintro _ _ ⟨rfl,rfl⟩) | ((first | refine call0D (BCall.ofP (scostBy_ok _ _ _ _ _ _ _ _ _ _ (by assumption) (by assumption) ?_ ?_ ?_ ?_)) ?_ | refine qcall0D (BCall.ofP (scostBy_ok _ _ _ _ _ _ _ _ _ _ (by assumption) (by assumption) ?_ ?_ ?_ ?_)) ⟨_,_,rfl,rfl⟩ ?_); (iterate 4 (exact sd)); rintro _ _ ⟨rfl,rfl⟩)) <;> (try simp (disch := omega) only [push_cast,seval,hx,ho,w1,w2,h3,Option.isSome_some,Option.getD_some,innL_TL,innL_LL]))
 | (refine awp_ret ⟨.inr rfl,_,rfl,?_⟩; (try simp (disch := omega) only [push_cast,seval,hx,ho,w1,w2,h3,Option.isSome_some,Option.getD_some,innL_TL,innL_LL]))))


theorem keptP_ok (ls : List (List Int)) (out : List Int) (n m : Nat) (i j : Nat) (a b : List Int) (hi : ls[i]? = some a) (hj : ls[j]? = some b) (hn : ls.length = n) (hm : out.length = m) (hb : (n ≤ 1000 ∧ m ≤ 100000000) ∧ (∀ l ∈ ls,∀ x ∈ l,0 ≤ x ∧ x ≤ 4) ∧ (∀ l ∈ ls,l.length ≤ 1000)) : PCall Try.prog 55 [.rows false (LL false ls) n,.rows false (IL out) m,.int .i64 i,.int .i64 j] (fun r => r = .rows true (IL (keL ls out a b i j)) (keL ls out a b i j).length) := plainI (kept_ok ls out n m i j a b hi hj hn hm hb)


set_option maxHeartbeats 16000000 in
theorem iCostBy_ok (ts : List Tn) (ls : List (List Int)) (out : List Int) (n m q : Nat) (i j : Int) (hn : ts.length = n) (hm : ls.length = m) (hq : out.length = q) (hb : n ≤ 1048576 ∧ m ≤ 1048576 ∧ q ≤ 1048576 ∧ (∀ t ∈ ts,t.1.length ≤ 1048576 ∧ t.2.length ≤ 1048576) ∧ ∀ l ∈ ls,l.length ≤ 1048576) :
    PCall Try.prog 27 [.rows false (TL false ts) n,.rows false (LL false ls) m,.rows false (IL out) q,.int .i64 i,.int .i64 j] (fun r => r = .int .i64 (cbI ts ls out i j)) := by
  subst hn hm hq
  obtain ⟨hb0,hb1,hb2,hb3,hb4⟩ := hb
  have q0 : ts.length ≤ 1099511627776 ∧ ls.length ≤ 1099511627776 ∧ out.length ≤ 1099511627776 ∧ (∀ t ∈ ts,t.1.length ≤ 1099511627776 ∧ t.2.length ≤ 1099511627776) ∧ ∀ l ∈ ls,l.length ≤ 1099511627776 := ⟨by omega,by omega,by omega,fun t ht => by have := hb3 t ht; omega,fun l hl => by have := hb4 l hl; omega⟩
  refine pcall_of l27_eq rfl ?_
  unfold cbI
  have hpb : pairB i j ts.length = (!decide (i = j) && (decide (0 ≤ i) && decide (i ≤ (ts.length : Int) - 1)) && (decide (0 ≤ j) && decide (j ≤ (ts.length : Int) - 1))) := rfl
  cases hxp : exP ts ls out with
  | none =>
    (repeat' (first
 | (first | refine awp_seq ?_ | refine awp_block ?_)
 | ((first | refine awp_reg ?_ | refine awp_draw (mid := l27r5a) (post := l27r5b) mixed (by decide) ?_ | refine awp_condB ?_ | refine awp_skip ?_ | refine awp_exit ?_); simp (disch := omega) only [push_cast,seval,l27r0,l27r1,l27r2,l27r3,l27r4,l27r5a,l27r5b,l27r5,hxp,set5,tak5,len5c,Option.isSome_none,innL_TL,innL_LL])
 | ((first | refine condB_split (fun h => ?_) (fun h => ?_) | refine gIf_split (fun h => ?_) (fun h => ?_) | refine qIf_split (fun h => ?_) (fun h => ?_)) <;> (try simp only [h]) <;> (try simp only [bitvec_to_nat] at h) <;> (try simp only [h]) <;> (first | (exfalso; omega) | (focus (exfalso; simp_all; done)) | (simp (disch := omega) only [push_cast,seval,hxp,set5,tak5,len5c,Option.isSome_none,innL_TL,innL_LL]) | skip))
 | ((first | ((with_reducible refine callD_of (f := 59) true ?_); simp (disch := omega) only [push_cast,seval,hxp,set5,tak5,len5c,Option.isSome_none,innL_TL,innL_LL]; (refine call0D (besL_ok _ _ _ _ ?_ ?_) ?_; (iterate 2 (exact sd)); rintro _ _ ⟨rfl,rfl⟩))) <;> (try simp (disch := omega) only [push_cast,seval,hxp,set5,tak5,len5c,Option.isSome_none,innL_TL,innL_LL]))
 | ((first | refine callD_of false ?_ | refine qcallD_of false ?_); simp (disch := omega) only [push_cast,seval,hxp,set5,tak5,len5c,Option.isSome_none,innL_TL,innL_LL])
 | ((first | (refine call0D (BCall.ofP (extentsOf_ok _ _ _ _ _ _ ?_ ?_ ?_ ?_)) ?_; (iterate 4 (exact sd)); rintro _ _ ⟨⟨g,hg5,rfl⟩,rfl⟩; (try simp only [hxp,Option.getD_none,Option.getD_some] at hg5)) | (refine call0D (BCall.ofP (extentsOfN_ok _ _ _ _ ?_ ?_ ?_)) ?_; (iterate 3 (exact sd)); rintro _ _ ⟨⟨g,hg5,rfl⟩,rfl⟩; (try simp only [hxp,Option.getD_none,Option.getD_some] at hg5)) | ((first | refine call0D (BCall.ofP (arePair_ok _ _ _ ?_)) ?_ | refine qcall0D (BCall.ofP (arePair_ok _ _ _ ?_)) ⟨_,_,rfl,rfl⟩ ?_); (exact sd); rintro _ _ ⟨rfl,rfl⟩) | ((first | refine call0D (BCall.ofP (keptP_ok _ _ _ _ _ _ _ _ (by assumption) (by assumption) ?_ ?_ ?_)) ?_ | refine qcall0D (BCall.ofP (keptP_ok _ _ _ _ _ _ _ _ (by assumption) (by assumption) ?_ ?_ ?_)) ⟨_,_,rfl,rfl⟩ ?_); (iterate 3 (exact sd)); rintro _ _ ⟨rfl,rfl⟩) | ((first | refine call0D (BCall.ofP (costOf_ok _ _ _ ?_ ?_)) ?_ | refine qcall0D (BCall.ofP (costOf_ok _ _ _ ?_ ?_)) ⟨_,_,rfl,rfl⟩ ?_); (iterate 2 (exact sd)); rintro _ _ ⟨rfl,rfl⟩) | ((first | refine call0D (BCall.ofP (costOf2_ok _ _ _ _ _ ?_ ?_ ?_)) ?_ | refine qcall0D (BCall.ofP (costOf2_ok _ _ _ _ _ ?_ ?_ ?_)) ⟨_,_,rfl,rfl⟩ ?_); (iterate 3 (exact sd)); rintro _ _ ⟨rfl,rfl⟩)) <;> (try simp (disch := omega) only [push_cast,seval,hxp,set5,tak5,len5c,Option.isSome_none,innL_TL,innL_LL]))
 | (refine awp_ret ⟨.inr rfl,_,rfl,?_⟩; (try simp (disch := omega) only [push_cast,seval,hxp,set5,tak5,len5c,Option.isSome_none,innL_TL,innL_LL]))))
  | some e =>
    obtain ⟨ho,hx⟩ := exP_some hxp
    obtain ⟨h5,f1,f2,f3,f4,f5,f6,f7⟩ := exO_facts hx
    obtain ⟨l1,l2⟩ := lab_len hx
    cases hB : pairB i j ts.length with
    | false =>
      have hB2 := hB
      rw [hpb] at hB2
      simp only [Bool.false_eq_true,if_false]
      (repeat' (first
 | (first | refine awp_seq ?_ | refine awp_block ?_)
 | ((first | refine awp_reg ?_ | refine awp_draw (mid := l27r5a) (post := l27r5b) mixed (by decide) ?_ | refine awp_condB ?_ | refine awp_skip ?_ | refine awp_exit ?_); simp (disch := omega) only [push_cast,seval,l27r0,l27r1,l27r2,l27r3,l27r4,l27r5a,l27r5b,l27r5,hxp,hB2,h5,set5,tak5,len5c,Option.isSome_some,Option.getD_some,innL_TL,innL_LL])
 | ((first | refine condB_split (fun h => ?_) (fun h => ?_) | refine gIf_split (fun h => ?_) (fun h => ?_) | refine qIf_split (fun h => ?_) (fun h => ?_)) <;> (try simp only [h]) <;> (try simp only [bitvec_to_nat] at h) <;> (try simp only [h]) <;> (first | (exfalso; omega) | (focus (exfalso; simp_all; done)) | (simp (disch := omega) only [push_cast,seval,hxp,hB2,h5,set5,tak5,len5c,Option.isSome_some,Option.getD_some,innL_TL,innL_LL]) | skip))
 | ((first | ((with_reducible refine callD_of (f := 59) true ?_); simp (disch := omega) only [push_cast,seval,hxp,hB2,h5,set5,tak5,len5c,Option.isSome_some,Option.getD_some,innL_TL,innL_LL]; (refine call0D (besL_ok _ _ _ _ ?_ ?_) ?_; (iterate 2 (exact sd)); rintro _ _ ⟨rfl,rfl⟩))) <;> (try simp (disch := omega) only [push_cast,seval,hxp,hB2,h5,set5,tak5,len5c,Option.isSome_some,Option.getD_some,innL_TL,innL_LL]))
 | ((first | refine callD_of false ?_ | refine qcallD_of false ?_); simp (disch := omega) only [push_cast,seval,hxp,hB2,h5,set5,tak5,len5c,Option.isSome_some,Option.getD_some,innL_TL,innL_LL])
 | ((first | (refine call0D (BCall.ofP (extentsOf_ok _ _ _ _ _ _ ?_ ?_ ?_ ?_)) ?_; (iterate 4 (exact sd)); rintro _ _ ⟨⟨g,hg5,rfl⟩,rfl⟩; (try simp only [hxp,Option.getD_none,Option.getD_some] at hg5)) | (refine call0D (BCall.ofP (extentsOfN_ok _ _ _ _ ?_ ?_ ?_)) ?_; (iterate 3 (exact sd)); rintro _ _ ⟨⟨g,hg5,rfl⟩,rfl⟩; (try simp only [hxp,Option.getD_none,Option.getD_some] at hg5)) | ((first | refine call0D (BCall.ofP (arePair_ok _ _ _ ?_)) ?_ | refine qcall0D (BCall.ofP (arePair_ok _ _ _ ?_)) ⟨_,_,rfl,rfl⟩ ?_); (exact sd); rintro _ _ ⟨rfl,rfl⟩) | ((first | refine call0D (BCall.ofP (keptP_ok _ _ _ _ _ _ _ _ (by assumption) (by assumption) ?_ ?_ ?_)) ?_ | refine qcall0D (BCall.ofP (keptP_ok _ _ _ _ _ _ _ _ (by assumption) (by assumption) ?_ ?_ ?_)) ⟨_,_,rfl,rfl⟩ ?_); (iterate 3 (exact sd)); rintro _ _ ⟨rfl,rfl⟩) | ((first | refine call0D (BCall.ofP (costOf_ok _ _ _ ?_ ?_)) ?_ | refine qcall0D (BCall.ofP (costOf_ok _ _ _ ?_ ?_)) ⟨_,_,rfl,rfl⟩ ?_); (iterate 2 (exact sd)); rintro _ _ ⟨rfl,rfl⟩) | ((first | refine call0D (BCall.ofP (costOf2_ok _ _ _ _ _ ?_ ?_ ?_)) ?_ | refine qcall0D (BCall.ofP (costOf2_ok _ _ _ _ _ ?_ ?_ ?_)) ⟨_,_,rfl,rfl⟩ ?_); (iterate 3 (exact sd)); rintro _ _ ⟨rfl,rfl⟩)) <;> (try simp (disch := omega) only [push_cast,seval,hxp,hB2,h5,set5,tak5,len5c,Option.isSome_some,Option.getD_some,innL_TL,innL_LL]))
 | (refine awp_ret ⟨.inr rfl,_,rfl,?_⟩; (try simp (disch := omega) only [push_cast,seval,hxp,hB2,h5,set5,tak5,len5c,Option.isSome_some,Option.getD_some,innL_TL,innL_LL]))))
    | true =>
      have hB2 := hB
      rw [hpb] at hB2
      simp only [if_true]
      obtain ⟨p,p',rfl,rfl,hpl,hpl',hne⟩ := pairB_nat hB
      obtain ⟨a,ha⟩ := mem_lt (l := ls) (i := p) (by omega)
      obtain ⟨b,hb⟩ := mem_lt (l := ls) (i := p') (by omega)
      have hfl : ∀ l ∈ ls,∀ x ∈ l,x ∈ ls.flatten := fun l hl x hx => List.mem_flatten.2 ⟨l,hl,hx⟩
      have hr : ∀ x ∈ ls.flatten,0 ≤ gE e x ∧ gE e x ≤ 60 := fun x hx => by
        have := f4 x hx
        exact f2 x.toNat (by omega) (by rw [Int.toNat_of_nonneg this.1]; exact hx)
      have hma := List.mem_of_getElem? ha
      have hmb := List.mem_of_getElem? hb
      have la := l2 _ hma
      have lb := l2 _ hmb
      have q2 : (ls.length ≤ 1048576 ∧ p ≤ 1048576) ∧ p' ≤ 1048576 := ⟨⟨by omega,by omega⟩,by omega⟩
      have q3 : (ls.length ≤ 1000 ∧ out.length ≤ 100000000) ∧ (∀ l ∈ ls,∀ x ∈ l,0 ≤ x ∧ x ≤ 4) ∧ (∀ l ∈ ls,l.length ≤ 1000) := ⟨⟨by omega,by omega⟩,fun l hl x hx => f4 x (hfl l hl x hx),fun l hl => by have := l2 l hl; omega⟩
      have q4 : e.length = 5 ∧ (a.length ≤ 1099511627776 ∧ b.length ≤ 1099511627776) ∧ ((∀ x ∈ a,0 ≤ x ∧ x ≤ 4) ∧ ∀ x ∈ b,0 ≤ x ∧ x ≤ 4) ∧ (∀ x ∈ a,0 ≤ gE e x ∧ gE e x ≤ 60) ∧ ∀ x ∈ b,0 ≤ gE e x ∧ gE e x ≤ 60 := ⟨h5,⟨by omega,by omega⟩,⟨fun x hx => f4 x (hfl a hma x hx),fun x hx => f4 x (hfl b hmb x hx)⟩,fun x hx => hr x (hfl a hma x hx),fun x hx => hr x (hfl b hmb x hx)⟩
      have hbl : (besL ls p p').length ≤ ls.length := besT_len ls p p' ls.length
      have hkk := keT_len ls out a b p p' 5
      have hK5 : ∀ x ∈ keL ls out a b p p',x ∈ ls.flatten := fun x hx => by
        rcases (mem_keL.1 hx).2.1 with h | h
        · exact hfl a hma x h
        · exact hfl b hmb x h
      have hlm : ∀ l ∈ besL ls p p' ++ [keL ls out a b p p'],∀ x ∈ l,x ∈ ls.flatten := fun l hl x hx => by
        rcases List.mem_append.1 hl with h | h
        · exact hfl l (besT_sub h) x hx
        · simp only [List.mem_singleton] at h; subst h; exact hK5 x hx
      have q5 : e.length = 5 ∧ (besL ls p p').length + 1 ≤ 1099511627776 ∧ (∀ l ∈ besL ls p p' ++ [keL ls out a b p p'],l.length ≤ 1099511627776) ∧ (∀ l ∈ besL ls p p' ++ [keL ls out a b p p'],∀ x ∈ l,0 ≤ x ∧ x ≤ 4) ∧ ∀ l ∈ besL ls p p' ++ [keL ls out a b p p'],∀ x ∈ l,0 ≤ gE e x ∧ gE e x ≤ 60 := ⟨h5,by omega,fun l hl => by
        rcases List.mem_append.1 hl with h | h
        · have := l2 l (besT_sub h); omega
        · simp only [List.mem_singleton] at h; subst h; show (keT _ _ _ _ _ _ 5).length ≤ _; omega,fun l hl x hx => f4 x (hlm l hl x hx),fun l hl x hx => hr x (hlm l hl x hx)⟩
      have hfe : (besL ls p p' ++ [keL ls out a b p p']).flatten = (besL ls p p').flatten ++ keL ls out a b p p' := by simp
      have hc1 := selE_cost (e := e) (U := a ++ b) fun k hk hm => (f2 k hk (by rcases List.mem_append.1 hm with h | h; exact hfl a hma _ h; exact hfl b hmb _ h)).1
      have hc2 := selE_cost (e := e) (U := (besL ls p p').flatten ++ keL ls out a b p p') fun k hk hm => (f2 k hk (by rw [← hfe] at hm; obtain ⟨l,hl,hx⟩ := List.mem_flatten.1 hm; exact hlm l hl _ hx)).1
      rw [Int.toNat_natCast,Int.toNat_natCast,cbN_at ha hb]
      have hcb : cbE e ls out a b p p' = pr ((lbS (a ++ b)).map (gE e)) + pr ((lbS (besL ls p p' ++ [keL ls out a b p p']).flatten).map (gE e)) := by unfold cbE; rw [hc1,hc2,hfe]
      have bnd := fun (U : List Int) (hU : ∀ x ∈ U,x ∈ ls.flatten) => pr_bound9 (xs := (lbS U).map (gE e)) ⟨fun x hx => by
        obtain ⟨y,hy,rfl⟩ := List.mem_map.1 hx
        exact hr y (hU y (mem_lbS.1 hy).2),by rw [List.length_map]; have := lbT_len U 5; show (lbT U 5).length ≤ 6; omega⟩
      have b1 := bnd (a ++ b) fun x hx => by rcases List.mem_append.1 hx with h | h; exact hfl a hma _ h; exact hfl b hmb _ h
      have b2 := bnd (besL ls p p' ++ [keL ls out a b p p']).flatten fun x hx => by obtain ⟨l,hl,hx⟩ := List.mem_flatten.1 hx; exact hlm l hl _ hx
      rw [hcb]
      have hll := LL_length false ls
      have hda := LL_drop false ls p ha
      have hdb := LL_drop false ls p' hb
      have hp1 : p + 1 ≤ ls.length := by omega
      have hp2 : p' + 1 ≤ ls.length := by omega
      clear hcb bnd hc1 hc2 hfe hlm hK5 hfl hr hpb hB f1 f2 f3 f4 f5 f6
      have hkk : (keL ls out a b p p').length ≤ 5 := hkk
      obtain ⟨K,hK⟩ : ∃ K,keL ls out a b p p' = K := ⟨_,rfl⟩
      obtain ⟨B,hBe⟩ : ∃ B,besL ls p p' = B := ⟨_,rfl⟩
      rw [hK] at q5 hkk b2 ⊢
      rw [hBe] at q5 hbl b2 ⊢
      have hlb := LL_length false B
      have hsn := LL_snoc false B K
      have hl2 : (LL false B ++ [AV.rows true (IL K) K.length]).length = (B ++ [K]).length := by simp [LL_length]
      have hs2 : B.length + 1 = (B ++ [K]).length := by simp
      rw [hs2] at q5
      generalize hBK : B ++ [K] = BK at *
      (repeat' (first
 | (first | refine awp_seq ?_ | refine awp_block ?_)
 | ((first | refine awp_reg ?_ | refine awp_drawX (mid := l27r5a) (post := l27r5b) [] mixed (by decide) ?_ | refine awp_condB ?_ | refine awp_skip ?_ | refine awp_exit ?_); simp (disch := omega) only [push_cast,seval,l27r0,l27r1,l27r2,l27r3,l27r4,l27r5a,l27r5b,l27r5,hxp,hB2,hda,hdb,hll,hp1,hp2,hK,hBe,hlb,hsn,hs2,hl2,List.map_append,List.map_cons,List.map_nil,h5,set5,tak5,len5c,Option.isSome_some,Option.getD_some,innL_TL,innL_LL])
 | ((first | refine condB_split (fun h => ?_) (fun h => ?_) | refine gIf_split (fun h => ?_) (fun h => ?_) | refine qIf_split (fun h => ?_) (fun h => ?_)) <;> (try simp only [h]) <;> (try simp only [bitvec_to_nat] at h) <;> (try simp only [h]) <;> (first | (exfalso; omega) | (focus (exfalso; simp_all; done)) | (simp (disch := omega) only [push_cast,seval,hxp,hB2,hda,hdb,hll,hp1,hp2,hK,hBe,hlb,hsn,hs2,hl2,List.map_append,List.map_cons,List.map_nil,h5,set5,tak5,len5c,Option.isSome_some,Option.getD_some,innL_TL,innL_LL]) | skip))
 | ((first | ((with_reducible refine callD_of (f := 59) true ?_); simp (disch := omega) only [push_cast,seval,hxp,hB2,hda,hdb,hll,hp1,hp2,hK,hBe,hlb,hsn,hs2,hl2,List.map_append,List.map_cons,List.map_nil,h5,set5,tak5,len5c,Option.isSome_some,Option.getD_some,innL_TL,innL_LL]; (refine call0D (besL_ok _ _ _ _ ?_ ?_) ?_; (iterate 2 (exact sd)); rintro _ _ ⟨rfl,rfl⟩))) <;> (try simp (disch := omega) only [push_cast,seval,hxp,hB2,hda,hdb,hll,hp1,hp2,hK,hBe,hlb,hsn,hs2,hl2,List.map_append,List.map_cons,List.map_nil,h5,set5,tak5,len5c,Option.isSome_some,Option.getD_some,innL_TL,innL_LL]))
 | ((first | refine callD_of false ?_ | refine qcallD_of false ?_); simp (disch := omega) only [push_cast,seval,hxp,hB2,hda,hdb,hll,hp1,hp2,hK,hBe,hlb,hsn,hs2,hl2,List.map_append,List.map_cons,List.map_nil,h5,set5,tak5,len5c,Option.isSome_some,Option.getD_some,innL_TL,innL_LL])
 | ((first | (refine call0D (BCall.ofP (extentsOf_ok _ _ _ _ _ _ ?_ ?_ ?_ ?_)) ?_; (iterate 4 (exact sd)); rintro _ _ ⟨⟨g,hg5,rfl⟩,rfl⟩; (try simp only [hxp,Option.getD_none,Option.getD_some] at hg5)) | (refine call0D (BCall.ofP (extentsOfN_ok _ _ _ _ ?_ ?_ ?_)) ?_; (iterate 3 (exact sd)); rintro _ _ ⟨⟨g,hg5,rfl⟩,rfl⟩; (try simp only [hxp,Option.getD_none,Option.getD_some] at hg5)) | ((first | refine call0D (BCall.ofP (arePair_ok _ _ _ ?_)) ?_ | refine qcall0D (BCall.ofP (arePair_ok _ _ _ ?_)) ⟨_,_,rfl,rfl⟩ ?_); (exact sd); rintro _ _ ⟨rfl,rfl⟩) | ((first | refine call0D (BCall.ofP (keptP_ok _ _ _ _ _ _ _ _ (by assumption) (by assumption) ?_ ?_ ?_)) ?_ | refine qcall0D (BCall.ofP (keptP_ok _ _ _ _ _ _ _ _ (by assumption) (by assumption) ?_ ?_ ?_)) ⟨_,_,rfl,rfl⟩ ?_); (iterate 3 (exact sd)); rintro _ _ ⟨rfl,rfl⟩) | ((first | refine call0D (BCall.ofP (costOf_ok _ _ _ ?_ ?_)) ?_ | refine qcall0D (BCall.ofP (costOf_ok _ _ _ ?_ ?_)) ⟨_,_,rfl,rfl⟩ ?_); (iterate 2 (exact sd)); rintro _ _ ⟨rfl,rfl⟩) | ((first | refine call0D (BCall.ofP (costOf2_ok _ _ _ _ _ ?_ ?_ ?_)) ?_ | refine qcall0D (BCall.ofP (costOf2_ok _ _ _ _ _ ?_ ?_ ?_)) ⟨_,_,rfl,rfl⟩ ?_); (iterate 3 (exact sd)); rintro _ _ ⟨rfl,rfl⟩)) <;> (try simp (disch := omega) only [push_cast,seval,hxp,hB2,hda,hdb,hll,hp1,hp2,hK,hBe,hlb,hsn,hs2,hl2,List.map_append,List.map_cons,List.map_nil,h5,set5,tak5,len5c,Option.isSome_some,Option.getD_some,innL_TL,innL_LL]))
 | (refine awp_ret ⟨.inr rfl,_,rfl,?_⟩; (try simp (disch := omega) only [push_cast,seval,hxp,hB2,hda,hdb,hll,hp1,hp2,hK,hBe,hlb,hsn,hs2,hl2,List.map_append,List.map_cons,List.map_nil,h5,set5,tak5,len5c,Option.isSome_some,Option.getD_some,innL_TL,innL_LL]))))

end Go.Proofs.Ytejbfjmiidofcaa
