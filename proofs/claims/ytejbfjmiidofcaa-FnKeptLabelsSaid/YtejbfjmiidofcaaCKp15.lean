import Derived.Test.YtejbfjmiidofcaaCKp14
import Derived.Test.YtejbfjmiidofcaaCM1
import Derived.Test.YtejbfjmiidofcaaCW3
set_option linter.unusedSimpArgs false
set_option linter.unusedVariables false
set_option maxRecDepth 4000
set_option maxHeartbeats 4000000
namespace Go.Proofs.Ytejbfjmiidofcaa
open VwM Vw Go

def klL (ts : List Tn) (ls : List (List Int)) (out : List Int) (i j : Int) : List Int := match exP ts ls out with | none => [] | some e => if pairB i j ts.length = true then keL ls out (ls.getD i.toNat []) (ls.getD j.toNat []) i.toNat j.toNat else []
theorem klL_comm (ts : List Tn) (ls : List (List Int)) (out : List Int) (i j : Int) : klL ts ls out j i = klL ts ls out i j := by
  unfold klL
  cases hx : exP ts ls out with
  | none => rfl
  | some e =>
    simp only
    have hp : pairB j i ts.length = pairB i j ts.length := by
      unfold pairB
      rw [Bool.eq_iff_iff]
      simp only [Bool.and_eq_true,Bool.not_eq_true',decide_eq_false_iff_not,decide_eq_true_eq]
      omega
    rw [hp]
    split
    · exact (keT_comm ls out _ _ _ _ 5)
    · rfl
theorem klL_len (ts : List Tn) (ls : List (List Int)) (out : List Int) (i j : Int) : (klL ts ls out i j).length ≤ 5 := by
  unfold klL
  split
  · simp
  · split
    · exact keT_len _ _ _ _ _ _ 5
    · simp


set_option maxHeartbeats 16000000 in
theorem sKL_ok (ts : List Tn) (ls : List (List Int)) (out : List Int) (n m q : Nat) (i j : Int) (hn : ts.length = n) (hm : ls.length = m) (hq : out.length = q) (hb : n ≤ 1048576 ∧ m ≤ 1048576 ∧ q ≤ 1048576 ∧ (∀ t ∈ ts,t.1.length ≤ 1048576 ∧ t.2.length ≤ 1048576) ∧ ∀ l ∈ ls,l.length ≤ 1048576) :
    BCall Try.prog 24 [.rows false (TL false ts) n,.rows false (LL false ls) m,.rows false (IL out) q,.int .i64 i,.int .i64 j] [] (OI (klL ts ls out i j)) := by
  subst hn hm hq
  obtain ⟨hb0,hb1,hb2,hb3,hb4⟩ := hb
  have q0 : ts.length ≤ 1099511627776 ∧ ls.length ≤ 1099511627776 ∧ (∀ t ∈ ts,t.1.length ≤ 1099511627776 ∧ t.2.length ≤ 1099511627776) ∧ ∀ l ∈ ls,l.length ≤ 1099511627776 := ⟨by omega,by omega,fun t ht => by have := hb3 t ht; omega,fun l hl => by have := hb4 l hl; omega⟩
  refine bcall_of (pins := []) (pin := 0) l24_eq rfl rfl rfl ?_
  unfold klL
  have hpb : pairB i j ts.length = (!decide (i = j) && (decide (0 ≤ i) && decide (i ≤ (ts.length : Int) - 1)) && (decide (0 ≤ j) && decide (j ≤ (ts.length : Int) - 1))) := rfl
  cases hx : exO ts ls with
  | none =>
    have hp : exP ts ls out = none := by rw [exP_eq,hx]; split <;> rfl
    rw [hp]
    (repeat' (first
 | (first | refine awp_seq ?_ | refine awp_block ?_)
 | ((first | refine awp_reg ?_ | refine awp_condB ?_ | refine awp_skip ?_ | refine awp_exit ?_); simp (disch := omega) only [push_cast,seval,l24r0,l24r1,l24r2,l24r3,l24r4,hx,Option.isSome_none,innL_TL,innL_LL])
 | ((first | refine condB_split (fun h => ?_) (fun h => ?_) | refine gIf_split (fun h => ?_) (fun h => ?_) | refine qIf_split (fun h => ?_) (fun h => ?_)) <;> (try simp only [h]) <;> (try simp only [bitvec_to_nat] at h) <;> (try simp only [h]) <;> (first | (exfalso; omega) | (focus (exfalso; simp_all; done)) | (simp (disch := omega) only [push_cast,seval,hx,Option.isSome_none,innL_TL,innL_LL]) | skip))
 | ((first | refine callD_of false ?_ | refine qcallD_of false ?_); simp (disch := omega) only [push_cast,seval,hx,Option.isSome_none,innL_TL,innL_LL])
 | ((first | ((first | refine call0D (sExO_ok _ _ _ _ ?_ ?_ ?_) ?_ | refine qcall0D (BCall.ofP (plainI (sExO_ok _ _ _ _ ?_ ?_ ?_))) ⟨_,_,rfl,rfl⟩ ?_); (iterate 3 (exact sd)); rintro _ _ ⟨rfl,rfl⟩) | ((first | refine call0D (BCall.ofP (allIn_ok _ _ _ _ ?_ ?_)) ?_ | refine qcall0D (BCall.ofP (allIn_ok _ _ _ _ ?_ ?_)) ⟨_,_,rfl,rfl⟩ ?_); (iterate 2 (exact sd)); rintro _ _ ⟨rfl,rfl⟩) | ((first | refine call0D (BCall.ofP (inRange_ok _ _ _)) ?_ | refine qcall0D (BCall.ofP (inRange_ok _ _ _)) ⟨_,_,rfl,rfl⟩ ?_); rintro _ _ ⟨rfl,rfl⟩) | ((first | refine call0D (skeep_ok _ _ _ _ _ _ _ _ (by assumption) (by assumption) ?_ ?_ ?_) ?_ | refine qcall0D (BCall.ofP (plainI (skeep_ok _ _ _ _ _ _ _ _ (by assumption) (by assumption) ?_ ?_ ?_))) ⟨_,_,rfl,rfl⟩ ?_); (iterate 3 (exact sd)); rintro _ _ ⟨rfl,rfl⟩)) <;> (try simp (disch := omega) only [push_cast,seval,hx,Option.isSome_none,innL_TL,innL_LL]))
 | (refine awp_ret ⟨.inr rfl,[16000],[(16000,1)],_,by decide,rfl,?_⟩; (try simp (disch := omega) only [push_cast,seval,↓allMem_nil,↓allMem_cons,↓List.map_cons,↓List.map_nil,hx,Option.isSome_none,innL_TL,innL_LL]))))
    all_goals (try exact ⟨rfl,rfl⟩)
  | some e =>
    cases ho : allI out 0 4 with
    | false =>
      have hp : exP ts ls out = none := by rw [exP_eq,ho]; rfl
      rw [hp]
      (repeat' (first
 | (first | refine awp_seq ?_ | refine awp_block ?_)
 | ((first | refine awp_reg ?_ | refine awp_condB ?_ | refine awp_skip ?_ | refine awp_exit ?_); simp (disch := omega) only [push_cast,seval,l24r0,l24r1,l24r2,l24r3,l24r4,hx,ho,Option.isSome_some,innL_TL,innL_LL])
 | ((first | refine condB_split (fun h => ?_) (fun h => ?_) | refine gIf_split (fun h => ?_) (fun h => ?_) | refine qIf_split (fun h => ?_) (fun h => ?_)) <;> (try simp only [h]) <;> (try simp only [bitvec_to_nat] at h) <;> (try simp only [h]) <;> (first | (exfalso; omega) | (focus (exfalso; simp_all; done)) | (simp (disch := omega) only [push_cast,seval,hx,ho,Option.isSome_some,innL_TL,innL_LL]) | skip))
 | ((first | refine callD_of false ?_ | refine qcallD_of false ?_); simp (disch := omega) only [push_cast,seval,hx,ho,Option.isSome_some,innL_TL,innL_LL])
 | ((first | ((first | refine call0D (sExO_ok _ _ _ _ ?_ ?_ ?_) ?_ | refine qcall0D (BCall.ofP (plainI (sExO_ok _ _ _ _ ?_ ?_ ?_))) ⟨_,_,rfl,rfl⟩ ?_); (iterate 3 (exact sd)); rintro _ _ ⟨rfl,rfl⟩) | ((first | refine call0D (BCall.ofP (allIn_ok _ _ _ _ ?_ ?_)) ?_ | refine qcall0D (BCall.ofP (allIn_ok _ _ _ _ ?_ ?_)) ⟨_,_,rfl,rfl⟩ ?_); (iterate 2 (exact sd)); rintro _ _ ⟨rfl,rfl⟩) | ((first | refine call0D (BCall.ofP (inRange_ok _ _ _)) ?_ | refine qcall0D (BCall.ofP (inRange_ok _ _ _)) ⟨_,_,rfl,rfl⟩ ?_); rintro _ _ ⟨rfl,rfl⟩) | ((first | refine call0D (skeep_ok _ _ _ _ _ _ _ _ (by assumption) (by assumption) ?_ ?_ ?_) ?_ | refine qcall0D (BCall.ofP (plainI (skeep_ok _ _ _ _ _ _ _ _ (by assumption) (by assumption) ?_ ?_ ?_))) ⟨_,_,rfl,rfl⟩ ?_); (iterate 3 (exact sd)); rintro _ _ ⟨rfl,rfl⟩)) <;> (try simp (disch := omega) only [push_cast,seval,hx,ho,Option.isSome_some,innL_TL,innL_LL]))
 | (refine awp_ret ⟨.inr rfl,[16000],[(16000,1)],_,by decide,rfl,?_⟩; (try simp (disch := omega) only [push_cast,seval,↓allMem_nil,↓allMem_cons,↓List.map_cons,↓List.map_nil,hx,ho,Option.isSome_some,innL_TL,innL_LL]))))
      all_goals (try exact ⟨rfl,rfl⟩)
    | true =>
      have hp : exP ts ls out = some e := by rw [exP_eq,ho,hx]; rfl
      rw [hp]
      obtain ⟨h5,f1,f2,f3,f4,f5,f6,f7⟩ := exO_facts hx
      obtain ⟨l1,l2⟩ := lab_len hx
      cases hB : pairB i j ts.length with
 | false =>
        simp only [Bool.false_eq_true,if_false]
        rw [hpb] at hB
        by_cases h1 : 0 ≤ i ∧ i ≤ (ts.length : Int) - 1
        · have w1 : (decide (0 ≤ i) && decide (i ≤ (ts.length : Int) - 1)) = true := by rw [Bool.and_eq_true,decide_eq_true_eq,decide_eq_true_eq]; exact h1
          by_cases h2 : 0 ≤ j ∧ j ≤ (ts.length : Int) - 1
          · have w2 : (decide (0 ≤ j) && decide (j ≤ (ts.length : Int) - 1)) = true := by rw [Bool.and_eq_true,decide_eq_true_eq,decide_eq_true_eq]; exact h2
            rw [w1,w2] at hB
            have h3 : i = j := by simpa using hB
            have h3' : (i = j) = True := eq_true h3
            (repeat' (first
 | (first | refine awp_seq ?_ | refine awp_block ?_)
 | ((first | refine awp_reg ?_ | refine awp_condB ?_ | refine awp_skip ?_ | refine awp_exit ?_); simp (disch := omega) only [push_cast,seval,l24r0,l24r1,l24r2,l24r3,l24r4,hx,ho,w1,w2,h3',Option.isSome_some,innL_TL,innL_LL])
 | ((first | refine condB_split (fun h => ?_) (fun h => ?_) | refine gIf_split (fun h => ?_) (fun h => ?_) | refine qIf_split (fun h => ?_) (fun h => ?_)) <;> (try simp only [h]) <;> (try simp only [bitvec_to_nat] at h) <;> (try simp only [h]) <;> (first | (exfalso; omega) | (focus (exfalso; simp_all; done)) | (simp (disch := omega) only [push_cast,seval,hx,ho,w1,w2,h3',Option.isSome_some,innL_TL,innL_LL]) | skip))
 | ((first | refine callD_of false ?_ | refine qcallD_of false ?_); simp (disch := omega) only [push_cast,seval,hx,ho,w1,w2,h3',Option.isSome_some,innL_TL,innL_LL])
 | ((first | ((first | refine call0D (sExO_ok _ _ _ _ ?_ ?_ ?_) ?_ | refine qcall0D (BCall.ofP (plainI (sExO_ok _ _ _ _ ?_ ?_ ?_))) ⟨_,_,rfl,rfl⟩ ?_); (iterate 3 (exact sd)); rintro _ _ ⟨rfl,rfl⟩) | ((first | refine call0D (BCall.ofP (allIn_ok _ _ _ _ ?_ ?_)) ?_ | refine qcall0D (BCall.ofP (allIn_ok _ _ _ _ ?_ ?_)) ⟨_,_,rfl,rfl⟩ ?_); (iterate 2 (exact sd)); rintro _ _ ⟨rfl,rfl⟩) | ((first | refine call0D (BCall.ofP (inRange_ok _ _ _)) ?_ | refine qcall0D (BCall.ofP (inRange_ok _ _ _)) ⟨_,_,rfl,rfl⟩ ?_); rintro _ _ ⟨rfl,rfl⟩) | ((first | refine call0D (skeep_ok _ _ _ _ _ _ _ _ (by assumption) (by assumption) ?_ ?_ ?_) ?_ | refine qcall0D (BCall.ofP (plainI (skeep_ok _ _ _ _ _ _ _ _ (by assumption) (by assumption) ?_ ?_ ?_))) ⟨_,_,rfl,rfl⟩ ?_); (iterate 3 (exact sd)); rintro _ _ ⟨rfl,rfl⟩)) <;> (try simp (disch := omega) only [push_cast,seval,hx,ho,w1,w2,h3',Option.isSome_some,innL_TL,innL_LL]))
 | (refine awp_ret ⟨.inr rfl,[16000],[(16000,1)],_,by decide,rfl,?_⟩; (try simp (disch := omega) only [push_cast,seval,↓allMem_nil,↓allMem_cons,↓List.map_cons,↓List.map_nil,hx,ho,w1,w2,h3',Option.isSome_some,innL_TL,innL_LL]))))
            all_goals (try exact ⟨rfl,rfl⟩)
          · have w2 : (decide (0 ≤ j) && decide (j ≤ (ts.length : Int) - 1)) = false := by rw [Bool.and_eq_false_iff,decide_eq_false_iff_not,decide_eq_false_iff_not]; omega
            (repeat' (first
 | (first | refine awp_seq ?_ | refine awp_block ?_)
 | ((first | refine awp_reg ?_ | refine awp_condB ?_ | refine awp_skip ?_ | refine awp_exit ?_); simp (disch := omega) only [push_cast,seval,l24r0,l24r1,l24r2,l24r3,l24r4,hx,ho,w1,w2,Option.isSome_some,innL_TL,innL_LL])
 | ((first | refine condB_split (fun h => ?_) (fun h => ?_) | refine gIf_split (fun h => ?_) (fun h => ?_) | refine qIf_split (fun h => ?_) (fun h => ?_)) <;> (try simp only [h]) <;> (try simp only [bitvec_to_nat] at h) <;> (try simp only [h]) <;> (first | (exfalso; omega) | (focus (exfalso; simp_all; done)) | (simp (disch := omega) only [push_cast,seval,hx,ho,w1,w2,Option.isSome_some,innL_TL,innL_LL]) | skip))
 | ((first | refine callD_of false ?_ | refine qcallD_of false ?_); simp (disch := omega) only [push_cast,seval,hx,ho,w1,w2,Option.isSome_some,innL_TL,innL_LL])
 | ((first | ((first | refine call0D (sExO_ok _ _ _ _ ?_ ?_ ?_) ?_ | refine qcall0D (BCall.ofP (plainI (sExO_ok _ _ _ _ ?_ ?_ ?_))) ⟨_,_,rfl,rfl⟩ ?_); (iterate 3 (exact sd)); rintro _ _ ⟨rfl,rfl⟩) | ((first | refine call0D (BCall.ofP (allIn_ok _ _ _ _ ?_ ?_)) ?_ | refine qcall0D (BCall.ofP (allIn_ok _ _ _ _ ?_ ?_)) ⟨_,_,rfl,rfl⟩ ?_); (iterate 2 (exact sd)); rintro _ _ ⟨rfl,rfl⟩) | ((first | refine call0D (BCall.ofP (inRange_ok _ _ _)) ?_ | refine qcall0D (BCall.ofP (inRange_ok _ _ _)) ⟨_,_,rfl,rfl⟩ ?_); rintro _ _ ⟨rfl,rfl⟩) | ((first | refine call0D (skeep_ok _ _ _ _ _ _ _ _ (by assumption) (by assumption) ?_ ?_ ?_) ?_ | refine qcall0D (BCall.ofP (plainI (skeep_ok _ _ _ _ _ _ _ _ (by assumption) (by assumption) ?_ ?_ ?_))) ⟨_,_,rfl,rfl⟩ ?_); (iterate 3 (exact sd)); rintro _ _ ⟨rfl,rfl⟩)) <;> (try simp (disch := omega) only [push_cast,seval,hx,ho,w1,w2,Option.isSome_some,innL_TL,innL_LL]))
 | (refine awp_ret ⟨.inr rfl,[16000],[(16000,1)],_,by decide,rfl,?_⟩; (try simp (disch := omega) only [push_cast,seval,↓allMem_nil,↓allMem_cons,↓List.map_cons,↓List.map_nil,hx,ho,w1,w2,Option.isSome_some,innL_TL,innL_LL]))))
            all_goals (try exact ⟨rfl,rfl⟩)
        · have w1 : (decide (0 ≤ i) && decide (i ≤ (ts.length : Int) - 1)) = false := by rw [Bool.and_eq_false_iff,decide_eq_false_iff_not,decide_eq_false_iff_not]; omega
          (repeat' (first
 | (first | refine awp_seq ?_ | refine awp_block ?_)
 | ((first | refine awp_reg ?_ | refine awp_condB ?_ | refine awp_skip ?_ | refine awp_exit ?_); simp (disch := omega) only [push_cast,seval,l24r0,l24r1,l24r2,l24r3,l24r4,hx,ho,w1,Option.isSome_some,innL_TL,innL_LL])
 | ((first | refine condB_split (fun h => ?_) (fun h => ?_) | refine gIf_split (fun h => ?_) (fun h => ?_) | refine qIf_split (fun h => ?_) (fun h => ?_)) <;> (try simp only [h]) <;> (try simp only [bitvec_to_nat] at h) <;> (try simp only [h]) <;> (first | (exfalso; omega) | (focus (exfalso; simp_all; done)) | (simp (disch := omega) only [push_cast,seval,hx,ho,w1,Option.isSome_some,innL_TL,innL_LL]) | skip))
 | ((first | refine callD_of false ?_ | refine qcallD_of false ?_); simp (disch := omega) only [push_cast,seval,hx,ho,w1,Option.isSome_some,innL_TL,innL_LL])
 | ((first | ((first | refine call0D (sExO_ok _ _ _ _ ?_ ?_ ?_) ?_ | refine qcall0D (BCall.ofP (plainI (sExO_ok _ _ _ _ ?_ ?_ ?_))) ⟨_,_,rfl,rfl⟩ ?_); (iterate 3 (exact sd)); rintro _ _ ⟨rfl,rfl⟩) | ((first | refine call0D (BCall.ofP (allIn_ok _ _ _ _ ?_ ?_)) ?_ | refine qcall0D (BCall.ofP (allIn_ok _ _ _ _ ?_ ?_)) ⟨_,_,rfl,rfl⟩ ?_); (iterate 2 (exact sd)); rintro _ _ ⟨rfl,rfl⟩) | ((first | refine call0D (BCall.ofP (inRange_ok _ _ _)) ?_ | refine qcall0D (BCall.ofP (inRange_ok _ _ _)) ⟨_,_,rfl,rfl⟩ ?_); rintro _ _ ⟨rfl,rfl⟩) | ((first | refine call0D (skeep_ok _ _ _ _ _ _ _ _ (by assumption) (by assumption) ?_ ?_ ?_) ?_ | refine qcall0D (BCall.ofP (plainI (skeep_ok _ _ _ _ _ _ _ _ (by assumption) (by assumption) ?_ ?_ ?_))) ⟨_,_,rfl,rfl⟩ ?_); (iterate 3 (exact sd)); rintro _ _ ⟨rfl,rfl⟩)) <;> (try simp (disch := omega) only [push_cast,seval,hx,ho,w1,Option.isSome_some,innL_TL,innL_LL]))
 | (refine awp_ret ⟨.inr rfl,[16000],[(16000,1)],_,by decide,rfl,?_⟩; (try simp (disch := omega) only [push_cast,seval,↓allMem_nil,↓allMem_cons,↓List.map_cons,↓List.map_nil,hx,ho,w1,Option.isSome_some,innL_TL,innL_LL]))))
          all_goals (try exact ⟨rfl,rfl⟩)
 | true =>
        simp only [if_true]
        obtain ⟨p,p',rfl,rfl,hpl,hpl',hne⟩ := pairB_nat hB
        obtain ⟨a,ha⟩ := mem_lt (l := ls) (i := p) (by omega)
        obtain ⟨b,hb⟩ := mem_lt (l := ls) (i := p') (by omega)
        have w1 : (decide (0 ≤ (p : Int)) && decide ((p : Int) ≤ (ts.length : Int) - 1)) = true := by rw [Bool.and_eq_true,decide_eq_true_eq,decide_eq_true_eq]; omega
        have w2 : (decide (0 ≤ (p' : Int)) && decide ((p' : Int) ≤ (ts.length : Int) - 1)) = true := by rw [Bool.and_eq_true,decide_eq_true_eq,decide_eq_true_eq]; omega
        have h3 : ((p : Int) = p') = False := eq_false (by omega)
        have q9 : (ls.length ≤ 1000 ∧ out.length ≤ 100000000) ∧ (∀ l ∈ ls,l.length ≤ 100000000) := ⟨⟨by omega,by omega⟩,fun l hl => by have := l2 l hl; omega⟩
        have hga : ls.getD p [] = a := by simp [List.getD,ha]
        have hgb : ls.getD p' [] = b := by simp [List.getD,hb]
        rw [Int.toNat_natCast,Int.toNat_natCast,hga,hgb]
        clear hpb hB
        generalize hK : keL ls out a b p p' = K
        (repeat' (first
 | (first | refine awp_seq ?_ | refine awp_block ?_)
 | ((first | refine awp_reg ?_ | refine awp_condB ?_ | refine awp_skip ?_ | refine awp_exit ?_); simp (disch := omega) only [push_cast,seval,l24r0,l24r1,l24r2,l24r3,l24r4,hx,ho,w1,w2,h3,hK,Option.isSome_some,Option.getD_some,innL_TL,innL_LL])
 | ((first | refine condB_split (fun h => ?_) (fun h => ?_) | refine gIf_split (fun h => ?_) (fun h => ?_) | refine qIf_split (fun h => ?_) (fun h => ?_)) <;> (try simp only [h]) <;> (try simp only [bitvec_to_nat] at h) <;> (try simp only [h]) <;> (first | (exfalso; omega) | (focus (exfalso; simp_all; done)) | (simp (disch := omega) only [push_cast,seval,hx,ho,w1,w2,h3,hK,Option.isSome_some,Option.getD_some,innL_TL,innL_LL]) | skip))
 | ((first | refine callD_of false ?_ | refine qcallD_of false ?_); simp (disch := omega) only [push_cast,seval,hx,ho,w1,w2,h3,hK,Option.isSome_some,Option.getD_some,innL_TL,innL_LL])
 | ((first | ((first | refine call0D (sExO_ok _ _ _ _ ?_ ?_ ?_) ?_ | refine qcall0D (BCall.ofP (plainI (sExO_ok _ _ _ _ ?_ ?_ ?_))) ⟨_,_,rfl,rfl⟩ ?_); (iterate 3 (exact sd)); rintro _ _ ⟨rfl,rfl⟩) | ((first | refine call0D (BCall.ofP (allIn_ok _ _ _ _ ?_ ?_)) ?_ | refine qcall0D (BCall.ofP (allIn_ok _ _ _ _ ?_ ?_)) ⟨_,_,rfl,rfl⟩ ?_); (iterate 2 (exact sd)); rintro _ _ ⟨rfl,rfl⟩) | ((first | refine call0D (BCall.ofP (inRange_ok _ _ _)) ?_ | refine qcall0D (BCall.ofP (inRange_ok _ _ _)) ⟨_,_,rfl,rfl⟩ ?_); rintro _ _ ⟨rfl,rfl⟩) | ((first | refine call0D (skeep_ok _ _ _ _ _ _ _ _ (by assumption) (by assumption) ?_ ?_ ?_) ?_ | refine qcall0D (BCall.ofP (plainI (skeep_ok _ _ _ _ _ _ _ _ (by assumption) (by assumption) ?_ ?_ ?_))) ⟨_,_,rfl,rfl⟩ ?_); (iterate 3 (exact sd)); rintro _ _ ⟨rfl,rfl⟩)) <;> (try simp (disch := omega) only [push_cast,seval,hx,ho,w1,w2,h3,hK,Option.isSome_some,Option.getD_some,innL_TL,innL_LL]))
 | (refine awp_ret ⟨.inr rfl,[816],[],_,by decide,rfl,?_⟩; (try simp (disch := omega) only [push_cast,seval,↓allMem_nil,↓allMem_cons,↓List.map_cons,↓List.map_nil,hx,ho,w1,w2,h3,hK,Option.isSome_some,Option.getD_some,innL_TL,innL_LL]))))
        all_goals (try exact ⟨rfl,rfl⟩)




set_option maxHeartbeats 16000000 in
theorem iKL_ok (ts : List Tn) (ls : List (List Int)) (out : List Int) (n m q : Nat) (i j : Int) (hn : ts.length = n) (hm : ls.length = m) (hq : out.length = q) (hb : n ≤ 1048576 ∧ m ≤ 1048576 ∧ q ≤ 1048576 ∧ (∀ t ∈ ts,t.1.length ≤ 1048576 ∧ t.2.length ≤ 1048576) ∧ ∀ l ∈ ls,l.length ≤ 1048576) :
    BCall Try.prog 23 [.rows false (TL false ts) n,.rows false (LL false ls) m,.rows false (IL out) q,.int .i64 i,.int .i64 j] [] (OI (klL ts ls out i j)) := by
  subst hn hm hq
  obtain ⟨hb0,hb1,hb2,hb3,hb4⟩ := hb
  have q0 : ts.length ≤ 1099511627776 ∧ ls.length ≤ 1099511627776 ∧ out.length ≤ 1099511627776 ∧ (∀ t ∈ ts,t.1.length ≤ 1099511627776 ∧ t.2.length ≤ 1099511627776) ∧ ∀ l ∈ ls,l.length ≤ 1099511627776 := ⟨by omega,by omega,by omega,fun t ht => by have := hb3 t ht; omega,fun l hl => by have := hb4 l hl; omega⟩
  refine bcall_of (pins := []) (pin := 0) l23_eq rfl rfl rfl ?_
  unfold klL
  have hpb : pairB i j ts.length = (!decide (i = j) && (decide (0 ≤ i) && decide (i ≤ (ts.length : Int) - 1)) && (decide (0 ≤ j) && decide (j ≤ (ts.length : Int) - 1))) := rfl
  cases hxp : exP ts ls out with
  | none =>
    (repeat' (first
 | (first | refine awp_seq ?_ | refine awp_block ?_)
 | ((first | refine awp_reg ?_ | refine awp_condB ?_ | refine awp_skip ?_ | refine awp_exit ?_); simp (disch := omega) only [push_cast,seval,l23r0,l23r1,l23r2,l23r3,l23r4,hxp,set5,tak5,len5c,Option.isSome_none,innL_TL,innL_LL])
 | ((first | refine condB_split (fun h => ?_) (fun h => ?_) | refine gIf_split (fun h => ?_) (fun h => ?_) | refine qIf_split (fun h => ?_) (fun h => ?_)) <;> (try simp only [h]) <;> (try simp only [bitvec_to_nat] at h) <;> (try simp only [h]) <;> (first | (exfalso; omega) | (focus (exfalso; simp_all; done)) | (simp (disch := omega) only [push_cast,seval,hxp,set5,tak5,len5c,Option.isSome_none,innL_TL,innL_LL]) | skip))
 | ((first | refine callD_of false ?_ | refine qcallD_of false ?_); simp (disch := omega) only [push_cast,seval,hxp,set5,tak5,len5c,Option.isSome_none,innL_TL,innL_LL])
 | ((first | (refine call0D (BCall.ofP (extentsOf_ok _ _ _ _ _ _ ?_ ?_ ?_ ?_)) ?_; (iterate 4 (exact sd)); rintro _ _ ⟨⟨g,hg5,rfl⟩,rfl⟩; (try simp only [hxp,Option.getD_none,Option.getD_some] at hg5)) | (refine call0D (BCall.ofP (extentsOfN_ok _ _ _ _ ?_ ?_ ?_)) ?_; (iterate 3 (exact sd)); rintro _ _ ⟨⟨g,hg5,rfl⟩,rfl⟩; (try simp only [hxp,Option.getD_none,Option.getD_some] at hg5)) | ((first | refine call0D (BCall.ofP (arePair_ok _ _ _ ?_)) ?_ | refine qcall0D (BCall.ofP (arePair_ok _ _ _ ?_)) ⟨_,_,rfl,rfl⟩ ?_); (exact sd); rintro _ _ ⟨rfl,rfl⟩) | ((first | refine call0D (kept_ok _ _ _ _ _ _ _ _ (by assumption) (by assumption) ?_ ?_ ?_) ?_ | refine qcall0D (kept_ok _ _ _ _ _ _ _ _ (by assumption) (by assumption) ?_ ?_ ?_) ⟨_,_,rfl,rfl⟩ ?_); (iterate 3 (exact sd)); rintro _ _ ⟨rfl,rfl⟩)) <;> (try simp (disch := omega) only [push_cast,seval,hxp,set5,tak5,len5c,Option.isSome_none,innL_TL,innL_LL]))
 | (refine awp_ret ⟨.inr rfl,[16000],[(16000,1)],_,by decide,rfl,?_⟩; (try simp (disch := omega) only [push_cast,seval,↓allMem_nil,↓allMem_cons,↓List.map_cons,↓List.map_nil,hxp,set5,tak5,len5c,Option.isSome_none,innL_TL,innL_LL]))))
    all_goals (try exact ⟨rfl,rfl⟩)
  | some e =>
    obtain ⟨ho,hx⟩ := exP_some hxp
    obtain ⟨h5,f1,f2,f3,f4,f5,f6,f7⟩ := exO_facts hx
    obtain ⟨l1,l2⟩ := lab_len hx
    cases hB : pairB i j ts.length with
    | false =>
      have hB2 := hB
      rw [hpb] at hB2
      simp only [Bool.false_eq_true,if_false]
      (repeat' (first
 | (first | refine awp_seq ?_ | refine awp_block ?_)
 | ((first | refine awp_reg ?_ | refine awp_condB ?_ | refine awp_skip ?_ | refine awp_exit ?_); simp (disch := omega) only [push_cast,seval,l23r0,l23r1,l23r2,l23r3,l23r4,hxp,hB2,h5,set5,tak5,len5c,Option.isSome_some,Option.getD_some,innL_TL,innL_LL])
 | ((first | refine condB_split (fun h => ?_) (fun h => ?_) | refine gIf_split (fun h => ?_) (fun h => ?_) | refine qIf_split (fun h => ?_) (fun h => ?_)) <;> (try simp only [h]) <;> (try simp only [bitvec_to_nat] at h) <;> (try simp only [h]) <;> (first | (exfalso; omega) | (focus (exfalso; simp_all; done)) | (simp (disch := omega) only [push_cast,seval,hxp,hB2,h5,set5,tak5,len5c,Option.isSome_some,Option.getD_some,innL_TL,innL_LL]) | skip))
 | ((first | refine callD_of false ?_ | refine qcallD_of false ?_); simp (disch := omega) only [push_cast,seval,hxp,hB2,h5,set5,tak5,len5c,Option.isSome_some,Option.getD_some,innL_TL,innL_LL])
 | ((first | (refine call0D (BCall.ofP (extentsOf_ok _ _ _ _ _ _ ?_ ?_ ?_ ?_)) ?_; (iterate 4 (exact sd)); rintro _ _ ⟨⟨g,hg5,rfl⟩,rfl⟩; (try simp only [hxp,Option.getD_none,Option.getD_some] at hg5)) | (refine call0D (BCall.ofP (extentsOfN_ok _ _ _ _ ?_ ?_ ?_)) ?_; (iterate 3 (exact sd)); rintro _ _ ⟨⟨g,hg5,rfl⟩,rfl⟩; (try simp only [hxp,Option.getD_none,Option.getD_some] at hg5)) | ((first | refine call0D (BCall.ofP (arePair_ok _ _ _ ?_)) ?_ | refine qcall0D (BCall.ofP (arePair_ok _ _ _ ?_)) ⟨_,_,rfl,rfl⟩ ?_); (exact sd); rintro _ _ ⟨rfl,rfl⟩) | ((first | refine call0D (kept_ok _ _ _ _ _ _ _ _ (by assumption) (by assumption) ?_ ?_ ?_) ?_ | refine qcall0D (kept_ok _ _ _ _ _ _ _ _ (by assumption) (by assumption) ?_ ?_ ?_) ⟨_,_,rfl,rfl⟩ ?_); (iterate 3 (exact sd)); rintro _ _ ⟨rfl,rfl⟩)) <;> (try simp (disch := omega) only [push_cast,seval,hxp,hB2,h5,set5,tak5,len5c,Option.isSome_some,Option.getD_some,innL_TL,innL_LL]))
 | (refine awp_ret ⟨.inr rfl,[16000],[(16000,1)],_,by decide,rfl,?_⟩; (try simp (disch := omega) only [push_cast,seval,↓allMem_nil,↓allMem_cons,↓List.map_cons,↓List.map_nil,hxp,hB2,h5,set5,tak5,len5c,Option.isSome_some,Option.getD_some,innL_TL,innL_LL]))))
      all_goals (try exact ⟨rfl,rfl⟩)
    | true =>
      have hB2 := hB
      rw [hpb] at hB2
      simp only [if_true]
      obtain ⟨p,p',rfl,rfl,hpl,hpl',hne⟩ := pairB_nat hB
      obtain ⟨a,ha⟩ := mem_lt (l := ls) (i := p) (by omega)
      obtain ⟨b,hb⟩ := mem_lt (l := ls) (i := p') (by omega)
      have hfl : ∀ l ∈ ls,∀ x ∈ l,x ∈ ls.flatten := fun l hl x hx => List.mem_flatten.2 ⟨l,hl,hx⟩
      have q3 : (ls.length ≤ 1000 ∧ out.length ≤ 100000000) ∧ (∀ l ∈ ls,∀ x ∈ l,0 ≤ x ∧ x ≤ 4) ∧ (∀ l ∈ ls,l.length ≤ 1000) := ⟨⟨by omega,by omega⟩,fun l hl x hx => f4 x (hfl l hl x hx),fun l hl => by have := l2 l hl; omega⟩
      have hga : ls.getD p [] = a := by simp [List.getD,ha]
      have hgb : ls.getD p' [] = b := by simp [List.getD,hb]
      rw [Int.toNat_natCast,Int.toNat_natCast,hga,hgb]
      clear hpb hB hfl f1 f2 f3 f4 f5 f6
      generalize hK : keL ls out a b p p' = K
      (repeat' (first
 | (first | refine awp_seq ?_ | refine awp_block ?_)
 | ((first | refine awp_reg ?_ | refine awp_condB ?_ | refine awp_skip ?_ | refine awp_exit ?_); simp (disch := omega) only [push_cast,seval,l23r0,l23r1,l23r2,l23r3,l23r4,hxp,hB2,hK,h5,set5,tak5,len5c,Option.isSome_some,Option.getD_some,innL_TL,innL_LL])
 | ((first | refine condB_split (fun h => ?_) (fun h => ?_) | refine gIf_split (fun h => ?_) (fun h => ?_) | refine qIf_split (fun h => ?_) (fun h => ?_)) <;> (try simp only [h]) <;> (try simp only [bitvec_to_nat] at h) <;> (try simp only [h]) <;> (first | (exfalso; omega) | (focus (exfalso; simp_all; done)) | (simp (disch := omega) only [push_cast,seval,hxp,hB2,hK,h5,set5,tak5,len5c,Option.isSome_some,Option.getD_some,innL_TL,innL_LL]) | skip))
 | ((first | refine callD_of false ?_ | refine qcallD_of false ?_); simp (disch := omega) only [push_cast,seval,hxp,hB2,hK,h5,set5,tak5,len5c,Option.isSome_some,Option.getD_some,innL_TL,innL_LL])
 | ((first | (refine call0D (BCall.ofP (extentsOf_ok _ _ _ _ _ _ ?_ ?_ ?_ ?_)) ?_; (iterate 4 (exact sd)); rintro _ _ ⟨⟨g,hg5,rfl⟩,rfl⟩; (try simp only [hxp,Option.getD_none,Option.getD_some] at hg5)) | (refine call0D (BCall.ofP (extentsOfN_ok _ _ _ _ ?_ ?_ ?_)) ?_; (iterate 3 (exact sd)); rintro _ _ ⟨⟨g,hg5,rfl⟩,rfl⟩; (try simp only [hxp,Option.getD_none,Option.getD_some] at hg5)) | ((first | refine call0D (BCall.ofP (arePair_ok _ _ _ ?_)) ?_ | refine qcall0D (BCall.ofP (arePair_ok _ _ _ ?_)) ⟨_,_,rfl,rfl⟩ ?_); (exact sd); rintro _ _ ⟨rfl,rfl⟩) | ((first | refine call0D (kept_ok _ _ _ _ _ _ _ _ (by assumption) (by assumption) ?_ ?_ ?_) ?_ | refine qcall0D (kept_ok _ _ _ _ _ _ _ _ (by assumption) (by assumption) ?_ ?_ ?_) ⟨_,_,rfl,rfl⟩ ?_); (iterate 3 (exact sd)); rintro _ _ ⟨rfl,rfl⟩)) <;> (try simp (disch := omega) only [push_cast,seval,hxp,hB2,hK,h5,set5,tak5,len5c,Option.isSome_some,Option.getD_some,innL_TL,innL_LL]))
 | (refine awp_ret ⟨.inr rfl,[544],[],_,by decide,rfl,?_⟩; (try simp (disch := omega) only [push_cast,seval,↓allMem_nil,↓allMem_cons,↓List.map_cons,↓List.map_nil,hxp,hB2,hK,h5,set5,tak5,len5c,Option.isSome_some,Option.getD_some,innL_TL,innL_LL]))))
      all_goals (try exact ⟨rfl,rfl⟩)

end Go.Proofs.Ytejbfjmiidofcaa
