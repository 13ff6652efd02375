import Derived.Test.YtmoepaingfjojaaDoorCKp24
import Derived.Test.YtmoepaingfjojaaDoorCM1
import Derived.Test.YtmoepaingfjojaaDoorCW3
set_option linter.unusedSimpArgs false
set_option linter.unusedVariables false
set_option maxRecDepth 4000
set_option maxHeartbeats 4000000
namespace Go.Proofs.YtmoepaingfjojaaDoor
open VwM Vw Go

theorem szFmt_ok (s : List Int) (n : Nat) (big al : Bool) (left : Int) (hb : 0 ≤ left ∧ left ≤ 1048576 ∧ n ≤ 9223372036854775807) : PCall Tryd.prog 4 [.agg [.rows false (IL s) n,.bool big,.bool al],.int .i64 left] (fun r => r = .int .i64 (if left - n < 0 then -1 else left - n)) := by
  obtain ⟨h1,h2,h3⟩ := hb
  refine pcall_of l4_eq rfl ?_
  by_cases h : left - n < 0
  · (repeat' (first
 | (first | refine awp_seq ?_ | refine awp_block ?_)
 | ((first | refine awp_reg ?_ | refine awp_condB ?_ | refine awp_skip ?_ | refine awp_exit ?_); simp (disch := omega) only [push_cast,seval,l4r0,l4r1,l4r2,l4r3,l4r4,h])
 | ((first | refine condB_split (fun h => ?_) (fun h => ?_) | refine gIf_split (fun h => ?_) (fun h => ?_) | refine qIf_split (fun h => ?_) (fun h => ?_)) <;> (try simp only [h]) <;> (try simp only [bitvec_to_nat] at h) <;> (try simp only [h]) <;> (first | (exfalso; omega) | (focus (exfalso; simp_all; done)) | (simp (disch := omega) only [push_cast,seval,h]) | skip))
 | ((first | refine callD_of false ?_ | refine qcallD_of false ?_); simp (disch := omega) only [push_cast,seval,h])
 | ((first | ((first | refine call0D (BCall.ofP (szIntS_ok _ _ _ ?_ ?_)) ?_ | refine qcall0D (BCall.ofP (szIntS_ok _ _ _ ?_ ?_)) ⟨_,_,rfl,rfl⟩ ?_); (iterate 2 (exact sd)); rintro _ _ ⟨rfl,rfl⟩)) <;> (try simp (disch := omega) only [push_cast,seval,h]))
 | (refine awp_ret ⟨.inr rfl,_,rfl,?_⟩; (try simp (disch := omega) only [push_cast,seval,h]))))
    all_goals simp [h]
  · (repeat' (first
 | (first | refine awp_seq ?_ | refine awp_block ?_)
 | ((first | refine awp_reg ?_ | refine awp_condB ?_ | refine awp_skip ?_ | refine awp_exit ?_); simp (disch := omega) only [push_cast,seval,l4r0,l4r1,l4r2,l4r3,l4r4,h])
 | ((first | refine condB_split (fun h => ?_) (fun h => ?_) | refine gIf_split (fun h => ?_) (fun h => ?_) | refine qIf_split (fun h => ?_) (fun h => ?_)) <;> (try simp only [h]) <;> (try simp only [bitvec_to_nat] at h) <;> (try simp only [h]) <;> (first | (exfalso; omega) | (focus (exfalso; simp_all; done)) | (simp (disch := omega) only [push_cast,seval,h]) | skip))
 | ((first | refine callD_of false ?_ | refine qcallD_of false ?_); simp (disch := omega) only [push_cast,seval,h])
 | ((first | ((first | refine call0D (BCall.ofP (szIntS_ok _ _ _ ?_ ?_)) ?_ | refine qcall0D (BCall.ofP (szIntS_ok _ _ _ ?_ ?_)) ⟨_,_,rfl,rfl⟩ ?_); (iterate 2 (exact sd)); rintro _ _ ⟨rfl,rfl⟩)) <;> (try simp (disch := omega) only [push_cast,seval,h]))
 | (refine awp_ret ⟨.inr rfl,_,rfl,?_⟩; (try simp (disch := omega) only [push_cast,seval,h]))))
    all_goals simp [h]


theorem toFormat_ok (s : List Int) (n : Nat) (big al : Bool) (hn : s.length = n) (hb : n ≤ 1048576) : BCall Tryd.prog 6 [.agg [.rows false (IL s) n,.bool big,.bool al]] [] (fun r H' => r = .agg [.own 0 s.length 1,.bool big,.bool al] ∧ H' = [IL s]) := by
  subst hn
  refine bcall_of (pins := []) (pin := 0) l6_eq rfl rfl rfl ?_
  (repeat' (first
 | (first | refine awp_seq ?_ | refine awp_block ?_)
 | ((first | refine awp_reg ?_ | refine awp_condB ?_ | refine awp_skip ?_ | refine awp_exit ?_); simp (disch := omega) only [push_cast,seval,l6r0,l6r1,l6r2,l6r3,l6r4,l6r5])
 | ((first | refine condB_split (fun h => ?_) (fun h => ?_) | refine gIf_split (fun h => ?_) (fun h => ?_) | refine qIf_split (fun h => ?_) (fun h => ?_)) <;> (try simp only [h]) <;> (try simp only [bitvec_to_nat] at h) <;> (try simp only [h]) <;> (first | (exfalso; omega) | (focus (exfalso; simp_all; done)) | (simp (disch := omega) only [push_cast,seval]) | skip))
 | ((first | refine callD_of false ?_ | refine qcallD_of false ?_); simp (disch := omega) only [push_cast,seval])
 | ((first | ((first | refine call0D (toIntS_ok _ _ ?_ ?_) ?_ | refine qcall0D (toIntS_ok _ _ ?_ ?_) ⟨_,_,rfl,rfl⟩ ?_); (iterate 2 (exact sd)); rintro _ _ ⟨rfl,rfl⟩)) <;> (try simp (disch := omega) only [push_cast,seval]))
 | (refine awp_ret ⟨.inr rfl,[96],[],_,by decide,rfl,?_⟩; (try simp (disch := omega) only [push_cast,seval,↓allMem_nil,↓allMem_cons,↓List.map_cons,↓List.map_nil]))))
  all_goals simp


theorem eqFormat_ok (s : List Int) (n : Nat) (big al : Bool) (s' : List Int) (n' : Nat) (big' al' : Bool) (hn : s.length = n) (hn' : s'.length = n') (hb : n ≤ 1048576 ∧ n' ≤ 1048576) : PCall Tryd.prog 9 [.agg [.rows false (IL s) n,.bool big,.bool al],.agg [.rows false (IL s') n',.bool big',.bool al']] (fun r => r = .bool (decide (s = s') && decide (big = big') && decide (al = al'))) := by
  subst hn hn'
  obtain ⟨h1,h2⟩ := hb
  refine pcall_of l9_eq rfl ?_
  by_cases hs : s = s'
  · subst hs
    cases big <;> cases big' <;> cases al <;> cases al'
    all_goals ((repeat' (first
 | (first | refine awp_seq ?_ | refine awp_block ?_)
 | ((first | refine awp_reg ?_ | refine awp_condB ?_ | refine awp_skip ?_ | refine awp_exit ?_); simp (disch := omega) only [push_cast,seval,l9r0,l9r1,l9r2,l9r3,l9r4,l9r5,l9r6,l9r7,decide_true])
 | ((first | refine condB_split (fun h => ?_) (fun h => ?_) | refine gIf_split (fun h => ?_) (fun h => ?_) | refine qIf_split (fun h => ?_) (fun h => ?_)) <;> (try simp only [h]) <;> (try simp only [bitvec_to_nat] at h) <;> (try simp only [h]) <;> (first | (exfalso; omega) | (focus (exfalso; simp_all; done)) | (simp (disch := omega) only [push_cast,seval,decide_true]) | skip))
 | ((first | refine callD_of false ?_ | refine qcallD_of false ?_); simp (disch := omega) only [push_cast,seval,decide_true])
 | ((first | ((first | refine call0D (BCall.ofP (eqIntS_ok _ _ _ _ ?_ ?_ ?_)) ?_ | refine qcall0D (BCall.ofP (eqIntS_ok _ _ _ _ ?_ ?_ ?_)) ⟨_,_,rfl,rfl⟩ ?_); (iterate 3 (exact sd)); rintro _ _ ⟨rfl,rfl⟩)) <;> (try simp (disch := omega) only [push_cast,seval,decide_true]))
 | (refine awp_ret ⟨.inr rfl,_,rfl,?_⟩; (try simp (disch := omega) only [push_cast,seval,decide_true])))))
    all_goals simp
  · have hd : decide (s = s') = false := decide_eq_false hs
    (repeat' (first
 | (first | refine awp_seq ?_ | refine awp_block ?_)
 | ((first | refine awp_reg ?_ | refine awp_condB ?_ | refine awp_skip ?_ | refine awp_exit ?_); simp (disch := omega) only [push_cast,seval,l9r0,l9r1,l9r2,l9r3,l9r4,l9r5,l9r6,l9r7,hd])
 | ((first | refine condB_split (fun h => ?_) (fun h => ?_) | refine gIf_split (fun h => ?_) (fun h => ?_) | refine qIf_split (fun h => ?_) (fun h => ?_)) <;> (try simp only [h]) <;> (try simp only [bitvec_to_nat] at h) <;> (try simp only [h]) <;> (first | (exfalso; omega) | (focus (exfalso; simp_all; done)) | (simp (disch := omega) only [push_cast,seval,hd]) | skip))
 | ((first | refine callD_of false ?_ | refine qcallD_of false ?_); simp (disch := omega) only [push_cast,seval,hd])
 | ((first | ((first | refine call0D (BCall.ofP (eqIntS_ok _ _ _ _ ?_ ?_ ?_)) ?_ | refine qcall0D (BCall.ofP (eqIntS_ok _ _ _ _ ?_ ?_ ?_)) ⟨_,_,rfl,rfl⟩ ?_); (iterate 3 (exact sd)); rintro _ _ ⟨rfl,rfl⟩)) <;> (try simp (disch := omega) only [push_cast,seval,hd]))
 | (refine awp_ret ⟨.inr rfl,_,rfl,?_⟩; (try simp (disch := omega) only [push_cast,seval,hd]))))
    all_goals simp


theorem markFormat_ok (s : List Int) (n : Nat) (big al : Bool) (k : Int) (hn : s.length = n) (hk : (0 ≤ k ∧ k ≤ 100000000) ∧ n ≤ 100000000) : BCall Tryd.prog 10 [.agg [.own 0 n 1,.bool big,.bool al],.int .i64 k] [IL s] (fun r H' => r = .int .i64 (k + n) ∧ H' = [IL (upFrom k n)]) := by
  subst hn
  refine bcall_of (pins := [0]) (pin := 1) l10_eq rfl rfl rfl ?_
  (repeat' (first
 | (first | refine awp_seq ?_ | refine awp_block ?_)
 | ((first | refine awp_reg ?_ | refine awp_condB ?_ | refine awp_skip ?_ | refine awp_exit ?_); simp (disch := omega) only [push_cast,seval,l10r0,l10r1,l10r2])
 | ((first | refine condB_split (fun h => ?_) (fun h => ?_) | refine gIf_split (fun h => ?_) (fun h => ?_) | refine qIf_split (fun h => ?_) (fun h => ?_)) <;> (try simp only [h]) <;> (try simp only [bitvec_to_nat] at h) <;> (try simp only [h]) <;> (first | (exfalso; omega) | (focus (exfalso; simp_all; done)) | (simp (disch := omega) only [push_cast,seval]) | skip))
 | ((first | ((with_reducible refine qcallI_of (f := 28) [128] false ?_); simp (disch := omega) only [push_cast,seval]; (refine qcall1D (id := 128) (markIntS_ok _ _ _ ?_ ?_) (by first | ((simp (disch := omega) only [push_cast,seval]); done) | ((simp (disch := omega) only [push_cast,seval]); rfl)) (by decide) ⟨_,_,rfl,rfl⟩ ?_; (iterate 2 (exact sd)); rintro _ _ ⟨rfl,rfl⟩)) | ((with_reducible refine qcallI_of (f := 28) [0] false ?_); simp (disch := omega) only [push_cast,seval]; (refine qcall1D (id := 0) (markIntS_ok _ _ _ ?_ ?_) (by first | ((simp (disch := omega) only [push_cast,seval]); done) | ((simp (disch := omega) only [push_cast,seval]); rfl)) (by decide) ⟨_,_,rfl,rfl⟩ ?_; (iterate 2 (exact sd)); rintro _ _ ⟨rfl,rfl⟩)) | ((with_reducible refine qcallI_of (f := 28) [1] false ?_); simp (disch := omega) only [push_cast,seval]; (refine qcall1D (id := 1) (markIntS_ok _ _ _ ?_ ?_) (by first | ((simp (disch := omega) only [push_cast,seval]); done) | ((simp (disch := omega) only [push_cast,seval]); rfl)) (by decide) ⟨_,_,rfl,rfl⟩ ?_; (iterate 2 (exact sd)); rintro _ _ ⟨rfl,rfl⟩)) | ((with_reducible refine callD_ids (f := 28) [128] false ?_); simp (disch := omega) only [push_cast,seval]; (refine call1D (id := 128) (markIntS_ok _ _ _ ?_ ?_) (by first | ((simp (disch := omega) only [push_cast,seval]); done) | ((simp (disch := omega) only [push_cast,seval]); rfl)) ?_; (iterate 2 (exact sd)); rintro _ _ ⟨rfl,rfl⟩)) | ((with_reducible refine callD_ids (f := 28) [0] false ?_); simp (disch := omega) only [push_cast,seval]; (refine call1D (id := 0) (markIntS_ok _ _ _ ?_ ?_) (by first | ((simp (disch := omega) only [push_cast,seval]); done) | ((simp (disch := omega) only [push_cast,seval]); rfl)) ?_; (iterate 2 (exact sd)); rintro _ _ ⟨rfl,rfl⟩)) | ((with_reducible refine callD_ids (f := 28) [1] false ?_); simp (disch := omega) only [push_cast,seval]; (refine call1D (id := 1) (markIntS_ok _ _ _ ?_ ?_) (by first | ((simp (disch := omega) only [push_cast,seval]); done) | ((simp (disch := omega) only [push_cast,seval]); rfl)) ?_; (iterate 2 (exact sd)); rintro _ _ ⟨rfl,rfl⟩))) <;> (try simp (disch := omega) only [push_cast,seval]))
 | (refine awp_ret ⟨.inr rfl,[],[],_,by decide,rfl,?_⟩; (try simp (disch := omega) only [push_cast,seval,↓allMem_nil,↓allMem_cons,↓List.map_cons,↓List.map_nil]))))

end Go.Proofs.YtmoepaingfjojaaDoor
