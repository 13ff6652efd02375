import Derived.Test.YtfphjgmkpgoomaaCKd1
import Derived.Test.YtfphjgmkpgoomaaCM1
import Derived.Test.YtfphjgmkpgoomaaCW3
set_option linter.unusedSimpArgs false
set_option linter.unusedVariables false
set_option maxRecDepth 4000
set_option maxHeartbeats 4000000
namespace Go.Proofs.Ytfphjgmkpgoomaa
open VwM Vw Go

theorem iFlipDim_ok (b : Int) (sh st : List Int) (n m : Nat) (d : Int) (hn : sh.length = n) (hm : st.length = m) (hb : n ≤ 1099511627776 ∧ m ≤ 1099511627776) :
    BCall Try.prog 8 [.agg [.int .i64 b,.rows false (IL sh) n,.rows false (IL st) m],.int .i64 d] [] (MV (sdOk b sh st d 0 0 (-1) false false) (cutB b sh st d.toNat 0 0 (-1) false false) (cutSh sh d.toNat 0 0 (-1) false false) (cutSt sh st d.toNat 0 0 (-1) false false)) := by
  subst hn hm
  obtain ⟨hb1,hb2⟩ := hb
  refine bcall_of (pins := []) (pin := 0) l8_eq rfl rfl rfl ?_
  (repeat' (first
 | (first | refine awp_seq ?_ | refine awp_block ?_)
 | ((first | refine awp_reg ?_ | refine awp_condB ?_ | refine awp_skip ?_ | refine awp_exit ?_); simp (disch := omega) only [push_cast,seval,l8r0,l8r1])
 | ((first | refine condB_split (fun h => ?_) (fun h => ?_) | refine gIf_split (fun h => ?_) (fun h => ?_) | refine qIf_split (fun h => ?_) (fun h => ?_)) <;> (try simp only [h]) <;> (try simp only [bitvec_to_nat] at h) <;> (try simp only [h]) <;> (first | (exfalso; omega) | (focus (exfalso; simp_all; done)) | (simp (disch := omega) only [push_cast,seval]) | skip))
 | ((first | refine callD_of false ?_ | refine qcallD_of false ?_); simp (disch := omega) only [push_cast,seval])
 | ((first | ((first | refine call0D (iSliceDim_ok _ _ _ _ _ _ _ _ _ _ _ ?_ ?_ ?_) ?_ | refine qcall0D (iSliceDim_ok _ _ _ _ _ _ _ _ _ _ _ ?_ ?_ ?_) ⟨_,_,rfl,rfl⟩ ?_); (iterate 3 (exact sd)); rintro _ _ ⟨rfl,rfl⟩)) <;> (try simp (disch := omega) only [push_cast,seval]))
 | (refine awp_ret ⟨.inr rfl,[144,145],[],_,by decide,rfl,?_⟩; (try simp (disch := omega) only [push_cast,seval,↓allMem_nil,↓allMem_cons,↓List.map_cons,↓List.map_nil]))))
  all_goals exact ⟨rfl,rfl⟩


theorem mv_le {v : Bool} {b : Int} {sh st A B : List Int} (h : v = true → vV b sh st = true ∧ A.length ≤ 5 ∧ B.length ≤ 5) : (MVL v A).length ≤ 5 ∧ (MVL v B).length ≤ 5 := by
  cases v with
  | false => simp [MVL]
  | true => exact ⟨(h rfl).2.1,(h rfl).2.2⟩
theorem vV_l4 {b : Int} {sh st : List Int} (h : vV b sh st = true) : sh.length ≤ 4 ∧ st.length ≤ 4 := by
  obtain ⟨hok,hl⟩ := okV_valid h
  have := hok.1.1.2
  omega

end Go.Proofs.Ytfphjgmkpgoomaa
