import Derived.Test.YtahdlohpncjdbaaDoorCKh20
import Derived.Test.YtahdlohpncjdbaaDoorCM1
import Derived.Test.YtahdlohpncjdbaaDoorCW3
set_option linter.unusedSimpArgs false
set_option linter.unusedVariables false
set_option maxRecDepth 4000
set_option maxHeartbeats 4000000
namespace Go.Proofs.YtahdlohpncjdbaaDoor
open VwM Vw Go
set_option linter.unusedSectionVars false
variable [SentA]

def xfG (cs : List Int) (es : List Ex) (id v : Int) : Bool := (vB cs es && opA es id) && (decide (0 ≤ v) && decide (v ≤ 255))
def xfC (cs : List Int) (es : List Ex) (id v : Int) : List Int := filL cs (vwA es id).1 (vwA es id).2.1 (vwA es id).2.2 v
theorem iWithNo_ok (cs : List Int) (es : List Ex) (m n : Nat) (hm : cs.length = m) (hn : es.length = n) :
    BCall Tryd.prog 48 [.agg [.rows false (IL cs) m,.rows false (EL false es) n],.rows false [] 0,.bool false] [] (OBs false [] []) := by
  subst hm hn
  have hel := EL_length false es
  refine bcall_of (pins := []) (pin := 0) l48_eq rfl rfl rfl ?_
  (repeat' (first
 | (first | refine awp_seq ?_ | refine awp_block ?_)
 | ((first | refine awp_reg ?_ | refine awp_condB ?_ | refine awp_skip ?_ | refine awp_exit ?_); simp (disch := omega) only [push_cast,seval,l48r0,l48r1,l48r2,l48r3,l48r4,l48r5,hel,innL_EL])
 | ((first | refine condB_split (fun h => ?_) (fun h => ?_) | refine gIf_split (fun h => ?_) (fun h => ?_) | refine qIf_split (fun h => ?_) (fun h => ?_)) <;> (try simp only [h]) <;> (try simp only [bitvec_to_nat] at h) <;> (try simp only [h]) <;> (first | (exfalso; omega) | (focus (exfalso; simp_all; done)) | (simp (disch := omega) only [push_cast,seval,hel,innL_EL]) | skip))
 | ((first | ((with_reducible refine callD_of (f := 39) false ?_); simp (disch := omega) only [push_cast,seval,hel,innL_EL]; (refine callFNB (bclone_ok _ _ _ _ ?_ ?_ ?_) (by (simp (disch := omega) only [push_cast,seval,hel,innL_EL]); done) ?_; (iterate 3 (exact sd))))) <;> (try simp (disch := omega) only [push_cast,seval,hel,innL_EL]))
 | (refine awp_ret ⟨.inr rfl,[16000,16001],[(16000,1),(16001,5)],_,by decide,rfl,?_⟩; (try simp (disch := omega) only [push_cast,seval,↓allMem_nil,↓allMem_cons,↓List.map_cons,↓List.map_nil,hel,innL_EL]))))
  all_goals simp [OBs,EL]

end Go.Proofs.YtahdlohpncjdbaaDoor
