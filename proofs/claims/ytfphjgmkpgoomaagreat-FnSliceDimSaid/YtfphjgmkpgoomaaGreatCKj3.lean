import Derived.Test.YtfphjgmkpgoomaaGreatCKj1
import Derived.Test.YtfphjgmkpgoomaaGreatCM1
import Derived.Test.YtfphjgmkpgoomaaGreatCW3
set_option linter.unusedSimpArgs false
set_option linter.unusedVariables false
set_option maxRecDepth 4000
set_option maxHeartbeats 4000000
namespace Go.Proofs.YtfphjgmkpgoomaaGreat
open VwM Vw Go

theorem takB_facts {mem:List Int} {b:Int} {sh st vals:List Int} (h:takB mem b sh st vals=true):seeB mem b sh st=true ∧ (offs b sh st).length=vals.length ∧ (∀ j,j < vals.length → 0 ≤ vals.getD j 0 ∧ vals.getD j 0 ≤ 255) ∧ vMem mem=true ∧ vV b sh st=true ∧ inM (offs b sh st) mem.length ∧ (offs b sh st).length ≤ 60:=by
  simp only [takB,Bool.and_eq_true,decide_eq_true_eq] at h
  obtain ⟨⟨h1,h2⟩,h3⟩:=h
  obtain ⟨g1,g2,g3⟩:=seeB_spec.1 h1
  have hol:=offs_length b sh st
  have hp:=see_facts h1
  refine ⟨h1,by omega,fun j hj=>allI_iff.1 h3 _ (getD_mem hj),g1,g2,fun i hi=>?_,by omega⟩
  have:=g3 _ (getD_mem hi)
  omega

end Go.Proofs.YtfphjgmkpgoomaaGreat
