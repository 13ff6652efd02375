import Derived.Test.YtfphjgmkpgoomaaGreatCKm6
import Derived.Test.YtfphjgmkpgoomaaGreatCM1
import Derived.Test.YtfphjgmkpgoomaaGreatCW3
set_option linter.unusedSimpArgs false
set_option linter.unusedVariables false
set_option maxRecDepth 4000
set_option maxHeartbeats 4000000
namespace Go.Proofs.YtfphjgmkpgoomaaGreat
open VwM Vw Go

theorem vMem_take {xs:List Int} (h:vMem xs=true) (k:Nat):vMem (xs.take k)=true:=by
  simp only [vMem,Bool.and_eq_true,decide_eq_true_eq,allI_iff] at h ⊢
  exact ⟨by simp;omega,fun x hx=>h.2 x (List.mem_of_mem_take hx)⟩

end Go.Proofs.YtfphjgmkpgoomaaGreat
