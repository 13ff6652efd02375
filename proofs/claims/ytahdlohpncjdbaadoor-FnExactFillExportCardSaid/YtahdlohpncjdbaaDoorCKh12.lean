import Derived.Test.YtahdlohpncjdbaaDoorCKh10
import Derived.Test.YtahdlohpncjdbaaDoorCM1
set_option linter.unusedSimpArgs false
set_option linter.unusedVariables false
set_option maxRecDepth 4000
set_option maxHeartbeats 4000000
namespace Go.Proofs.YtahdlohpncjdbaaDoor
open VwM Vw Go
set_option linter.unusedSectionVars false
variable [SentA]

theorem exR_b {es : List Ex} {n : Nat} (h : exB n es) : ∀ j,(exR es j).length ≤ n := fun j => by
  unfold exR
  by_cases hj : j / 2 < es.length
  · obtain ⟨p,b,x,y,o,he⟩ := mem_ltH hj
    have := exB_get h he
    have e : es.getD (j / 2) (0,(0,[],[]),false) = (p,(b,x,y),o) := by simp [List.getD,he]
    rw [e]
    simp only
    split <;> omega
  · have e : es.getD (j / 2) (0,(0,[],[]),false) = (0,(0,[],[]),false) := by simp [List.getD,hj]
    rw [e]
    split <;> simp
theorem en_B (x0 : List Int) (x1 : List ExT) : (Vw.enS Vw.enI x0 ++ (Vw.enS (fun p : ExT => Vw.enI p.1 ++ ((Vw.enI p.2.1.1 ++ (Vw.enS Vw.enI p.2.1.2.1 ++ (Vw.enS Vw.enI p.2.1.2.2.1 ++ []))) ++ (Vw.enB p.2.2.1 ++ []))) x1 ++ [])) = [.rows false (IL x0) x0.length,.rows false (EL false (x1.map exT)) (x1.map exT).length] := by
  have e1 := flat_E x1
  unfold Vw.enS at e1 ⊢
  rw [e1,List.length_map]
  simp [Vw.enI,Vw.flat_ints,IL]

end Go.Proofs.YtahdlohpncjdbaaDoor
