import Derived.Test.YtahdlohpncjdbaaDoorCKh17
import Derived.Test.YtahdlohpncjdbaaDoorCM1
set_option linter.unusedSimpArgs false
set_option linter.unusedVariables false
set_option maxRecDepth 4000
set_option maxHeartbeats 4000000
namespace Go.Proofs.YtahdlohpncjdbaaDoor
open VwM Vw Go
set_option linter.unusedSectionVars false
variable [SentA]

theorem ifB_le {α : Type} (g : Bool) (l : List α) : (ifB g l).length ≤ l.length := by
  cases g
  · exact Nat.zero_le _
  · exact Nat.le_refl _
theorem exB_ifB {n : Nat} {es : List Ex} (g : Bool) (h : exB n es) : exB n (ifB g es) := by
  cases g
  · intro e he; cases he
  · exact h
end Go.Proofs.YtahdlohpncjdbaaDoor
