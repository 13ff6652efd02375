import Derived.Test.YtahdlohpncjdbaaDoorCKm3
import Derived.Test.YtahdlohpncjdbaaDoorCM1
import Derived.Test.YtahdlohpncjdbaaDoorCW3
set_option linter.unusedSimpArgs false
set_option linter.unusedVariables false
set_option maxRecDepth 4000
set_option maxHeartbeats 4000000
namespace Go.Proofs.YtahdlohpncjdbaaDoor
open VwM Vw Go
set_option linter.unusedSectionVars false
variable [SentA]

/-- The memory after cells were carried in an order. -/
def stpK (mem to fr : List Int) (g : Nat → Nat) : Nat → List Int
  | 0 => mem
  | k + 1 => (stpK mem to fr g k).set (to.getD (g k) 0).toNat ((stpK mem to fr g k).getD (fr.getD (g k) 0).toNat 0)
end Go.Proofs.YtahdlohpncjdbaaDoor
