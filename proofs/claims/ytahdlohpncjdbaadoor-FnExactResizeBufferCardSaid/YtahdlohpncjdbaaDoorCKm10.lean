import Derived.Test.YtahdlohpncjdbaaDoorCKm7
import Derived.Test.YtahdlohpncjdbaaDoorCM1
import Derived.Test.YtahdlohpncjdbaaDoorCW3
set_option linter.unusedSimpArgs false
set_option linter.unusedVariables false
set_option maxRecDepth 4000
set_option maxHeartbeats 4000000
namespace Go.Proofs.YtahdlohpncjdbaaDoor
open VwM Vw Go
set_option linter.unusedSectionVars false
variable [SentA]

/-- A value can be stored everywhere. -/
def filB (mem : List Int) (b : Int) (sh st : List Int) (x : Int) : Bool := seeB mem b sh st && (decide (0 ≤ x) && decide (x ≤ 255))
def filL (mem : List Int) (b : Int) (sh st : List Int) (x : Int) : List Int := putL mem (offs b sh st) (rpt [x] (pr sh).toNat)
end Go.Proofs.YtahdlohpncjdbaaDoor
