import Derived.Test.YtahdlohpncjdbaaDoorCKm4
import Derived.Test.YtahdlohpncjdbaaDoorCM1
import Derived.Test.YtahdlohpncjdbaaDoorCW3
set_option linter.unusedSimpArgs false
set_option linter.unusedVariables false
set_option maxRecDepth 4000
set_option maxHeartbeats 4000000
namespace Go.Proofs.YtahdlohpncjdbaaDoor
open VwM Vw Go
set_option linter.unusedSectionVars false
variable [SentA]

/-- The way to copy. -/
def wayI (b : Int) (sh st : List Int) (b' : Int) (sh' st' : List Int) : Int :=
  if (vV b sh st && vV b' sh' st' && decide (sh = sh')) = true then
    (if mtL (offs b sh st) (offs b' sh' st') = false then 0 else if (!mtL (offs b' sh' st') (offs b sh st) && decide (offs b sh st).Nodup) = true then 1 else 2) else -1
end Go.Proofs.YtahdlohpncjdbaaDoor
