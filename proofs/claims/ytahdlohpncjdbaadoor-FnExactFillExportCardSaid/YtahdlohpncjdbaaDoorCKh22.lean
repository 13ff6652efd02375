import Derived.Test.YtahdlohpncjdbaaDoorCKh21
import Derived.Test.YtahdlohpncjdbaaDoorCM1
import Derived.Test.YtahdlohpncjdbaaDoorCW3
set_option linter.unusedSimpArgs false
set_option linter.unusedVariables false
set_option maxRecDepth 4000
set_option maxHeartbeats 4000000
namespace Go.Proofs.YtahdlohpncjdbaaDoor
open VwM Vw Go
set_option linter.unusedSectionVars false
variable [SentA]

def xcG (cs : List Int) (es : List Ex) (t f : Int) : Bool := ((vB cs es && opA es t) && opA es f) && decide ((vwA es t).2.1 = (vwA es f).2.1)
def xcC (cs : List Int) (es : List Ex) (t f : Int) : List Int := putL cs (offs (vwA es t).1 (vwA es t).2.1 (vwA es t).2.2) (takesL cs (offs (vwA es f).1 (vwA es f).2.1 (vwA es f).2.2))
end Go.Proofs.YtahdlohpncjdbaaDoor
