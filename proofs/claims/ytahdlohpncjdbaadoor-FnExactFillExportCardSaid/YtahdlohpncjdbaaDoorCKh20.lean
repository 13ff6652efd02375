import Derived.Test.YtahdlohpncjdbaaDoorCKh19
import Derived.Test.YtahdlohpncjdbaaDoorCM1
import Derived.Test.YtahdlohpncjdbaaDoorCW3
set_option linter.unusedSimpArgs false
set_option linter.unusedVariables false
set_option maxRecDepth 4000
set_option maxHeartbeats 4000000
namespace Go.Proofs.YtahdlohpncjdbaaDoor
open VwM Vw Go
set_option linter.unusedSectionVars false
variable [SentA]

def evG (cs : List Int) (es : List Ex) (b : Int) (x y : List Int) : Bool := (vB cs es && fitB b x y cs.length) && !decide (es.length = 8)

end Go.Proofs.YtahdlohpncjdbaaDoor
