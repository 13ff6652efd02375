import Derived.Test.YtahdlohpncjdbaaDoorCKp
import Derived.Test.YtahdlohpncjdbaaDoorCM1
set_option linter.unusedSimpArgs false
set_option linter.unusedVariables false
set_option maxRecDepth 4000
set_option maxHeartbeats 4000000
namespace Go.Proofs.YtahdlohpncjdbaaDoor
open VwM Vw Go
set_option linter.unusedSectionVars false
variable [SentA]

def sameB (b : Int) (sh st : List Int) (b' : Int) (sh' st' : List Int) : Bool := vV b sh st && vV b' sh' st' && decide (sh = sh') && decide (offs b sh st = offs b' sh' st')

end Go.Proofs.YtahdlohpncjdbaaDoor
