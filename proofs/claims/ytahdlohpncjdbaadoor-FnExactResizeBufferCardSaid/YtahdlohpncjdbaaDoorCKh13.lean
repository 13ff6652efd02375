import Derived.Test.YtahdlohpncjdbaaDoorCKh12
import Derived.Test.YtahdlohpncjdbaaDoorCM1
set_option linter.unusedSimpArgs false
set_option linter.unusedVariables false
set_option maxRecDepth 4000
set_option maxHeartbeats 4000000
namespace Go.Proofs.YtahdlohpncjdbaaDoor
open VwM Vw Go
set_option linter.unusedSectionVars false
variable [SentA]

def opA (es : List Ex) (id : Int) : Bool := (decide (0 ≤ id) && decide (id ≤ (es.length : Int) - 1)) && (match es[id.toNat]? with | some e => e.2.2 | none => false)
def vwA (es : List Ex) (id : Int) : Vw3 := (es.getD id.toNat (0,(0,[],[]),false)).2.1
def loadA (cs : List Int) (es : List Ex) (id : Int) : List Int := if (vB cs es && opA es id) = true then takesL cs (offs (vwA es id).1 (vwA es id).2.1 (vwA es id).2.2) else []
end Go.Proofs.YtahdlohpncjdbaaDoor
