import Derived.Test.YtahdlohpncjdbaaDoorCKh22
import Derived.Test.YtahdlohpncjdbaaDoorCM1
import Derived.Test.YtahdlohpncjdbaaDoorCW3
set_option linter.unusedSimpArgs false
set_option linter.unusedVariables false
set_option maxRecDepth 4000
set_option maxHeartbeats 4000000
namespace Go.Proofs.YtahdlohpncjdbaaDoor
open VwM Vw Go
set_option linter.unusedSectionVars false
variable [SentA]

/-- The first cells,and zeros. -/
def rz (cs : List Int) (N i : Nat) : List Int := (List.range N).map fun j => if j < i then cs.getD j 0 else 0
def zz (cs : List Int) (N : Nat) : List Int := (List.range N).map fun j => cs.getD j 0
def rzG (cs : List Int) (es : List Ex) (s : Int) : Bool := (vB cs es && (decide (0 ≤ s) && decide (s ≤ 60))) && decide ((opensT es es.length).length = 0)

end Go.Proofs.YtahdlohpncjdbaaDoor
