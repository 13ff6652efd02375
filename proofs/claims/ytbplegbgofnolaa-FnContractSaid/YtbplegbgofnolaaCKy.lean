import Derived.Test.YtbplegbgofnolaaCKr
import Derived.Test.YtbplegbgofnolaaCM1
import Derived.Test.YtbplegbgofnolaaCW3
set_option linter.unusedSimpArgs false
set_option linter.unusedVariables false
set_option maxRecDepth 4000
set_option maxHeartbeats 4000000
namespace Go.Proofs.Ytbplegbgofnolaa
open VwM Vw Go

/-- A list that is drawn as a shape. -/
def drawnSh (xs:List Int):Prop:=xs.length ≤ 5 ∧ ∀ x ∈ xs,-1 ≤ x ∧ x ≤ 61


end Go.Proofs.Ytbplegbgofnolaa
