import Derived.Test.YtbplegbgofnolaaCKq10
import Derived.Test.YtbplegbgofnolaaCM1
import Derived.Test.YtbplegbgofnolaaCW3
set_option linter.unusedSimpArgs false
set_option linter.unusedVariables false
set_option maxRecDepth 4000
set_option maxHeartbeats 4000000
namespace Go.Proofs.Ytbplegbgofnolaa
open VwM Vw Go

/-- A tensor with its dimensions in another order. -/
def turnT (t:Tn) (order:List Int):Tn:=(permL t.1 order,takesL t.2 (offs 0 (permL t.1 order) (permL (rowS t.1) order)))
end Go.Proofs.Ytbplegbgofnolaa
