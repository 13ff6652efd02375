import Derived.Test.YtbplegbgofnolaaCKc3
import Derived.Test.YtbplegbgofnolaaCM1
set_option linter.unusedSimpArgs false
set_option linter.unusedVariables false
set_option maxRecDepth 4000
set_option maxHeartbeats 4000000
namespace Go.Proofs.Ytbplegbgofnolaa
open VwM Vw Go

def pmOk (b:Int) (sh st order:List Int):Bool :=
  vV b sh st && (decide (order.length=sh.length) && allI order 0 ((sh.length:Int) - 1) && decide order.Nodup) && vV b (permL sh order) (permL st order)

end Go.Proofs.Ytbplegbgofnolaa
