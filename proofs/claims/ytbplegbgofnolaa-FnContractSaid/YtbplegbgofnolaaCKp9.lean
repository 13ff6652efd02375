import Derived.Test.YtbplegbgofnolaaCKp8
import Derived.Test.YtbplegbgofnolaaCM1
import Derived.Test.YtbplegbgofnolaaCW3
set_option linter.unusedSimpArgs false
set_option linter.unusedVariables false
set_option maxRecDepth 4000
set_option maxHeartbeats 4000000
namespace Go.Proofs.Ytbplegbgofnolaa
open VwM Vw Go

def pairB (i j:Int) (n:Nat):Bool:=!decide (i=j) && (decide (0 ≤ i) && decide (i ≤ (n:Int) - 1)) && (decide (0 ≤ j) && decide (j ≤ (n:Int) - 1))
def cbI (ts:List Tn) (ls:List (List Int)) (out:List Int) (i j:Int):Int:=match exP ts ls out with|none=>-1|some e=>if pairB i j ts.length=true then cbN e ls out i.toNat j.toNat else -1
end Go.Proofs.Ytbplegbgofnolaa
