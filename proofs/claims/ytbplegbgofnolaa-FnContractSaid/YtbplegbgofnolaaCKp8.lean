import Derived.Test.YtbplegbgofnolaaCKp7
import Derived.Test.YtbplegbgofnolaaCM1
import Derived.Test.YtbplegbgofnolaaCW3
set_option linter.unusedSimpArgs false
set_option linter.unusedVariables false
set_option maxRecDepth 4000
set_option maxHeartbeats 4000000
namespace Go.Proofs.Ytbplegbgofnolaa
open VwM Vw Go

/-- What the inner loop of the cost by two has found after q lists. -/
def rcO (e:List Int) (ls:List (List Int)) (K:List Int) (i j k q:Nat):Int:=if (k:Int) ∈ (besT ls i j q).flatten ∨ (0 < q ∧ (k:Int) ∈ K) then e.getD k 0 else -1
end Go.Proofs.Ytbplegbgofnolaa
