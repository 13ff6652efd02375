import Derived.Test.YtejbfjmiidofcaaGreatCKn2
import Derived.Test.YtejbfjmiidofcaaGreatCM1
import Derived.Test.YtejbfjmiidofcaaGreatCW3
set_option linter.unusedSimpArgs false
set_option linter.unusedVariables false
set_option maxRecDepth 4000
set_option maxHeartbeats 4000000
namespace Go.Proofs.YtejbfjmiidofcaaGreat
open VwM Vw Go

abbrev TC (v:Bool) (l:List Int):AV → List (List AV) → Prop:=fun r H'=>r=.tup [.own 0 (MVL v l).length 1,.bool v] ∧ H'=[IL (MVL v l)]

end Go.Proofs.YtejbfjmiidofcaaGreat
