import Derived.Test.YtbhkcmiphmaefaaCKn2
import Derived.Test.YtbhkcmiphmaefaaCM1
import Derived.Test.YtbhkcmiphmaefaaCW3
set_option linter.unusedSimpArgs false
set_option linter.unusedVariables false
set_option linter.unnecessarySimpa false
set_option maxRecDepth 4000
set_option maxHeartbeats 4000000
namespace Go.Proofs.Ytbhkcmiphmaefaa
open VwM Vw Go

abbrev TC (v : Bool) (l : List Int) : AV → List (List AV) → Prop := fun r H' => r = .tup [.own 0 (MVL v l).length 1, .bool v] ∧ H' = [IL (MVL v l)]

end Go.Proofs.Ytbhkcmiphmaefaa
