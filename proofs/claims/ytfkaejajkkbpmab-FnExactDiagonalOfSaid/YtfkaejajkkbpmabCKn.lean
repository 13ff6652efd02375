import Derived.Test.YtfkaejajkkbpmabCKq
import Derived.Test.YtfkaejajkkbpmabCM1
set_option linter.unusedSimpArgs false
set_option linter.unusedVariables false
set_option linter.unnecessarySimpa false
set_option maxRecDepth 4000
set_option maxHeartbeats 4000000
namespace Go.Proofs.Ytfkaejajkkbpmab
open VwM Vw Go

theorem dealF_eq {a b c w : Int} {k : Nat} : dealF a b c w k = (pS (a + (k : Int) * c) (cntN k (cntN a b c) w), pE (a + (k : Int) * c) (c * w) (cntN k (cntN a b c) w), pC (c * w) (cntN k (cntN a b c) w)) := rfl

end Go.Proofs.Ytfkaejajkkbpmab
