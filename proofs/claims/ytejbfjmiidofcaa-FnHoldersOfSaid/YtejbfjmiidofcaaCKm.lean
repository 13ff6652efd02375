import Derived.Test.YtejbfjmiidofcaaCKl
import Derived.Test.YtejbfjmiidofcaaCM1
set_option linter.unusedSimpArgs false
set_option linter.unusedVariables false
set_option maxRecDepth 4000
set_option maxHeartbeats 4000000
namespace Go.Proofs.Ytejbfjmiidofcaa
open VwM Vw Go

theorem meA_neg {a b c a' b' c' : Int} (h : ¬ (vR a b c = true ∧ vR a' b' c' = true)) : meA a b c a' b' c' = rng 0 0 0 := if_neg h

end Go.Proofs.Ytejbfjmiidofcaa
