import Derived.Test.YtfkbhkpbfnklaaaCKq8
import Derived.Test.YtfkbhkpbfnklaaaCM1
import Derived.Test.YtfkbhkpbfnklaaaCW3
set_option linter.unusedSimpArgs false
set_option linter.unusedVariables false
set_option maxRecDepth 4000
set_option maxHeartbeats 4000000
namespace Go.Proofs.Ytfkbhkpbfnklaaa
open VwM Vw Go

theorem toTensorB_ok (sh st:List Int) (n m:Nat) (hn:sh.length=n) (hm:st.length=m) (hb:n ≤ 1099511627776 ∧ m ≤ 1099511627776):BCall Try.prog 32 [.agg [.rows false (IL sh) n,.rows false (IL st) m]] [] (OT sh st):=toTensor_ok sh st n m hn hm hb

end Go.Proofs.Ytfkbhkpbfnklaaa
