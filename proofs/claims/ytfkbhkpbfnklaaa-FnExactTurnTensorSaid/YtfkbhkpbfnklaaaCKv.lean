import Derived.Test.YtfkbhkpbfnklaaaCKy
import Derived.Test.YtfkbhkpbfnklaaaCM1
set_option linter.unusedSimpArgs false
set_option linter.unusedVariables false
set_option maxRecDepth 4000
set_option maxHeartbeats 4000000
namespace Go.Proofs.Ytfkbhkpbfnklaaa
open VwM Vw Go

theorem takesL_succ (xs at_:List Int) (k:Nat) (h:k < at_.length):takesL xs (at_.take (k + 1))=takesL xs (at_.take k) ++ [xs.getD (at_.getD k 0).toNat 0]:=by
  rw [take_succ_getD _ _ h];simp [takesL]
theorem takesL_length (xs at_:List Int):(takesL xs at_).length=at_.length:=by simp [takesL]

end Go.Proofs.Ytfkbhkpbfnklaaa
