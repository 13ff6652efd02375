import Derived.Test.YtfphjgmkpgoomaaGreatCKm4
import Derived.Test.YtfphjgmkpgoomaaGreatCM1
import Derived.Test.YtfphjgmkpgoomaaGreatCW3
set_option linter.unusedSimpArgs false
set_option linter.unusedVariables false
set_option maxRecDepth 4000
set_option maxHeartbeats 4000000
namespace Go.Proofs.YtfphjgmkpgoomaaGreat
open VwM Vw Go

/-- The way to copy. -/
def wayI (b:Int) (sh st:List Int) (b':Int) (sh' st':List Int):Int :=
  if (vV b sh st && vV b' sh' st' && decide (sh=sh'))=true then
    (if mtL (offs b sh st) (offs b' sh' st')=false then 0 else if (!mtL (offs b' sh' st') (offs b sh st) && decide (offs b sh st).Nodup)=true then 1 else 2) else -1
theorem offs_len60 {b:Int} {sh st:List Int} (h:vV b sh st=true):(offs b sh st).length ≤ 60:=by
  have:=(vSh_good (vV_spec.1 h).1).2
  rw [offs_length]
  omega

end Go.Proofs.YtfphjgmkpgoomaaGreat
