import Derived.Test.YtbplegbgofnolaaCKc8
import Derived.Test.YtbplegbgofnolaaCM1
import Derived.Test.YtbplegbgofnolaaCW3
set_option linter.unusedSimpArgs false
set_option linter.unusedVariables false
set_option maxRecDepth 4000
set_option maxHeartbeats 4000000
namespace Go.Proofs.Ytbplegbgofnolaa
open VwM Vw Go

/-- Two views of an equal shape fit. -/
def twoB (mem:List Int) (b:Int) (sh st:List Int) (b':Int) (sh' st':List Int):Bool:=seeB mem b sh st && seeB mem b' sh' st' && decide (sh=sh')


/-- The values can be taken by the view. -/
def takB (mem:List Int) (b:Int) (sh st vals:List Int):Bool:=seeB mem b sh st && decide ((vals.length:Int)=pr sh) && allI vals 0 255
end Go.Proofs.Ytbplegbgofnolaa
