import Derived.Test.YtbplegbgofnolaaCKp12
import Derived.Test.YtbplegbgofnolaaCM1
import Derived.Test.YtbplegbgofnolaaCW3
set_option linter.unusedSimpArgs false
set_option linter.unusedVariables false
set_option maxRecDepth 4000
set_option maxHeartbeats 4000000
namespace Go.Proofs.Ytbplegbgofnolaa
open VwM Vw Go

theorem ren_TL3 {ρ:Nat → Option Nat} {Zh:Nat → Option (List AV)} {b0:Bool} (ts:List Tn):(TL true ts).map (AV.ren ρ Zh b0 some 3)=TL true ts:=ren_TLs true ts
theorem ren_LL3 {ρ:Nat → Option Nat} {Zh:Nat → Option (List AV)} {b0:Bool} (ls:List (List Int)):(LL true ls).map (AV.ren ρ Zh b0 some 3)=LL true ls:=ren_LLs true ls

end Go.Proofs.Ytbplegbgofnolaa
