import Derived.Test.YtceopplkfomalaaGreatCKj6
import Derived.Test.YtceopplkfomalaaGreatCM1
import Derived.Test.YtceopplkfomalaaGreatCW3
set_option linter.unusedSimpArgs false
set_option linter.unusedVariables false
set_option maxRecDepth 4000
set_option maxHeartbeats 4000000
namespace Go.Proofs.YtceopplkfomalaaGreat
open VwM Vw Go

/-- A value can be stored everywhere. -/
def filB (mem:List Int) (b:Int) (sh st:List Int) (x:Int):Bool:=seeB mem b sh st && (decide (0 ≤ x) && decide (x ≤ 255))
def filL (mem:List Int) (b:Int) (sh st:List Int) (x:Int):List Int:=putL mem (offs b sh st) (rpt [x] (pr sh).toNat)
theorem rpt_at {x:Int} {n k:Nat} (h:k < n):(rpt [x] n).getD k 0=x:=by rw [rpt_one];simp [List.getD,h]


theorem validValue1_ok (x:Int):PCall Tryz.prog 38 [.rows false [.int .i64 x] 1] (fun r=>r=.bool (allI [x] 0 255)):=validValues_ok [x] 1 rfl (by decide)

end Go.Proofs.YtceopplkfomalaaGreat
