import Derived.Test.YtahdlohpncjdbaaDoorCKm5
import Derived.Test.YtahdlohpncjdbaaDoorCM1
import Derived.Test.YtahdlohpncjdbaaDoorCW3
set_option linter.unusedSimpArgs false
set_option linter.unusedVariables false
set_option maxRecDepth 4000
set_option maxHeartbeats 4000000
namespace Go.Proofs.YtahdlohpncjdbaaDoor
open VwM Vw Go
set_option linter.unusedSectionVars false
variable [SentA]

/-- A list and whether there is one: nothing without. -/
abbrev TB (v : Bool) (l : List Int) : AV → List (List AV) → Prop := fun r H' => r = .tup [.own 0 (MVL v l).length 1,.bool v] ∧ H' = [IL (MVL v l)]
theorem MVL_true (l : List Int) : MVL true l = l := rfl
theorem MVL_false (l : List Int) : MVL false l = [] := rfl
/-- The cells with different values,of memories with as many cells. -/
def chB (a b : List Int) : Bool := vMem a && vMem b && decide (a.length = b.length)


def sumV (mem : List Int) (b : Int) (sh st : List Int) : Int := if seeB mem b sh st = true then sumT (takesL mem (offs b sh st)) (offs b sh st).length else -1
end Go.Proofs.YtahdlohpncjdbaaDoor
