import Derived.Test.YtahdlohpncjdbaaDoorCKh16
import Derived.Test.YtahdlohpncjdbaaDoorCM1
import Derived.Test.YtahdlohpncjdbaaDoorCW3
set_option linter.unusedSimpArgs false
set_option linter.unusedVariables false
set_option maxRecDepth 4000
set_option maxHeartbeats 4000000
namespace Go.Proofs.YtahdlohpncjdbaaDoor
open VwM Vw Go
set_option linter.unusedSectionVars false
variable [SentA]

abbrev OBs (ok : Bool) (cs : List Int) (es : List Ex) : AV → List (List AV) → Prop := fun r H' => r = .tup [.agg [.own 0 cs.length 1,.own 1 es.length 5],.bool ok] ∧ H' = [IL cs,EL true es]
abbrev OBf (ok : Bool) (cs : List Int) (es : List Ex) : AV → List (List AV) → Prop := fun r H' => r = .tup [.agg [.own 0 cs.length 1,.own 1 es.length 5],.bool ok] ∧ H' = IL cs :: (esF es).cellsG (· + 2) :: (esF es).conts
theorem mkE_nil : (esF ([] : List Ex)).cellsG (· + 2) = [] ∧ (esF ([] : List Ex)).conts = [] := ⟨rfl,rfl⟩
/-- What comes of it if 'g' holds. -/
def ifB {α : Type} (g : Bool) (l : List α) : List α := if g = true then l else []
theorem ifB_true {α : Type} (l : List α) : ifB true l = l := rfl
theorem ifB_false {α : Type} (l : List α) : ifB false l = [] := rfl
def relG (cs : List Int) (es : List Ex) (id : Int) : Bool := (vB cs es && opA es id) && decide ((kidsT es id es.length).length = 0)



end Go.Proofs.YtahdlohpncjdbaaDoor
