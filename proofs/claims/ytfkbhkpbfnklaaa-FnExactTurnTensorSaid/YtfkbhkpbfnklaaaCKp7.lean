import Derived.Test.YtfkbhkpbfnklaaaCKp6
import Derived.Test.YtfkbhkpbfnklaaaCM1
import Derived.Test.YtfkbhkpbfnklaaaCW3
set_option linter.unusedSimpArgs false
set_option linter.unusedVariables false
set_option maxRecDepth 4000
set_option maxHeartbeats 4000000
namespace Go.Proofs.Ytfkbhkpbfnklaaa
open VwM Vw Go

theorem plI_in {xs:List Int} {x:Int} (h:x ∈ xs):0 ≤ placeI xs x ∧ ¬ placeI xs x < 0:=by
  have h1:=mt (@placeI_neg xs x).1 (fun h'=>h' h)
  exact ⟨by omega,h1⟩
theorem plI_out {xs:List Int} {x:Int} (h:x ∉ xs):¬ 0 ≤ placeI xs x ∧ placeI xs x < 0:=by
  have h1:=(@placeI_neg xs x).2 h
  exact ⟨by omega,h1⟩

end Go.Proofs.Ytfkbhkpbfnklaaa
