import Derived.Test.YtejbfjmiidofcaaGreatCKn3
import Derived.Test.YtejbfjmiidofcaaGreatCM1
import Derived.Test.YtejbfjmiidofcaaGreatCW3
set_option linter.unusedSimpArgs false
set_option linter.unusedVariables false
set_option maxRecDepth 4000
set_option maxHeartbeats 4000000
namespace Go.Proofs.YtejbfjmiidofcaaGreat
open VwM Vw Go

theorem mv_len6 {v:Bool} {b:Int} {sh st A B:List Int} (h:v=true → vV b sh st=true ∧ A.length ≤ 5 ∧ B.length ≤ 5):(MVL v A).length ≤ 5 ∧ (MVL v B).length ≤ 5:=by
  cases v with
  | false=>simp [MVL]
  | true=>exact ⟨(h rfl).2.1,(h rfl).2.2⟩
theorem vV_len4 {b:Int} {sh st:List Int} (h:vV b sh st=true):sh.length ≤ 4 ∧ st.length ≤ 4:=by
  obtain ⟨hok,hl⟩:=okV_valid h
  have:=hok.1.1.2
  omega

end Go.Proofs.YtejbfjmiidofcaaGreat
