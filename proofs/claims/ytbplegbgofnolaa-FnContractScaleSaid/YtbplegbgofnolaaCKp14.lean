import Derived.Test.YtbplegbgofnolaaCKp13
import Derived.Test.YtbplegbgofnolaaCM1
import Derived.Test.YtbplegbgofnolaaCW3
set_option linter.unusedSimpArgs false
set_option linter.unusedVariables false
set_option maxRecDepth 4000
set_option maxHeartbeats 4000000
namespace Go.Proofs.Ytbplegbgofnolaa
open VwM Vw Go

theorem prodF_c {ts:List Tn} {ls:List (List Int)} {out:List Int} (h:prodF ts ls out):ts.length ≤ 1048576 ∧ ls.length ≤ 1048576 ∧ out.length ≤ 1048576 ∧ (∀ t ∈ ts,t.1.length ≤ 1048576 ∧ t.2.length ≤ 1048576) ∧ ∀ l ∈ ls,l.length ≤ 1048576:=by
  obtain ⟨h1,h2,h3,h4⟩:=h
  exact ⟨by omega,by omega,by omega,fun t ht=>by have:=h2 t ht;omega,fun l hl=>by have:=h3 l hl;omega⟩


end Go.Proofs.Ytbplegbgofnolaa
