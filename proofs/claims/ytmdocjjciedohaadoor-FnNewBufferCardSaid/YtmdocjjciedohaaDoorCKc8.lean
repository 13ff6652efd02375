import Derived.Test.YtmdocjjciedohaaDoorCKq
import Derived.Test.YtmdocjjciedohaaDoorCM1
import Derived.Test.YtmdocjjciedohaaDoorCW3
set_option linter.unusedSimpArgs false
set_option linter.unusedVariables false
set_option maxRecDepth 4000
set_option maxHeartbeats 4000000
namespace Go.Proofs.YtmdocjjciedohaaDoor
open VwM Vw Go

theorem pv_ok {b : Int} {sh st : List Int} (hv : vV b sh st = true) : st.length ≤ 4 ∧ (-1000000 ≤ b ∧ b ≤ 1000000) ∧ ∀ i,i < st.length → (-60 ≤ at4 0 0 0 0 i ∧ at4 0 0 0 0 i ≤ 60) ∧ -12960000 ≤ st.getD i 0 ∧ st.getD i 0 ≤ 12960000 := by
  obtain ⟨⟨⟨hg,-⟩,hb,-,hst⟩,hl⟩ := okV_valid hv
  have := hg.2
  exact ⟨by omega,by omega,fun i hi => ⟨by rw [at4_zero]; omega,hst i (by omega)⟩⟩
theorem dot_at4 (st : List Int) (n : Nat) : dot (at4 0 0 0 0) st n = 0 := dot_zero n fun i _ => at4_zero i

end Go.Proofs.YtmdocjjciedohaaDoor
