import Derived.Test.YtmoepaingfjojaaDoorCKp
import Derived.Test.YtmoepaingfjojaaDoorCM1
set_option linter.unusedSimpArgs false
set_option linter.unusedVariables false
set_option maxRecDepth 4000
set_option maxHeartbeats 4000000
namespace Go.Proofs.YtmoepaingfjojaaDoor
open VwM Vw Go

theorem okV_rows {b : Int} {sh st : List Int} (h : okV b sh st) : okV b sh (rowS sh) ∧ (rowS sh).length = sh.length := ⟨⟨h.1,h.2.1,by simp,fun i hi => by have := rowS_bound h.1.1 i hi; omega⟩,by simp⟩
theorem colS_bound {sh : List Int} (hg : good4 sh) (i : Nat) (h : i < sh.length) : 0 ≤ (colS sh).getD i 0 ∧ (colS sh).getD i 0 ≤ 12960000 := by
  rw [colS_getD sh i h]; exact pr_bound (good4_take hg i)
theorem okV_cols {b : Int} {sh st : List Int} (h : okV b sh st) : okV b sh (colS sh) ∧ (colS sh).length = sh.length := ⟨⟨h.1,h.2.1,by simp,fun i hi => by have := colS_bound h.1.1 i hi; omega⟩,by simp⟩
theorem offs_le {b : Int} {sh st : List Int} (h : okV b sh st) : (offs b sh st).length ≤ 60 := by rw [offs_length]; have := h.1.2; omega


def sameB (b : Int) (sh st : List Int) (b' : Int) (sh' st' : List Int) : Bool := vV b sh st && vV b' sh' st' && decide (sh = sh') && decide (offs b sh st = offs b' sh' st')

end Go.Proofs.YtmoepaingfjojaaDoor
