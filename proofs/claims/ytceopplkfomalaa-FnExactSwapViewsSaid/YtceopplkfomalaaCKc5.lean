import Derived.Test.YtceopplkfomalaaCKc4
import Derived.Test.YtceopplkfomalaaCM1
import Derived.Test.YtceopplkfomalaaCW3
set_option linter.unusedSimpArgs false
set_option linter.unusedVariables false
set_option maxRecDepth 4000
set_option maxHeartbeats 4000000
namespace Go.Proofs.Ytceopplkfomalaa
open VwM Vw Go

theorem rel_view {P : Program} {f : Nat} {args : List AV} {v : Bool} {b : Int} {sh st : List Int} (h : BCall P f args [] (MV v b sh st)) (h1 : sh.length ≤ 1000) (h2 : st.length ≤ 1000) :
    BCall P f args [] (fun r H' => ∃ ok b' sh' st',(sh'.length ≤ 1000 ∧ st'.length ≤ 1000) ∧ r = .tup [.agg [.int .i64 b',.own 0 sh'.length 1,.own 1 st'.length 1],.bool ok] ∧ H' = [IL sh',IL st']) :=
  h.mono fun r H' ⟨e1,e2⟩ => ⟨v,MVB v b,MVL v sh,MVL v st,⟨Nat.le_trans (MVL_le v sh) h1,Nat.le_trans (MVL_le v st) h2⟩,e1,e2⟩
abbrev W4 (b : Int) (sh st : List Int) (n m : Nat) : AV := .agg [.int .i64 b,.rows false (IL sh) n,.rows false (IL st) m]
abbrev RelV : AV → List (List AV) → Prop := fun r H' => ∃ ok b' sh' st',(sh'.length ≤ 1000 ∧ st'.length ≤ 1000) ∧ r = .tup [.agg [.int .i64 b',.own 0 sh'.length 1,.own 1 st'.length 1],.bool ok] ∧ H' = [IL sh',IL st']


theorem ins_length_le (xs : List Int) (k : Nat) (x : Int) : (ins xs k x).length ≤ xs.length + 1 := by simp [ins]; omega

end Go.Proofs.Ytceopplkfomalaa
