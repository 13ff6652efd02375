import Derived.Test.YtfkbhkpbfnklaaaCKc2
import Derived.Test.YtfkbhkpbfnklaaaCM1
set_option linter.unusedSimpArgs false
set_option linter.unusedVariables false
set_option maxRecDepth 4000
set_option maxHeartbeats 4000000
namespace Go.Proofs.Ytfkbhkpbfnklaaa
open VwM Vw Go

def sdOk (b:Int) (sh st:List Int) (d:Int) (f t w:Int) (hf ht:Bool):Bool :=
  vV b sh st && (decide (0 ≤ d) && decide (d ≤ (sh.length:Int) - 1)) && vS f t w hf ht && vV (cutB b sh st d.toNat f t w hf ht) (cutSh sh d.toNat f t w hf ht) (cutSt sh st d.toNat f t w hf ht)
theorem fls_and {p q:Prop} [Decidable p] [Decidable q] (h:¬ (p ∧ q)):(decide p && decide q)=false:=by
  rw [Bool.eq_false_iff];intro h';simp at h';exact h h'
theorem tru_and {p q:Prop} [Decidable p] [Decidable q] (h:p ∧ q):(decide p && decide q)=true:=by simp [h.1,h.2]


def winSh (sh:List Int) (j:Nat) (s:Int):List Int:=sh.set j (sh.getD j 0 - s + 1) ++ [s]
def winSt (st:List Int) (j:Nat):List Int:=st ++ [st.getD j 0]
def wnOk (b:Int) (sh st:List Int) (d s:Int):Bool :=
  vV b sh st && (decide (0 ≤ d) && decide (d ≤ (sh.length:Int) - 1)) && (decide (1 ≤ s) && decide (s ≤ sh.getD d.toNat 0)) && vV b (winSh sh d.toNat s) (winSt st d.toNat)


def adOk (b:Int) (sh st:List Int) (d:Int):Bool :=
  vV b sh st && (decide (0 ≤ d) && decide (d ≤ (sh.length:Int))) && !decide (sh.length=4) && vV b (ins sh d.toNat 1) (ins st d.toNat 0)

end Go.Proofs.Ytfkbhkpbfnklaaa
