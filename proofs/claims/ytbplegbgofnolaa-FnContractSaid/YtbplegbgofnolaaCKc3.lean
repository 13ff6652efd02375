import Derived.Test.YtbplegbgofnolaaCKc2
import Derived.Test.YtbplegbgofnolaaCM1
set_option linter.unusedSimpArgs false
set_option linter.unusedVariables false
set_option maxRecDepth 4000
set_option maxHeartbeats 4000000
namespace Go.Proofs.Ytbplegbgofnolaa
open VwM Vw Go

def sdOk (b:Int) (sh st:List Int) (d:Int) (f t w:Int) (hf ht:Bool):Bool :=
  vV b sh st && (decide (0 ≤ d) && decide (d ≤ (sh.length:Int) - 1)) && vS f t w hf ht && vV (cutB b sh st d.toNat f t w hf ht) (cutSh sh d.toNat f t w hf ht) (cutSt sh st d.toNat f t w hf ht)
def winSh (sh:List Int) (j:Nat) (s:Int):List Int:=sh.set j (sh.getD j 0 - s + 1) ++ [s]
def winSt (st:List Int) (j:Nat):List Int:=st ++ [st.getD j 0]
def wnOk (b:Int) (sh st:List Int) (d s:Int):Bool :=
  vV b sh st && (decide (0 ≤ d) && decide (d ≤ (sh.length:Int) - 1)) && (decide (1 ≤ s) && decide (s ≤ sh.getD d.toNat 0)) && vV b (winSh sh d.toNat s) (winSt st d.toNat)


def adOk (b:Int) (sh st:List Int) (d:Int):Bool :=
  vV b sh st && (decide (0 ≤ d) && decide (d ≤ (sh.length:Int))) && !decide (sh.length=4) && vV b (ins sh d.toNat 1) (ins st d.toNat 0)

end Go.Proofs.Ytbplegbgofnolaa
