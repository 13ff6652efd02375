import Derived.Test.YtfphjgmkpgoomaaGreatCKm1
import Derived.Test.YtfphjgmkpgoomaaGreatCM1
import Derived.Test.YtfphjgmkpgoomaaGreatCW3
set_option linter.unusedSimpArgs false
set_option linter.unusedVariables false
set_option maxRecDepth 4000
set_option maxHeartbeats 4000000
namespace Go.Proofs.YtfphjgmkpgoomaaGreat
open VwM Vw Go

theorem nums_at {n k:Nat} (h:k < n):(nums 0 1 n).getD k 0=(k:Int):=by rw [nums_getD 0 1 n k h];omega
theorem nums_rev_at {n k:Nat} (h:k < n):(nums 0 1 n).reverse.getD k 0=((n - 1 - k:Nat):Int):=by
  have hl:=nums_length 0 1 n
  rw [List.getD,List.getElem?_reverse (by omega),hl]
  have:=nums_at (n:=n) (k:=n - 1 - k) (by omega)
  rw [List.getD] at this
  rw [this]
/-- The memory after cells were carried in an order. -/
def stpK (mem to fr:List Int) (g:Nat → Nat):Nat → List Int
  | 0=>mem
  | k + 1=>(stpK mem to fr g k).set (to.getD (g k) 0).toNat ((stpK mem to fr g k).getD (fr.getD (g k) 0).toNat 0)
theorem stpK_length (mem to fr:List Int) (g:Nat → Nat):∀ k,(stpK mem to fr g k).length=mem.length
  | 0=>rfl
  | k + 1=>by simp [stpK,stpK_length mem to fr g k]
theorem stpK_up (mem to fr:List Int):∀ k,stpK mem to fr (fun j=>j) k=carK mem to fr k
  | 0=>rfl
  | k + 1=>by simp only [stpK,carK,stpK_up mem to fr k]
theorem stpK_down {mem to fr:List Int} (hl:to.length=fr.length):∀ k,k ≤ fr.length → stpK mem to fr (fun j=>fr.length - 1 - j) k=carK mem to.reverse fr.reverse k
  | 0,_=>rfl
  | k + 1,h=>by
    simp only [stpK,carK,stpK_down hl k (by omega)]
    have e1:to.reverse.getD k 0=to.getD (fr.length - 1 - k) 0:=by rw [List.getD,List.getD,List.getElem?_reverse (by omega),hl]
    have e2:fr.reverse.getD k 0=fr.getD (fr.length - 1 - k) 0:=by rw [List.getD,List.getD,List.getElem?_reverse (by omega)]
    rw [e1,e2]

end Go.Proofs.YtfphjgmkpgoomaaGreat
