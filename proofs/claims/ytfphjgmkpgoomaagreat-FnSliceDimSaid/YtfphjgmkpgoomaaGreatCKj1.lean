import Derived.Test.YtfphjgmkpgoomaaGreatCKn10
import Derived.Test.YtfphjgmkpgoomaaGreatCM1
import Derived.Test.YtfphjgmkpgoomaaGreatCW3
set_option linter.unusedSimpArgs false
set_option linter.unusedVariables false
set_option maxRecDepth 4000
set_option maxHeartbeats 4000000
namespace Go.Proofs.YtfphjgmkpgoomaaGreat
open VwM Vw Go

theorem mvlJ_le {v:Bool} {l:List Int} {n:Nat} (h:v=true → l.length ≤ n):(MVL v l).length ≤ n:=by
  cases v with
  | false=>simp [MVL]
  | true=>exact h rfl
theorem seeJ_pr {mem:List Int} {b:Int} {sh st:List Int} (h:seeB mem b sh st=true):(offs b sh st).length ≤ 60 ∧ mem.length ≤ 60:=by
  obtain ⟨_,_,_,f4,f5,f6⟩:=see_facts h
  have:=offs_length b sh st
  omega

end Go.Proofs.YtfphjgmkpgoomaaGreat
