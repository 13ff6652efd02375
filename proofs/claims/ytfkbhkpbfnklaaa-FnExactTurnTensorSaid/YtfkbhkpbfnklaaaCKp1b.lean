import Derived.Test.YtfkbhkpbfnklaaaCKp1
import Derived.Test.YtfkbhkpbfnklaaaCM1
set_option linter.unusedSimpArgs false
set_option linter.unusedVariables false
set_option maxRecDepth 4000
set_option maxHeartbeats 4000000
namespace Go.Proofs.Ytfkbhkpbfnklaaa
open VwM Vw Go

def tenX (v:Bool) (x:List Int):List Int:=if v=true then x else []
theorem tenX_le {v:Bool} {l:List Int} {n:Nat} (h:v=true → l.length ≤ n):(tenX v l).length ≤ n:=by
  cases v with
  | false=>simp [tenX]
  | true=>exact h rfl


theorem see_pr7 {mem:List Int} {b:Int} {sh st:List Int} (h:seeB mem b sh st=true):(offs b sh st).length ≤ 60 ∧ mem.length ≤ 60:=by
  obtain ⟨_,_,_,f4,f5,f6⟩:=see_facts h
  have:=offs_length b sh st
  omega

end Go.Proofs.Ytfkbhkpbfnklaaa
