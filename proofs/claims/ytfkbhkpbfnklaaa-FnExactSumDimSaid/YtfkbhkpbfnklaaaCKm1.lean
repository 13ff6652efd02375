import Derived.Test.YtfkbhkpbfnklaaaCKc8
import Derived.Test.YtfkbhkpbfnklaaaCM1
import Derived.Test.YtfkbhkpbfnklaaaCW3
set_option linter.unusedSimpArgs false
set_option linter.unusedVariables false
set_option maxRecDepth 4000
set_option maxHeartbeats 4000000
namespace Go.Proofs.Ytfkbhkpbfnklaaa
open VwM Vw Go

theorem seeB_mem {mem:List Int} {b:Int} {sh st:List Int} (h:vMem mem=false):seeB mem b sh st=false:=by simp [seeB,h]
theorem seeB_view {mem:List Int} {b:Int} {sh st:List Int} (h:vV b sh st=false):seeB mem b sh st=false:=by simp [seeB,h]
theorem seeB_rest {mem:List Int} {b:Int} {sh st:List Int} (h1:vMem mem=true) (h2:vV b sh st=true):seeB mem b sh st=allI (offs b sh st) 0 ((mem.length:Int) - 1):=by simp [seeB,h1,h2]
theorem fitB_see {mem:List Int} {b:Int} {sh st:List Int} (h1:vMem mem=true):fitB b sh st (mem.length:Int)=seeB mem b sh st:=by
  have:=(vMem_spec.1 h1).1
  have h3:((mem.length:Int) ≤ 60)=True:=eq_true (by omega)
  have h4:((0:Int) ≤ (mem.length:Int))=True:=eq_true (by omega)
  simp only [fitB,seeB,h1,h3,h4,decide_true,Bool.and_true,Bool.true_and]


/-- Two views of an equal shape fit. -/
def twoB (mem:List Int) (b:Int) (sh st:List Int) (b':Int) (sh' st':List Int):Bool:=seeB mem b sh st && seeB mem b' sh' st' && decide (sh=sh')


/-- The values can be taken by the view. -/
def takB (mem:List Int) (b:Int) (sh st vals:List Int):Bool:=seeB mem b sh st && decide ((vals.length:Int)=pr sh) && allI vals 0 255
theorem see_facts {mem:List Int} {b:Int} {sh st:List Int} (h:seeB mem b sh st=true):okV b sh st ∧ st.length=sh.length ∧ good4 sh ∧ 0 ≤ pr sh ∧ pr sh ≤ 60 ∧ mem.length ≤ 60:=by
  obtain ⟨h1,h2,h3⟩:=seeB_spec.1 h
  obtain ⟨hok,hl⟩:=okV_valid h2
  have hs:=vSh_good (vV_spec.1 h2).1
  exact ⟨hok,hl,hs.1,hs.2.1,hs.2.2,(vMem_spec.1 h1).1⟩

end Go.Proofs.Ytfkbhkpbfnklaaa
