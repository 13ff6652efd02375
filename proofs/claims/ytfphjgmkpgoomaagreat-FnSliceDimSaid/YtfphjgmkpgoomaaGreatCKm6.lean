import Derived.Test.YtfphjgmkpgoomaaGreatCKm5
import Derived.Test.YtfphjgmkpgoomaaGreatCM1
import Derived.Test.YtfphjgmkpgoomaaGreatCW3
set_option linter.unusedSimpArgs false
set_option linter.unusedVariables false
set_option maxRecDepth 4000
set_option maxHeartbeats 4000000
namespace Go.Proofs.YtfphjgmkpgoomaaGreat
open VwM Vw Go

/-- A list and whether there is one: nothing without. -/
abbrev TB (v:Bool) (l:List Int):AV → List (List AV) → Prop:=fun r H'=>r=.tup [.own 0 (MVL v l).length 1,.bool v] ∧ H'=[IL (MVL v l)]
theorem MVL_true (l:List Int):MVL true l=l:=rfl
theorem MVL_false (l:List Int):MVL false l=[]:=rfl
theorem two_facts {mem:List Int} {b b':Int} {sh st sh' st':List Int} (h:twoB mem b sh st b' sh' st'=true):seeB mem b sh st=true ∧ seeB mem b' sh' st'=true ∧ sh=sh':=by
  simp only [twoB,Bool.and_eq_true,decide_eq_true_eq] at h
  exact ⟨h.1.1,h.1.2,h.2⟩
theorem take_facts {mem vals:List Int} {b:Int} {sh st:List Int} (h:takB mem b sh st vals=true):seeB mem b sh st=true ∧ (vals.length:Int)=pr sh ∧ ∀ x ∈ vals,0 ≤ x ∧ x ≤ 255:=by
  simp only [takB,Bool.and_eq_true,decide_eq_true_eq,allI_iff] at h
  exact ⟨h.1.1,h.1.2,h.2⟩


/-- The cells with different values,of memories with as many cells. -/
def chB (a b:List Int):Bool:=vMem a && vMem b && decide (a.length=b.length)


def sumV (mem:List Int) (b:Int) (sh st:List Int):Int:=if seeB mem b sh st=true then sumT (takesL mem (offs b sh st)) (offs b sh st).length else -1
theorem takes_bound {mem L:List Int} (h:∀ x ∈ mem,0 ≤ x ∧ x ≤ 255):∀ x ∈ takesL mem L,0 ≤ x ∧ x ≤ 255:=by
  intro x hx
  unfold takesL at hx
  obtain ⟨i,_,rfl⟩:=List.mem_map.1 hx
  by_cases hl:i.toNat < mem.length
  · exact h _ (getD_mem hl)
  · rw [List.getD,List.getElem?_eq_none (Nat.le_of_not_lt hl)]
    exact ⟨Int.le_refl 0,by decide⟩

end Go.Proofs.YtfphjgmkpgoomaaGreat
