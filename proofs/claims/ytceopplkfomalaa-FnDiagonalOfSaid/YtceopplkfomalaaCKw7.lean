import Derived.Test.YtceopplkfomalaaCKm6
import Derived.Test.YtceopplkfomalaaCM1
import Derived.Test.YtceopplkfomalaaCW3
set_option linter.unusedSimpArgs false
set_option linter.unusedVariables false
set_option maxRecDepth 4000
set_option maxHeartbeats 4000000
namespace Go.Proofs.Ytceopplkfomalaa
open VwM Vw Go

theorem sw_mvl {v:Bool} {l:List Int} {n:Nat} (h:v=true → l.length ≤ n):(MVL v l).length ≤ n:=by
  cases v with
  | true=>exact h rfl
  | false=>exact Nat.zero_le _
def swB (mem:List Int) (b:Int) (sh st:List Int) (b':Int) (sh' st':List Int):Bool:=twoB mem b sh st b' sh' st' && (!doB b sh st b' sh' st' && (oneB b sh st && oneB b' sh' st'))
def swL (mem L L':List Int):List Int:=putL (putL mem L (takesL mem L')) L' (takesL mem L)
theorem sw_getD {mem:List Int} (hm:∀ x ∈ mem,0 ≤ x ∧ x ≤ 255) (j:Nat):0 ≤ mem.getD j 0 ∧ mem.getD j 0 ≤ 255:=by
  by_cases hl:j < mem.length
  · exact hm _ (getD_mem hl)
  · rw [List.getD,List.getElem?_eq_none (Nat.le_of_not_lt hl)];simp
theorem sw_byte {mem cells vals:List Int} (hm:∀ x ∈ mem,0 ≤ x ∧ x ≤ 255) (hv:∀ x ∈ vals,0 ≤ x ∧ x ≤ 255):∀ k,∀ x ∈ putK mem cells vals k,0 ≤ x ∧ x ≤ 255
  | 0,x,hx=>hm x hx
  | k + 1,x,hx=>by
    simp only [putK] at hx
    rcases List.mem_or_eq_of_mem_set hx with h1|h1
    · exact sw_byte hm hv k x h1
    · subst h1;exact sw_getD hv k
theorem sw_takes {mem at_:List Int} (hm:∀ x ∈ mem,0 ≤ x ∧ x ≤ 255):∀ x ∈ takesL mem at_,0 ≤ x ∧ x ≤ 255:=by
  intro x hx
  simp only [takesL,List.mem_map] at hx
  obtain ⟨i,_,rfl⟩:=hx
  exact sw_getD hm _
theorem sw_see {mem cells vals:List Int} {b:Int} {sh st:List Int} (h:seeB mem b sh st=true) (hv:∀ x ∈ vals,0 ≤ x ∧ x ≤ 255):seeB (putL mem cells vals) b sh st=true:=by
  obtain ⟨g1,g2,g3⟩:=seeB_spec.1 h
  obtain ⟨m1,m2⟩:=vMem_spec.1 g1
  refine seeB_spec.2 ⟨vMem_spec.2 ⟨by rw [putL_length];exact m1,sw_byte m2 hv _⟩,g2,?_⟩
  intro x hx
  rw [putL_length]
  exact g3 x hx
theorem sw_facts {mem:List Int} {b:Int} {sh st:List Int} {b':Int} {sh' st':List Int} (h:twoB mem b sh st b' sh' st'=true) :
    (doB b sh st b' sh' st'=decide (0 < (bothL (offs b sh st) (offs b' sh' st')).length) ∧ oneB b sh st=decide (offs b sh st).Nodup ∧ oneB b' sh' st'=decide (offs b' sh' st').Nodup) ∧
    ((offs b sh st).length ≤ 60 ∧ (offs b' sh' st').length ≤ 60 ∧ mem.length ≤ 60) ∧
    (seeB mem b sh st=true ∧ ((takesL mem (offs b' sh' st')).length:Int)=pr sh) ∧
    (seeB (putL mem (offs b sh st) (takesL mem (offs b' sh' st'))) b' sh' st'=true ∧ ((takesL mem (offs b sh st)).length:Int)=pr sh'):=by
  obtain ⟨h1,h2,h3⟩:=two_facts h
  obtain ⟨f1,f2,f3,f4,f5,f6⟩:=see_facts h1
  obtain ⟨g1,g2,_,_,_,_⟩:=see_facts h2
  obtain ⟨v1,v2,v3⟩:=seeB_spec.1 h1
  obtain ⟨w1,w2,w3⟩:=seeB_spec.1 h2
  have o1:=offs_length b sh st
  have o2:=offs_length b' sh' st'
  have p1:=f1.1.2
  have p2:=g1.1.2
  have p0:=f1.1.1
  subst h3
  refine ⟨⟨?_,by unfold oneB;rw [v2,Bool.true_and],by unfold oneB;rw [w2,Bool.true_and]⟩,⟨by omega,by omega,f6⟩,⟨h1,by rw [takesL_length];omega⟩,sw_see h2 (sw_takes (vMem_spec.1 v1).2),by rw [takesL_length];omega⟩
  unfold doB ovB
  rw [v2,w2]
  rfl

end Go.Proofs.Ytceopplkfomalaa
