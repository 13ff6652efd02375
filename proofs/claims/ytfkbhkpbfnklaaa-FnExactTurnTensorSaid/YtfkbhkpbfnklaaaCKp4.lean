import Derived.Test.YtfkbhkpbfnklaaaCKp3
import Derived.Test.YtfkbhkpbfnklaaaCM1
import Derived.Test.YtfkbhkpbfnklaaaCW3
set_option linter.unusedSimpArgs false
set_option linter.unusedVariables false
set_option maxRecDepth 4000
set_option maxHeartbeats 4000000
namespace Go.Proofs.Ytfkbhkpbfnklaaa
open VwM Vw Go

theorem exT_dropnone {ts:List Tn} {ls:List (List Int)} (h:exT ts ls=none):(exT ts ls).getD []=[]:=by rw [h];rfl
abbrev OX (o:Option (List Int)):AV → List (List AV) → Prop:=fun r H'=>r=.tup [.own 0 (o.getD []).length 1,.bool o.isSome] ∧ H'=[IL (o.getD [])]


/-- The cost of a contraction. -/
def coI (ts:List Tn) (ls:List (List Int)):Int:=match exO ts ls with|none=>-1|some e=>pr (spE e)
theorem exO_some {ts:List Tn} {ls:List (List Int)} {e:List Int} (h:exO ts ls=some e):ts.all vT=true ∧ (1 ≤ ts.length ∧ ts.length ≤ 3) ∧ ls.length=ts.length ∧ exT ts ls=some e:=by
  unfold exO at h
  split at h
  · rename_i hc
    simp only [Bool.and_eq_true,decide_eq_true_eq] at hc
    exact ⟨hc.1.1,hc.1.2,hc.2,h⟩
  · cases h
theorem exO_facts {ts:List Tn} {ls:List (List Int)} {e:List Int} (h:exO ts ls=some e) :
    e.length=5 ∧ (∀ k:Nat,k < 5 → (k:Int) ∉ ls.flatten → e.getD k 0 < 0) ∧ (∀ k:Nat,k < 5 → (k:Int) ∈ ls.flatten → 0 ≤ e.getD k 0 ∧ e.getD k 0 ≤ 60) ∧ (∀ k:Nat,k < 5 → -1 ≤ e.getD k 0) ∧
    (∀ x ∈ ls.flatten,0 ≤ x ∧ x ≤ 4) ∧ (∀ (i:Nat) (t:Tn) (l:List Int),ts[i]?=some t → ls[i]?=some l → l.length=t.1.length ∧ ∀ j,j < l.length → gE e (l.getD j 0)=t.1.getD j 0) ∧ (∀ t ∈ ts,vT t=true) ∧ ls.length=ts.length:=by
  obtain ⟨h1,h2,h3,h4⟩:=exO_some h
  have hv:=List.all_eq_true.1 h1
  obtain ⟨a,b,c,d,f,g⟩:=exT_facts h3 (fun t ht=>(vT_spec.1 (hv t ht)).1) h4
  exact ⟨a,b,c,d,f,g,hv,h3⟩
/-- With labels of the result,the program asks the same. -/
theorem exP_eq (ts:List Tn) (ls:List (List Int)) (out:List Int):exP ts ls out=if allI out 0 4=true then exO ts ls else none:=by
  unfold exP agO exO
  cases h1:allI out 0 4<;>cases h2:ts.all vT<;>cases h3:decide (ls.length=ts.length)<;>cases h4:(decide (1 ≤ ts.length) && decide (ts.length ≤ 3))<;>simp
theorem exP_nil (ts:List Tn) (ls:List (List Int)):exP ts ls []=exO ts ls:=by rw [exP_eq];rfl

end Go.Proofs.Ytfkbhkpbfnklaaa
