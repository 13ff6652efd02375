import Derived.Test.YtfkbhkpbfnklaaaCKp8
import Derived.Test.YtfkbhkpbfnklaaaCM1
import Derived.Test.YtfkbhkpbfnklaaaCW3
set_option linter.unusedSimpArgs false
set_option linter.unusedVariables false
set_option maxRecDepth 4000
set_option maxHeartbeats 4000000
namespace Go.Proofs.Ytfkbhkpbfnklaaa
open VwM Vw Go

def pairB (i j:Int) (n:Nat):Bool:=!decide (i=j) && (decide (0 ≤ i) && decide (i ≤ (n:Int) - 1)) && (decide (0 ≤ j) && decide (j ≤ (n:Int) - 1))
def cbI (ts:List Tn) (ls:List (List Int)) (out:List Int) (i j:Int):Int:=match exP ts ls out with|none=>-1|some e=>if pairB i j ts.length=true then cbN e ls out i.toNat j.toNat else -1
theorem pairB_nat {i j:Int} {n:Nat} (h:pairB i j n=true):∃ p q:Nat,i=p ∧ j=q ∧ p < n ∧ q < n ∧ p ≠ q:=by
  simp only [pairB,Bool.and_eq_true,Bool.not_eq_true',decide_eq_false_iff_not,decide_eq_true_eq] at h
  exact ⟨i.toNat,j.toNat,by omega,by omega,by omega,by omega,by omega⟩
theorem cbN_at {ls:List (List Int)} {p q:Nat} {a b:List Int} (ha:ls[p]?=some a) (hb:ls[q]?=some b) (e out:List Int):cbN e ls out p q=cbE e ls out a b p q:=by
  unfold cbN
  simp [List.getD,ha,hb]
theorem exP_some {ts:List Tn} {ls:List (List Int)} {out e:List Int} (h:exP ts ls out=some e):allI out 0 4=true ∧ exO ts ls=some e:=by
  rw [exP_eq] at h
  split at h
  · rename_i hc;exact ⟨hc,h⟩
  · cases h
theorem exP_none {ts:List Tn} {ls:List (List Int)} {out:List Int} (h:exP ts ls out=none):allI out 0 4=false ∨ exO ts ls=none:=by
  rw [exP_eq] at h
  cases hc:allI out 0 4 with
  | false=>exact .inl rfl
  | true=>rw [hc,if_pos rfl] at h;exact .inr h
theorem lab_len {ts:List Tn} {ls:List (List Int)} {e:List Int} (h:exO ts ls=some e):ls.length ≤ 3 ∧ ∀ l ∈ ls,l.length ≤ 4:=by
  obtain ⟨h1,h2,h3,h4⟩:=exO_some h
  obtain ⟨_,_,_,_,_,f6,f7,f8⟩:=exO_facts h
  refine ⟨by omega,fun l hl=>?_⟩
  obtain ⟨i,hi⟩:=List.mem_iff_getElem?.1 hl
  have hil:=(List.getElem?_eq_some_iff.1 hi).1
  obtain ⟨t,ht⟩:=mem_lt (l:=ts) (i:=i) (by omega)
  have:=(f6 i t l ht hi).1
  have:=(vT_len60 (f7 t (List.mem_of_getElem? ht))).1
  omega

end Go.Proofs.Ytfkbhkpbfnklaaa
