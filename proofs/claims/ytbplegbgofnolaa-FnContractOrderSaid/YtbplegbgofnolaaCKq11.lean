import Derived.Test.YtbplegbgofnolaaCKq10
import Derived.Test.YtbplegbgofnolaaCM1
import Derived.Test.YtbplegbgofnolaaCW3
set_option linter.unusedSimpArgs false
set_option linter.unusedVariables false
set_option maxRecDepth 4000
set_option maxHeartbeats 4000000
namespace Go.Proofs.Ytbplegbgofnolaa
open VwM Vw Go

/-- Labels that agree with extents are agreed on. -/
theorem ex_of {ts:List Tn} {ls:List (List Int)} (f:Int → Int) (hv:ts.all vT=true) (h1:1 ≤ ts.length ∧ ts.length ≤ 3) (hlen:ls.length=ts.length)
    (hl:∀ (i:Nat) (t:Tn) (l:List Int),ts[i]?=some t → ls[i]?=some l → l.length=t.1.length ∧ (∀ x ∈ l,0 ≤ x ∧ x ≤ 4) ∧ ∀ j,j < l.length → f (l.getD j 0)=t.1.getD j 0):∃ e,exO ts ls=some e:=by
  have hok:labOk ts ls=true:=by
    unfold labOk
    rw [List.all_eq_true]
    intro p hp
    obtain ⟨i,hi⟩:=List.mem_iff_getElem?.1 hp
    obtain ⟨a,b⟩:=List.getElem?_zip_eq_some.1 hi
    have:=hl i p.2 p.1 b a
    rw [Bool.and_eq_true,decide_eq_true_eq,allI_iff]
    exact ⟨this.1,this.2.1⟩
  obtain ⟨e,he⟩:=extG_ok (f:=fun k=>f (k:Int)) (prsOf ts ls) (e:=ext0) (fun p hp=>by
    obtain ⟨i,t,l,j,ht,hl2,hj,_,rfl⟩:=mem_prs hp
    obtain ⟨a,b,c⟩:=hl i t l ht hl2
    have hb:=b _ (getD_mem hj)
    refine ⟨by rw [ext0_length];simp only;omega,?_⟩
    simp only
    rw [show (((l.getD j 0).toNat:Nat):Int)=l.getD j 0 by omega]
    exact c j hj) (fun k hk h0=>by
    rw [ext0_length] at hk
    have:k=0 ∨ k=1 ∨ k=2 ∨ k=3 ∨ k=4:=by omega
    rcases this with rfl|rfl|rfl|rfl|rfl<;>exact absurd h0 (by decide))
  refine ⟨e,?_⟩
  unfold exO
  rw [if_pos (by rw [hv];simp [h1,hlen])]
  unfold exT
  rw [if_pos hok]
  exact he
/-- A tensor with its dimensions in another order. -/
def turnT (t:Tn) (order:List Int):Tn:=(permL t.1 order,takesL t.2 (offs 0 (permL t.1 order) (permL (rowS t.1) order)))
end Go.Proofs.Ytbplegbgofnolaa
