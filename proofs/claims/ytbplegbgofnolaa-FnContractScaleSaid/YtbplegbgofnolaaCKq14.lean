import Derived.Test.YtbplegbgofnolaaCKp14
import Derived.Test.YtbplegbgofnolaaCM1
import Derived.Test.YtbplegbgofnolaaCW3
set_option linter.unusedSimpArgs false
set_option linter.unusedVariables false
set_option maxRecDepth 4000
set_option maxHeartbeats 4000000
namespace Go.Proofs.Ytbplegbgofnolaa
open VwM Vw Go

/-- What labels have determines all extents. -/
theorem ex_unique {ts ts':List Tn} {ls ls':List (List Int)} {e e':List Int} (h:exO ts ls=some e) (h':exO ts' ls'=some e') (hm:∀ x,x ∈ ls'.flatten ↔ x ∈ ls.flatten) (hg:∀ x ∈ ls.flatten,gE e' x=gE e x):e'=e:=by
  obtain ⟨f1,f2,f3,f4,_⟩:=exO_facts h
  obtain ⟨g1,g2,g3,g4,_⟩:=exO_facts h'
  refine list_eq_of (by rw [f1,g1]) fun k hk=>?_
  rw [g1] at hk
  by_cases hk2:(k:Int) ∈ ls.flatten
  · have:=hg _ hk2
    unfold gE at this
    rwa [Int.toNat_natCast] at this
  · have a1:=f2 k hk hk2
    have a2:=f4 k hk
    have b1:=g2 k hk (fun hc=>hk2 ((hm _).1 hc))
    have b2:=g4 k hk
    omega
theorem ct_some {ts:List Tn} {ls:List (List Int)} {out:List Int} {o:Tn} (h:ctT ts ls out=some o):∃ e,exO ts ls=some e ∧ ctC out e=true ∧ vT (ctW ts ls out e)=true ∧ o=ctW ts ls out e:=by
  unfold ctT at h
  cases he:exO ts ls with
  | none=>rw [he] at h;cases h
  | some e =>
    rw [he] at h
    simp only [Option.bind_some] at h
    split at h
    · rename_i hc
      injection h with h
      rw [Bool.and_eq_true] at hc
      exact ⟨e,rfl,hc.1,hc.2,h.symm⟩
    · cases h

end Go.Proofs.Ytbplegbgofnolaa
