import Derived.Test.YtbplegbgofnolaaCKp14
import Derived.Test.YtbplegbgofnolaaCM1
import Derived.Test.YtbplegbgofnolaaCW3
set_option linter.unusedSimpArgs false
set_option linter.unusedVariables false
set_option maxRecDepth 4000
set_option maxHeartbeats 4000000
namespace Go.Proofs.Ytbplegbgofnolaa
open VwM Vw Go

theorem ctC_parts {out e:List Int} (h:ctC out e=true):allI out 0 4=true ∧ out.Nodup ∧ vSh (out.map (gE e))=true ∧ pr (spE e) ≤ 4000:=by
  unfold ctC at h
  simp only [Bool.and_eq_true,decide_eq_true_eq] at h
  exact ⟨h.1.1.1,h.1.1.2,h.1.2,h.2⟩
theorem ct_some {ts:List Tn} {ls:List (List Int)} {out:List Int} {o:Tn} (h:ctT ts ls out=some o):∃ e,exO ts ls=some e ∧ ctC out e=true ∧ vT (ctW ts ls out e)=true ∧ o=ctW ts ls out e:=by
  unfold ctT at h
  cases he:exO ts ls with
  | none=>rw [he] at h;cases h
  | some e =>
    rw [he] at h
    simp only [Option.bind_some] at h
    split at h
    · rename_i hc
      injection h with h
      rw [Bool.and_eq_true] at hc
      exact ⟨e,rfl,hc.1,hc.2,h.symm⟩
    · cases h

end Go.Proofs.Ytbplegbgofnolaa
