import Derived.Test.YtmoepaingfjojaaDoorCKi3
import Derived.Test.YtmoepaingfjojaaDoorCM1
import Derived.Below
set_option linter.unusedSimpArgs false
set_option linter.unusedVariables false
set_option maxRecDepth 4000
set_option maxHeartbeats 4000000
namespace Go.Proofs.YtmoepaingfjojaaDoor
open VwM Vw Go

theorem cellArgs {C : Ctx} {f : Value} {p z k : Int} {vs : List Value} (hl : vs.length = 3) (hd : DenP C [.agg [.val f],.agg [.int .i64 p,.int .i64 z],.int .i64 k] vs) : vs.toArray = #[.agg #[f],.agg #[.int .i64 p,.int .i64 z],.int .i64 k] := by
  rcases vs with _ | ⟨a,_ | ⟨b,_ | ⟨c,_ | ⟨d,t⟩⟩⟩⟩
  · cases hl
  · cases hl
  · cases hl
  · simp only [DenP,Den] at hd
    obtain ⟨⟨u,rfl,hs,h1⟩,⟨u',rfl,hs',h2⟩,rfl,_⟩ := hd
    obtain ⟨u⟩ := u
    obtain ⟨u'⟩ := u'
    rcases u with _ | ⟨x,_ | ⟨y,t⟩⟩
    · cases hs
    · rcases u' with _ | ⟨x',_ | ⟨y',_ | ⟨z',t'⟩⟩⟩
      · cases hs'
      · cases hs'
      · simp only [DenP,Den] at h1 h2
        obtain ⟨rfl,_⟩ := h1
        obtain ⟨rfl,rfl,_⟩ := h2
        rfl
      · simp at hs'
    · simp at hs
  · simp at hl
theorem cellH_ok (p z k : Int) (hb : (0 ≤ p ∧ p ≤ 1000) ∧ (0 ≤ z ∧ z ≤ 1000) ∧ 0 ≤ k ∧ k ≤ 1000) : PCall Tryd.prog 23 [.agg [.val (.func (.func 36) #[] #[])],.agg [.int .i64 p,.int .i64 z],.int .i64 k] (fun r => r = .int .i64 (p + (z - 1 - k))) := by
  intro w B vs hB hG hl hd
  rw [cellArgs hl hd]
  refine (cellHighC w p z k).mono fun e w' ⟨he,hw⟩ => ⟨.int .i64 (p + (z - 1 - k)),.int .i64 (p + (z - 1 - k)),rfl,?_,?_,hw⟩
  · rw [he]
    congr 2
    simp only [IntKind.wrap_i64]
    omega
  · simp [Den]
theorem cellL_ok (p z k : Int) (hb : (0 ≤ p ∧ p ≤ 1000) ∧ (0 ≤ z ∧ z ≤ 1000) ∧ 0 ≤ k ∧ k ≤ 1000) : PCall Tryd.prog 23 [.agg [.val (.func (.func 37) #[] #[])],.agg [.int .i64 p,.int .i64 z],.int .i64 k] (fun r => r = .int .i64 (p + k)) := by
  intro w B vs hB hG hl hd
  rw [cellArgs hl hd]
  refine (cellLowC w p z k).mono fun e w' ⟨he,hw⟩ => ⟨.int .i64 (p + k),.int .i64 (p + k),rfl,?_,?_,hw⟩
  · rw [he]
    congr 2
    simp only [IntKind.wrap_i64]
    omega
  · simp [Den]

end Go.Proofs.YtmoepaingfjojaaDoor
