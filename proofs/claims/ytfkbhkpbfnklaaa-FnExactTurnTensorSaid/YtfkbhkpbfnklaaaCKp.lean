import Derived.Test.YtfkbhkpbfnklaaaCKo
import Derived.Test.YtfkbhkpbfnklaaaCM1
set_option linter.unusedSimpArgs false
set_option linter.unusedVariables false
set_option maxRecDepth 4000
set_option maxHeartbeats 4000000
namespace Go.Proofs.Ytfkbhkpbfnklaaa
open VwM Vw Go

theorem okV_of {b:Int} {sh st:List Int} (h1:vSh sh=true) (h2:vSt st sh.length=true) (h3:0 ≤ b ∧ b ≤ 60):okV b sh st ∧ st.length=sh.length:=by
  have hg:=vSh_good h1
  have hs:=(vSt_spec.1 h2).1
  exact ⟨⟨⟨hg.1,hg.2.2⟩,by omega,by omega,fun i hi=>by have:=vSt_at h2 hi;omega⟩,hs⟩
theorem okV_valid {b:Int} {sh st:List Int} (h:vV b sh st=true):okV b sh st ∧ st.length=sh.length:=by
  obtain ⟨h1,h2,h3,_⟩:=vV_spec.1 h
  exact okV_of h1 h2 h3
theorem vV_shape {b:Int} {sh st:List Int} (h:vSh sh=false):vV b sh st=false:=by simp [vV,h]
theorem vV_str {b:Int} {sh st:List Int} (h:vSt st sh.length=false):vV b sh st=false:=by simp [vV,h]
theorem vV_base {b:Int} {sh st:List Int} (h:¬ (0 ≤ b ∧ b ≤ 60)):vV b sh st=false:=by
  rw [Bool.eq_false_iff];intro h';exact h (vV_spec.1 h').2.2.1
theorem vV_rest {b:Int} {sh st:List Int} (h1:vSh sh=true) (h2:vSt st sh.length=true) (h3:0 ≤ b ∧ b ≤ 60):vV b sh st=(decide (pr sh=0) || allI (offs b sh st) 0 59):=by
  simp [vV,h1,h2,h3]


/-- What OffsetAt answers. -/
def oaV (b:Int) (sh st idx:List Int):Int:=if vV b sh st=true ∧ vIx sh idx=true then b + dot (fun i=>idx.getD i 0) st sh.length else 0
def oaB (b:Int) (sh st idx:List Int):Bool:=vV b sh st && vIx sh idx
theorem vIx_isIx {sh idx:List Int} (h:vIx sh idx=true):isIx sh (fun i=>idx.getD i 0):=fun i hi=>by
  obtain ⟨h1,h2⟩:=vIx_spec.1 h
  have:=h2 i (by omega)
  simp only
  omega


def boL (b:Int) (sh st:List Int):Int:=if vV b sh st=true then bdL b sh st else -1
def boH (b:Int) (sh st:List Int):Int:=if vV b sh st=true then bdH b sh st else -1


def fitB (b:Int) (sh st:List Int) (s:Int):Bool:=vV b sh st && (decide (0 ≤ s) && decide (s ≤ 60)) && allI (offs b sh st) 0 (s - 1)

end Go.Proofs.Ytfkbhkpbfnklaaa
