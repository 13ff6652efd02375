import Derived.Test.YtonhjbojpcgadaaCKc9
import Derived.Test.YtonhjbojpcgadaaCM1
import Derived.Test.YtonhjbojpcgadaaCW3
set_option linter.unusedSimpArgs false
set_option linter.unusedVariables false
set_option linter.unnecessarySimpa false
set_option maxRecDepth 4000
set_option maxHeartbeats 4000000
namespace Go.Proofs.Ytonhjbojpcgadaa
open VwM Vw Go

theorem rs_ok {b : Int} {sh st S : List Int} (hv : vV b sh st = true) (hs : vSh S = true) (hp : pr S = pr sh) : okV (rsB b S) S (rsS (offs b sh st) S) := by
  have hg := vSh_good hs
  have hb := (vV_spec.1 hv).2.2.1
  refine ⟨⟨hg.1, hg.2.2⟩, ?_, by rw [rsS_length]; omega, fun i hi => ?_⟩
  · unfold rsB; split <;> omega
  · unfold rsS
    split
    · have : (List.replicate S.length (0 : Int)).getD i 0 = 0 := by simp [List.getD, hi]
      rw [this]; omega
    · rename_i hz
      have := rs_key hv hs hp hz i hi
      omega
theorem unit_dot {sh : List Int} {d : Nat} (hd : d < sh.length) : dot (fun i => (unitL sh.length d).getD i 0) (rowS sh) sh.length = (rowS sh).getD d 0 := by rw [← hor_all, unit_rank hd]
theorem unit_ix {sh : List Int} (hg : good4 sh) (hp : 1 ≤ pr sh) {d : Nat} (hd : d < sh.length) (h1 : 1 < sh.getD d 0) : vIx sh (unitL sh.length d) = true := by
  have hpos := pos_of_pr hg hp
  refine vIx_spec.2 ⟨by simp [unitL], fun i hi => ?_⟩
  have hi' : i < sh.length := by simpa [unitL] using hi
  have := hpos i hi'
  by_cases e : d = i
  · subst e
    have : (unitL sh.length d).getD d 0 = 1 := by simp [unitL, List.getD, hd]
    rw [this]; omega
  · have : (unitL sh.length d).getD i 0 = 0 := by simp [unitL, List.getD, List.getElem?_set, e, hi']
    rw [this]; omega

end Go.Proofs.Ytonhjbojpcgadaa
