import Derived.Test.YtfkbhkpbfnklaaaCKc1
import Derived.Test.YtfkbhkpbfnklaaaCM1
set_option linter.unusedSimpArgs false
set_option linter.unusedVariables false
set_option maxRecDepth 4000
set_option maxHeartbeats 4000000
namespace Go.Proofs.Ytfkbhkpbfnklaaa
open VwM Vw Go

/-- Facts of a slice of a dimension,for the walks. -/
theorem cut_facts {b:Int} {sh st:List Int} {j:Nat} {f t w:Int} {hf ht:Bool} (hv:vV b sh st=true) (hj:j < sh.length) (hs:vS f t w hf ht=true) :
    (0 ≤ sh.getD j 0 ∧ sh.getD j 0 ≤ 60) ∧
    vR (pS (sFrom f (sh.getD j 0) w hf) (cutK (sh.getD j 0) f t w hf ht)) (pE (sFrom f (sh.getD j 0) w hf) w (cutK (sh.getD j 0) f t w hf ht)) (pC w (cutK (sh.getD j 0) f t w hf ht))=true ∧
    cntN (pS (sFrom f (sh.getD j 0) w hf) (cutK (sh.getD j 0) f t w hf ht)) (pE (sFrom f (sh.getD j 0) w hf) w (cutK (sh.getD j 0) f t w hf ht)) (pC w (cutK (sh.getD j 0) f t w hf ht))=cutK (sh.getD j 0) f t w hf ht ∧
    (-12000 ≤ pS (sFrom f (sh.getD j 0) w hf) (cutK (sh.getD j 0) f t w hf ht) * st.getD j 0 ∧ pS (sFrom f (sh.getD j 0) w hf) (cutK (sh.getD j 0) f t w hf ht) * st.getD j 0 ≤ 12000) ∧
    (-12000 ≤ pC w (cutK (sh.getD j 0) f t w hf ht) * st.getD j 0 ∧ pC w (cutK (sh.getD j 0) f t w hf ht) * st.getD j 0 ≤ 12000) ∧
    (∀ i:Nat,i < cutK (sh.getD j 0) f t w hf ht → -1000 ≤ sFrom f (sh.getD j 0) w hf + (i:Int) * w ∧ sFrom f (sh.getD j 0) w hf + (i:Int) * w ≤ 1000) ∧
    (cutK (sh.getD j 0) f t w hf ht:Int) ≤ 60:=by
  obtain ⟨h1,h2,h3,-⟩:=vV_spec.1 hv
  have hg:=(vSh_good h1).1
  have hn:=good4_at hg hj
  have hw:=vS_spec.1 hs
  have hk:=cutK_le hn hs
  have hin:=fun i hi=>idx_in hn hs (i:=i) hi
  have hst:=vSt_at h2 hj
  have hb:∀ i:Nat,i < cutK (sh.getD j 0) f t w hf ht → -100 ≤ sFrom f (sh.getD j 0) w hf + (i:Int) * w ∧ sFrom f (sh.getD j 0) w hf + (i:Int) * w ≤ 100:=fun i hi=>by have:=hin i hi;omega
  have v1:=PR_valid (s:=sFrom f (sh.getD j 0) w hf) hw.2.2.2.1 hw.2.2.1 hb
  have v2:=cntN_PR (s:=sFrom f (sh.getD j 0) w hf) hw.2.2.2.1 hw.2.2.1 hb
  have v3:=vR_spec.1 v1
  have m1:=mul_bd (p:=100) (q:=60) (x:=pS (sFrom f (sh.getD j 0) w hf) (cutK (sh.getD j 0) f t w hf ht)) (y:=st.getD j 0) (by omega) (by omega)
  have m2:=mul_bd (p:=200) (q:=60) (x:=pC w (cutK (sh.getD j 0) f t w hf ht)) (y:=st.getD j 0) (by omega) (by omega)
  exact ⟨hn,v1,v2,by omega,by omega,fun i hi=>by have:=hb i hi;omega,by omega⟩

end Go.Proofs.Ytfkbhkpbfnklaaa
