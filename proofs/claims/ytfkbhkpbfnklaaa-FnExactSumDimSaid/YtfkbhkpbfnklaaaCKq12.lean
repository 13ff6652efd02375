import Derived.Test.YtfkbhkpbfnklaaaCKq11
import Derived.Test.YtfkbhkpbfnklaaaCM1
import Derived.Test.YtfkbhkpbfnklaaaCW3
set_option linter.unusedSimpArgs false
set_option linter.unusedVariables false
set_option maxRecDepth 4000
set_option maxHeartbeats 4000000
namespace Go.Proofs.Ytfkbhkpbfnklaaa
open VwM Vw Go

def ordB (order:List Int) (n:Nat):Bool:=decide (order.length=n) && allI order 0 ((n:Int) - 1) && decide order.Nodup
def ttT (t:Tn) (order:List Int):Tn:=if (vT t && ordB order t.1.length)=true then turnT t order else ([],[])
theorem ttT_no {t:Tn} {order:List Int} (h:(vT t && ordB order t.1.length)=false):ttT t order=([],[]):=by unfold ttT;rw [h];rfl
theorem ttT_yes {t:Tn} {order:List Int} (h1:vT t=true) (h2:ordB order t.1.length=true):ttT t order=turnT t order:=by unfold ttT;rw [h1,h2];rfl
theorem turnT_len {t:Tn} {order:List Int} (h1:vT t=true) (h2:isOrd order t.1.length):(turnT t order).1.length=t.1.length ∧ (turnT t order).1.length ≤ 4 ∧ (turnT t order).2.length ≤ 60:=by
  have hv:=vT_spec.1 (turn_vT h1 h2)
  have hg:=vSh_good hv.1
  have hl:(turnT t order).1.length=t.1.length:=by show (permL t.1 order).length=_;rw [permL_length,h2.1]
  exact ⟨hl,hg.1.2,by have:=hv.2.1;have:=hg.2;omega⟩
theorem row_okV {sh order:List Int} (hs:vSh sh=true) (ho:isOrd order sh.length):okV 0 (permL sh order) (permL (rowS sh) order) ∧ (permL (rowS sh) order).length=(permL sh order).length:=by
  have hg:=(vSh_good hs).1
  have hp:=vSh_good (vSh_perm (permL_perm ho) hs)
  refine ⟨⟨⟨hp.1,hp.2.2⟩,by omega,by rw [permL_length,permL_length];exact Nat.le_refl _,fun i hi=>?_⟩,by rw [permL_length,permL_length]⟩
  rw [permL_length] at hi
  rw [permL_getD _ _ hi]
  have hx:=ho.2.1 _ (getD_mem hi)
  have:=rowS_bound hg (order.getD i 0).toNat (by omega)
  omega

end Go.Proofs.Ytfkbhkpbfnklaaa
