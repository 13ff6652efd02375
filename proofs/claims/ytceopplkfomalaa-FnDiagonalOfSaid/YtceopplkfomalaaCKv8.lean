import Derived.Test.YtceopplkfomalaaCKv7
import Derived.Test.YtceopplkfomalaaCM1
import Derived.Test.YtceopplkfomalaaCW3
set_option linter.unusedSimpArgs false
set_option linter.unusedVariables false
set_option maxRecDepth 4000
set_option maxHeartbeats 4000000
namespace Go.Proofs.Ytceopplkfomalaa
open VwM Vw Go

theorem cutSt_len2 (sh st:List Int) (j:Nat) (f t w:Int) (hf ht:Bool):(cutSt sh st j f t w hf ht).length ≤ max sh.length st.length:=by
  unfold cutSt;split<;>simp<;>omega
def pairVP (r:AV):Prop:=∃ b sh st b' sh' st' k1 k2 k3 k4,(sh.length=k1 ∧ st.length=k2 ∧ sh'.length=k3 ∧ st'.length=k4 ∧ sh.length ≤ 1000 ∧ st.length ≤ 1000 ∧ sh'.length ≤ 1000 ∧ st'.length ≤ 1000) ∧ r=.tup [.agg [.int .i64 b,.rows true (IL sh) k1,.rows true (IL st) k2],.agg [.int .i64 b',.rows true (IL sh') k3,.rows true (IL st') k4]]
def pairVB (r:AV) (H':List (List AV)):Prop:=∃ b sh st b' sh' st',(sh.length ≤ 1000 ∧ st.length ≤ 1000 ∧ sh'.length ≤ 1000 ∧ st'.length ≤ 1000) ∧ r=.tup [.agg [.int .i64 b,.own 0 sh.length 1,.own 1 st.length 1],.agg [.int .i64 b',.own 2 sh'.length 1,.own 3 st'.length 1]] ∧ H'=[IL sh,IL st,IL sh',IL st']
theorem pairV_plain {P:Program} {f:Nat} {args:List AV} (h:BCall P f args [] pairVB):PCall P f args pairVP:=by
  refine (BCall.plain h).mono ?_
  rintro r ⟨r0,H',⟨b,sh,st,b',sh',st',⟨h1,h2,h3,h4⟩,rfl,rfl⟩,rfl⟩
  exact ⟨b,sh,st,b',sh',st',_,_,_,_,⟨rfl,rfl,rfl,rfl,h1,h2,h3,h4⟩,by simp [AV.ren,nthH,List.map_map,Function.comp_def]⟩


theorem relSl2_ok (b:Int) (sh st:List Int) (n m:Nat) (d f t w:Int) (hf ht:Bool) (hn:sh.length=n) (hm:st.length=m) (hb:n ≤ 100 ∧ m ≤ 100):BCall Try.prog 125 [W4 b sh st n m,.int .i64 d,slc f t w hf ht] [] RelV :=
  rel_view (sSliceDim_ok b sh st n m d f t w hf ht hn hm (by omega)) (by rw [cutSh_length];omega) (Nat.le_trans (cutSt_len2 sh st _ f t w hf ht) (by omega))

end Go.Proofs.Ytceopplkfomalaa
