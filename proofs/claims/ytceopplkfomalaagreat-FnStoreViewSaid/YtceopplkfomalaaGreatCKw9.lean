import Derived.Test.YtceopplkfomalaaGreatCKw8
import Derived.Test.YtceopplkfomalaaGreatCM1
import Derived.Test.YtceopplkfomalaaGreatCW3
set_option linter.unusedSimpArgs false
set_option linter.unusedVariables false
set_option maxRecDepth 4000
set_option maxHeartbeats 4000000
namespace Go.Proofs.YtceopplkfomalaaGreat
open VwM Vw Go

theorem fill_at {mem L V:List Int} {x:Int} (hV:∀ k,k < L.length → V.getD k 0=x) (hin:inM L mem.length):∀ k,k ≤ L.length → ∀ i,i < k → (putK mem L V k).getD (L.getD i 0).toNat 0=x
  | 0,_,i,hi=>absurd hi (Nat.not_lt_zero _)
  | k + 1,hk,i,hi=>by
    rw [putK]
    by_cases e:(L.getD k 0).toNat=(L.getD i 0).toNat
    · have:=hin i (by omega)
      rw [e,set_getD_self (by rw [putK_length];omega),hV k (by omega)]
    · have:i ≠ k:=fun h=>e (by rw [h])
      rw [set_getD_ne e]
      exact fill_at hV hin k (by omega) i (by omega)
def fillVP (r:AV):Prop:=∃ mem b sh st x k1 k2 k3,(mem.length=k1 ∧ sh.length=k2 ∧ st.length=k3 ∧ mem.length ≤ 60 ∧ sh.length ≤ 100 ∧ st.length ≤ 100) ∧ r=.tup [.rows true (IL mem) k1,.agg [.int .i64 b,.rows true (IL sh) k2,.rows true (IL st) k3],.int .i64 x]
def fillVB (r:AV) (H':List (List AV)):Prop:=∃ mem b sh st x,(mem.length ≤ 60 ∧ sh.length ≤ 100 ∧ st.length ≤ 100) ∧ r=.tup [.own 0 mem.length 1,.agg [.int .i64 b,.own 1 sh.length 1,.own 2 st.length 1],.int .i64 x] ∧ H'=[IL mem,IL sh,IL st]
theorem fillV_plain {P:Program} {f:Nat} {args:List AV} (h:BCall P f args [] fillVB):PCall P f args fillVP:=by
  refine (BCall.plain h).mono ?_
  rintro r ⟨r0,H',⟨mem,b,sh,st,x,⟨h1,h2,h3⟩,rfl,rfl⟩,rfl⟩
  exact ⟨mem,b,sh,st,x,_,_,_,⟨rfl,rfl,rfl,h1,h2,h3⟩,by simp [AV.ren,nthH,List.map_map,Function.comp_def]⟩

end Go.Proofs.YtceopplkfomalaaGreat
