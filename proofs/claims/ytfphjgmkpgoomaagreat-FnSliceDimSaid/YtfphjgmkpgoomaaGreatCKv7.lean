import Derived.Test.YtfphjgmkpgoomaaGreatCKv1
import Derived.Test.YtfphjgmkpgoomaaGreatCM1
import Derived.Test.YtfphjgmkpgoomaaGreatCW3
set_option linter.unusedSimpArgs false
set_option linter.unusedVariables false
set_option maxRecDepth 4000
set_option maxHeartbeats 4000000
namespace Go.Proofs.YtfphjgmkpgoomaaGreat
open VwM Vw Go

def viewP (r:AV):Prop:=∃ b sh st k1 k2,(sh.length=k1 ∧ st.length=k2 ∧ sh.length ≤ 100 ∧ st.length ≤ 100) ∧ r=.agg [.int .i64 b,.rows true (IL sh) k1,.rows true (IL st) k2]
def viewB (r:AV) (H':List (List AV)):Prop:=∃ b sh st,(sh.length ≤ 100 ∧ st.length ≤ 100) ∧ r=.agg [.int .i64 b,.own 0 sh.length 1,.own 1 st.length 1] ∧ H'=[IL sh,IL st]
theorem view_plain {P:Program} {f:Nat} {args:List AV} (h:BCall P f args [] viewB):PCall P f args viewP:=by
  refine (BCall.plain h).mono ?_
  rintro r ⟨r0,H',⟨b,sh,st,⟨h1,h2⟩,rfl,rfl⟩,rfl⟩
  exact ⟨b,sh,st,_,_,⟨rfl,rfl,h1,h2⟩,by simp [AV.ren,nthH,List.map_map,Function.comp_def]⟩
theorem both_asc (xs ys:List Int):(bothL xs ys).length ≤ 1099511627776 ∧ ∀ i:Nat,1 ≤ i → i < (bothL xs ys).length → (bothL xs ys).getD (i - 1) 0 < (bothL xs ys).getD i 0:=⟨by have:=bothL_le xs ys;omega,fun i h1 h2=>asc_get (bothL_sorted xs ys) (by omega) h2⟩
theorem at_asc (f:Int → Nat) (t:Nat):(atL f t).length ≤ 1099511627776 ∧ ∀ i:Nat,1 ≤ i → i < (atL f t).length → (atL f t).getD (i - 1) 0 < (atL f t).getD i 0:=⟨by have:=atL_len f t;omega,fun i h1 h2=>asc_get (atL_sorted f t) (by omega) h2⟩
theorem rep_nil {xs:List Int} (h:∀ x ∈ xs,0 ≤ x ∧ x ≤ 59):(repL xs).length=0 ↔ xs.Nodup:=by
  rw [List.length_eq_zero_iff,List.nodup_iff_count]
  constructor
  · intro e a
    by_cases hc:xs.count a ≤ 1
    · exact hc
    · have hm:a ∈ xs:=List.count_pos_iff.1 (by omega)
      have:a ∈ repL xs:=mem_atL.2 ⟨h a hm,by show 2 ≤ xs.count a;omega⟩
      rw [e] at this;cases this
  · intro h1
    refine List.eq_nil_iff_forall_not_mem.2 fun a ha=>?_
    have h2:2 ≤ xs.count a:=(mem_atL.1 ha).2
    have:=h1 a
    omega
theorem both_full {xs:List Int} (h:∀ x ∈ xs,0 ≤ x ∧ x ≤ 59):(bothL xs xs).length=xs.length ↔ xs.Nodup:=by
  have hn:(bothL xs xs).Nodup:=(bothL_sorted xs xs).imp fun h=>by omega
  have hs:∀ x,x ∈ bothL xs xs ↔ x ∈ xs:=fun x=>⟨fun hx=>(mem_bothL.1 hx).2.1,fun hx=>mem_bothL.2 ⟨h x hx,hx,hx⟩⟩
  constructor
  · intro e
    exact (pigeon hn (fun x hx=>(hs x).1 hx) (by omega)).2
  · intro hx
    exact ((List.perm_ext_iff_of_nodup hn hx).2 hs).length_eq

end Go.Proofs.YtfphjgmkpgoomaaGreat
