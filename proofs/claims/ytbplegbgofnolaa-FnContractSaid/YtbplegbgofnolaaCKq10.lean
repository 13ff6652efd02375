import Derived.Test.YtbplegbgofnolaaCKq8
import Derived.Test.YtbplegbgofnolaaCM1
import Derived.Test.YtbplegbgofnolaaCW3
set_option linter.unusedSimpArgs false
set_option linter.unusedVariables false
set_option maxRecDepth 4000
set_option maxHeartbeats 4000000
namespace Go.Proofs.Ytbplegbgofnolaa
open VwM Vw Go

def sdT (t:Tn) (d:Int):Option Tn:=if vT t=true ∧ 0 ≤ d ∧ d < t.1.length then ctT [t] [nums 0 1 t.1.length] (wo (nums 0 1 t.1.length) d.toNat) else none
theorem numU_v:∀ n:Nat,n < 5 → vR (pS 0 n) (pE 0 1 n) (pC 1 n)=true ∧ nums (pS 0 n) (pC 1 n) (cntN (pS 0 n) (pE 0 1 n) (pC 1 n))=nums 0 1 n:=by decide
theorem nums_len (a c:Int) (n:Nat):(nums a c n).length=n:=by simp [nums]


theorem inumU_ok (n:Nat) (hb:n ≤ 4):BCall Try.prog 65 [rng (pS 0 n) (pE 0 1 n) (pC 1 n)] [] (OI (nums 0 1 n)):=by
  have h:=numU_v n (by omega)
  have h2:=inumbers_ok _ _ _ h.1
  rw [h.2] at h2
  exact h2


theorem iCon1_ok (a1 a2 l out:List Int) (n1 n2 m q:Nat) (hn:(a1.length=n1 ∧ a2.length=n2) ∧ l.length=m ∧ out.length=q) (hb:(n1 ≤ 1099511627776 ∧ n2 ≤ 1099511627776) ∧ m ≤ 1099511627776 ∧ q ≤ 1048576) :
    BCall Try.prog 17 [.rows false [.rows false (IL a1) n1,.rows false (IL a2) n2] 1,.rows false [.rows false (IL l) m] 1,.rows false (IL out) q] [] (OTn (ctT [(a1,a2)] [l] out)):=by
  obtain ⟨⟨rfl,rfl⟩,rfl,rfl⟩:=hn
  exact iCon_ok [(a1,a2)] [l] out 1 1 _ rfl rfl rfl ⟨by omega,by simp;omega,by simp;omega⟩


end Go.Proofs.Ytbplegbgofnolaa
