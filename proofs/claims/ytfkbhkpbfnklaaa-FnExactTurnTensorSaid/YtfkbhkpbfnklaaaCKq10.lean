import Derived.Test.YtfkbhkpbfnklaaaCKc4
import Derived.Test.YtfkbhkpbfnklaaaCM1
import Derived.Test.YtfkbhkpbfnklaaaCW3
set_option linter.unusedSimpArgs false
set_option linter.unusedVariables false
set_option maxRecDepth 4000
set_option maxHeartbeats 4000000
namespace Go.Proofs.Ytfkbhkpbfnklaaa
open VwM Vw Go

def sdT (t:Tn) (d:Int):Option Tn:=if vT t=true ∧ 0 ≤ d ∧ d < t.1.length then ctT [t] [nums 0 1 t.1.length] (wo (nums 0 1 t.1.length) d.toNat) else none
theorem wiL_wo:∀ n:Nat,n < 5 → ∀ k:Nat,k < n → wiL (nums 0 1 n) [(k:Int)]=wo (nums 0 1 n) k:=by decide
theorem numU_v:∀ n:Nat,n < 5 → vR (pS 0 n) (pE 0 1 n) (pC 1 n)=true ∧ nums (pS 0 n) (pC 1 n) (cntN (pS 0 n) (pE 0 1 n) (pC 1 n))=nums 0 1 n:=by decide
theorem nums_len (a c:Int) (n:Nat):(nums a c n).length=n:=by simp [nums]


theorem inumU_ok (n:Nat) (hb:n ≤ 4):BCall Try.prog 77 [rng (pS 0 n) (pE 0 1 n) (pC 1 n)] [] (OI (nums 0 1 n)):=by
  have h:=numU_v n (by omega)
  have h2:=inumbers_ok _ _ _ h.1
  rw [h.2] at h2
  exact h2


theorem iCon1_ok (a1 a2 l out:List Int) (n1 n2 m q:Nat) (hn:(a1.length=n1 ∧ a2.length=n2) ∧ l.length=m ∧ out.length=q) (hb:(n1 ≤ 1099511627776 ∧ n2 ≤ 1099511627776) ∧ m ≤ 1099511627776 ∧ q ≤ 1048576) :
    BCall Try.prog 18 [.rows false [.rows false (IL a1) n1,.rows false (IL a2) n2] 1,.rows false [.rows false (IL l) m] 1,.rows false (IL out) q] [] (OTn (ctT [(a1,a2)] [l] out)):=by
  obtain ⟨⟨rfl,rfl⟩,rfl,rfl⟩:=hn
  exact iCon_ok [(a1,a2)] [l] out 1 1 _ rfl rfl rfl ⟨by omega,by simp;omega,by simp;omega⟩


theorem iwo1_ok (xs:List Int) (n:Nat) (d:Int) (hn:xs.length=n) (hb:n ≤ 1099511627776):BCall Try.prog 81 [.rows false (IL xs) n,.rows false [.int .i64 d] 1] [] (OI (wiL xs [d])):=iwithout_ok xs [d] n 1 hn rfl ⟨hb,by omega⟩

end Go.Proofs.Ytfkbhkpbfnklaaa
