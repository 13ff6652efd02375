import Derived.Test.YtonhjbojpcgadaaCKz4
import Derived.Test.YtonhjbojpcgadaaCM1
import Derived.Test.YtonhjbojpcgadaaCW3
set_option linter.unusedSimpArgs false
set_option linter.unusedVariables false
set_option linter.unnecessarySimpa false
set_option maxRecDepth 4000
set_option maxHeartbeats 4000000
namespace Go.Proofs.Ytonhjbojpcgadaa
open VwM Vw Go

theorem sinsertI_ok (xs : List Int) (n : Nat) (k x : Int) (hn : xs.length = n) (hb : (0 ≤ k ∧ k ≤ n) ∧ n ≤ 1099511000000) : BCall Try.prog 48 [.rows false (IL xs) n, .int .i64 k, .int .i64 x] [] (OI (ins xs k.toNat x)) := by
  obtain ⟨c, rfl⟩ : ∃ c : Nat, k = c := ⟨k.toNat, by omega⟩
  have := sinsert_ok xs n c x hn (by omega)
  simpa using this

end Go.Proofs.Ytonhjbojpcgadaa
