import Derived.Test.YtejbfjmiidofcaaCKp14
import Derived.Test.YtejbfjmiidofcaaCM1
import Derived.Test.YtejbfjmiidofcaaCW3
set_option linter.unusedSimpArgs false
set_option linter.unusedVariables false
set_option maxRecDepth 4000
set_option maxHeartbeats 4000000
namespace Go.Proofs.Ytejbfjmiidofcaa
open VwM Vw Go

theorem iCost2_ok (t1 t2 u1 u2 a b : List Int) (n m : Nat) (hn : a.length = n) (hm : b.length = m) (hb : (t1.length ≤ 1099511627776 ∧ t2.length ≤ 1099511627776 ∧ u1.length ≤ 1099511627776 ∧ u2.length ≤ 1099511627776) ∧ n ≤ 1099511627776 ∧ m ≤ 1099511627776) :
    PCall Try.prog 20 [.rows false [.rows false (IL t1) t1.length,.rows false (IL t2) t2.length,.rows false (IL u1) u1.length,.rows false (IL u2) u2.length] 2,.rows false [.rows false (IL a) n,.rows false (IL b) m] 2] (fun r => r = .int .i64 (coI [(t1,t2),(u1,u2)] [a,b])) := by
  subst hn hm
  refine iCost_ok [(t1,t2),(u1,u2)] [a,b] 2 2 rfl rfl ⟨by omega,by omega,fun t ht => ?_,fun l hl => ?_⟩
  · simp at ht; rcases ht with rfl | rfl <;> simp only <;> omega
  · simp at hl; rcases hl with rfl | rfl <;> omega


def klL (ts : List Tn) (ls : List (List Int)) (out : List Int) (i j : Int) : List Int := match exP ts ls out with | none => [] | some e => if pairB i j ts.length = true then keL ls out (ls.getD i.toNat []) (ls.getD j.toNat []) i.toNat j.toNat else []
theorem klL_comm (ts : List Tn) (ls : List (List Int)) (out : List Int) (i j : Int) : klL ts ls out j i = klL ts ls out i j := by
  unfold klL
  cases hx : exP ts ls out with
  | none => rfl
  | some e =>
    simp only
    have hp : pairB j i ts.length = pairB i j ts.length := by
      unfold pairB
      rw [Bool.eq_iff_iff]
      simp only [Bool.and_eq_true,Bool.not_eq_true',decide_eq_false_iff_not,decide_eq_true_eq]
      omega
    rw [hp]
    split
    · exact (keT_comm ls out _ _ _ _ 5)
    · rfl
theorem klL_len (ts : List Tn) (ls : List (List Int)) (out : List Int) (i j : Int) : (klL ts ls out i j).length ≤ 5 := by
  unfold klL
  split
  · simp
  · split
    · exact keT_len _ _ _ _ _ _ 5
    · simp

end Go.Proofs.Ytejbfjmiidofcaa
