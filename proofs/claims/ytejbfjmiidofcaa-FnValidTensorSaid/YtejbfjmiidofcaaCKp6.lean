import Derived.Test.YtejbfjmiidofcaaCKp4
import Derived.Test.YtejbfjmiidofcaaCM1
import Derived.Test.YtejbfjmiidofcaaCW3
set_option linter.unusedSimpArgs false
set_option linter.unusedVariables false
set_option maxRecDepth 4000
set_option maxHeartbeats 4000000
namespace Go.Proofs.Ytejbfjmiidofcaa
open VwM Vw Go

def sumLen (ls : List (List Int)) (k : Nat) : Nat := (ls.take k).flatten.length
theorem sumLen_step {ls : List (List Int)} {k : Nat} {l : List Int} (h : ls[k]? = some l) : (ls.take (k + 1)).flatten = (ls.take k).flatten ++ l := by rw [List.take_add_one,h]; simp
theorem flat_mono (ls : List (List Int)) (k : Nat) : (ls.take k).flatten.length ≤ ls.flatten.length := by
  have : ls.flatten = (ls.take k).flatten ++ (ls.drop k).flatten := by rw [← List.flatten_append,List.take_append_drop]
  rw [this,List.length_append]; omega
theorem setR_flat {A l : List Int} {N : Nat} (h : A.length + l.length ≤ N) : setRange ((A ++ List.replicate (N - A.length) 0).map (AV.int .i64)) A.length (l.map (AV.int .i64)) = (A ++ l ++ List.replicate (N - (A ++ l).length) 0).map (AV.int .i64) := by
  have := setRange_app (l.map (AV.int .i64)) (A.map (AV.int .i64)) ((List.replicate l.length 0).map (AV.int .i64)) ((List.replicate (N - A.length - l.length) (0 : Int)).map (AV.int .i64)) (by simp)
  rw [← List.map_append,← List.map_append,List.length_map] at this
  have e : List.replicate l.length (0 : Int) ++ List.replicate (N - A.length - l.length) 0 = List.replicate (N - A.length) 0 := by
    rw [List.replicate_append_replicate]; congr 1; omega
  rw [e] at this
  rw [this,List.length_append,List.map_append,List.map_append,List.append_assoc]
  congr 4
  omega


theorem labelsOf2_ok (a b : List Int) (n m : Nat) (hn : a.length = n) (hm : b.length = m) (hb : (n ≤ 1099511627776 ∧ m ≤ 1099511627776) ∧ (∀ x ∈ a,0 ≤ x ∧ x ≤ 4) ∧ ∀ x ∈ b,0 ≤ x ∧ x ≤ 4) : BCall Try.prog 91 [.rows false [.rows false (IL a) n,.rows false (IL b) m] 2] [] (OI (lbS ([a,b] : List (List Int)).flatten)) := by
  subst hn hm
  refine labelsOf_ok [a,b] 2 rfl ⟨by omega,fun l hl => ?_,fun l hl => ?_⟩
  · simp at hl; rcases hl with rfl | rfl <;> omega
  · simp at hl; rcases hl with rfl | rfl
    · exact hb.2.1
    · exact hb.2.2


theorem costOf2_ok (e a b : List Int) (n m : Nat) (hn : a.length = n) (hm : b.length = m) (hb : e.length = 5 ∧ (n ≤ 1099511627776 ∧ m ≤ 1099511627776) ∧ ((∀ x ∈ a,0 ≤ x ∧ x ≤ 4) ∧ ∀ x ∈ b,0 ≤ x ∧ x ≤ 4) ∧ (∀ x ∈ a,0 ≤ gE e x ∧ gE e x ≤ 60) ∧ ∀ x ∈ b,0 ≤ gE e x ∧ gE e x ≤ 60) : PCall Try.prog 51 [.agg (IL e),.rows false [.rows false (IL a) n,.rows false (IL b) m] 2] (fun r => r = .int .i64 (pr ((lbS (a ++ b)).map (gE e)))) := by
  subst hn hm
  have h := costOf_ok e [a,b] 2 rfl ⟨hb.1,by omega,fun l hl => by simp at hl; rcases hl with rfl | rfl <;> omega,fun l hl => by
    simp at hl; rcases hl with rfl | rfl
    · exact hb.2.2.1.1
    · exact hb.2.2.1.2,fun l hl => by
    simp at hl; rcases hl with rfl | rfl
    · exact hb.2.2.2.1
    · exact hb.2.2.2.2⟩
  have e2 : ([a,b] : List (List Int)).flatten = a ++ b := by simp
  rw [e2] at h
  exact h

end Go.Proofs.Ytejbfjmiidofcaa
