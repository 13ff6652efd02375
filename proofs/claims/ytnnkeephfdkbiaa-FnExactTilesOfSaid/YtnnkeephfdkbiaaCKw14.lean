import Derived.Test.YtnnkeephfdkbiaaCKw13
import Derived.Test.YtnnkeephfdkbiaaCM1
set_option linter.unusedSimpArgs false
set_option linter.unusedVariables false
set_option maxRecDepth 4000
set_option maxHeartbeats 4000000
namespace Go.Proofs.Ytnnkeephfdkbiaa
open VwM Vw Go

def atV (vs : List Vw3) (j : Nat) : List Int := match vs[j]? with | some v => offs v.1 v.2.1 v.2.2 | none => []
def hoT (vs : List Vw3) (k : Int) (i : Nat) : List Int := ((List.range i).filter fun j => decide (k ∈ atV vs j)).map fun j : Nat => (j : Int)
theorem hoT_zero (vs : List Vw3) (k : Int) : hoT vs k 0 = [] := rfl
theorem hoT_yes {vs : List Vw3} {k : Int} {i : Nat} {v : Vw3} (h : vs[i]? = some v) (hk : k ∈ offs v.1 v.2.1 v.2.2) : hoT vs k (i + 1) = hoT vs k i ++ [(i : Int)] := by
  have : k ∈ atV vs i := by unfold atV; rw [h]; exact hk
  unfold hoT
  rw [List.range_succ,List.filter_append,List.map_append]
  simp [this]
theorem hoT_no {vs : List Vw3} {k : Int} {i : Nat} {v : Vw3} (h : vs[i]? = some v) (hk : ¬ k ∈ offs v.1 v.2.1 v.2.2) : hoT vs k (i + 1) = hoT vs k i := by
  have : ¬ k ∈ atV vs i := by unfold atV; rw [h]; exact hk
  unfold hoT
  rw [List.range_succ,List.filter_append,List.map_append]
  simp [this]
theorem hoT_le (vs : List Vw3) (k : Int) (i : Nat) : (hoT vs k i).length ≤ i := by
  unfold hoT
  rw [List.length_map]
  have := List.length_filter_le (fun j => decide (k ∈ atV vs j)) (List.range i)
  rwa [List.length_range] at this

end Go.Proofs.Ytnnkeephfdkbiaa
