import Derived.Test.YtgkgnphonihheaaCKv9
import Derived.Test.YtgkgnphonihheaaCM1
import Derived.Test.YtgkgnphonihheaaCW3
set_option linter.unusedSimpArgs false
set_option linter.unusedVariables false
set_option maxRecDepth 4000
set_option maxHeartbeats 4000000
namespace Go.Proofs.Ytgkgnphonihheaa
open VwM Vw Go

theorem idx_getD {xs : List Int} {x : Int} (h : x ∈ xs) : xs.getD (xs.idxOf x) 0 = x := by
  rw [List.getD,List.getElem?_eq_getElem (List.idxOf_lt_length_of_mem h),Option.getD_some,List.getElem_idxOf]
theorem wi_true {O O' : List Int} (h : 0 < (bothL O O').length) : ∃ i j : Nat,wiP true O O' = .tup [.int .i64 i,.int .i64 j,.bool true] ∧ (i < O.length ∧ O.getD i 0 = (bothL O O').getD 0 0 ∧ placeI O ((bothL O O').getD 0 0) = i) ∧ j < O'.length ∧ O'.getD j 0 = (bothL O O').getD 0 0 := by
  have hm := getD_mem h
  unfold wiP
  generalize (bothL O O').getD 0 0 = x at *
  obtain ⟨_,x1,x2⟩ := mem_bothL.1 hm
  refine ⟨O.idxOf x,O'.idxOf x,?_,⟨List.idxOf_lt_length_of_mem x1,idx_getD x1,if_pos x1⟩,List.idxOf_lt_length_of_mem x2,idx_getD x2⟩
  rw [if_pos rfl,placeI,if_pos x1,placeI,if_pos x2]

end Go.Proofs.Ytgkgnphonihheaa
