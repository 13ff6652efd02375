import Derived.Test.YtceopplkfomalaaCKv2
import Derived.Test.YtceopplkfomalaaCM1
set_option linter.unusedSimpArgs false
set_option linter.unusedVariables false
set_option maxRecDepth 4000
set_option maxHeartbeats 4000000
namespace Go.Proofs.Ytceopplkfomalaa
open VwM Vw Go

theorem markIntSO_ok (xs zs : List Int) (n len c : Nat) (k : Int) (hn : xs.length = n) (hc : len = n + zs.length ∧ c = n + zs.length) (hk : (0 ≤ k ∧ k ≤ 1099511627776) ∧ n ≤ 1000 ∧ zs.length ≤ 1000) : BCall Try.prog 42 [.osl 0 len 0 n 1 c,.int .i64 k] [IL (xs ++ zs)] (fun r H' => r = .int .i64 (k + n) ∧ H' = [IL (upFrom k n ++ zs)]) := by
  subst hn
  obtain ⟨rfl,rfl⟩ := hc
  refine bcall_of (pins := [0]) (pin := 1) l42_eq rfl rfl rfl ?_
  have hal : (xs ++ zs).length = xs.length + zs.length := List.length_append
  (repeat' (first
 | (first | refine awp_seq ?_ | refine awp_block ?_)
 | ((first | refine awp_reg ?_ | refine awp_condB ?_ | refine awp_skip ?_ | refine awp_exit ?_); simp (disch := omega) only [push_cast,seval,l42r0,l42r1,l42r2,l42r3,l42r4,l42r5,l42r6,hal,List.length_map])
 | ((first | refine condB_split (fun h => ?_) (fun h => ?_) | refine gIf_split (fun h => ?_) (fun h => ?_) | refine qIf_split (fun h => ?_) (fun h => ?_)) <;> (try simp only [h]) <;> (try simp only [bitvec_to_nat] at h) <;> (try simp only [h]) <;> (first | (exfalso; omega) | (focus (exfalso; simp_all; done)) | (simp (disch := omega) only [push_cast,seval,hal,List.length_map]) | skip))
 | (refine awp_ret ⟨.inr rfl,[],[],_,by decide,rfl,?_⟩; (try simp (disch := omega) only [push_cast,seval,↓allMem_nil,↓allMem_cons,↓List.map_cons,↓List.map_nil,hal,List.length_map]))))
  refine awp_loop (fun j : Nat => mkS [(0,.osl 0 (xs.length + zs.length) 0 xs.length 1 (xs.length + zs.length)),(1,.int .i64 (k + j)),(5,.int .i64 j)] [(0,IL (marked k xs j ++ zs))]) (fun j => j ≤ xs.length) (fun j => xs.length - j) 0 (Nat.zero_le _) ?_ ?_
  · (refine Sub.of_lists ?_ ?_ ?_ ?_ ?_ <;> simp [Vw.mkS,Vw.lk,Vw.hk,AV.inn,innL,innL_ints,innL_append,innL_rep,-List.map_set,-List.getD_eq_getElem?_getD,marked_zero])
  · intro j hj
    have hml := marked_length k xs j hj
    have hal2 : (marked k xs j ++ zs).length = xs.length + zs.length := by rw [List.length_append,hml]
    (repeat' (first
 | (first | refine awp_seq ?_ | refine awp_block ?_)
 | ((first | refine awp_reg ?_ | refine awp_condB ?_ | refine awp_skip ?_ | refine awp_exit ?_); simp (disch := omega) only [push_cast,seval,l42r0,l42r1,l42r2,l42r3,l42r4,l42r5,l42r6,hal2,List.length_map])
 | ((first | refine condB_split (fun h => ?_) (fun h => ?_) | refine gIf_split (fun h => ?_) (fun h => ?_) | refine qIf_split (fun h => ?_) (fun h => ?_)) <;> (try simp only [h]) <;> (try simp only [bitvec_to_nat] at h) <;> (try simp only [h]) <;> (first | (exfalso; omega) | (focus (exfalso; simp_all; done)) | (simp (disch := omega) only [push_cast,seval,hal2,List.length_map]) | skip))
 | (refine awp_ret ⟨.inr rfl,[],[],_,by decide,rfl,?_⟩; (try simp (disch := omega) only [push_cast,seval,↓allMem_nil,↓allMem_cons,↓List.map_cons,↓List.map_nil,hal2,List.length_map]))))
    · refine ⟨j + 1,by omega,by omega,?_⟩
      have e := marked_set k xs j (by omega)
      have e2 : (List.map (AV.int .i64) (marked k xs j) ++ List.map (AV.int .i64) zs).set j (.int .i64 (k + j)) = List.map (AV.int .i64) (marked k xs (j + 1)) ++ List.map (AV.int .i64) zs := by rw [List.set_append_left _ _ (by rw [List.length_map]; omega),← List.map_set,e]
      (refine Sub.of_lists ?_ ?_ ?_ ?_ ?_ <;> simp [Vw.mkS,Vw.lk,Vw.hk,AV.inn,innL,innL_ints,innL_append,innL_rep,-List.map_set,-List.getD_eq_getElem?_getD,e2,Int.add_assoc])
    · have e : j = xs.length := by omega
      subst e
      simp [marked_all]

end Go.Proofs.Ytceopplkfomalaa
