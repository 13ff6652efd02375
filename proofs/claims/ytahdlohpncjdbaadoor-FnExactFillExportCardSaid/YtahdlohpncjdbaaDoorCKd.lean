import Derived.Test.YtahdlohpncjdbaaDoorCKc1
import Derived.Test.YtahdlohpncjdbaaDoorCM1

set_option linter.unusedSimpArgs false
set_option linter.unusedVariables false
set_option maxRecDepth 4000
set_option maxHeartbeats 4000000
namespace Go.Proofs.YtahdlohpncjdbaaDoor
open VwM Vw Go
set_option linter.unusedSectionVars false
variable [SentA]

theorem unrank_ok (xs : List Int) (n : Nat) (k : Int) (hn : xs.length = n) (hg : good4 xs ∧ 0 ≤ k ∧ k < pr xs) : BCall Tryd.prog 93 [.rows false (IL xs) n,.int .i64 k] [] (OI (unr xs k)) := by
  subst hn
  obtain ⟨hg,hk0,hk1⟩ := hg
  have hl := hg.2
  have hprb := pr_bound hg
  have hp := pos_of_pr hg (by omega)
  refine bcall_of (pins := []) (pin := 0) l93_eq rfl rfl rfl ?_
  (repeat' (first
 | (first | refine awp_seq ?_ | refine awp_block ?_)
 | ((first | refine awp_reg ?_ | refine awp_condB ?_ | refine awp_skip ?_ | refine awp_exit ?_); simp (disch := omega) only [push_cast,seval,l93r0,l93r1,l93r2,l93r3,l93r4,l93r5,l93r6,l93r7])
 | ((first | refine condB_split (fun h => ?_) (fun h => ?_) | refine gIf_split (fun h => ?_) (fun h => ?_) | refine qIf_split (fun h => ?_) (fun h => ?_)) <;> (try simp only [h]) <;> (try simp only [bitvec_to_nat] at h) <;> (try simp only [h]) <;> (first | (exfalso; omega) | (focus (exfalso; simp_all; done)) | (simp (disch := omega) only [push_cast,seval]) | skip))
 | (refine awp_ret ⟨.inr rfl,[144],[],_,by decide,rfl,?_⟩; (try simp (disch := omega) only [push_cast,seval,↓allMem_nil,↓allMem_cons,↓List.map_cons,↓List.map_nil]); (first | done | (show AV.own _ _ _ = _ ∧ _)))))
  refine awp_loop (fun j : Nat => mkS [(0,RI xs),(6,.int .i64 ((xs.length : Int) - 1 - (j : Int))),(1,.int .i64 (kS xs k j)),(5,.own 144 xs.length 1)] [(144,IL (filledD (dig xs k) xs.length j))])
    (fun j => j ≤ xs.length) (fun j => xs.length - j) 0 (Nat.zero_le _) ?_ ?_
  · (refine Sub.of_lists ?_ ?_ ?_ ?_ ?_ <;> simp [Vw.mkS,Vw.lk,Vw.hk,AV.inn,innL,innL_ints,innL_append,innL_rep,-List.map_set,-List.getD_eq_getElem?_getD,filledD_zero,kS])
  · intro j hj
    by_cases hlt : j < xs.length
    · have e1 := down_nat xs.length j hlt
      have h1 := kS_bound hk0 hp j hj
      have h2 := kS_bound hk0 hp (j + 1) hlt
      have h3 := hp (xs.length - 1 - j) (by omega)
      have h4 : ¬ xs.getD (xs.length - 1 - j) 0 = 0 := by omega
      simp only [kS] at h2
      have e3 := filledD_set (dig xs k) xs.length j hlt
      have e6 : dig xs k (xs.length - 1 - j) = (kS xs k j).tmod (xs.getD (xs.length - 1 - j) 0) := by
        unfold dig
        rw [show xs.length - 1 - (xs.length - 1 - j) = j by omega]
      rw [e6] at e3
      (repeat' (first
 | (first | refine awp_seq ?_ | refine awp_block ?_)
 | ((first | refine awp_reg ?_ | refine awp_condB ?_ | refine awp_skip ?_ | refine awp_exit ?_); simp (disch := omega) only [push_cast,seval,l93r0,l93r1,l93r2,l93r3,l93r4,l93r5,l93r6,l93r7,e1,h4])
 | ((first | refine condB_split (fun h => ?_) (fun h => ?_) | refine gIf_split (fun h => ?_) (fun h => ?_) | refine qIf_split (fun h => ?_) (fun h => ?_)) <;> (try simp only [h]) <;> (try simp only [bitvec_to_nat] at h) <;> (try simp only [h]) <;> (first | (exfalso; omega) | (focus (exfalso; simp_all; done)) | (simp (disch := omega) only [push_cast,seval,e1,h4]) | skip))
 | (refine awp_ret ⟨.inr rfl,[144],[],_,by decide,rfl,?_⟩; (try simp (disch := omega) only [push_cast,seval,↓allMem_nil,↓allMem_cons,↓List.map_cons,↓List.map_nil,e1,h4]); (first | done | (show AV.own _ _ _ = _ ∧ _)))))
      refine ⟨j + 1,by omega,by omega,?_⟩
      have e4 : (xs.length : Int) - 1 - ((j : Int) + 1) = (xs.length : Int) - 1 - (j : Int) - 1 := by omega
      (refine Sub.of_lists ?_ ?_ ?_ ?_ ?_ <;> simp [Vw.mkS,Vw.lk,Vw.hk,AV.inn,innL,innL_ints,innL_append,innL_rep,-List.map_set,-List.getD_eq_getElem?_getD,IL_set,e3,e4,kS])
    · (repeat' (first
 | (first | refine awp_seq ?_ | refine awp_block ?_)
 | ((first | refine awp_reg ?_ | refine awp_condB ?_ | refine awp_skip ?_ | refine awp_exit ?_); simp (disch := omega) only [push_cast,seval,l93r0,l93r1,l93r2,l93r3,l93r4,l93r5,l93r6,l93r7])
 | ((first | refine condB_split (fun h => ?_) (fun h => ?_) | refine gIf_split (fun h => ?_) (fun h => ?_) | refine qIf_split (fun h => ?_) (fun h => ?_)) <;> (try simp only [h]) <;> (try simp only [bitvec_to_nat] at h) <;> (try simp only [h]) <;> (first | (exfalso; omega) | (focus (exfalso; simp_all; done)) | (simp (disch := omega) only [push_cast,seval]) | skip))
 | (refine awp_ret ⟨.inr rfl,[144],[],_,by decide,rfl,?_⟩; (try simp (disch := omega) only [push_cast,seval,↓allMem_nil,↓allMem_cons,↓List.map_cons,↓List.map_nil]); (first | done | (show AV.own _ _ _ = _ ∧ _)))))
      have e : j = xs.length := by omega
      rw [e,filledD_all]
      simp [OI,unr]


theorem placesAt_ok (xs : List Int) (n : Nat) (k : Int) (hn : xs.length = n) (hg : good4 xs ∧ 0 ≤ k ∧ k < pr xs) : PCall Tryd.prog 104 [.rows false (IL xs) n,.int .i64 k] (fun r => r = AP (digP xs k)) := by
  subst hn
  obtain ⟨hg,hk0,hk1⟩ := hg
  have hl := hg.2
  have hprb := pr_bound hg
  have hp := pos_of_pr hg (by omega)
  refine pcall_of l104_eq rfl ?_
  (repeat' (first
 | (first | refine awp_seq ?_ | refine awp_block ?_)
 | ((first | refine awp_reg ?_ | refine awp_condB ?_ | refine awp_skip ?_ | refine awp_exit ?_); simp (disch := omega) only [push_cast,seval,l104r0,l104r1,l104r2,l104r3,l104r4,l104r5,l104r6,l104r7])
 | ((first | refine condB_split (fun h => ?_) (fun h => ?_) | refine gIf_split (fun h => ?_) (fun h => ?_) | refine qIf_split (fun h => ?_) (fun h => ?_)) <;> (try simp only [h]) <;> (try simp only [bitvec_to_nat] at h) <;> (try simp only [h]) <;> (first | (exfalso; omega) | (focus (exfalso; simp_all; done)) | (simp (disch := omega) only [push_cast,seval]) | skip))
 | (refine awp_ret ⟨.inr rfl,_,rfl,?_⟩; (try simp (disch := omega) only [push_cast,seval]))))
  refine awp_loop (fun j : Nat => mkS [(0,RI xs),(4,.ref 64 4 0),(5,.ref 80 4 0),(6,.int .i64 ((xs.length : Int) - 1 - (j : Int))),(1,.int .i64 (kS xs k j))] [(64,IL (pad4 fun _ => 0)),(80,IL (pad4 (padD xs k j)))])
    (fun j => j ≤ xs.length) (fun j => xs.length - j) 0 (Nat.zero_le _) ?_ ?_
  · have e : pad4 (padD xs k 0) = pad4 fun _ => 0 := pad4_congr fun i _ => by unfold padD; rw [if_neg (by omega)]
    rw [e]
    (refine Sub.of_lists ?_ ?_ ?_ ?_ ?_ <;> simp [Vw.mkS,Vw.lk,Vw.hk,AV.inn,innL,innL_ints,innL_append,innL_rep,-List.map_set,-List.getD_eq_getElem?_getD,pad4,kS])
  · intro j hj
    by_cases hlt : j < xs.length
    · have e1 := down_nat xs.length j hlt
      have h1 := kS_bound hk0 hp j hj
      have h2 := kS_bound hk0 hp (j + 1) hlt
      have h3 := hp (xs.length - 1 - j) (by omega)
      have h4 : ¬ xs.getD (xs.length - 1 - j) 0 = 0 := by omega
      simp only [kS] at h2
      have e6 : dig xs k (xs.length - 1 - j) = (kS xs k j).tmod (xs.getD (xs.length - 1 - j) 0) := by
        unfold dig
        rw [show xs.length - 1 - (xs.length - 1 - j) = j by omega]
      have e3 : (pad4 (padD xs k j)).set (xs.length - 1 - j) ((kS xs k j).tmod (xs.getD (xs.length - 1 - j) 0)) = pad4 (padD xs k (j + 1)) := by
        rw [pad4_set _ _ _ (by omega),← e6]
        refine pad4_congr fun i hi => ?_
        unfold padD
        by_cases h : i = xs.length - 1 - j
        · subst h; rw [if_pos rfl,if_pos (by omega)]
        · rw [if_neg h]
          by_cases h5 : i < xs.length ∧ xs.length - j ≤ i
          · rw [if_pos h5,if_pos (by omega)]
          · rw [if_neg h5,if_neg (by omega)]
      (repeat' (first
 | (first | refine awp_seq ?_ | refine awp_block ?_)
 | ((first | refine awp_reg ?_ | refine awp_condB ?_ | refine awp_skip ?_ | refine awp_exit ?_); simp (disch := omega) only [push_cast,seval,l104r0,l104r1,l104r2,l104r3,l104r4,l104r5,l104r6,l104r7,e1,h4])
 | ((first | refine condB_split (fun h => ?_) (fun h => ?_) | refine gIf_split (fun h => ?_) (fun h => ?_) | refine qIf_split (fun h => ?_) (fun h => ?_)) <;> (try simp only [h]) <;> (try simp only [bitvec_to_nat] at h) <;> (try simp only [h]) <;> (first | (exfalso; omega) | (focus (exfalso; simp_all; done)) | (simp (disch := omega) only [push_cast,seval,e1,h4]) | skip))
 | (refine awp_ret ⟨.inr rfl,_,rfl,?_⟩; (try simp (disch := omega) only [push_cast,seval,e1,h4]))))
      refine ⟨j + 1,by omega,by omega,?_⟩
      have e4 : (xs.length : Int) - 1 - ((j : Int) + 1) = (xs.length : Int) - 1 - (j : Int) - 1 := by omega
      (refine Sub.of_lists ?_ ?_ ?_ ?_ ?_ <;> simp [Vw.mkS,Vw.lk,Vw.hk,AV.inn,innL,innL_ints,innL_append,innL_rep,-List.map_set,-List.getD_eq_getElem?_getD,IL_set,e3,e4,kS])
    · have e : j = xs.length := by omega
      (repeat' (first
 | (first | refine awp_seq ?_ | refine awp_block ?_)
 | ((first | refine awp_reg ?_ | refine awp_condB ?_ | refine awp_skip ?_ | refine awp_exit ?_); simp (disch := omega) only [push_cast,seval,l104r0,l104r1,l104r2,l104r3,l104r4,l104r5,l104r6,l104r7])
 | ((first | refine condB_split (fun h => ?_) (fun h => ?_) | refine gIf_split (fun h => ?_) (fun h => ?_) | refine qIf_split (fun h => ?_) (fun h => ?_)) <;> (try simp only [h]) <;> (try simp only [bitvec_to_nat] at h) <;> (try simp only [h]) <;> (first | (exfalso; omega) | (focus (exfalso; simp_all; done)) | (simp (disch := omega) only [push_cast,seval]) | skip))
 | (refine awp_ret ⟨.inr rfl,_,rfl,?_⟩; (try simp (disch := omega) only [push_cast,seval]))))
      subst e
      have e2 : pad4 (padD xs k xs.length) = pad4 (digP xs k) := pad4_congr fun i _ => by
        unfold digP padD
        by_cases h : i < xs.length
        · rw [if_pos ⟨h,by omega⟩,if_pos h]
        · rw [if_neg (fun hh => h hh.1),if_neg h]
      rw [e2]


theorem clone_ok (xs : List Int) (n : Nat) (hn : xs.length = n) (hb : n ≤ 1099511627776) : BCall Tryd.prog 70 [.rows false (IL xs) n] [] (OI xs) := by
  subst hn
  refine bcall_of (pins := []) (pin := 0) l70_eq rfl rfl rfl ?_
  (repeat' (first
 | (first | refine awp_seq ?_ | refine awp_block ?_)
 | ((first | refine awp_reg ?_ | refine awp_condB ?_ | refine awp_skip ?_ | refine awp_exit ?_); simp (disch := omega) only [push_cast,seval,l70r0,l70r1,l70r2,l70r3])
 | ((first | refine condB_split (fun h => ?_) (fun h => ?_) | refine gIf_split (fun h => ?_) (fun h => ?_) | refine qIf_split (fun h => ?_) (fun h => ?_)) <;> (try simp only [h]) <;> (try simp only [bitvec_to_nat] at h) <;> (try simp only [h]) <;> (first | (exfalso; omega) | (focus (exfalso; simp_all; done)) | (simp (disch := omega) only [push_cast,seval]) | skip))
 | (refine awp_ret ⟨.inr rfl,[80],[],_,by decide,rfl,?_⟩; (try simp (disch := omega) only [push_cast,seval,↓allMem_nil,↓allMem_cons,↓List.map_cons,↓List.map_nil]); (first | done | (show AV.own _ _ _ = _ ∧ _)))
 | (refine awp_ret ⟨.inr rfl,[112],[],_,by decide,rfl,?_⟩; (try simp (disch := omega) only [push_cast,seval,↓allMem_nil,↓allMem_cons,↓List.map_cons,↓List.map_nil]); (first | done | (show AV.own _ _ _ = _ ∧ _)))))
  refine nil_split (fun h0 => ?_) ?_
  · (try simp (disch := omega) only [push_cast,seval])
    (repeat' (first
 | (first | refine awp_seq ?_ | refine awp_block ?_)
 | ((first | refine awp_reg ?_ | refine awp_condB ?_ | refine awp_skip ?_ | refine awp_exit ?_); simp (disch := omega) only [push_cast,seval,l70r0,l70r1,l70r2,l70r3])
 | ((first | refine condB_split (fun h => ?_) (fun h => ?_) | refine gIf_split (fun h => ?_) (fun h => ?_) | refine qIf_split (fun h => ?_) (fun h => ?_)) <;> (try simp only [h]) <;> (try simp only [bitvec_to_nat] at h) <;> (try simp only [h]) <;> (first | (exfalso; omega) | (focus (exfalso; simp_all; done)) | (simp (disch := omega) only [push_cast,seval]) | skip))
 | (refine awp_ret ⟨.inr rfl,[16000],[(16000,1)],_,by decide,rfl,?_⟩; (try simp (disch := omega) only [push_cast,seval,↓allMem_nil,↓allMem_cons,↓List.map_cons,↓List.map_nil]))))
    have : xs = [] := List.eq_nil_of_length_eq_zero h0
    simp [OI,this]
  · (try simp (disch := omega) only [push_cast,seval])
    (repeat' (first
 | (first | refine awp_seq ?_ | refine awp_block ?_)
 | ((first | refine awp_reg ?_ | refine awp_condB ?_ | refine awp_skip ?_ | refine awp_exit ?_); simp (disch := omega) only [push_cast,seval,l70r0,l70r1,l70r2,l70r3])
 | ((first | refine condB_split (fun h => ?_) (fun h => ?_) | refine gIf_split (fun h => ?_) (fun h => ?_) | refine qIf_split (fun h => ?_) (fun h => ?_)) <;> (try simp only [h]) <;> (try simp only [bitvec_to_nat] at h) <;> (try simp only [h]) <;> (first | (exfalso; omega) | (focus (exfalso; simp_all; done)) | (simp (disch := omega) only [push_cast,seval]) | skip))
 | (refine awp_ret ⟨.inr rfl,[80],[],_,by decide,rfl,?_⟩; (try simp (disch := omega) only [push_cast,seval,↓allMem_nil,↓allMem_cons,↓List.map_cons,↓List.map_nil]); (first | done | (show AV.own _ _ _ = _ ∧ _)))
 | (refine awp_ret ⟨.inr rfl,[112],[],_,by decide,rfl,?_⟩; (try simp (disch := omega) only [push_cast,seval,↓allMem_nil,↓allMem_cons,↓List.map_cons,↓List.map_nil]); (first | done | (show AV.own _ _ _ = _ ∧ _)))))
    all_goals simp [OI]

end Go.Proofs.YtahdlohpncjdbaaDoor
