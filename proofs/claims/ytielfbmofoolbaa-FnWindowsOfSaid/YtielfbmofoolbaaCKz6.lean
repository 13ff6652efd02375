import Derived.Test.YtielfbmofoolbaaCKz4
import Derived.Test.YtielfbmofoolbaaCM1
import Derived.Test.YtielfbmofoolbaaCW3
set_option linter.unusedSimpArgs false
set_option linter.unusedVariables false
set_option maxRecDepth 4000
set_option maxHeartbeats 4000000
namespace Go.Proofs.Ytielfbmofoolbaa
open VwM Vw Go

theorem lwithout_ok (xs : List Int) (n : Nat) (k : Nat) (hn : xs.length = n) (hb : k < n ∧ n ≤ 1099511627776) : BCall Try.prog 13 [.rows false (IL xs) n,.int .i64 k] [] (OI (wo xs k)) := by
  subst hn
  obtain ⟨hb1,hb2⟩ := hb
  have hl := wo_length hb1
  refine bcall_of (pins := []) (pin := 0) l13_eq rfl rfl rfl ?_
  have hmin : min k xs.length = k := by omega
  have hl2 : (xs.take k).length = k := by simp; omega
  have hl3 : (xs.drop (k + 1)).length = xs.length - (k + 1) := by simp
  (repeat' (first
 | (first | refine awp_seq ?_ | refine awp_block ?_)
 | ((first | refine awp_reg ?_ | refine awp_drawX (mid := l13r1a) (post := l13r1b) [80] mixed (by decide) ?_ | refine awp_condB ?_ | refine awp_skip ?_ | refine awp_exit ?_); simp (disch := omega) only [push_cast,seval,l13r0,l13r1a,l13r1b,l13r1,IL_head,IL_tail,Nat.sub_zero,hmin,hl2,hl3,← List.map_append])
 | ((first | refine condB_split (fun h => ?_) (fun h => ?_) | refine gIf_split (fun h => ?_) (fun h => ?_) | refine qIf_split (fun h => ?_) (fun h => ?_)) <;> (try simp only [h]) <;> (try simp only [decide_eq_true_eq,decide_eq_false_iff_not,Bool.not_eq_true',Bool.not_eq_false',Bool.and_eq_true,Bool.or_eq_true,Bool.and_eq_false_iff,Bool.or_eq_false_iff,bne_iff_ne,ne_eq,beq_iff_eq,Bool.not_eq_true,Bool.not_eq_false] at h) <;> (try simp only [h]) <;> (first | (exfalso; omega) | (focus (exfalso; simp_all; done)) | (simp (disch := omega) only [push_cast,seval,IL_head,IL_tail,Nat.sub_zero,hmin,hl2,hl3,← List.map_append]) | skip))
 | (refine awp_ret ⟨.inr rfl,[80],[],_,by decide,rfl,?_⟩; (try simp (disch := omega) only [push_cast,seval,↓allMem_nil,↓allMem_cons,↓List.map_cons,↓List.map_nil,IL_head,IL_tail,Nat.sub_zero,hmin,hl2,hl3,← List.map_append]))))
  have hl4 : xs.take k ++ xs.drop (k + 1) = wo xs k := rfl
  all_goals simp only [OI,hl4,hl]
  all_goals (refine ⟨?_,trivial⟩; congr 1; omega)

end Go.Proofs.Ytielfbmofoolbaa
