import Derived.Test.YtahdlohpncjdbaaDoorCKh18
import Derived.Test.YtahdlohpncjdbaaDoorCM1
import Derived.Test.YtahdlohpncjdbaaDoorCW3
set_option linter.unusedSimpArgs false
set_option linter.unusedVariables false
set_option maxRecDepth 4000
set_option maxHeartbeats 4000000
namespace Go.Proofs.YtahdlohpncjdbaaDoor
open VwM Vw Go
set_option linter.unusedSectionVars false
variable [SentA]



set_option maxHeartbeats 8000000 in
theorem iWith_ok (cs : List Int) (es : List Ex) (xs : List Int) (m n k : Nat) (hm : cs.length = m) (hn : es.length = n) (hk : xs.length = k) (hb : m ≤ 1048576 ∧ n ≤ 1048576 ∧ exB 1048576 es) :
    BCall Tryd.prog 48 [.agg [.rows false (IL cs) m,.rows false (EL false es) n],.own 0 k 1,.bool true] [IL xs] (fun r H' => r = .tup [.agg [.own 0 k 1,.own 1 n 5],.bool true] ∧ H' = IL xs :: (esF es).cellsG (· + 2) :: (esF es).conts) := by
  subst hm hn hk
  obtain ⟨hb1,hb2,hb3⟩ := hb
  have hel := EL_length false es
  refine bcall_of (pins := [0]) (pin := 1) l48_eq rfl rfl rfl ?_
  (repeat' (first
 | (first | refine awp_seq ?_ | refine awp_block ?_)
 | ((first | refine awp_reg ?_ | refine awp_condB ?_ | refine awp_skip ?_ | refine awp_exit ?_); simp (disch := omega) only [push_cast,seval,l48r0,l48r1,l48r2,l48r3,l48r4,l48r5,hel,innL_EL])
 | ((first | refine condB_split (fun h => ?_) (fun h => ?_) | refine gIf_split (fun h => ?_) (fun h => ?_) | refine qIf_split (fun h => ?_) (fun h => ?_)) <;> (try simp only [h]) <;> (try simp only [bitvec_to_nat] at h) <;> (try simp only [h]) <;> (first | (exfalso; omega) | (focus (exfalso; simp_all; done)) | (simp (disch := omega) only [push_cast,seval,hel,innL_EL]) | skip))
 | ((first | ((with_reducible refine callD_of (f := 39) false ?_); simp (disch := omega) only [push_cast,seval,hel,innL_EL]; (refine callFNB (bclone_ok _ _ _ _ ?_ ?_ ?_) (by (simp (disch := omega) only [push_cast,seval,hel,innL_EL]); done) ?_; (iterate 3 (exact sd))))) <;> (try simp (disch := omega) only [push_cast,seval,hel,innL_EL]))))
  refine awp_ret ⟨.inr rfl,ret_famP (id1 := 209) (d := 13) (F := esF es) (cs := xs) (bufT xs.length es.length true) rfl rfl (fun _ _ _ _ e0 e1 => ren_bufT e0 e1) ?_ rfl ?_ (by omega)⟩
  · simp only [hk,if_false]
    rw [hk_famD_low _ _ _ 0 (by omega)]
    rfl
  · intro j hj
    simp only [hk,fim_ne _ _ 96 (by omega),fim_ne _ _ 128 (by omega),fim_ne _ _ 208 (by omega),fim_ne _ _ 209 (by omega),if_false]
    exact hk_famD_same 13 (esF es) _ j hj

end Go.Proofs.YtahdlohpncjdbaaDoor
