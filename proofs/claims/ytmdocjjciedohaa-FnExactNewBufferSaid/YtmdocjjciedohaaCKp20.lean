import Derived.Test.YtmdocjjciedohaaCKa
import Derived.Test.YtmdocjjciedohaaCM1
import Derived.Test.YtmdocjjciedohaaCW3
set_option linter.unusedSimpArgs false
set_option linter.unusedVariables false
set_option maxRecDepth 4000
set_option maxHeartbeats 4000000
namespace Go.Proofs.Ytmdocjjciedohaa
open VwM Vw Go

def nbN (s : Int) : Nat := if 0 ≤ s ∧ s ≤ 60 then s.toNat else 0
theorem nbN_le (s : Int) : nbN s ≤ 60 := by unfold nbN; split <;> omega


theorem vCount_ok (s : Int) : PCall Try.prog 10 [.int .i64 s] (fun r => r = .bool (decide (0 ≤ s) && decide (s ≤ 60))) := by
  refine pcall_of l10_eq rfl ?_
  (repeat' (first
 | (first | refine awp_seq ?_ | refine awp_block ?_)
 | ((first | refine awp_reg ?_ | refine awp_condB ?_ | refine awp_skip ?_ | refine awp_exit ?_); simp (disch := omega) only [push_cast,seval,l10r0,l10r1])
 | ((first | refine condB_split (fun h => ?_) (fun h => ?_) | refine gIf_split (fun h => ?_) (fun h => ?_) | refine qIf_split (fun h => ?_) (fun h => ?_)) <;> (try simp only [h]) <;> (try simp only [bitvec_to_nat] at h) <;> (try simp only [h]) <;> (first | (exfalso; omega) | (focus (exfalso; simp_all; done)) | (simp (disch := omega) only [push_cast,seval]) | skip))
 | (refine awp_ret ⟨.inr rfl,_,rfl,?_⟩; (try simp (disch := omega) only [push_cast,seval]))))
  all_goals (first | rfl | (simp_all; done) | (simp_all; omega) | (simp; omega) | (simp; grind) | (simp_all; grind) | skip)


theorem eqExS0_ok : PCall Try.prog 12 [.rows false [] 0,.rows false [] 0] (fun r => r = .bool true) := by
  refine pcall_of l12_eq rfl ?_
  have z0 : ((0 : Nat) : Int) = 0 := rfl
  (repeat' (first
 | (first | refine awp_seq ?_ | refine awp_block ?_)
 | ((first | refine awp_reg ?_ | refine awp_draw (mid := l12r5a) (post := l12r5b) mixed (by decide) ?_ | refine awp_condB ?_ | refine awp_skip ?_ | refine awp_exit ?_); simp (disch := omega) only [push_cast,seval,l12r0,l12r1,l12r2,l12r3,l12r4,l12r5a,l12r5b,l12r5,l12r6,l12r7,l12r8,z0,decide_true])
 | ((first | refine condB_split (fun h => ?_) (fun h => ?_) | refine gIf_split (fun h => ?_) (fun h => ?_) | refine qIf_split (fun h => ?_) (fun h => ?_)) <;> (try simp only [h]) <;> (try simp only [bitvec_to_nat] at h) <;> (try simp only [h]) <;> (first | (exfalso; omega) | (focus (exfalso; simp_all; done)) | (simp (disch := omega) only [push_cast,seval,z0,decide_true]) | skip))
 | (refine awp_ret ⟨.inr rfl,_,rfl,?_⟩; (try simp (disch := omega) only [push_cast,seval,z0,decide_true]))))
  refine awp_loop (fun k : Nat => mkS [(0,.rows false [] 0),(1,.rows false [] 0),(5,.int .i64 0)] []) (fun k => True) (fun k => 0) 0 trivial ?_ ?_
  · (refine Sub.of_lists ?_ ?_ ?_ ?_ ?_ <;> simp [Vw.mkS,Vw.lk,Vw.hk,AV.inn,innL,innL_ints,innL_append,innL_rep,-List.map_set,-List.getD_eq_getElem?_getD])
  · intro k _
    (repeat' (first
 | (first | refine awp_seq ?_ | refine awp_block ?_)
 | ((first | refine awp_reg ?_ | refine awp_draw (mid := l12r5a) (post := l12r5b) mixed (by decide) ?_ | refine awp_condB ?_ | refine awp_skip ?_ | refine awp_exit ?_); simp (disch := omega) only [push_cast,seval,l12r0,l12r1,l12r2,l12r3,l12r4,l12r5a,l12r5b,l12r5,l12r6,l12r7,l12r8,z0])
 | ((first | refine condB_split (fun h => ?_) (fun h => ?_) | refine gIf_split (fun h => ?_) (fun h => ?_) | refine qIf_split (fun h => ?_) (fun h => ?_)) <;> (try simp only [h]) <;> (try simp only [bitvec_to_nat] at h) <;> (try simp only [h]) <;> (first | (exfalso; omega) | (focus (exfalso; simp_all; done)) | (simp (disch := omega) only [push_cast,seval,z0]) | skip))
 | (refine awp_ret ⟨.inr rfl,_,rfl,?_⟩; (try simp (disch := omega) only [push_cast,seval,z0]))))


theorem markExS0_ok (k : Int) : PCall Try.prog 14 [.rows false [] 0,.int .i64 k] (fun r => r = .int .i64 k) := by
  refine pcall_of l14_eq rfl ?_
  have z0 : ((0 : Nat) : Int) = 0 := rfl
  (repeat' (first
 | (first | refine awp_seq ?_ | refine awp_block ?_)
 | ((first | refine awp_reg ?_ | refine awp_condB ?_ | refine awp_skip ?_ | refine awp_exit ?_); simp (disch := omega) only [push_cast,seval,l14r0,l14r1,l14r2,l14r3,l14r4,l14r5,l14r6,l14r7,l14r8,l14r9,l14r10,l14r11,l14r12,z0])
 | ((first | refine condB_split (fun h => ?_) (fun h => ?_) | refine gIf_split (fun h => ?_) (fun h => ?_) | refine qIf_split (fun h => ?_) (fun h => ?_)) <;> (try simp only [h]) <;> (try simp only [bitvec_to_nat] at h) <;> (try simp only [h]) <;> (first | (exfalso; omega) | (focus (exfalso; simp_all; done)) | (simp (disch := omega) only [push_cast,seval,z0]) | skip))
 | ((first | ((with_reducible refine qcallI_of (f := 13) [544] false ?_); simp (disch := omega) only [push_cast,seval,z0]; (refine qcall1D (id := 544) (markIntS_ok _ _ _ ?_ ?_) (by first | ((simp (disch := omega) only [push_cast,seval,z0]); done) | ((simp (disch := omega) only [push_cast,seval,z0]); rfl)) (by decide) ⟨_,_,rfl,rfl⟩ ?_; (iterate 2 (exact sd)); rintro _ _ ⟨rfl,rfl⟩)) | ((with_reducible refine qcallI_of (f := 13) [672] false ?_); simp (disch := omega) only [push_cast,seval,z0]; (refine qcall1D (id := 672) (markIntS_ok _ _ _ ?_ ?_) (by first | ((simp (disch := omega) only [push_cast,seval,z0]); done) | ((simp (disch := omega) only [push_cast,seval,z0]); rfl)) (by decide) ⟨_,_,rfl,rfl⟩ ?_; (iterate 2 (exact sd)); rintro _ _ ⟨rfl,rfl⟩)) | ((with_reducible refine callD_ids (f := 13) [544] false ?_); simp (disch := omega) only [push_cast,seval,z0]; (refine call1D (id := 544) (markIntS_ok _ _ _ ?_ ?_) (by first | ((simp (disch := omega) only [push_cast,seval,z0]); done) | ((simp (disch := omega) only [push_cast,seval,z0]); rfl)) ?_; (iterate 2 (exact sd)); rintro _ _ ⟨rfl,rfl⟩)) | ((with_reducible refine callD_ids (f := 13) [672] false ?_); simp (disch := omega) only [push_cast,seval,z0]; (refine call1D (id := 672) (markIntS_ok _ _ _ ?_ ?_) (by first | ((simp (disch := omega) only [push_cast,seval,z0]); done) | ((simp (disch := omega) only [push_cast,seval,z0]); rfl)) ?_; (iterate 2 (exact sd)); rintro _ _ ⟨rfl,rfl⟩))) <;> (try simp (disch := omega) only [push_cast,seval,z0]))
 | (refine awp_ret ⟨.inr rfl,_,rfl,?_⟩; (try simp (disch := omega) only [push_cast,seval,z0]))))
  refine awp_loop (fun _ : Nat => mkS [(0,.rows false [] 0),(1,.int .i64 k),(5,.int .i64 0)] []) (fun k => True) (fun k => 0) 0 trivial ?_ ?_
  · (refine Sub.of_lists ?_ ?_ ?_ ?_ ?_ <;> simp [Vw.mkS,Vw.lk,Vw.hk,AV.inn,innL,innL_ints,innL_append,innL_rep,-List.map_set,-List.getD_eq_getElem?_getD])
  · intro _ _
    (repeat' (first
 | (first | refine awp_seq ?_ | refine awp_block ?_)
 | ((first | refine awp_reg ?_ | refine awp_condB ?_ | refine awp_skip ?_ | refine awp_exit ?_); simp (disch := omega) only [push_cast,seval,l14r0,l14r1,l14r2,l14r3,l14r4,l14r5,l14r6,l14r7,l14r8,l14r9,l14r10,l14r11,l14r12,z0])
 | ((first | refine condB_split (fun h => ?_) (fun h => ?_) | refine gIf_split (fun h => ?_) (fun h => ?_) | refine qIf_split (fun h => ?_) (fun h => ?_)) <;> (try simp only [h]) <;> (try simp only [bitvec_to_nat] at h) <;> (try simp only [h]) <;> (first | (exfalso; omega) | (focus (exfalso; simp_all; done)) | (simp (disch := omega) only [push_cast,seval,z0]) | skip))
 | ((first | ((with_reducible refine qcallI_of (f := 13) [544] false ?_); simp (disch := omega) only [push_cast,seval,z0]; (refine qcall1D (id := 544) (markIntS_ok _ _ _ ?_ ?_) (by first | ((simp (disch := omega) only [push_cast,seval,z0]); done) | ((simp (disch := omega) only [push_cast,seval,z0]); rfl)) (by decide) ⟨_,_,rfl,rfl⟩ ?_; (iterate 2 (exact sd)); rintro _ _ ⟨rfl,rfl⟩)) | ((with_reducible refine qcallI_of (f := 13) [672] false ?_); simp (disch := omega) only [push_cast,seval,z0]; (refine qcall1D (id := 672) (markIntS_ok _ _ _ ?_ ?_) (by first | ((simp (disch := omega) only [push_cast,seval,z0]); done) | ((simp (disch := omega) only [push_cast,seval,z0]); rfl)) (by decide) ⟨_,_,rfl,rfl⟩ ?_; (iterate 2 (exact sd)); rintro _ _ ⟨rfl,rfl⟩)) | ((with_reducible refine callD_ids (f := 13) [544] false ?_); simp (disch := omega) only [push_cast,seval,z0]; (refine call1D (id := 544) (markIntS_ok _ _ _ ?_ ?_) (by first | ((simp (disch := omega) only [push_cast,seval,z0]); done) | ((simp (disch := omega) only [push_cast,seval,z0]); rfl)) ?_; (iterate 2 (exact sd)); rintro _ _ ⟨rfl,rfl⟩)) | ((with_reducible refine callD_ids (f := 13) [672] false ?_); simp (disch := omega) only [push_cast,seval,z0]; (refine call1D (id := 672) (markIntS_ok _ _ _ ?_ ?_) (by first | ((simp (disch := omega) only [push_cast,seval,z0]); done) | ((simp (disch := omega) only [push_cast,seval,z0]); rfl)) ?_; (iterate 2 (exact sd)); rintro _ _ ⟨rfl,rfl⟩))) <;> (try simp (disch := omega) only [push_cast,seval,z0]))
 | (refine awp_ret ⟨.inr rfl,_,rfl,?_⟩; (try simp (disch := omega) only [push_cast,seval,z0]))))


theorem heldExS0_ok (k : Int) : PCall Try.prog 16 [.rows false [] 0,.int .i64 k] (fun r => r = .int .i64 k) := by
  refine pcall_of l16_eq rfl ?_
  have z0 : ((0 : Nat) : Int) = 0 := rfl
  (repeat' (first
 | (first | refine awp_seq ?_ | refine awp_block ?_)
 | ((first | refine awp_reg ?_ | refine awp_condB ?_ | refine awp_skip ?_ | refine awp_exit ?_); simp (disch := omega) only [push_cast,seval,l16r0,l16r1,l16r2,l16r3,l16r4,l16r5,l16r6,l16r7,l16r8,l16r9,l16r10,l16r11,l16r12,l16r13,l16r14,l16r15,l16r16,l16r17,l16r18,l16r19,z0])
 | ((first | refine condB_split (fun h => ?_) (fun h => ?_) | refine gIf_split (fun h => ?_) (fun h => ?_) | refine qIf_split (fun h => ?_) (fun h => ?_)) <;> (try simp only [h]) <;> (try simp only [bitvec_to_nat] at h) <;> (try simp only [h]) <;> (first | (exfalso; omega) | (focus (exfalso; simp_all; done)) | (simp (disch := omega) only [push_cast,seval,z0]) | skip))
 | ((first | refine callD_of false ?_ | refine qcallD_of false ?_); simp (disch := omega) only [push_cast,seval,z0])
 | ((first | ((first | refine call0D (BCall.ofP (heldIntS_ok _ _ ?_)) ?_ | refine qcall0D (BCall.ofP (heldIntS_ok _ _ ?_)) ⟨_,_,rfl,rfl⟩ ?_); (exact sd); rintro _ _ ⟨rfl,rfl⟩)) <;> (try simp (disch := omega) only [push_cast,seval,z0]))
 | (refine awp_ret ⟨.inr rfl,_,rfl,?_⟩; (try simp (disch := omega) only [push_cast,seval,z0]))))
  refine awp_loop (fun _ : Nat => mkS [(0,.rows false [] 0),(1,.int .i64 k),(5,.int .i64 0)] []) (fun k => True) (fun k => 0) 0 trivial ?_ ?_
  · (refine Sub.of_lists ?_ ?_ ?_ ?_ ?_ <;> simp [Vw.mkS,Vw.lk,Vw.hk,AV.inn,innL,innL_ints,innL_append,innL_rep,-List.map_set,-List.getD_eq_getElem?_getD])
  · intro _ _
    (repeat' (first
 | (first | refine awp_seq ?_ | refine awp_block ?_)
 | ((first | refine awp_reg ?_ | refine awp_condB ?_ | refine awp_skip ?_ | refine awp_exit ?_); simp (disch := omega) only [push_cast,seval,l16r0,l16r1,l16r2,l16r3,l16r4,l16r5,l16r6,l16r7,l16r8,l16r9,l16r10,l16r11,l16r12,l16r13,l16r14,l16r15,l16r16,l16r17,l16r18,l16r19,z0])
 | ((first | refine condB_split (fun h => ?_) (fun h => ?_) | refine gIf_split (fun h => ?_) (fun h => ?_) | refine qIf_split (fun h => ?_) (fun h => ?_)) <;> (try simp only [h]) <;> (try simp only [bitvec_to_nat] at h) <;> (try simp only [h]) <;> (first | (exfalso; omega) | (focus (exfalso; simp_all; done)) | (simp (disch := omega) only [push_cast,seval,z0]) | skip))
 | ((first | refine callD_of false ?_ | refine qcallD_of false ?_); simp (disch := omega) only [push_cast,seval,z0])
 | ((first | ((first | refine call0D (BCall.ofP (heldIntS_ok _ _ ?_)) ?_ | refine qcall0D (BCall.ofP (heldIntS_ok _ _ ?_)) ⟨_,_,rfl,rfl⟩ ?_); (exact sd); rintro _ _ ⟨rfl,rfl⟩)) <;> (try simp (disch := omega) only [push_cast,seval,z0]))
 | (refine awp_ret ⟨.inr rfl,_,rfl,?_⟩; (try simp (disch := omega) only [push_cast,seval,z0]))))


theorem eqBuf0_ok (x y : List Int) (n m : Nat) (hn : x.length = n) (hm : y.length = m) (hb : n ≤ 1099511627776 ∧ m ≤ 1099511627776) : PCall Try.prog 6 [.agg [.rows false (IL x) n,.rows false [] 0],.agg [.rows false (IL y) m,.rows false [] 0]] (fun r => r = .bool (decide (x = y))) := by
  subst hn hm
  refine pcall_of l6_eq rfl ?_
  (repeat' (first
 | (first | refine awp_seq ?_ | refine awp_block ?_)
 | ((first | refine awp_reg ?_ | refine awp_condB ?_ | refine awp_skip ?_ | refine awp_exit ?_); simp (disch := omega) only [push_cast,seval,l6r0,l6r1,l6r2,l6r3,l6r4,l6r5,decide_true])
 | ((first | refine condB_split (fun h => ?_) (fun h => ?_) | refine gIf_split (fun h => ?_) (fun h => ?_) | refine qIf_split (fun h => ?_) (fun h => ?_)) <;> (try simp only [h]) <;> (try simp only [bitvec_to_nat] at h) <;> (try simp only [h]) <;> (first | (exfalso; omega) | (focus (exfalso; simp_all; done)) | (simp (disch := omega) only [push_cast,seval,decide_true]) | skip))
 | ((first | refine callD_of false ?_ | refine qcallD_of false ?_); simp (disch := omega) only [push_cast,seval,decide_true])
 | ((first | ((first | refine call0D (BCall.ofP (eqIntS_ok _ _ _ _ ?_ ?_ ?_)) ?_ | refine qcall0D (BCall.ofP (eqIntS_ok _ _ _ _ ?_ ?_ ?_)) ⟨_,_,rfl,rfl⟩ ?_); (iterate 3 (exact sd)); rintro _ _ ⟨rfl,rfl⟩) | ((first | refine call0D (BCall.ofP (eqExS0_ok)) ?_ | refine qcall0D (BCall.ofP (eqExS0_ok)) ⟨_,_,rfl,rfl⟩ ?_); rintro _ _ ⟨rfl,rfl⟩)) <;> (try simp (disch := omega) only [push_cast,seval,decide_true]))
 | (refine awp_ret ⟨.inr rfl,_,rfl,?_⟩; (try simp (disch := omega) only [push_cast,seval,decide_true]))))
  all_goals (try simp_all)


theorem markBuf0_ok (x : List Int) (n : Nat) (k : Int) (hn : x.length = n) (hk : (0 ≤ k ∧ k ≤ 1000000) ∧ n ≤ 1000) : BCall Try.prog 7 [.agg [.own 0 n 1,.own 1 0 5],.int .i64 k] [IL x,[]] (fun r H' => r = .int .i64 (k + n) ∧ H' = [IL (upFrom k n),[]]) := by
  subst hn
  refine bcall_of (pins := [0,1]) (pin := 2) l7_eq rfl rfl rfl ?_
  (repeat' (first
 | (first | refine awp_seq ?_ | refine awp_block ?_)
 | ((first | refine awp_reg ?_ | refine awp_condB ?_ | refine awp_skip ?_ | refine awp_exit ?_); simp (disch := omega) only [push_cast,seval,l7r0,l7r1,l7r2,l7r3,List.length_nil,Nat.zero_mul,List.map_nil])
 | ((first | refine condB_split (fun h => ?_) (fun h => ?_) | refine gIf_split (fun h => ?_) (fun h => ?_) | refine qIf_split (fun h => ?_) (fun h => ?_)) <;> (try simp only [h]) <;> (try simp only [bitvec_to_nat] at h) <;> (try simp only [h]) <;> (first | (exfalso; omega) | (focus (exfalso; simp_all; done)) | (simp (disch := omega) only [push_cast,seval,List.length_nil,Nat.zero_mul,List.map_nil]) | skip))
 | ((first | ((with_reducible refine qcallI_of (f := 13) [128] false ?_); simp (disch := omega) only [push_cast,seval,List.length_nil,Nat.zero_mul,List.map_nil]; (refine qcall1D (id := 128) (markIntS_ok _ _ _ ?_ ?_) (by first | ((simp (disch := omega) only [push_cast,seval,List.length_nil,Nat.zero_mul,List.map_nil]); done) | ((simp (disch := omega) only [push_cast,seval,List.length_nil,Nat.zero_mul,List.map_nil]); rfl)) (by decide) ⟨_,_,rfl,rfl⟩ ?_; (iterate 2 (exact sd)); rintro _ _ ⟨rfl,rfl⟩)) | ((with_reducible refine qcallI_of (f := 13) [192] false ?_); simp (disch := omega) only [push_cast,seval,List.length_nil,Nat.zero_mul,List.map_nil]; (refine qcall1D (id := 192) (markIntS_ok _ _ _ ?_ ?_) (by first | ((simp (disch := omega) only [push_cast,seval,List.length_nil,Nat.zero_mul,List.map_nil]); done) | ((simp (disch := omega) only [push_cast,seval,List.length_nil,Nat.zero_mul,List.map_nil]); rfl)) (by decide) ⟨_,_,rfl,rfl⟩ ?_; (iterate 2 (exact sd)); rintro _ _ ⟨rfl,rfl⟩)) | ((with_reducible refine qcallI_of (f := 13) [0] false ?_); simp (disch := omega) only [push_cast,seval,List.length_nil,Nat.zero_mul,List.map_nil]; (refine qcall1D (id := 0) (markIntS_ok _ _ _ ?_ ?_) (by first | ((simp (disch := omega) only [push_cast,seval,List.length_nil,Nat.zero_mul,List.map_nil]); done) | ((simp (disch := omega) only [push_cast,seval,List.length_nil,Nat.zero_mul,List.map_nil]); rfl)) (by decide) ⟨_,_,rfl,rfl⟩ ?_; (iterate 2 (exact sd)); rintro _ _ ⟨rfl,rfl⟩)) | ((with_reducible refine qcallI_of (f := 13) [1] false ?_); simp (disch := omega) only [push_cast,seval,List.length_nil,Nat.zero_mul,List.map_nil]; (refine qcall1D (id := 1) (markIntS_ok _ _ _ ?_ ?_) (by first | ((simp (disch := omega) only [push_cast,seval,List.length_nil,Nat.zero_mul,List.map_nil]); done) | ((simp (disch := omega) only [push_cast,seval,List.length_nil,Nat.zero_mul,List.map_nil]); rfl)) (by decide) ⟨_,_,rfl,rfl⟩ ?_; (iterate 2 (exact sd)); rintro _ _ ⟨rfl,rfl⟩)) | ((with_reducible refine callD_ids (f := 13) [128] false ?_); simp (disch := omega) only [push_cast,seval,List.length_nil,Nat.zero_mul,List.map_nil]; (refine call1D (id := 128) (markIntS_ok _ _ _ ?_ ?_) (by first | ((simp (disch := omega) only [push_cast,seval,List.length_nil,Nat.zero_mul,List.map_nil]); done) | ((simp (disch := omega) only [push_cast,seval,List.length_nil,Nat.zero_mul,List.map_nil]); rfl)) ?_; (iterate 2 (exact sd)); rintro _ _ ⟨rfl,rfl⟩)) | ((with_reducible refine callD_ids (f := 13) [192] false ?_); simp (disch := omega) only [push_cast,seval,List.length_nil,Nat.zero_mul,List.map_nil]; (refine call1D (id := 192) (markIntS_ok _ _ _ ?_ ?_) (by first | ((simp (disch := omega) only [push_cast,seval,List.length_nil,Nat.zero_mul,List.map_nil]); done) | ((simp (disch := omega) only [push_cast,seval,List.length_nil,Nat.zero_mul,List.map_nil]); rfl)) ?_; (iterate 2 (exact sd)); rintro _ _ ⟨rfl,rfl⟩)) | ((with_reducible refine callD_ids (f := 13) [0] false ?_); simp (disch := omega) only [push_cast,seval,List.length_nil,Nat.zero_mul,List.map_nil]; (refine call1D (id := 0) (markIntS_ok _ _ _ ?_ ?_) (by first | ((simp (disch := omega) only [push_cast,seval,List.length_nil,Nat.zero_mul,List.map_nil]); done) | ((simp (disch := omega) only [push_cast,seval,List.length_nil,Nat.zero_mul,List.map_nil]); rfl)) ?_; (iterate 2 (exact sd)); rintro _ _ ⟨rfl,rfl⟩)) | ((with_reducible refine callD_ids (f := 13) [1] false ?_); simp (disch := omega) only [push_cast,seval,List.length_nil,Nat.zero_mul,List.map_nil]; (refine call1D (id := 1) (markIntS_ok _ _ _ ?_ ?_) (by first | ((simp (disch := omega) only [push_cast,seval,List.length_nil,Nat.zero_mul,List.map_nil]); done) | ((simp (disch := omega) only [push_cast,seval,List.length_nil,Nat.zero_mul,List.map_nil]); rfl)) ?_; (iterate 2 (exact sd)); rintro _ _ ⟨rfl,rfl⟩))) <;> (try simp (disch := omega) only [push_cast,seval,List.length_nil,Nat.zero_mul,List.map_nil]))
 | ((first | refine callD_of false ?_ | refine qcallD_of false ?_); simp (disch := omega) only [push_cast,seval,List.length_nil,Nat.zero_mul,List.map_nil])
 | ((first | ((first | refine call0D (BCall.ofP (markExS0_ok _)) ?_ | refine qcall0D (BCall.ofP (markExS0_ok _)) ⟨_,_,rfl,rfl⟩ ?_); rintro _ _ ⟨rfl,rfl⟩)) <;> (try simp (disch := omega) only [push_cast,seval,List.length_nil,Nat.zero_mul,List.map_nil]))
 | (refine awp_ret ⟨.inr rfl,[],[],_,by decide,rfl,?_⟩; (try simp (disch := omega) only [push_cast,seval,↓allMem_nil,↓allMem_cons,↓List.map_cons,↓List.map_nil,List.length_nil,Nat.zero_mul,List.map_nil]))))
  all_goals (try exact ⟨rfl,rfl⟩)


theorem heldBuf0_ok (n : Nat) (k : Int) (hk : (0 ≤ k ∧ k ≤ 1000000) ∧ n ≤ 1000) : PCall Try.prog 8 [.agg [.rows false (IL (upFrom k n)) n,.rows false [] 0],.int .i64 k] (fun r => r = .int .i64 (k + n)) := by
  refine pcall_of l8_eq rfl ?_
  (repeat' (first
 | (first | refine awp_seq ?_ | refine awp_block ?_)
 | ((first | refine awp_reg ?_ | refine awp_condB ?_ | refine awp_skip ?_ | refine awp_exit ?_); simp (disch := omega) only [push_cast,seval,l8r0,l8r1,l8r2,l8r3,l8r4,l8r5,l8r6,l8r7])
 | ((first | refine condB_split (fun h => ?_) (fun h => ?_) | refine gIf_split (fun h => ?_) (fun h => ?_) | refine qIf_split (fun h => ?_) (fun h => ?_)) <;> (try simp only [h]) <;> (try simp only [bitvec_to_nat] at h) <;> (try simp only [h]) <;> (first | (exfalso; omega) | (focus (exfalso; simp_all; done)) | (simp (disch := omega) only [push_cast,seval]) | skip))
 | ((first | refine callD_of false ?_ | refine qcallD_of false ?_); simp (disch := omega) only [push_cast,seval])
 | ((first | ((first | refine call0D (BCall.ofP (heldIntS_ok _ _ ?_)) ?_ | refine qcall0D (BCall.ofP (heldIntS_ok _ _ ?_)) ⟨_,_,rfl,rfl⟩ ?_); (exact sd); rintro _ _ ⟨rfl,rfl⟩) | ((first | refine call0D (BCall.ofP (heldExS0_ok _)) ?_ | refine qcall0D (BCall.ofP (heldExS0_ok _)) ⟨_,_,rfl,rfl⟩ ?_); rintro _ _ ⟨rfl,rfl⟩)) <;> (try simp (disch := omega) only [push_cast,seval]))
 | (refine awp_ret ⟨.inr rfl,_,rfl,?_⟩; (try simp (disch := omega) only [push_cast,seval]))))


theorem iNewBuf_ok (s : Int) : BCall Try.prog 5 [.int .i64 s] [] (fun r H' => r = .agg [.own 0 (nbN s) 1,.own 1 0 5] ∧ H' = [IL (List.replicate (nbN s) 0),[]]) := by
  refine bcall_of (pins := []) (pin := 0) l5_eq rfl rfl rfl ?_
  by_cases h : 0 ≤ s ∧ s ≤ 60
  · have hw : (decide (0 ≤ s) && decide (s ≤ 60)) = true := by rw [Bool.and_eq_true,decide_eq_true_eq,decide_eq_true_eq]; exact h
    have hN : nbN s = s.toNat := if_pos h
    rw [hN]
    obtain ⟨n,rfl⟩ : ∃ n : Nat,s = n := ⟨s.toNat,by omega⟩
    rw [Int.toNat_natCast]
    (repeat' (first
 | (first | refine awp_seq ?_ | refine awp_block ?_)
 | ((first | refine awp_reg ?_ | refine awp_condB ?_ | refine awp_skip ?_ | refine awp_exit ?_); simp (disch := omega) only [push_cast,seval,l5r0,l5r1,l5r2,l5r3,hw])
 | ((first | refine condB_split (fun h => ?_) (fun h => ?_) | refine gIf_split (fun h => ?_) (fun h => ?_) | refine qIf_split (fun h => ?_) (fun h => ?_)) <;> (try simp only [h]) <;> (try simp only [bitvec_to_nat] at h) <;> (try simp only [h]) <;> (first | (exfalso; omega) | (focus (exfalso; simp_all; done)) | (simp (disch := omega) only [push_cast,seval,hw]) | skip))
 | ((first | refine callD_of false ?_ | refine qcallD_of false ?_); simp (disch := omega) only [push_cast,seval,hw])
 | ((first | ((first | refine call0D (BCall.ofP (validCount_ok _)) ?_ | refine qcall0D (BCall.ofP (validCount_ok _)) ⟨_,_,rfl,rfl⟩ ?_); rintro _ _ ⟨rfl,rfl⟩) | ((first | refine call0D (BCall.ofP (vCount_ok _)) ?_ | refine qcall0D (BCall.ofP (vCount_ok _)) ⟨_,_,rfl,rfl⟩ ?_); rintro _ _ ⟨rfl,rfl⟩)) <;> (try simp (disch := omega) only [push_cast,seval,hw]))
 | (refine awp_ret ⟨.inr rfl,[128,16000],[(16000,5)],_,by decide,rfl,?_⟩; (try simp (disch := omega) only [push_cast,seval,↓allMem_nil,↓allMem_cons,↓List.map_cons,↓List.map_nil,hw]))))
    all_goals (try simp)
  · have hw : (decide (0 ≤ s) && decide (s ≤ 60)) = false := by rw [Bool.and_eq_false_iff,decide_eq_false_iff_not,decide_eq_false_iff_not]; omega
    have hN : nbN s = 0 := if_neg h
    rw [hN]
    (repeat' (first
 | (first | refine awp_seq ?_ | refine awp_block ?_)
 | ((first | refine awp_reg ?_ | refine awp_condB ?_ | refine awp_skip ?_ | refine awp_exit ?_); simp (disch := omega) only [push_cast,seval,l5r0,l5r1,l5r2,l5r3,hw])
 | ((first | refine condB_split (fun h => ?_) (fun h => ?_) | refine gIf_split (fun h => ?_) (fun h => ?_) | refine qIf_split (fun h => ?_) (fun h => ?_)) <;> (try simp only [h]) <;> (try simp only [bitvec_to_nat] at h) <;> (try simp only [h]) <;> (first | (exfalso; omega) | (focus (exfalso; simp_all; done)) | (simp (disch := omega) only [push_cast,seval,hw]) | skip))
 | ((first | refine callD_of false ?_ | refine qcallD_of false ?_); simp (disch := omega) only [push_cast,seval,hw])
 | ((first | ((first | refine call0D (BCall.ofP (validCount_ok _)) ?_ | refine qcall0D (BCall.ofP (validCount_ok _)) ⟨_,_,rfl,rfl⟩ ?_); rintro _ _ ⟨rfl,rfl⟩) | ((first | refine call0D (BCall.ofP (vCount_ok _)) ?_ | refine qcall0D (BCall.ofP (vCount_ok _)) ⟨_,_,rfl,rfl⟩ ?_); rintro _ _ ⟨rfl,rfl⟩)) <;> (try simp (disch := omega) only [push_cast,seval,hw]))
 | (refine awp_ret ⟨.inr rfl,[16000,16016],[(16000,1),(16016,5)],_,by decide,rfl,?_⟩; (try simp (disch := omega) only [push_cast,seval,↓allMem_nil,↓allMem_cons,↓List.map_cons,↓List.map_nil,hw]))))
    all_goals (try simp)


theorem sNewBuf_ok (s : Int) : BCall Try.prog 4 [.int .i64 s] [] (fun r H' => r = .agg [.own 0 (nbN s) 1,.own 1 0 5] ∧ H' = [IL (List.replicate (nbN s) 0),[]]) := by
  refine bcall_of (pins := []) (pin := 0) l4_eq rfl rfl rfl ?_
  by_cases h : 0 ≤ s ∧ s ≤ 60
  · have hw : (decide (0 ≤ s) && decide (s ≤ 60)) = true := by rw [Bool.and_eq_true,decide_eq_true_eq,decide_eq_true_eq]; exact h
    have hN : nbN s = s.toNat := if_pos h
    rw [hN]
    obtain ⟨n,rfl⟩ : ∃ n : Nat,s = n := ⟨s.toNat,by omega⟩
    rw [Int.toNat_natCast]
    (repeat' (first
 | (first | refine awp_seq ?_ | refine awp_block ?_)
 | ((first | refine awp_reg ?_ | refine awp_condB ?_ | refine awp_skip ?_ | refine awp_exit ?_); simp (disch := omega) only [push_cast,seval,l4r0,l4r1,l4r2,l4r3,hw])
 | ((first | refine condB_split (fun h => ?_) (fun h => ?_) | refine gIf_split (fun h => ?_) (fun h => ?_) | refine qIf_split (fun h => ?_) (fun h => ?_)) <;> (try simp only [h]) <;> (try simp only [bitvec_to_nat] at h) <;> (try simp only [h]) <;> (first | (exfalso; omega) | (focus (exfalso; simp_all; done)) | (simp (disch := omega) only [push_cast,seval,hw]) | skip))
 | ((first | refine callD_of false ?_ | refine qcallD_of false ?_); simp (disch := omega) only [push_cast,seval,hw])
 | ((first | ((first | refine call0D (BCall.ofP (inRange_ok _ _ _)) ?_ | refine qcall0D (BCall.ofP (inRange_ok _ _ _)) ⟨_,_,rfl,rfl⟩ ?_); rintro _ _ ⟨rfl,rfl⟩)) <;> (try simp (disch := omega) only [push_cast,seval,hw]))
 | (refine awp_ret ⟨.inr rfl,[128,16000],[(16000,5)],_,by decide,rfl,?_⟩; (try simp (disch := omega) only [push_cast,seval,↓allMem_nil,↓allMem_cons,↓List.map_cons,↓List.map_nil,hw]))))
    all_goals (try simp)
  · have hw : (decide (0 ≤ s) && decide (s ≤ 60)) = false := by rw [Bool.and_eq_false_iff,decide_eq_false_iff_not,decide_eq_false_iff_not]; omega
    have hN : nbN s = 0 := if_neg h
    rw [hN]
    (repeat' (first
 | (first | refine awp_seq ?_ | refine awp_block ?_)
 | ((first | refine awp_reg ?_ | refine awp_condB ?_ | refine awp_skip ?_ | refine awp_exit ?_); simp (disch := omega) only [push_cast,seval,l4r0,l4r1,l4r2,l4r3,hw])
 | ((first | refine condB_split (fun h => ?_) (fun h => ?_) | refine gIf_split (fun h => ?_) (fun h => ?_) | refine qIf_split (fun h => ?_) (fun h => ?_)) <;> (try simp only [h]) <;> (try simp only [bitvec_to_nat] at h) <;> (try simp only [h]) <;> (first | (exfalso; omega) | (focus (exfalso; simp_all; done)) | (simp (disch := omega) only [push_cast,seval,hw]) | skip))
 | ((first | refine callD_of false ?_ | refine qcallD_of false ?_); simp (disch := omega) only [push_cast,seval,hw])
 | ((first | ((first | refine call0D (BCall.ofP (inRange_ok _ _ _)) ?_ | refine qcall0D (BCall.ofP (inRange_ok _ _ _)) ⟨_,_,rfl,rfl⟩ ?_); rintro _ _ ⟨rfl,rfl⟩)) <;> (try simp (disch := omega) only [push_cast,seval,hw]))
 | (refine awp_ret ⟨.inr rfl,[16000,16016],[(16000,1),(16016,5)],_,by decide,rfl,?_⟩; (try simp (disch := omega) only [push_cast,seval,↓allMem_nil,↓allMem_cons,↓List.map_cons,↓List.map_nil,hw]))))
    all_goals (try simp)


set_option maxHeartbeats 8000000 in
theorem lNewBuf_ok (s : Int) : PCall Try.prog 3 [.int .i64 s] (fun r => r = .bool true) := by
  refine pcall_of l3_eq rfl ?_
  have hN := nbN_le s
  obtain ⟨X,hX⟩ : ∃ X,List.replicate (nbN s) (0 : Int) = X := ⟨_,rfl⟩
  have hXl : X.length = nbN s := by rw [← hX,List.length_replicate]
  generalize hn : nbN s = n at *
  (repeat' (first
 | (first | refine awp_seq ?_ | refine awp_block ?_)
 | ((first | refine awp_reg ?_ | refine awp_condB ?_ | refine awp_skip ?_ | refine awp_exit ?_); simp (disch := omega) only [push_cast,seval,l3r0,l3r1,l3r2,l3r3,l3r4,l3r5,l3r6,l3r7,l3r8,l3r9,l3r10,l3r11,l3r12,l3r13,l3r14,l3r15,l3r16,l3r17,l3r18,l3r19,l3r20,l3r21,l3r22,hn,hX,hXl,Nat.le_refl,List.length_nil,Nat.zero_mul,List.map_nil,decide_true])
 | ((first | refine condB_split (fun h => ?_) (fun h => ?_) | refine gIf_split (fun h => ?_) (fun h => ?_) | refine qIf_split (fun h => ?_) (fun h => ?_)) <;> (try simp only [h]) <;> (try simp only [bitvec_to_nat] at h) <;> (try simp only [h]) <;> (first | (exfalso; omega) | (focus (exfalso; simp_all; done)) | (simp (disch := omega) only [push_cast,seval,hn,hX,hXl,Nat.le_refl,List.length_nil,Nat.zero_mul,List.map_nil,decide_true]) | skip))
 | ((first | ((with_reducible refine callD_ids (f := 7) [176,177] false ?_); simp (disch := omega) only [push_cast,seval,hn,hX,hXl,Nat.le_refl,List.length_nil,Nat.zero_mul,List.map_nil,decide_true]; (refine call2D (id := 176) (id' := 177) (by decide) (markBuf0_ok _ _ _ ?_ ?_) (by first | ((simp (disch := omega) only [push_cast,seval,hn,hX,hXl,Nat.le_refl,List.length_nil,Nat.zero_mul,List.map_nil,decide_true]); done) | ((simp (disch := omega) only [push_cast,seval,hn,hX,hXl,Nat.le_refl,List.length_nil,Nat.zero_mul,List.map_nil,decide_true]); rfl)) (by first | ((simp (disch := omega) only [push_cast,seval,hn,hX,hXl,Nat.le_refl,List.length_nil,Nat.zero_mul,List.map_nil,decide_true]); done) | ((simp (disch := omega) only [push_cast,seval,hn,hX,hXl,Nat.le_refl,List.length_nil,Nat.zero_mul,List.map_nil,decide_true]); rfl)) ?_; (iterate 2 (exact sd)); rintro _ _ ⟨rfl,rfl⟩)) | ((with_reducible refine callD_ids (f := 7) [288,289] false ?_); simp (disch := omega) only [push_cast,seval,hn,hX,hXl,Nat.le_refl,List.length_nil,Nat.zero_mul,List.map_nil,decide_true]; (refine call2D (id := 288) (id' := 289) (by decide) (markBuf0_ok _ _ _ ?_ ?_) (by first | ((simp (disch := omega) only [push_cast,seval,hn,hX,hXl,Nat.le_refl,List.length_nil,Nat.zero_mul,List.map_nil,decide_true]); done) | ((simp (disch := omega) only [push_cast,seval,hn,hX,hXl,Nat.le_refl,List.length_nil,Nat.zero_mul,List.map_nil,decide_true]); rfl)) (by first | ((simp (disch := omega) only [push_cast,seval,hn,hX,hXl,Nat.le_refl,List.length_nil,Nat.zero_mul,List.map_nil,decide_true]); done) | ((simp (disch := omega) only [push_cast,seval,hn,hX,hXl,Nat.le_refl,List.length_nil,Nat.zero_mul,List.map_nil,decide_true]); rfl)) ?_; (iterate 2 (exact sd)); rintro _ _ ⟨rfl,rfl⟩))) <;> (try simp (disch := omega) only [push_cast,seval,hn,hX,hXl,Nat.le_refl,List.length_nil,Nat.zero_mul,List.map_nil,decide_true]))
 | ((first | refine callD_of false ?_ | refine qcallD_of false ?_); simp (disch := omega) only [push_cast,seval,hn,hX,hXl,Nat.le_refl,List.length_nil,Nat.zero_mul,List.map_nil,decide_true])
 | ((first | ((first | refine call0D (sNewBuf_ok _) ?_ | refine qcall0D (sNewBuf_ok _) ⟨_,_,rfl,rfl⟩ ?_); rintro _ _ ⟨rfl,rfl⟩) | ((first | refine call0D (iNewBuf_ok _) ?_ | refine qcall0D (iNewBuf_ok _) ⟨_,_,rfl,rfl⟩ ?_); rintro _ _ ⟨rfl,rfl⟩) | ((first | refine call0D (BCall.ofP (eqBuf0_ok _ _ _ _ ?_ ?_ ?_)) ?_ | refine qcall0D (BCall.ofP (eqBuf0_ok _ _ _ _ ?_ ?_ ?_)) ⟨_,_,rfl,rfl⟩ ?_); (iterate 3 (exact sd)); rintro _ _ ⟨rfl,rfl⟩) | ((first | refine call0D (BCall.ofP (heldBuf0_ok _ _ ?_)) ?_ | refine qcall0D (BCall.ofP (heldBuf0_ok _ _ ?_)) ⟨_,_,rfl,rfl⟩ ?_); (exact sd); rintro _ _ ⟨rfl,rfl⟩)) <;> (try simp (disch := omega) only [push_cast,seval,hn,hX,hXl,Nat.le_refl,List.length_nil,Nat.zero_mul,List.map_nil,decide_true]))
 | (refine awp_ret ⟨.inr rfl,_,rfl,?_⟩; (try simp (disch := omega) only [push_cast,seval,hn,hX,hXl,Nat.le_refl,List.length_nil,Nat.zero_mul,List.map_nil,decide_true]))))
  all_goals (try simp)

end Go.Proofs.Ytmdocjjciedohaa
