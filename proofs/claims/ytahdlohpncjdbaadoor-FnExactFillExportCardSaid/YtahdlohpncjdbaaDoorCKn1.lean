import Derived.Test.YtahdlohpncjdbaaDoorCKm7
import Derived.Test.YtahdlohpncjdbaaDoorCM1
import Derived.Test.YtahdlohpncjdbaaDoorCW3
set_option linter.unusedSimpArgs false
set_option linter.unusedVariables false
set_option maxRecDepth 4000
set_option maxHeartbeats 4000000
namespace Go.Proofs.YtahdlohpncjdbaaDoor
open VwM Vw Go
set_option linter.unusedSectionVars false
variable [SentA]

theorem mul64_ok (k : Int) (hk : 0 ≤ k ∧ k ≤ 1000) : PCall Tryd.prog 106 [.int .u64 1,.int .u64 k] (fun r => r = .tup [.int .u64 0,.int .u64 k]) := by
  obtain ⟨h0,h1⟩ := hk
  have a1 : bits .and .u64 1 4294967295 = 1 := and_mask ⟨by decide,by decide⟩
  have a2 : bits .and .u64 k 4294967295 = k := and_mask ⟨h0,by omega⟩
  have a3 : bits .and .u64 0 4294967295 = 0 := and_mask ⟨by decide,by decide⟩
  have s1 : Int.fdiv 1 4294967296 = 0 := by decide
  have s2 : Int.fdiv k 4294967296 = 0 := shr_small ⟨h0,by omega⟩
  have s3 : Int.fdiv 0 4294967296 = 0 := by decide
  have b1 : IntKind.bits .u64 = 64 := rfl
  have e32 : (2 : Int) ^ (min 32 64) = 4294967296 := by decide
  have w1 : IntKind.u64.wrap k = k := by rw [IntKind.wrap_u64]; omega
  have w0 : IntKind.u64.wrap 0 = 0 := by decide
  refine pcall_of l106_eq rfl ?_
  (repeat' (first
 | (first | refine awp_seq ?_ | refine awp_block ?_)
 | ((first | refine awp_reg ?_ | refine awp_condB ?_ | refine awp_skip ?_ | refine awp_exit ?_); simp (disch := omega) only [push_cast,seval,l106r0,l106r1,l106r2,l106r3,l106r4,l106r5,l106r6,l106r7,l106r8,l106r9,l106r10,l106r11,a1,a2,a3,s1,s2,s3,b1,e32,w1,w0,Int.one_mul,Int.zero_mul,Int.mul_zero,Int.zero_add,Int.add_zero])
 | ((first | refine condB_split (fun h => ?_) (fun h => ?_) | refine gIf_split (fun h => ?_) (fun h => ?_) | refine qIf_split (fun h => ?_) (fun h => ?_)) <;> (try simp only [h]) <;> (try simp only [bitvec_to_nat] at h) <;> (try simp only [h]) <;> (first | (exfalso; omega) | (focus (exfalso; simp_all; done)) | (simp (disch := omega) only [push_cast,seval,a1,a2,a3,s1,s2,s3,b1,e32,w1,w0,Int.one_mul,Int.zero_mul,Int.mul_zero,Int.zero_add,Int.add_zero]) | skip))
 | (refine awp_ret ⟨.inr rfl,_,rfl,?_⟩; (try simp (disch := omega) only [push_cast,seval,a1,a2,a3,s1,s2,s3,b1,e32,w1,w0,Int.one_mul,Int.zero_mul,Int.mul_zero,Int.zero_add,Int.add_zero]))))


theorem mul_ok (k : Int) (hk : 0 ≤ k ∧ k ≤ 1000) : PCall Tryd.prog 97 [.int .u64 1,.int .u64 k] (fun r => r = .tup [.int .u64 0,.int .u64 k]) := by
  refine pcall_of l97_eq rfl ?_
  (repeat' (first
 | (first | refine awp_seq ?_ | refine awp_block ?_)
 | ((first | refine awp_reg ?_ | refine awp_condB ?_ | refine awp_skip ?_ | refine awp_exit ?_); simp (disch := omega) only [push_cast,seval,l97r0,l97r1,l97r2,l97r3,l97r4])
 | ((first | refine condB_split (fun h => ?_) (fun h => ?_) | refine gIf_split (fun h => ?_) (fun h => ?_) | refine qIf_split (fun h => ?_) (fun h => ?_)) <;> (try simp only [h]) <;> (try simp only [bitvec_to_nat] at h) <;> (try simp only [h]) <;> (first | (exfalso; omega) | (focus (exfalso; simp_all; done)) | (simp (disch := omega) only [push_cast,seval]) | skip))
 | ((first | refine callD_of false ?_ | refine qcallD_of false ?_); simp (disch := omega) only [push_cast,seval])
 | ((first | ((first | refine call0D (BCall.ofP (mul64_ok _ ?_)) ?_ | refine qcall0D (BCall.ofP (mul64_ok _ ?_)) ⟨_,_,rfl,rfl⟩ ?_); (exact sd); rintro _ _ ⟨rfl,rfl⟩)) <;> (try simp (disch := omega) only [push_cast,seval]))
 | (refine awp_ret ⟨.inr rfl,_,rfl,?_⟩; (try simp (disch := omega) only [push_cast,seval]))))


set_option maxHeartbeats 8000000 in
theorem repI_ok (x : Int) (k : Nat) (hk : k ≤ 1000) : BCall Tryd.prog 78 [.rows false (IL [x]) 1,.int .i64 k] [] (fun r H' => r = .own 0 k 1 ∧ H' = [IL (rpt [x] k)]) := by
  have w1 : IntKind.u64.wrap (k : Int) = k := by rw [IntKind.wrap_u64]; omega
  have w0 : IntKind.u64.wrap 1 = 1 := by decide
  have w2 : IntKind.i64.wrap (k : Int) = k := by rw [IntKind.wrap_i64]; omega
  have w3 : IntKind.u64.wrap ((1 : Nat) : Int) = 1 := by decide
  refine bcall_of (pins := []) (pin := 0) l78_eq rfl rfl rfl ?_
  by_cases h0 : k = 0
  · subst h0
    have z1 : IntKind.u64.wrap 0 = 0 := by decide
    have z2 : IntKind.i64.wrap 0 = 0 := by decide
    (repeat' (first
 | (first | refine awp_seq ?_ | refine awp_block ?_)
 | ((first | refine awp_reg ?_ | refine awp_drawX (mid := l78r9a) (post := l78r9b) [480,1000000041,1000000044] mixed (by decide) ?_ | refine awp_condB ?_ | refine awp_skip ?_ | refine awp_exit ?_); simp (disch := omega) only [push_cast,seval,l78r0,l78r1,l78r2,l78r3,l78r4,l78r5,l78r6,l78r7,l78r8,l78r9a,l78r9b,l78r9,l78r10,w0,w1,w2,w3,z1,z2,Int.natCast_zero])
 | ((first | refine condB_split (fun h => ?_) (fun h => ?_) | refine gIf_split (fun h => ?_) (fun h => ?_) | refine qIf_split (fun h => ?_) (fun h => ?_)) <;> (try simp only [h]) <;> (try simp only [bitvec_to_nat] at h) <;> (try simp only [h]) <;> (first | (exfalso; omega) | (focus (exfalso; simp_all; done)) | (simp (disch := omega) only [push_cast,seval,w0,w1,w2,w3,z1,z2,Int.natCast_zero]) | skip))
 | ((first | refine callD_of false ?_ | refine qcallD_of false ?_); simp (disch := omega) only [push_cast,seval,w0,w1,w2,w3,z1,z2,Int.natCast_zero])
 | ((first | ((first | refine call0D (BCall.ofP (mul_ok _ ?_)) ?_ | refine qcall0D (BCall.ofP (mul_ok _ ?_)) ⟨_,_,rfl,rfl⟩ ?_); (exact sd); rintro _ _ ⟨rfl,rfl⟩)) <;> (try simp (disch := omega) only [push_cast,seval,w0,w1,w2,w3,z1,z2,Int.natCast_zero]))
 | (refine awp_ret ⟨.inr rfl,[480],[],_,by decide,rfl,?_⟩; (try simp (disch := omega) only [push_cast,seval,↓allMem_nil,↓allMem_cons,↓List.map_cons,↓List.map_nil,w0,w1,w2,w3,z1,z2,Int.natCast_zero]))))
    refine awp_loop (fun n : Nat => mkS [(7,.own 480 0 1),(8,.int .i64 0)] [(480,[])]) (fun n => n = 0) (fun n => n) 0 rfl ?_ ?_
    · (refine Sub.of_lists ?_ ?_ ?_ ?_ ?_ <;> simp [Vw.mkS,Vw.lk,Vw.hk,AV.inn,innL,innL_ints,innL_append,innL_rep,-List.map_set,-List.getD_eq_getElem?_getD,setRange])
    · intro n hn
      (repeat' (first
 | (first | refine awp_seq ?_ | refine awp_block ?_)
 | ((first | refine awp_reg ?_ | refine awp_drawX (mid := l78r9a) (post := l78r9b) [480,1000000041,1000000044] mixed (by decide) ?_ | refine awp_condB ?_ | refine awp_skip ?_ | refine awp_exit ?_); simp (disch := omega) only [push_cast,seval,l78r0,l78r1,l78r2,l78r3,l78r4,l78r5,l78r6,l78r7,l78r8,l78r9a,l78r9b,l78r9,l78r10])
 | ((first | refine condB_split (fun h => ?_) (fun h => ?_) | refine gIf_split (fun h => ?_) (fun h => ?_) | refine qIf_split (fun h => ?_) (fun h => ?_)) <;> (try simp only [h]) <;> (try simp only [bitvec_to_nat] at h) <;> (try simp only [h]) <;> (first | (exfalso; omega) | (focus (exfalso; simp_all; done)) | (simp (disch := omega) only [push_cast,seval]) | skip))
 | ((first | refine callD_of false ?_ | refine qcallD_of false ?_); simp (disch := omega) only [push_cast,seval])
 | ((first | ((first | refine call0D (BCall.ofP (mul_ok _ ?_)) ?_ | refine qcall0D (BCall.ofP (mul_ok _ ?_)) ⟨_,_,rfl,rfl⟩ ?_); (exact sd); rintro _ _ ⟨rfl,rfl⟩)) <;> (try simp (disch := omega) only [push_cast,seval]))
 | (refine awp_ret ⟨.inr rfl,[480],[],_,by decide,rfl,?_⟩; (try simp (disch := omega) only [push_cast,seval,↓allMem_nil,↓allMem_cons,↓List.map_cons,↓List.map_nil]))))
      all_goals (first | exact ⟨rfl,rfl⟩ | rfl | skip)
  · have hm1 : min 1 k = 1 := by omega
    have hz : List.replicate k (AV.int .i64 0) = IL (rpt [0] k) := by rw [rpt_one]; simp
    have e0 : setRange ((rpt [0] k).map (AV.int .i64)) 0 [AV.int .i64 x] = (rpK [x] [0] k 1).map (AV.int .i64) := by
      obtain ⟨j,rfl⟩ : ∃ j,k = j + 1 := ⟨k - 1,by omega⟩
      simp [rpK,rpt,setRange]
    have lz : (rpt [0] k).length = k := by rw [rpt_length]; simp
    (repeat' (first
 | (first | refine awp_seq ?_ | refine awp_block ?_)
 | ((first | refine awp_reg ?_ | refine awp_drawX (mid := l78r9a) (post := l78r9b) [480,1000000041,1000000044] mixed (by decide) ?_ | refine awp_condB ?_ | refine awp_skip ?_ | refine awp_exit ?_); simp (disch := omega) only [push_cast,seval,l78r0,l78r1,l78r2,l78r3,l78r4,l78r5,l78r6,l78r7,l78r8,l78r9a,l78r9b,l78r9,l78r10,w0,w1,w2,w3,hm1,hz,e0,lz])
 | ((first | refine condB_split (fun h => ?_) (fun h => ?_) | refine gIf_split (fun h => ?_) (fun h => ?_) | refine qIf_split (fun h => ?_) (fun h => ?_)) <;> (try simp only [h]) <;> (try simp only [bitvec_to_nat] at h) <;> (try simp only [h]) <;> (first | (exfalso; omega) | (focus (exfalso; simp_all; done)) | (simp (disch := omega) only [push_cast,seval,w0,w1,w2,w3,hm1,hz,e0,lz]) | skip))
 | ((first | refine callD_of false ?_ | refine qcallD_of false ?_); simp (disch := omega) only [push_cast,seval,w0,w1,w2,w3,hm1,hz,e0,lz])
 | ((first | ((first | refine call0D (BCall.ofP (mul_ok _ ?_)) ?_ | refine qcall0D (BCall.ofP (mul_ok _ ?_)) ⟨_,_,rfl,rfl⟩ ?_); (exact sd); rintro _ _ ⟨rfl,rfl⟩)) <;> (try simp (disch := omega) only [push_cast,seval,w0,w1,w2,w3,hm1,hz,e0,lz]))
 | (refine awp_ret ⟨.inr rfl,[480],[],_,by decide,rfl,?_⟩; (try simp (disch := omega) only [push_cast,seval,↓allMem_nil,↓allMem_cons,↓List.map_cons,↓List.map_nil,w0,w1,w2,w3,hm1,hz,e0,lz]))))
    refine awp_loop (fun n : Nat => mkS [(7,.own 480 k 1),(8,.int .i64 n)] [(480,IL (rpK [x] [0] k n))]) (fun n => 1 ≤ n ∧ n ≤ k) (fun n => k - n) 1 (by omega) ?_ ?_
    · (refine Sub.of_lists ?_ ?_ ?_ ?_ ?_ <;> simp [Vw.mkS,Vw.lk,Vw.hk,AV.inn,innL,innL_ints,innL_append,innL_rep,-List.map_set,-List.getD_eq_getElem?_getD])
    · rintro n ⟨hn1,hnk⟩
      have lk := rpK_length (c := [x]) (z := [0]) (k := k) (n := n) rfl hnk
      by_cases hlt : n < k
      · obtain ⟨m,hm⟩ : ∃ m,min n (k - n) = m := ⟨_,rfl⟩
        have hmn : m ≤ n := by omega
        have hmk : n + m ≤ k := by omega
        have hm0 : 1 ≤ m := by omega
        have r1 : ((rpK [x] [0] k n).map (AV.int .i64)).take (n) = (rpt [x] n).map (AV.int .i64) := by
          rw [← List.map_take]
          exact congrArg _ (by simpa using rpK_take (c := [x]) (z := [0]) (k := k) (n := n) (m := n) (Nat.le_refl n))
        have r2 : ((rpt [x] n).map (AV.int .i64)).take (m) = (rpt [x] m).map (AV.int .i64) := by
          rw [← List.map_take]
          exact congrArg _ (by simpa using rpt_take [x] n m hmn)
        have r3 := rpK_step (c := [x]) (z := [0]) (k := k) (n := n) (m := m) rfl hmn hmk
        simp only [List.length_cons,List.length_nil,Nat.zero_add,Nat.mul_one,Nat.reduceAdd] at r3 lk
        have lc := rpt_length [x] n
        simp only [List.length_cons,List.length_nil,Nat.zero_add,Nat.mul_one,Nat.reduceAdd] at lc
        generalize rpK [x] [0] k n = F at *
        (repeat' (first
 | (first | refine awp_seq ?_ | refine awp_block ?_)
 | ((first | refine awp_reg ?_ | refine awp_drawX (mid := l78r9a) (post := l78r9b) [480,1000000041,1000000044] mixed (by decide) ?_ | refine awp_condB ?_ | refine awp_skip ?_ | refine awp_exit ?_); simp (disch := omega) only [push_cast,seval,l78r0,l78r1,l78r2,l78r3,l78r4,l78r5,l78r6,l78r7,l78r8,l78r9a,l78r9b,l78r9,l78r10,hm,r1,r2,r3,lk,lc,Nat.zero_add,Nat.sub_zero,Nat.mul_one,List.drop_zero])
 | ((first | refine condB_split (fun h => ?_) (fun h => ?_) | refine gIf_split (fun h => ?_) (fun h => ?_) | refine qIf_split (fun h => ?_) (fun h => ?_)) <;> (try simp only [h]) <;> (try simp only [bitvec_to_nat] at h) <;> (try simp only [h]) <;> (first | (exfalso; omega) | (focus (exfalso; simp_all; done)) | (simp (disch := omega) only [push_cast,seval,hm,r1,r2,r3,lk,lc,Nat.zero_add,Nat.sub_zero,Nat.mul_one,List.drop_zero]) | skip))
 | ((first | refine callD_of false ?_ | refine qcallD_of false ?_); simp (disch := omega) only [push_cast,seval,hm,r1,r2,r3,lk,lc,Nat.zero_add,Nat.sub_zero,Nat.mul_one,List.drop_zero])
 | ((first | ((first | refine call0D (BCall.ofP (mul_ok _ ?_)) ?_ | refine qcall0D (BCall.ofP (mul_ok _ ?_)) ⟨_,_,rfl,rfl⟩ ?_); (exact sd); rintro _ _ ⟨rfl,rfl⟩)) <;> (try simp (disch := omega) only [push_cast,seval,hm,r1,r2,r3,lk,lc,Nat.zero_add,Nat.sub_zero,Nat.mul_one,List.drop_zero]))
 | (refine awp_ret ⟨.inr rfl,[480],[],_,by decide,rfl,?_⟩; (try simp (disch := omega) only [push_cast,seval,↓allMem_nil,↓allMem_cons,↓List.map_cons,↓List.map_nil,hm,r1,r2,r3,lk,lc,Nat.zero_add,Nat.sub_zero,Nat.mul_one,List.drop_zero]))))
        refine ⟨n + m,by omega,by omega,?_⟩
        (refine Sub.of_lists ?_ ?_ ?_ ?_ ?_ <;> simp [Vw.mkS,Vw.lk,Vw.hk,AV.inn,innL,innL_ints,innL_append,innL_rep,-List.map_set,-List.getD_eq_getElem?_getD,r3])
      · have hke : n = k := by omega
        subst hke
        rw [rpK_all] at lk
        simp only [List.length_cons,List.length_nil,Nat.zero_add,Nat.mul_one,Nat.reduceAdd] at lk
        rw [rpK_all]
        (repeat' (first
 | (first | refine awp_seq ?_ | refine awp_block ?_)
 | ((first | refine awp_reg ?_ | refine awp_drawX (mid := l78r9a) (post := l78r9b) [480,1000000041,1000000044] mixed (by decide) ?_ | refine awp_condB ?_ | refine awp_skip ?_ | refine awp_exit ?_); simp (disch := omega) only [push_cast,seval,l78r0,l78r1,l78r2,l78r3,l78r4,l78r5,l78r6,l78r7,l78r8,l78r9a,l78r9b,l78r9,l78r10,lk])
 | ((first | refine condB_split (fun h => ?_) (fun h => ?_) | refine gIf_split (fun h => ?_) (fun h => ?_) | refine qIf_split (fun h => ?_) (fun h => ?_)) <;> (try simp only [h]) <;> (try simp only [bitvec_to_nat] at h) <;> (try simp only [h]) <;> (first | (exfalso; omega) | (focus (exfalso; simp_all; done)) | (simp (disch := omega) only [push_cast,seval,lk]) | skip))
 | ((first | refine callD_of false ?_ | refine qcallD_of false ?_); simp (disch := omega) only [push_cast,seval,lk])
 | ((first | ((first | refine call0D (BCall.ofP (mul_ok _ ?_)) ?_ | refine qcall0D (BCall.ofP (mul_ok _ ?_)) ⟨_,_,rfl,rfl⟩ ?_); (exact sd); rintro _ _ ⟨rfl,rfl⟩)) <;> (try simp (disch := omega) only [push_cast,seval,lk]))
 | (refine awp_ret ⟨.inr rfl,[480],[],_,by decide,rfl,?_⟩; (try simp (disch := omega) only [push_cast,seval,↓allMem_nil,↓allMem_cons,↓List.map_cons,↓List.map_nil,lk]))))
        all_goals (try exact ⟨rfl,rfl⟩)

end Go.Proofs.YtahdlohpncjdbaaDoor
