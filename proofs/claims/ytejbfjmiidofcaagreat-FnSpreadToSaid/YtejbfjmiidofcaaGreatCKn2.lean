import Derived.Test.YtejbfjmiidofcaaGreatCKn1
import Derived.Test.YtejbfjmiidofcaaGreatCM1
import Derived.Test.YtejbfjmiidofcaaGreatCW3
set_option linter.unusedSimpArgs false
set_option linter.unusedVariables false
set_option maxRecDepth 4000
set_option maxHeartbeats 4000000
namespace Go.Proofs.YtejbfjmiidofcaaGreat
open VwM Vw Go

set_option maxHeartbeats 8000000 in
theorem growD_ok (k:Nat) (hk:0 < k ∧ k ≤ 1000):BCall Tryz.prog 45 [.val (.slice none 0 0),.int .i64 k] [] (fun r H'=>r=.osl 0 (k * 2) 0 0 2 k ∧ H'=[IL (rpt [0,0] k)]):=by
  obtain ⟨h0,h1⟩:=hk
  refine bcall_of (pins:=[]) (pin:=0) l45_eq rfl rfl rfl ?_
  have hz:zcells [AV.int .i64 0,AV.int .i64 0] k=IL (rpt [0,0] k):=by rw [zcells2];exact congrArg _ (rpt_zero2 k).symm
  have lz:(rpt [0,0] k).length=k * 2:=by rw [rpt_length];simp
  (repeat' (first
 | (first|refine awp_seq ?_|refine awp_block ?_)
 | ((first|refine awp_reg ?_|refine awp_condB ?_|refine awp_skip ?_|refine awp_exit ?_);simp (disch:=omega) only [push_cast,seval,l45r0,l45r1,l45r2,l45r3,l45r4,l45r5,l45r6,hz,lz,Int.sub_zero,Nat.sub_zero])
 | ((first|refine condB_split (fun h=>?_) (fun h=>?_)|refine gIf_split (fun h=>?_) (fun h=>?_)|refine qIf_split (fun h=>?_) (fun h=>?_))<;>(try simp only [h])<;>(try simp only [bitvec_to_nat] at h)<;>(try simp only [h])<;>(first|(exfalso;omega)|(focus (exfalso;simp_all;done))|(simp (disch:=omega) only [push_cast,seval,hz,lz,Int.sub_zero,Nat.sub_zero])|skip))
 | ((first|(refine rawW_capnil (by kernel_rfl) (by first|((simp (disch:=omega) only [push_cast,seval,hz,lz,Int.sub_zero,Nat.sub_zero]);done)|((simp (disch:=omega) only [push_cast,seval,hz,lz,Int.sub_zero,Nat.sub_zero]);rfl)) ?_)|(refine rawW_appz (t:=23) (sz:=1) (zs:=[.int .i64 0]) (by kernel_rfl) (by first|((simp (disch:=omega) only [push_cast,seval,hz,lz,Int.sub_zero,Nat.sub_zero]);done)|((simp (disch:=omega) only [push_cast,seval,hz,lz,Int.sub_zero,Nat.sub_zero]);rfl)) (by first|((simp (disch:=omega) only [push_cast,seval,hz,lz,Int.sub_zero,Nat.sub_zero]);done)|((simp (disch:=omega) only [push_cast,seval,hz,lz,Int.sub_zero,Nat.sub_zero]);rfl)) (by first|assumption|omega|(constructor<;>omega)) (by first|((simp (disch:=omega) only [push_cast,seval,hz,lz,Int.sub_zero,Nat.sub_zero]);done)|((simp (disch:=omega) only [push_cast,seval,hz,lz,Int.sub_zero,Nat.sub_zero]);exact ⟨rfl,by omega⟩)) ?_)|(refine rawW_appz (t:=48) (sz:=2) (zs:=[.int .i64 0,.int .i64 0]) (by kernel_rfl) (by first|((simp (disch:=omega) only [push_cast,seval,hz,lz,Int.sub_zero,Nat.sub_zero]);done)|((simp (disch:=omega) only [push_cast,seval,hz,lz,Int.sub_zero,Nat.sub_zero]);rfl)) (by first|((simp (disch:=omega) only [push_cast,seval,hz,lz,Int.sub_zero,Nat.sub_zero]);done)|((simp (disch:=omega) only [push_cast,seval,hz,lz,Int.sub_zero,Nat.sub_zero]);rfl)) (by first|assumption|omega|(constructor<;>omega)) (by first|((simp (disch:=omega) only [push_cast,seval,hz,lz,Int.sub_zero,Nat.sub_zero]);done)|((simp (disch:=omega) only [push_cast,seval,hz,lz,Int.sub_zero,Nat.sub_zero]);exact ⟨rfl,by omega⟩)) ?_)|(refine rawW_idxV (len:=3) (by kernel_rfl) (by first|((simp (disch:=omega) only [push_cast,seval,hz,lz,Int.sub_zero,Nat.sub_zero]);done)|((simp (disch:=omega) only [push_cast,seval,hz,lz,Int.sub_zero,Nat.sub_zero]);rfl)) (by first|((simp (disch:=omega) only [push_cast,seval,hz,lz,Int.sub_zero,Nat.sub_zero]);done)|((simp (disch:=omega) only [push_cast,seval,hz,lz,Int.sub_zero,Nat.sub_zero]);rfl)) (by first|assumption|omega|(constructor<;>omega)) (by first|rfl|((simp (disch:=omega) only [push_cast,seval,hz,lz,Int.sub_zero,Nat.sub_zero]);rfl)) ?_))<;>(try simp (disch:=omega) only [push_cast,seval,hz,lz,Int.sub_zero,Nat.sub_zero]))
 | (refine awp_ret ⟨.inr rfl,[352],[],_,by decide,rfl,?_⟩;(try simp (disch:=omega) only [push_cast,seval,↓allMem_nil,↓allMem_cons,↓List.map_cons,↓List.map_nil,hz,lz,Int.sub_zero,Nat.sub_zero]))))
  all_goals (try exact ⟨rfl,rfl⟩)
theorem growD0_ok:BCall Tryz.prog 45 [.val (.slice none 0 0),.int .i64 0] [] (fun r H'=>r=.own 0 0 2 ∧ H'=[[]]):=by
  refine bcall_of (pins:=[]) (pin:=0) l45_eq rfl rfl rfl ?_
  (repeat' (first
 | (first|refine awp_seq ?_|refine awp_block ?_)
 | ((first|refine awp_reg ?_|refine awp_condB ?_|refine awp_skip ?_|refine awp_exit ?_);simp (disch:=omega) only [push_cast,seval,l45r0,l45r1,l45r2,l45r3,l45r4,l45r5,l45r6])
 | ((first|refine condB_split (fun h=>?_) (fun h=>?_)|refine gIf_split (fun h=>?_) (fun h=>?_)|refine qIf_split (fun h=>?_) (fun h=>?_))<;>(try simp only [h])<;>(try simp only [bitvec_to_nat] at h)<;>(try simp only [h])<;>(first|(exfalso;omega)|(focus (exfalso;simp_all;done))|(simp (disch:=omega) only [push_cast,seval])|skip))
 | ((first|(refine rawW_capnil (by kernel_rfl) (by first|((simp (disch:=omega) only [push_cast,seval]);done)|((simp (disch:=omega) only [push_cast,seval]);rfl)) ?_)|(refine rawW_appz (t:=23) (sz:=1) (zs:=[.int .i64 0]) (by kernel_rfl) (by first|((simp (disch:=omega) only [push_cast,seval]);done)|((simp (disch:=omega) only [push_cast,seval]);rfl)) (by first|((simp (disch:=omega) only [push_cast,seval]);done)|((simp (disch:=omega) only [push_cast,seval]);rfl)) (by first|assumption|omega|(constructor<;>omega)) (by first|((simp (disch:=omega) only [push_cast,seval]);done)|((simp (disch:=omega) only [push_cast,seval]);exact ⟨rfl,by omega⟩)) ?_)|(refine rawW_appz (t:=48) (sz:=2) (zs:=[.int .i64 0,.int .i64 0]) (by kernel_rfl) (by first|((simp (disch:=omega) only [push_cast,seval]);done)|((simp (disch:=omega) only [push_cast,seval]);rfl)) (by first|((simp (disch:=omega) only [push_cast,seval]);done)|((simp (disch:=omega) only [push_cast,seval]);rfl)) (by first|assumption|omega|(constructor<;>omega)) (by first|((simp (disch:=omega) only [push_cast,seval]);done)|((simp (disch:=omega) only [push_cast,seval]);exact ⟨rfl,by omega⟩)) ?_)|(refine rawW_idxV (len:=3) (by kernel_rfl) (by first|((simp (disch:=omega) only [push_cast,seval]);done)|((simp (disch:=omega) only [push_cast,seval]);rfl)) (by first|((simp (disch:=omega) only [push_cast,seval]);done)|((simp (disch:=omega) only [push_cast,seval]);rfl)) (by first|assumption|omega|(constructor<;>omega)) (by first|rfl|((simp (disch:=omega) only [push_cast,seval]);rfl)) ?_))<;>(try simp (disch:=omega) only [push_cast,seval]))
 | (refine awp_ret ⟨.inr rfl,[16000],[(16000,2)],_,by decide,rfl,?_⟩;(try simp (disch:=omega) only [push_cast,seval,↓allMem_nil,↓allMem_cons,↓List.map_cons,↓List.map_nil]))))
  all_goals (try exact ⟨rfl,rfl⟩)


set_option maxHeartbeats 8000000 in
theorem catD_ok (xs ys:List Int) (n m:Nat) (hx:xs.length=n * 2) (hy:ys.length=m * 2) (hb:0 < n + m ∧ n + m ≤ 1000):BCall Tryz.prog 23 [.rows false [.rows false (IL xs) n,.rows false (IL ys) m] 2] [] (fun r H'=>r=.osl 0 ((n + m) * 2) 0 (n + m) 2 (n + m) ∧ H'=[IL (xs ++ ys)]):=by
  obtain ⟨h0,h1⟩:=hb
  have c0:((0:Nat):Int)=0:=rfl
  have c1:((1:Nat):Int)=1:=rfl
  have c2:((2:Nat):Int)=2:=rfl
  have hT:((n:Int) + (m:Int))=((n + m:Nat):Int):=by omega
  have hTn:((n:Int) + (m:Int)).toNat=n + m:=by omega
  have hT0:¬ (n:Int) + (m:Int) < 0:=by omega
  have hq:0 < n + m ∧ n + m ≤ 1000:=⟨h0,h1⟩
  have lz:(rpt [0,0] (n + m)).length=(n + m) * 2:=by rw [rpt_length];simp
  have lm:(rpt [0,0] m).length=m * 2:=by rw [rpt_length];simp
  have s1:setRange ((rpt [0,0] (n + m)).map (AV.int .i64)) 0 (xs.map (AV.int .i64))=(xs ++ rpt [0,0] m).map (AV.int .i64):=by
    have:=setRange_app (xs.map (AV.int .i64)) [] ((rpt [0,0] n).map (AV.int .i64)) ((rpt [0,0] m).map (AV.int .i64)) (by simp [rpt_length,hx])
    simpa [rpt_add] using this
  have s2:setRange ((xs ++ rpt [0,0] m).map (AV.int .i64)) (n * 2) (ys.map (AV.int .i64))=(xs ++ ys).map (AV.int .i64):=by
    have:=setRange_app (ys.map (AV.int .i64)) (xs.map (AV.int .i64)) ((rpt [0,0] m).map (AV.int .i64)) [] (by simp [rpt_length,hy])
    simpa [hx] using this
  have l1:(xs ++ rpt [0,0] m).length=(n + m) * 2:=by rw [List.length_append,hx,lm]<;>omega
  have l2:(xs ++ ys).length=(n + m) * 2:=by rw [List.length_append,hx,hy]<;>omega
  refine bcall_of (pins:=[]) (pin:=0) l23_eq rfl rfl rfl ?_
  (repeat' (first
 | (first|refine awp_seq ?_|refine awp_block ?_)
 | ((first|refine awp_reg ?_|refine awp_condB ?_|refine awp_skip ?_|refine awp_exit ?_);simp (disch:=omega) only [push_cast,seval,l23r0,l23r1,l23r2,l23r3,l23r4,l23r5,l23r6,l23r7,l23r8,l23r9,l23r10,l23r11,l23r12,l23r13,l23r14,l23r15])
 | ((first|refine condB_split (fun h=>?_) (fun h=>?_)|refine gIf_split (fun h=>?_) (fun h=>?_)|refine qIf_split (fun h=>?_) (fun h=>?_))<;>(try simp only [h])<;>(try simp only [bitvec_to_nat] at h)<;>(try simp only [h])<;>(first|(exfalso;omega)|(focus (exfalso;simp_all;done))|(simp (disch:=omega) only [push_cast,seval])|skip))
 | ((first|((with_reducible refine callDN_of (f:=45) ?_);simp (disch:=omega) only [push_cast,seval];((with_reducible refine call0DN (growD_ok _ ?_) ?_);(exact sd);rintro _ _ ⟨rfl,rfl⟩))|((with_reducible refine callDN_of (f:=45) ?_);simp (disch:=omega) only [push_cast,seval];((with_reducible refine call0DN (growD0_ok) ?_);rintro _ _ ⟨rfl,rfl⟩)))<;>(try simp (disch:=omega) only [push_cast,seval]))
 | (refine awp_ret ⟨.inr rfl,[384],[],_,by decide,rfl,?_⟩;(try simp (disch:=omega) only [push_cast,seval,↓allMem_nil,↓allMem_cons,↓List.map_cons,↓List.map_nil]))))
  refine awp_loop (fun k:Nat=>mkS [(0,.rows false [.rows false (IL xs) n,.rows false (IL ys) m] 2),(3,.int .i64 (if k=0 then 0 else if k=1 then (n:Int) else (n:Int) + (m:Int))),(9,.rows false [.rows false (IL xs) n,.rows false (IL ys) m] 2),(10,.int .i64 2),(11,.int .i64 k)] []) (fun k=>k ≤ 2) (fun k=>2 - k) 0 (by omega) ?_ ?_
  · (refine Sub.of_lists ?_ ?_ ?_ ?_ ?_<;>simp [Vw.mkS,Vw.lk,Vw.hk,AV.inn,innL,innL_ints,innL_append,innL_rep,-List.map_set,-List.getD_eq_getElem?_getD])
  · intro k hk
    have hk3:k=0 ∨ k=1 ∨ k=2:=by omega
    rcases hk3 with rfl|rfl|rfl
    · (repeat' (first
 | (first|refine awp_seq ?_|refine awp_block ?_)
 | ((first|refine awp_reg ?_|refine awp_condB ?_|refine awp_skip ?_|refine awp_exit ?_);simp (disch:=omega) only [push_cast,seval,l23r0,l23r1,l23r2,l23r3,l23r4,l23r5,l23r6,l23r7,l23r8,l23r9,l23r10,l23r11,l23r12,l23r13,l23r14,l23r15,c0,c1,c2])
 | ((first|refine condB_split (fun h=>?_) (fun h=>?_)|refine gIf_split (fun h=>?_) (fun h=>?_)|refine qIf_split (fun h=>?_) (fun h=>?_))<;>(try simp only [h])<;>(try simp only [bitvec_to_nat] at h)<;>(try simp only [h])<;>(first|(exfalso;omega)|(focus (exfalso;simp_all;done))|(simp (disch:=omega) only [push_cast,seval,c0,c1,c2])|skip))
 | ((first|((with_reducible refine callDN_of (f:=45) ?_);simp (disch:=omega) only [push_cast,seval,c0,c1,c2];((with_reducible refine call0DN (growD_ok _ ?_) ?_);(exact sd);rintro _ _ ⟨rfl,rfl⟩))|((with_reducible refine callDN_of (f:=45) ?_);simp (disch:=omega) only [push_cast,seval,c0,c1,c2];((with_reducible refine call0DN (growD0_ok) ?_);rintro _ _ ⟨rfl,rfl⟩)))<;>(try simp (disch:=omega) only [push_cast,seval,c0,c1,c2]))
 | (refine awp_ret ⟨.inr rfl,[384],[],_,by decide,rfl,?_⟩;(try simp (disch:=omega) only [push_cast,seval,↓allMem_nil,↓allMem_cons,↓List.map_cons,↓List.map_nil,c0,c1,c2]))))
      refine ⟨1,by omega,by omega,?_⟩
      (refine Sub.of_lists ?_ ?_ ?_ ?_ ?_<;>simp [Vw.mkS,Vw.lk,Vw.hk,AV.inn,innL,innL_ints,innL_append,innL_rep,-List.map_set,-List.getD_eq_getElem?_getD])
    · simp only [Nat.one_ne_zero,if_false,if_true]
      (repeat' (first
 | (first|refine awp_seq ?_|refine awp_block ?_)
 | ((first|refine awp_reg ?_|refine awp_condB ?_|refine awp_skip ?_|refine awp_exit ?_);simp (disch:=omega) only [push_cast,seval,l23r0,l23r1,l23r2,l23r3,l23r4,l23r5,l23r6,l23r7,l23r8,l23r9,l23r10,l23r11,l23r12,l23r13,l23r14,l23r15,c0,c1,c2,hT0])
 | ((first|refine condB_split (fun h=>?_) (fun h=>?_)|refine gIf_split (fun h=>?_) (fun h=>?_)|refine qIf_split (fun h=>?_) (fun h=>?_))<;>(try simp only [h])<;>(try simp only [bitvec_to_nat] at h)<;>(try simp only [h])<;>(first|(exfalso;omega)|(focus (exfalso;simp_all;done))|(simp (disch:=omega) only [push_cast,seval,c0,c1,c2,hT0])|skip))
 | ((first|((with_reducible refine callDN_of (f:=45) ?_);simp (disch:=omega) only [push_cast,seval,c0,c1,c2,hT0];((with_reducible refine call0DN (growD_ok _ ?_) ?_);(exact sd);rintro _ _ ⟨rfl,rfl⟩))|((with_reducible refine callDN_of (f:=45) ?_);simp (disch:=omega) only [push_cast,seval,c0,c1,c2,hT0];((with_reducible refine call0DN (growD0_ok) ?_);rintro _ _ ⟨rfl,rfl⟩)))<;>(try simp (disch:=omega) only [push_cast,seval,c0,c1,c2,hT0]))
 | (refine awp_ret ⟨.inr rfl,[384],[],_,by decide,rfl,?_⟩;(try simp (disch:=omega) only [push_cast,seval,↓allMem_nil,↓allMem_cons,↓List.map_cons,↓List.map_nil,c0,c1,c2,hT0]))))
      refine ⟨2,by omega,by omega,?_⟩
      (refine Sub.of_lists ?_ ?_ ?_ ?_ ?_<;>simp [Vw.mkS,Vw.lk,Vw.hk,AV.inn,innL,innL_ints,innL_append,innL_rep,-List.map_set,-List.getD_eq_getElem?_getD])
    · have i1:¬ (2:Nat)=0:=by omega
      have i2:¬ (2:Nat)=1:=by omega
      rw [if_neg i1,if_neg i2,hT]
      (repeat' (first
 | (first|refine awp_seq ?_|refine awp_block ?_)
 | ((first|refine awp_reg ?_|refine awp_condB ?_|refine awp_skip ?_|refine awp_exit ?_);simp (disch:=omega) only [push_cast,seval,l23r0,l23r1,l23r2,l23r3,l23r4,l23r5,l23r6,l23r7,l23r8,l23r9,l23r10,l23r11,l23r12,l23r13,l23r14,l23r15,c0,c1,c2,lz])
 | ((first|refine condB_split (fun h=>?_) (fun h=>?_)|refine gIf_split (fun h=>?_) (fun h=>?_)|refine qIf_split (fun h=>?_) (fun h=>?_))<;>(try simp only [h])<;>(try simp only [bitvec_to_nat] at h)<;>(try simp only [h])<;>(first|(exfalso;omega)|(focus (exfalso;simp_all;done))|(simp (disch:=omega) only [push_cast,seval,c0,c1,c2,lz])|skip))
 | ((first|((with_reducible refine callDN_of (f:=45) ?_);simp (disch:=omega) only [push_cast,seval,c0,c1,c2,lz];((with_reducible refine call0DN (growD_ok _ ?_) ?_);(exact sd);rintro _ _ ⟨rfl,rfl⟩))|((with_reducible refine callDN_of (f:=45) ?_);simp (disch:=omega) only [push_cast,seval,c0,c1,c2,lz];((with_reducible refine call0DN (growD0_ok) ?_);rintro _ _ ⟨rfl,rfl⟩)))<;>(try simp (disch:=omega) only [push_cast,seval,c0,c1,c2,lz]))
 | (refine awp_ret ⟨.inr rfl,[384],[],_,by decide,rfl,?_⟩;(try simp (disch:=omega) only [push_cast,seval,↓allMem_nil,↓allMem_cons,↓List.map_cons,↓List.map_nil,c0,c1,c2,lz]))))
      refine awp_loop (fun j:Nat=>mkS [(6,.osl 384 ((n + m) * 2) 0 (if j=0 then 0 else if j=1 then n else n + m) 2 (n + m)),(25,.rows false [.rows false (IL xs) n,.rows false (IL ys) m] 2),(26,.int .i64 2),(27,.int .i64 j)] [(384,IL (if j=0 then rpt [0,0] (n + m) else if j=1 then xs ++ rpt [0,0] m else xs ++ ys))]) (fun j=>j ≤ 2) (fun j=>2 - j) 0 (by omega) ?_ ?_
      · (refine Sub.of_lists ?_ ?_ ?_ ?_ ?_<;>simp [Vw.mkS,Vw.lk,Vw.hk,AV.inn,innL,innL_ints,innL_append,innL_rep,-List.map_set,-List.getD_eq_getElem?_getD])
      · intro j hj
        have hj3:j=0 ∨ j=1 ∨ j=2:=by omega
        rcases hj3 with rfl|rfl|rfl
        · simp only [if_true]
          (repeat' (first
 | (first|refine awp_seq ?_|refine awp_block ?_)
 | ((first|refine awp_reg ?_|refine awp_condB ?_|refine awp_skip ?_|refine awp_exit ?_);simp (disch:=omega) only [push_cast,seval,l23r0,l23r1,l23r2,l23r3,l23r4,l23r5,l23r6,l23r7,l23r8,l23r9,l23r10,l23r11,l23r12,l23r13,l23r14,l23r15,c0,c1,c2,lz,hx,s1,Nat.zero_add,Nat.zero_mul])
 | ((first|refine condB_split (fun h=>?_) (fun h=>?_)|refine gIf_split (fun h=>?_) (fun h=>?_)|refine qIf_split (fun h=>?_) (fun h=>?_))<;>(try simp only [h])<;>(try simp only [bitvec_to_nat] at h)<;>(try simp only [h])<;>(first|(exfalso;omega)|(focus (exfalso;simp_all;done))|(simp (disch:=omega) only [push_cast,seval,c0,c1,c2,lz,hx,s1,Nat.zero_add,Nat.zero_mul])|skip))
 | ((first|((with_reducible refine callDN_of (f:=45) ?_);simp (disch:=omega) only [push_cast,seval,c0,c1,c2,lz,hx,s1,Nat.zero_add,Nat.zero_mul];((with_reducible refine call0DN (growD_ok _ ?_) ?_);(exact sd);rintro _ _ ⟨rfl,rfl⟩))|((with_reducible refine callDN_of (f:=45) ?_);simp (disch:=omega) only [push_cast,seval,c0,c1,c2,lz,hx,s1,Nat.zero_add,Nat.zero_mul];((with_reducible refine call0DN (growD0_ok) ?_);rintro _ _ ⟨rfl,rfl⟩)))<;>(try simp (disch:=omega) only [push_cast,seval,c0,c1,c2,lz,hx,s1,Nat.zero_add,Nat.zero_mul]))
 | (refine awp_ret ⟨.inr rfl,[384],[],_,by decide,rfl,?_⟩; (try simp (disch := omega) only [push_cast,seval,↓allMem_nil,↓allMem_cons,↓List.map_cons,↓List.map_nil,c0,c1,c2,lz,hx,s1,Nat.zero_add,Nat.zero_mul]))))
          refine ⟨1,by omega,by omega,?_⟩
          (refine Sub.of_lists ?_ ?_ ?_ ?_ ?_<;>simp [Vw.mkS,Vw.lk,Vw.hk,AV.inn,innL,innL_ints,innL_append,innL_rep,-List.map_set,-List.getD_eq_getElem?_getD])
        · simp only [Nat.one_ne_zero,if_false,if_true]
          (repeat' (first
 | (first|refine awp_seq ?_|refine awp_block ?_)
 | ((first|refine awp_reg ?_|refine awp_condB ?_|refine awp_skip ?_|refine awp_exit ?_);simp (disch:=omega) only [push_cast,seval,l23r0,l23r1,l23r2,l23r3,l23r4,l23r5,l23r6,l23r7,l23r8,l23r9,l23r10,l23r11,l23r12,l23r13,l23r14,l23r15,c0,c1,c2,l1,hy,s2,Nat.zero_add])
 | ((first|refine condB_split (fun h=>?_) (fun h=>?_)|refine gIf_split (fun h=>?_) (fun h=>?_)|refine qIf_split (fun h=>?_) (fun h=>?_))<;>(try simp only [h])<;>(try simp only [bitvec_to_nat] at h)<;>(try simp only [h])<;>(first|(exfalso;omega)|(focus (exfalso;simp_all;done))|(simp (disch:=omega) only [push_cast,seval,c0,c1,c2,l1,hy,s2,Nat.zero_add])|skip))
 | ((first|((with_reducible refine callDN_of (f:=45) ?_);simp (disch:=omega) only [push_cast,seval,c0,c1,c2,l1,hy,s2,Nat.zero_add];((with_reducible refine call0DN (growD_ok _ ?_) ?_);(exact sd);rintro _ _ ⟨rfl,rfl⟩))|((with_reducible refine callDN_of (f:=45) ?_);simp (disch:=omega) only [push_cast,seval,c0,c1,c2,l1,hy,s2,Nat.zero_add];((with_reducible refine call0DN (growD0_ok) ?_);rintro _ _ ⟨rfl,rfl⟩)))<;>(try simp (disch:=omega) only [push_cast,seval,c0,c1,c2,l1,hy,s2,Nat.zero_add]))
 | (refine awp_ret ⟨.inr rfl,[384],[],_,by decide,rfl,?_⟩; (try simp (disch := omega) only [push_cast,seval,↓allMem_nil,↓allMem_cons,↓List.map_cons,↓List.map_nil,c0,c1,c2,l1,hy,s2,Nat.zero_add]))))
          refine ⟨2,by omega,by omega,?_⟩
          (refine Sub.of_lists ?_ ?_ ?_ ?_ ?_<;>simp [Vw.mkS,Vw.lk,Vw.hk,AV.inn,innL,innL_ints,innL_append,innL_rep,-List.map_set,-List.getD_eq_getElem?_getD])
        · rw [if_neg i1,if_neg i2,if_neg i1,if_neg i2]
          (repeat' (first
 | (first|refine awp_seq ?_|refine awp_block ?_)
 | ((first|refine awp_reg ?_|refine awp_condB ?_|refine awp_skip ?_|refine awp_exit ?_);simp (disch:=omega) only [push_cast,seval,l23r0,l23r1,l23r2,l23r3,l23r4,l23r5,l23r6,l23r7,l23r8,l23r9,l23r10,l23r11,l23r12,l23r13,l23r14,l23r15,c0,c1,c2,l2])
 | ((first|refine condB_split (fun h=>?_) (fun h=>?_)|refine gIf_split (fun h=>?_) (fun h=>?_)|refine qIf_split (fun h=>?_) (fun h=>?_))<;>(try simp only [h])<;>(try simp only [bitvec_to_nat] at h)<;>(try simp only [h])<;>(first|(exfalso;omega)|(focus (exfalso;simp_all;done))|(simp (disch:=omega) only [push_cast,seval,c0,c1,c2,l2])|skip))
 | ((first|((with_reducible refine callDN_of (f:=45) ?_);simp (disch:=omega) only [push_cast,seval,c0,c1,c2,l2];((with_reducible refine call0DN (growD_ok _ ?_) ?_);(exact sd);rintro _ _ ⟨rfl,rfl⟩))|((with_reducible refine callDN_of (f:=45) ?_);simp (disch:=omega) only [push_cast,seval,c0,c1,c2,l2];((with_reducible refine call0DN (growD0_ok) ?_);rintro _ _ ⟨rfl,rfl⟩)))<;>(try simp (disch:=omega) only [push_cast,seval,c0,c1,c2,l2]))
 | (refine awp_ret ⟨.inr rfl,[384],[],_,by decide,rfl,?_⟩; (try simp (disch := omega) only [push_cast,seval,↓allMem_nil,↓allMem_cons,↓List.map_cons,↓List.map_nil,c0,c1,c2,l2]))))
          all_goals (try exact ⟨rfl,rfl⟩)
theorem catD0_ok:BCall Tryz.prog 23 [.rows false [.rows false [] 0,.rows false [] 0] 2] [] (fun r H'=>r=.own 0 0 2 ∧ H'=[[]]):=by
  have c0:((0:Nat):Int)=0:=rfl
  have c1:((1:Nat):Int)=1:=rfl
  have c2:((2:Nat):Int)=2:=rfl
  refine bcall_of (pins:=[]) (pin:=0) l23_eq rfl rfl rfl ?_
  (repeat' (first
 | (first|refine awp_seq ?_|refine awp_block ?_)
 | ((first|refine awp_reg ?_|refine awp_condB ?_|refine awp_skip ?_|refine awp_exit ?_);simp (disch:=omega) only [push_cast,seval,l23r0,l23r1,l23r2,l23r3,l23r4,l23r5,l23r6,l23r7,l23r8,l23r9,l23r10,l23r11,l23r12,l23r13,l23r14,l23r15])
 | ((first|refine condB_split (fun h=>?_) (fun h=>?_)|refine gIf_split (fun h=>?_) (fun h=>?_)|refine qIf_split (fun h=>?_) (fun h=>?_))<;>(try simp only [h])<;>(try simp only [bitvec_to_nat] at h)<;>(try simp only [h])<;>(first|(exfalso;omega)|(focus (exfalso;simp_all;done))|(simp (disch:=omega) only [push_cast,seval])|skip))
 | ((first|((with_reducible refine callDN_of (f:=45) ?_);simp (disch:=omega) only [push_cast,seval];((with_reducible refine call0DN (growD_ok _ ?_) ?_);(exact sd);rintro _ _ ⟨rfl,rfl⟩))|((with_reducible refine callDN_of (f:=45) ?_);simp (disch:=omega) only [push_cast,seval];((with_reducible refine call0DN (growD0_ok) ?_);rintro _ _ ⟨rfl,rfl⟩)))<;>(try simp (disch:=omega) only [push_cast,seval]))
 | (refine awp_ret ⟨.inr rfl,[384],[],_,by decide,rfl,?_⟩;(try simp (disch:=omega) only [push_cast,seval,↓allMem_nil,↓allMem_cons,↓List.map_cons,↓List.map_nil]))))
  refine awp_loop (fun k:Nat=>mkS [(0,.rows false [.rows false [] 0,.rows false [] 0] 2),(3,.int .i64 0),(9,.rows false [.rows false [] 0,.rows false [] 0] 2),(10,.int .i64 2),(11,.int .i64 k)] []) (fun k=>k ≤ 2) (fun k=>2 - k) 0 (by omega) ?_ ?_
  · (refine Sub.of_lists ?_ ?_ ?_ ?_ ?_<;>simp [Vw.mkS,Vw.lk,Vw.hk,AV.inn,innL,innL_ints,innL_append,innL_rep,-List.map_set,-List.getD_eq_getElem?_getD])
  · intro k hk
    have hk3:k=0 ∨ k=1 ∨ k=2:=by omega
    rcases hk3 with rfl|rfl|rfl
    · (repeat' (first
 | (first|refine awp_seq ?_|refine awp_block ?_)
 | ((first|refine awp_reg ?_|refine awp_condB ?_|refine awp_skip ?_|refine awp_exit ?_);simp (disch:=omega) only [push_cast,seval,l23r0,l23r1,l23r2,l23r3,l23r4,l23r5,l23r6,l23r7,l23r8,l23r9,l23r10,l23r11,l23r12,l23r13,l23r14,l23r15,c0,c1,c2])
 | ((first|refine condB_split (fun h=>?_) (fun h=>?_)|refine gIf_split (fun h=>?_) (fun h=>?_)|refine qIf_split (fun h=>?_) (fun h=>?_))<;>(try simp only [h])<;>(try simp only [bitvec_to_nat] at h)<;>(try simp only [h])<;>(first|(exfalso;omega)|(focus (exfalso;simp_all;done))|(simp (disch:=omega) only [push_cast,seval,c0,c1,c2])|skip))
 | ((first|((with_reducible refine callDN_of (f:=45) ?_);simp (disch:=omega) only [push_cast,seval,c0,c1,c2];((with_reducible refine call0DN (growD_ok _ ?_) ?_);(exact sd);rintro _ _ ⟨rfl,rfl⟩))|((with_reducible refine callDN_of (f:=45) ?_);simp (disch:=omega) only [push_cast,seval,c0,c1,c2];((with_reducible refine call0DN (growD0_ok) ?_);rintro _ _ ⟨rfl,rfl⟩)))<;>(try simp (disch:=omega) only [push_cast,seval,c0,c1,c2]))
 | (refine awp_ret ⟨.inr rfl,[384],[],_,by decide,rfl,?_⟩;(try simp (disch:=omega) only [push_cast,seval,↓allMem_nil,↓allMem_cons,↓List.map_cons,↓List.map_nil,c0,c1,c2]))))
      refine ⟨1,by omega,by omega,?_⟩
      (refine Sub.of_lists ?_ ?_ ?_ ?_ ?_<;>simp [Vw.mkS,Vw.lk,Vw.hk,AV.inn,innL,innL_ints,innL_append,innL_rep,-List.map_set,-List.getD_eq_getElem?_getD])
    · (repeat' (first
 | (first|refine awp_seq ?_|refine awp_block ?_)
 | ((first|refine awp_reg ?_|refine awp_condB ?_|refine awp_skip ?_|refine awp_exit ?_);simp (disch:=omega) only [push_cast,seval,l23r0,l23r1,l23r2,l23r3,l23r4,l23r5,l23r6,l23r7,l23r8,l23r9,l23r10,l23r11,l23r12,l23r13,l23r14,l23r15,c0,c1,c2])
 | ((first|refine condB_split (fun h=>?_) (fun h=>?_)|refine gIf_split (fun h=>?_) (fun h=>?_)|refine qIf_split (fun h=>?_) (fun h=>?_))<;>(try simp only [h])<;>(try simp only [bitvec_to_nat] at h)<;>(try simp only [h])<;>(first|(exfalso;omega)|(focus (exfalso;simp_all;done))|(simp (disch:=omega) only [push_cast,seval,c0,c1,c2])|skip))
 | ((first|((with_reducible refine callDN_of (f:=45) ?_);simp (disch:=omega) only [push_cast,seval,c0,c1,c2];((with_reducible refine call0DN (growD_ok _ ?_) ?_);(exact sd);rintro _ _ ⟨rfl,rfl⟩))|((with_reducible refine callDN_of (f:=45) ?_);simp (disch:=omega) only [push_cast,seval,c0,c1,c2];((with_reducible refine call0DN (growD0_ok) ?_);rintro _ _ ⟨rfl,rfl⟩)))<;>(try simp (disch:=omega) only [push_cast,seval,c0,c1,c2]))
 | (refine awp_ret ⟨.inr rfl,[384],[],_,by decide,rfl,?_⟩;(try simp (disch:=omega) only [push_cast,seval,↓allMem_nil,↓allMem_cons,↓List.map_cons,↓List.map_nil,c0,c1,c2]))))
      refine ⟨2,by omega,by omega,?_⟩
      (refine Sub.of_lists ?_ ?_ ?_ ?_ ?_<;>simp [Vw.mkS,Vw.lk,Vw.hk,AV.inn,innL,innL_ints,innL_append,innL_rep,-List.map_set,-List.getD_eq_getElem?_getD])
    · (repeat' (first
 | (first|refine awp_seq ?_|refine awp_block ?_)
 | ((first|refine awp_reg ?_|refine awp_condB ?_|refine awp_skip ?_|refine awp_exit ?_);simp (disch:=omega) only [push_cast,seval,l23r0,l23r1,l23r2,l23r3,l23r4,l23r5,l23r6,l23r7,l23r8,l23r9,l23r10,l23r11,l23r12,l23r13,l23r14,l23r15,c0,c1,c2])
 | ((first|refine condB_split (fun h=>?_) (fun h=>?_)|refine gIf_split (fun h=>?_) (fun h=>?_)|refine qIf_split (fun h=>?_) (fun h=>?_))<;>(try simp only [h])<;>(try simp only [bitvec_to_nat] at h)<;>(try simp only [h])<;>(first|(exfalso;omega)|(focus (exfalso;simp_all;done))|(simp (disch:=omega) only [push_cast,seval,c0,c1,c2])|skip))
 | ((first|((with_reducible refine callDN_of (f:=45) ?_);simp (disch:=omega) only [push_cast,seval,c0,c1,c2];((with_reducible refine call0DN (growD_ok _ ?_) ?_);(exact sd);rintro _ _ ⟨rfl,rfl⟩))|((with_reducible refine callDN_of (f:=45) ?_);simp (disch:=omega) only [push_cast,seval,c0,c1,c2];((with_reducible refine call0DN (growD0_ok) ?_);rintro _ _ ⟨rfl,rfl⟩)))<;>(try simp (disch:=omega) only [push_cast,seval,c0,c1,c2]))
 | (refine awp_ret ⟨.inr rfl,[384],[],_,by decide,rfl,?_⟩;(try simp (disch:=omega) only [push_cast,seval,↓allMem_nil,↓allMem_cons,↓List.map_cons,↓List.map_nil,c0,c1,c2]))))
      refine awp_loop (fun j:Nat=>mkS [(6,.own 384 0 2),(25,.rows false [.rows false [] 0,.rows false [] 0] 2),(26,.int .i64 2),(27,.int .i64 j)] [(384,[])]) (fun j=>j ≤ 2) (fun j=>2 - j) 0 (by omega) ?_ ?_
      · (refine Sub.of_lists ?_ ?_ ?_ ?_ ?_<;>simp [Vw.mkS,Vw.lk,Vw.hk,AV.inn,innL,innL_ints,innL_append,innL_rep,-List.map_set,-List.getD_eq_getElem?_getD])
      · intro j hj
        have hj3:j=0 ∨ j=1 ∨ j=2:=by omega
        rcases hj3 with rfl|rfl|rfl
        · (repeat' (first
 | (first|refine awp_seq ?_|refine awp_block ?_)
 | ((first|refine awp_reg ?_|refine awp_condB ?_|refine awp_skip ?_|refine awp_exit ?_);simp (disch:=omega) only [push_cast,seval,l23r0,l23r1,l23r2,l23r3,l23r4,l23r5,l23r6,l23r7,l23r8,l23r9,l23r10,l23r11,l23r12,l23r13,l23r14,l23r15,c0,c1,c2])
 | ((first|refine condB_split (fun h=>?_) (fun h=>?_)|refine gIf_split (fun h=>?_) (fun h=>?_)|refine qIf_split (fun h=>?_) (fun h=>?_))<;>(try simp only [h])<;>(try simp only [bitvec_to_nat] at h)<;>(try simp only [h])<;>(first|(exfalso;omega)|(focus (exfalso;simp_all;done))|(simp (disch:=omega) only [push_cast,seval,c0,c1,c2])|skip))
 | ((first|((with_reducible refine callDN_of (f:=45) ?_);simp (disch:=omega) only [push_cast,seval,c0,c1,c2];((with_reducible refine call0DN (growD_ok _ ?_) ?_);(exact sd);rintro _ _ ⟨rfl,rfl⟩))|((with_reducible refine callDN_of (f:=45) ?_);simp (disch:=omega) only [push_cast,seval,c0,c1,c2];((with_reducible refine call0DN (growD0_ok) ?_);rintro _ _ ⟨rfl,rfl⟩)))<;>(try simp (disch:=omega) only [push_cast,seval,c0,c1,c2]))
 | (refine awp_ret ⟨.inr rfl,[384],[],_,by decide,rfl,?_⟩; (try simp (disch := omega) only [push_cast,seval,↓allMem_nil,↓allMem_cons,↓List.map_cons,↓List.map_nil,c0,c1,c2]))))
          refine ⟨1,by omega,by omega,?_⟩
          (refine Sub.of_lists ?_ ?_ ?_ ?_ ?_<;>simp [Vw.mkS,Vw.lk,Vw.hk,AV.inn,innL,innL_ints,innL_append,innL_rep,-List.map_set,-List.getD_eq_getElem?_getD])
        · (repeat' (first
 | (first|refine awp_seq ?_|refine awp_block ?_)
 | ((first|refine awp_reg ?_|refine awp_condB ?_|refine awp_skip ?_|refine awp_exit ?_);simp (disch:=omega) only [push_cast,seval,l23r0,l23r1,l23r2,l23r3,l23r4,l23r5,l23r6,l23r7,l23r8,l23r9,l23r10,l23r11,l23r12,l23r13,l23r14,l23r15,c0,c1,c2])
 | ((first|refine condB_split (fun h=>?_) (fun h=>?_)|refine gIf_split (fun h=>?_) (fun h=>?_)|refine qIf_split (fun h=>?_) (fun h=>?_))<;>(try simp only [h])<;>(try simp only [bitvec_to_nat] at h)<;>(try simp only [h])<;>(first|(exfalso;omega)|(focus (exfalso;simp_all;done))|(simp (disch:=omega) only [push_cast,seval,c0,c1,c2])|skip))
 | ((first|((with_reducible refine callDN_of (f:=45) ?_);simp (disch:=omega) only [push_cast,seval,c0,c1,c2];((with_reducible refine call0DN (growD_ok _ ?_) ?_);(exact sd);rintro _ _ ⟨rfl,rfl⟩))|((with_reducible refine callDN_of (f:=45) ?_);simp (disch:=omega) only [push_cast,seval,c0,c1,c2];((with_reducible refine call0DN (growD0_ok) ?_);rintro _ _ ⟨rfl,rfl⟩)))<;>(try simp (disch:=omega) only [push_cast,seval,c0,c1,c2]))
 | (refine awp_ret ⟨.inr rfl,[384],[],_,by decide,rfl,?_⟩; (try simp (disch := omega) only [push_cast,seval,↓allMem_nil,↓allMem_cons,↓List.map_cons,↓List.map_nil,c0,c1,c2]))))
          refine ⟨2,by omega,by omega,?_⟩
          (refine Sub.of_lists ?_ ?_ ?_ ?_ ?_<;>simp [Vw.mkS,Vw.lk,Vw.hk,AV.inn,innL,innL_ints,innL_append,innL_rep,-List.map_set,-List.getD_eq_getElem?_getD])
        · (repeat' (first
 | (first|refine awp_seq ?_|refine awp_block ?_)
 | ((first|refine awp_reg ?_|refine awp_condB ?_|refine awp_skip ?_|refine awp_exit ?_);simp (disch:=omega) only [push_cast,seval,l23r0,l23r1,l23r2,l23r3,l23r4,l23r5,l23r6,l23r7,l23r8,l23r9,l23r10,l23r11,l23r12,l23r13,l23r14,l23r15,c0,c1,c2])
 | ((first|refine condB_split (fun h=>?_) (fun h=>?_)|refine gIf_split (fun h=>?_) (fun h=>?_)|refine qIf_split (fun h=>?_) (fun h=>?_))<;>(try simp only [h])<;>(try simp only [bitvec_to_nat] at h)<;>(try simp only [h])<;>(first|(exfalso;omega)|(focus (exfalso;simp_all;done))|(simp (disch:=omega) only [push_cast,seval,c0,c1,c2])|skip))
 | ((first|((with_reducible refine callDN_of (f:=45) ?_);simp (disch:=omega) only [push_cast,seval,c0,c1,c2];((with_reducible refine call0DN (growD_ok _ ?_) ?_);(exact sd);rintro _ _ ⟨rfl,rfl⟩))|((with_reducible refine callDN_of (f:=45) ?_);simp (disch:=omega) only [push_cast,seval,c0,c1,c2];((with_reducible refine call0DN (growD0_ok) ?_);rintro _ _ ⟨rfl,rfl⟩)))<;>(try simp (disch:=omega) only [push_cast,seval,c0,c1,c2]))
 | (refine awp_ret ⟨.inr rfl,[384],[],_,by decide,rfl,?_⟩; (try simp (disch := omega) only [push_cast,seval,↓allMem_nil,↓allMem_cons,↓List.map_cons,↓List.map_nil,c0,c1,c2]))))
          all_goals (try exact ⟨rfl,rfl⟩)

end Go.Proofs.YtejbfjmiidofcaaGreat
