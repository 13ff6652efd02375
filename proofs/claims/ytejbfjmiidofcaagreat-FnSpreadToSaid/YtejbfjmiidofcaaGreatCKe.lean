import Derived.Test.YtejbfjmiidofcaaGreatCKd
import Derived.Test.YtejbfjmiidofcaaGreatCM1

set_option linter.unusedSimpArgs false
set_option linter.unusedVariables false
set_option maxRecDepth 4000
set_option maxHeartbeats 4000000
namespace Go.Proofs.YtejbfjmiidofcaaGreat
open VwM Vw Go

theorem placesOf_ok (sh idx:List Int) (n m:Nat) (hn:sh.length=n) (hm:idx.length=m) (hb:(good4 sh ∧ n ≤ 1099511627776) ∧ m ≤ 1099511627776):PCall Tryz.prog 35 [.rows false (IL sh) n,.rows false (IL idx) m] (fun r=>r=.tup [AP (idxP sh idx),.bool (vIx sh idx)]):=by
  subst hn hm
  obtain ⟨⟨hg,hb1⟩,hb2⟩:=hb
  have hl:=hg.2
  refine pcall_of l35_eq rfl ?_
  have z4:∀ f:Nat → Int,(∀ i,f i=0) → pad4 f=pad4 fun _=>0:=fun f hf=>pad4_congr fun i _=>hf i
  by_cases hlen:idx.length=sh.length
  · (repeat' (first
 | (first|refine awp_seq ?_|refine awp_block ?_)
 | ((first|refine awp_reg ?_|refine awp_condB ?_|refine awp_skip ?_|refine awp_exit ?_);simp (disch:=omega) only [push_cast,seval,l35r0,l35r1,l35r2,l35r3,l35r4,l35r5,l35r6,l35r7,l35r8,l35r9,l35r10,l35r11,hlen])
 | ((first|refine condB_split (fun h=>?_) (fun h=>?_)|refine gIf_split (fun h=>?_) (fun h=>?_)|refine qIf_split (fun h=>?_) (fun h=>?_))<;>(try simp only [h])<;>(try simp only [bitvec_to_nat] at h)<;>(try simp only [h])<;>(first|(exfalso;omega)|(focus (exfalso;simp_all;done))|(simp (disch:=omega) only [push_cast,seval,hlen])|skip))
 | ((first|refine callD_of false ?_|refine qcallD_of false ?_);simp (disch:=omega) only [push_cast,seval,hlen])
 | ((first|((first|refine call0D (BCall.ofP (upTo_ok _ _)) ?_|refine qcall0D (BCall.ofP (upTo_ok _ _)) ⟨_,_,rfl,rfl⟩ ?_);rintro _ _ ⟨rfl,rfl⟩))<;>(try simp (disch:=omega) only [push_cast,seval,hlen]))
 | (refine awp_ret ⟨.inr rfl,_,rfl,?_⟩;(try simp (disch:=omega) only [push_cast,seval,hlen]))))
    refine awp_loop (fun k:Nat=>mkS [(1,.rows false (IL idx) sh.length),(4,.ref 64 4 0),(6,.ref 96 4 0),(15,RI sh),(16,.int .i64 sh.length),(17,.int .i64 k)] [(64,IL (pad4 fun _=>0)),(96,IL (pad4 fun i=>if i < k then idx.getD i 0 else 0))]) (fun k=>k ≤ idx.length ∧ ∀ j:Nat,j < k → 0 ≤ idx.getD j 0 ∧ idx.getD j 0 ≤ sh.getD j 0 - 1) (fun k=>idx.length - k) 0 ⟨Nat.zero_le _,fun j h=>absurd h (Nat.not_lt_zero _)⟩ ?_ ?_
    · (refine Sub.of_lists ?_ ?_ ?_ ?_ ?_<;>simp [Vw.mkS,Vw.lk,Vw.hk,AV.inn,innL,innL_ints,innL_append,innL_rep,-List.map_set,-List.getD_eq_getElem?_getD,pad4])
    · rintro k ⟨hk,hj⟩
      by_cases hlt:k < idx.length
      · have h4:=good4_at hg (k:=k) (by omega)
        have e3:(pad4 fun i=>if i < k then idx.getD i 0 else 0).set k (idx.getD k 0)=pad4 fun i=>if i < k + 1 then idx.getD i 0 else 0:=by
          rw [pad4_set _ _ _ (by omega)]
          refine pad4_congr fun i hi=>?_
          by_cases h:i=k
          · subst h;rw [if_pos rfl,if_pos (by omega)]
          · rw [if_neg h]
            by_cases h5:i < k
            · rw [if_pos h5,if_pos (by omega)]
            · rw [if_neg h5,if_neg (by omega)]
        (repeat' (first
 | (first|refine awp_seq ?_|refine awp_block ?_)
 | ((first|refine awp_reg ?_|refine awp_condB ?_|refine awp_skip ?_|refine awp_exit ?_);simp (disch:=omega) only [push_cast,seval,l35r0,l35r1,l35r2,l35r3,l35r4,l35r5,l35r6,l35r7,l35r8,l35r9,l35r10,l35r11])
 | ((first|refine condB_split (fun h=>?_) (fun h=>?_)|refine gIf_split (fun h=>?_) (fun h=>?_)|refine qIf_split (fun h=>?_) (fun h=>?_))<;>(try simp only [h])<;>(try simp only [bitvec_to_nat] at h)<;>(try simp only [h])<;>(first|(exfalso;omega)|(focus (exfalso;simp_all;done))|(simp (disch:=omega) only [push_cast,seval])|skip))
 | ((first|refine callD_of false ?_|refine qcallD_of false ?_);simp (disch:=omega) only [push_cast,seval])
 | ((first|((first|refine call0D (BCall.ofP (upTo_ok _ _)) ?_|refine qcall0D (BCall.ofP (upTo_ok _ _)) ⟨_,_,rfl,rfl⟩ ?_);rintro _ _ ⟨rfl,rfl⟩))<;>(try simp (disch:=omega) only [push_cast,seval]))
 | (refine awp_ret ⟨.inr rfl,_,rfl,?_⟩;(try simp (disch:=omega) only [push_cast,seval]))))
        · have hf:=vIx_false (sh:=sh) (j:=k) hlt (by assumption)
          rw [hf]
          simp (disch:=omega) only [push_cast,seval,pad4,List.map_cons,List.map_nil]
          rw [AP,idxP_false hf]
          simp [pad4]
        · refine ⟨k + 1,⟨by omega,fun j h=>?_⟩,by omega,?_⟩
          · by_cases hjk:j=k
            · subst hjk;assumption
            · exact hj j (by omega)
          · (refine Sub.of_lists ?_ ?_ ?_ ?_ ?_<;>simp [Vw.mkS,Vw.lk,Vw.hk,AV.inn,innL,innL_ints,innL_append,innL_rep,-List.map_set,-List.getD_eq_getElem?_getD,IL_set,e3])
      · have hv:vIx sh idx=true:=vIx_spec.2 ⟨hlen,fun i hi=>hj i (by omega)⟩
        (repeat' (first
 | (first|refine awp_seq ?_|refine awp_block ?_)
 | ((first|refine awp_reg ?_|refine awp_condB ?_|refine awp_skip ?_|refine awp_exit ?_);simp (disch:=omega) only [push_cast,seval,l35r0,l35r1,l35r2,l35r3,l35r4,l35r5,l35r6,l35r7,l35r8,l35r9,l35r10,l35r11])
 | ((first|refine condB_split (fun h=>?_) (fun h=>?_)|refine gIf_split (fun h=>?_) (fun h=>?_)|refine qIf_split (fun h=>?_) (fun h=>?_))<;>(try simp only [h])<;>(try simp only [bitvec_to_nat] at h)<;>(try simp only [h])<;>(first|(exfalso;omega)|(focus (exfalso;simp_all;done))|(simp (disch:=omega) only [push_cast,seval])|skip))
 | ((first|refine callD_of false ?_|refine qcallD_of false ?_);simp (disch:=omega) only [push_cast,seval])
 | ((first|((first|refine call0D (BCall.ofP (upTo_ok _ _)) ?_|refine qcall0D (BCall.ofP (upTo_ok _ _)) ⟨_,_,rfl,rfl⟩ ?_);rintro _ _ ⟨rfl,rfl⟩))<;>(try simp (disch:=omega) only [push_cast,seval]))
 | (refine awp_ret ⟨.inr rfl,_,rfl,?_⟩;(try simp (disch:=omega) only [push_cast,seval]))))
        rw [hv]
        have e2:pad4 (fun i=>if i < k then idx.getD i 0 else 0)=pad4 (idxP sh idx):=pad4_congr fun i _=>by
          unfold idxP
          by_cases h:i < k
          · rw [if_pos h,if_pos ⟨hv,by omega⟩]
          · rw [if_neg h,if_neg (fun hh=>by omega)]
        exact congrArg (fun l=>AV.tup [AV.agg (IL l),AV.bool true]) e2
  · have hlen':¬ (idx.length:Int)=sh.length:=by omega
    (repeat' (first
 | (first|refine awp_seq ?_|refine awp_block ?_)
 | ((first|refine awp_reg ?_|refine awp_condB ?_|refine awp_skip ?_|refine awp_exit ?_);simp (disch:=omega) only [push_cast,seval,l35r0,l35r1,l35r2,l35r3,l35r4,l35r5,l35r6,l35r7,l35r8,l35r9,l35r10,l35r11,hlen'])
 | ((first|refine condB_split (fun h=>?_) (fun h=>?_)|refine gIf_split (fun h=>?_) (fun h=>?_)|refine qIf_split (fun h=>?_) (fun h=>?_))<;>(try simp only [h])<;>(try simp only [bitvec_to_nat] at h)<;>(try simp only [h])<;>(first|(exfalso;omega)|(focus (exfalso;simp_all;done))|(simp (disch:=omega) only [push_cast,seval,hlen'])|skip))
 | ((first|refine callD_of false ?_|refine qcallD_of false ?_);simp (disch:=omega) only [push_cast,seval,hlen'])
 | ((first|((first|refine call0D (BCall.ofP (upTo_ok _ _)) ?_|refine qcall0D (BCall.ofP (upTo_ok _ _)) ⟨_,_,rfl,rfl⟩ ?_);rintro _ _ ⟨rfl,rfl⟩))<;>(try simp (disch:=omega) only [push_cast,seval,hlen']))
 | (refine awp_ret ⟨.inr rfl,_,rfl,?_⟩;(try simp (disch:=omega) only [push_cast,seval,hlen']))))
    rw [vIx_len hlen,AP,idxP_false (vIx_len hlen)]
    simp (disch:=omega) only [push_cast,seval,pad4,List.map_cons,List.map_nil]



theorem along_ok (f:Nat → Int) (st:List Int) (n:Nat) (hn:st.length=n) (hb:n ≤ 4 ∧ ∀ i,i < n → (-60 ≤ f i ∧ f i ≤ 60) ∧ -12960000 ≤ st.getD i 0 ∧ st.getD i 0 ≤ 12960000):PCall Tryz.prog 53 [AP f,.rows false (IL st) n] (fun r=>r=.int .i64 (dot f st n)):=by
  subst hn
  obtain ⟨hl,hb⟩:=hb
  refine pcall_of l53_eq rfl ?_
  (repeat' (first
 | (first|refine awp_seq ?_|refine awp_block ?_)
 | ((first|refine awp_reg ?_|refine awp_condB ?_|refine awp_skip ?_|refine awp_exit ?_);simp (disch:=omega) only [push_cast,seval,l53r0,l53r1,l53r2,l53r3,l53r4,l53r5,l53r6,l53r7])
 | ((first|refine condB_split (fun h=>?_) (fun h=>?_)|refine gIf_split (fun h=>?_) (fun h=>?_)|refine qIf_split (fun h=>?_) (fun h=>?_))<;>(try simp only [h])<;>(try simp only [bitvec_to_nat] at h)<;>(try simp only [h])<;>(first|(exfalso;omega)|(focus (exfalso;simp_all;done))|(simp (disch:=omega) only [push_cast,seval])|skip))
 | (refine awp_ret ⟨.inr rfl,_,rfl,?_⟩;(try simp (disch:=omega) only [push_cast,seval]))))
  refine awp_loop (fun k:Nat=>mkS [(2,.ref 32 4 0),(5,.int .i64 (dot f st k)),(8,RI st),(9,.int .i64 st.length),(10,.int .i64 k)] [(32,IL (pad4 f))]) (fun k=>k ≤ st.length) (fun k=>st.length - k) 0 (Nat.zero_le _) ?_ ?_
  · (refine Sub.of_lists ?_ ?_ ?_ ?_ ?_<;>simp [Vw.mkS,Vw.lk,Vw.hk,AV.inn,innL,innL_ints,innL_append,innL_rep,-List.map_set,-List.getD_eq_getElem?_getD,dot,pad4])
  · intro k hk
    by_cases hlt:k < st.length
    · have h1:=dot_bound (f:=f) (st:=st) (B:=60) (C:=12960000) k fun i hi=>hb i (by omega)
      have h2:=mul_abs_bound (hb k hlt).1 (hb k hlt).2
      have h3:=pad4_getD f k (by omega)
      (repeat' (first
 | (first|refine awp_seq ?_|refine awp_block ?_)
 | ((first|refine awp_reg ?_|refine awp_condB ?_|refine awp_skip ?_|refine awp_exit ?_);simp (disch:=omega) only [push_cast,seval,l53r0,l53r1,l53r2,l53r3,l53r4,l53r5,l53r6,l53r7,h3])
 | ((first|refine condB_split (fun h=>?_) (fun h=>?_)|refine gIf_split (fun h=>?_) (fun h=>?_)|refine qIf_split (fun h=>?_) (fun h=>?_))<;>(try simp only [h])<;>(try simp only [bitvec_to_nat] at h)<;>(try simp only [h])<;>(first|(exfalso;omega)|(focus (exfalso;simp_all;done))|(simp (disch:=omega) only [push_cast,seval,h3])|skip))
 | (refine awp_ret ⟨.inr rfl,_,rfl,?_⟩;(try simp (disch:=omega) only [push_cast,seval,h3]))))
      refine ⟨k + 1,by omega,by omega,?_⟩
      (refine Sub.of_lists ?_ ?_ ?_ ?_ ?_<;>simp [Vw.mkS,Vw.lk,Vw.hk,AV.inn,innL,innL_ints,innL_append,innL_rep,-List.map_set,-List.getD_eq_getElem?_getD,dot])
    · (repeat' (first
 | (first|refine awp_seq ?_|refine awp_block ?_)
 | ((first|refine awp_reg ?_|refine awp_condB ?_|refine awp_skip ?_|refine awp_exit ?_);simp (disch:=omega) only [push_cast,seval,l53r0,l53r1,l53r2,l53r3,l53r4,l53r5,l53r6,l53r7])
 | ((first|refine condB_split (fun h=>?_) (fun h=>?_)|refine gIf_split (fun h=>?_) (fun h=>?_)|refine qIf_split (fun h=>?_) (fun h=>?_))<;>(try simp only [h])<;>(try simp only [bitvec_to_nat] at h)<;>(try simp only [h])<;>(first|(exfalso;omega)|(focus (exfalso;simp_all;done))|(simp (disch:=omega) only [push_cast,seval])|skip))
 | (refine awp_ret ⟨.inr rfl,_,rfl,?_⟩;(try simp (disch:=omega) only [push_cast,seval]))))
      rw [show k=st.length by omega]

end Go.Proofs.YtejbfjmiidofcaaGreat
