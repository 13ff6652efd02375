import Derived.Test.YtfphjgmkpgoomaaGreatCKw6
import Derived.Test.YtfphjgmkpgoomaaGreatCM1
import Derived.Test.YtfphjgmkpgoomaaGreatCW3
set_option linter.unusedSimpArgs false
set_option linter.unusedVariables false
set_option maxRecDepth 4000
set_option maxHeartbeats 4000000
namespace Go.Proofs.YtfphjgmkpgoomaaGreat
open VwM Vw Go

theorem hasDim_ok (b:Int) (sh st:List Int) (n m:Nat) (d:Int) (hn:sh.length=n) (hm:st.length=m) (hb:n ≤ 1099511627776 ∧ m ≤ 1099511627776):PCall Tryz.prog 38 [.agg [.int .i64 b,.rows false (IL sh) n,.rows false (IL st) m],.int .i64 d] (fun r=>r=.bool (vV b sh st && (decide (0 ≤ d) && decide (d ≤ (n:Int) - 1)))):=by
  subst hn hm
  obtain ⟨hb1,hb2⟩:=hb
  refine pcall_of l38_eq rfl ?_
  cases hv:vV b sh st with
  | false =>
    (repeat' (first
 | (first|refine awp_seq ?_|refine awp_block ?_)
 | ((first|refine awp_reg ?_|refine awp_condB ?_|refine awp_skip ?_|refine awp_exit ?_);simp (disch:=omega) only [push_cast,seval,l38r0,l38r1,hv])
 | ((first|refine condB_split (fun h=>?_) (fun h=>?_)|refine gIf_split (fun h=>?_) (fun h=>?_)|refine qIf_split (fun h=>?_) (fun h=>?_))<;>(try simp only [h])<;>(try simp only [bitvec_to_nat] at h)<;>(try simp only [h])<;>(first|(exfalso;omega)|(focus (exfalso;simp_all;done))|(simp (disch:=omega) only [push_cast,seval,hv])|skip))
 | ((first|refine callD_of false ?_|refine qcallD_of false ?_);simp (disch:=omega) only [push_cast,seval,hv])
 | ((first|((first|refine call0D (BCall.ofP (iValidView_ok _ _ _ _ _ ?_ ?_ ?_)) ?_|refine qcall0D (BCall.ofP (iValidView_ok _ _ _ _ _ ?_ ?_ ?_)) ⟨_,_,rfl,rfl⟩ ?_);(iterate 3 (exact sd));rintro _ _ ⟨rfl,rfl⟩)|((first|refine call0D (BCall.ofP (upTo_ok _ _)) ?_|refine qcall0D (BCall.ofP (upTo_ok _ _)) ⟨_,_,rfl,rfl⟩ ?_);rintro _ _ ⟨rfl,rfl⟩))<;>(try simp (disch:=omega) only [push_cast,seval,hv]))
 | (refine awp_ret ⟨.inr rfl,_,rfl,?_⟩;(try simp (disch:=omega) only [push_cast,seval,hv]))))
    all_goals (try simp)
  | true =>
    (repeat' (first
 | (first|refine awp_seq ?_|refine awp_block ?_)
 | ((first|refine awp_reg ?_|refine awp_condB ?_|refine awp_skip ?_|refine awp_exit ?_);simp (disch:=omega) only [push_cast,seval,l38r0,l38r1,hv])
 | ((first|refine condB_split (fun h=>?_) (fun h=>?_)|refine gIf_split (fun h=>?_) (fun h=>?_)|refine qIf_split (fun h=>?_) (fun h=>?_))<;>(try simp only [h])<;>(try simp only [bitvec_to_nat] at h)<;>(try simp only [h])<;>(first|(exfalso;omega)|(focus (exfalso;simp_all;done))|(simp (disch:=omega) only [push_cast,seval,hv])|skip))
 | ((first|refine callD_of false ?_|refine qcallD_of false ?_);simp (disch:=omega) only [push_cast,seval,hv])
 | ((first|((first|refine call0D (BCall.ofP (iValidView_ok _ _ _ _ _ ?_ ?_ ?_)) ?_|refine qcall0D (BCall.ofP (iValidView_ok _ _ _ _ _ ?_ ?_ ?_)) ⟨_,_,rfl,rfl⟩ ?_);(iterate 3 (exact sd));rintro _ _ ⟨rfl,rfl⟩)|((first|refine call0D (BCall.ofP (upTo_ok _ _)) ?_|refine qcall0D (BCall.ofP (upTo_ok _ _)) ⟨_,_,rfl,rfl⟩ ?_);rintro _ _ ⟨rfl,rfl⟩))<;>(try simp (disch:=omega) only [push_cast,seval,hv]))
 | (refine awp_ret ⟨.inr rfl,_,rfl,?_⟩;(try simp (disch:=omega) only [push_cast,seval,hv]))))
    all_goals (try simp)


theorem dimOf_ok (e s:Int):PCall Tryz.prog 42 [.int .i64 e,.int .i64 s] (fun r=>r=.agg [.int .i64 e,.int .i64 (dmS e s)]):=by
  refine pcall_of l42_eq rfl ?_
  unfold dmS
  by_cases h:e < 2
  · rw [if_pos h]
    (repeat' (first
 | (first|refine awp_seq ?_|refine awp_block ?_)
 | ((first|refine awp_reg ?_|refine awp_condB ?_|refine awp_skip ?_|refine awp_exit ?_);simp (disch:=omega) only [push_cast,seval,l42r0,l42r1,l42r2,l42r3,h])
 | ((first|refine condB_split (fun h=>?_) (fun h=>?_)|refine gIf_split (fun h=>?_) (fun h=>?_)|refine qIf_split (fun h=>?_) (fun h=>?_))<;>(try simp only [h])<;>(try simp only [bitvec_to_nat] at h)<;>(try simp only [h])<;>(first|(exfalso;omega)|(focus (exfalso;simp_all;done))|(simp (disch:=omega) only [push_cast,seval,h])|skip))
 | (refine awp_ret ⟨.inr rfl,_,rfl,?_⟩;(try simp (disch:=omega) only [push_cast,seval,h]))))
  · rw [if_neg h]
    (repeat' (first
 | (first|refine awp_seq ?_|refine awp_block ?_)
 | ((first|refine awp_reg ?_|refine awp_condB ?_|refine awp_skip ?_|refine awp_exit ?_);simp (disch:=omega) only [push_cast,seval,l42r0,l42r1,l42r2,l42r3,h])
 | ((first|refine condB_split (fun h=>?_) (fun h=>?_)|refine gIf_split (fun h=>?_) (fun h=>?_)|refine qIf_split (fun h=>?_) (fun h=>?_))<;>(try simp only [h])<;>(try simp only [bitvec_to_nat] at h)<;>(try simp only [h])<;>(first|(exfalso;omega)|(focus (exfalso;simp_all;done))|(simp (disch:=omega) only [push_cast,seval,h])|skip))
 | (refine awp_ret ⟨.inr rfl,_,rfl,?_⟩;(try simp (disch:=omega) only [push_cast,seval,h]))))


set_option maxHeartbeats 8000000 in
theorem settled_ok (b:Int) (sh st:List Int) (p0 p1 p2 p3:Int) (D E:List Int) (n m k:Nat) (hm:st.length=m) (hk:E.length=D.length ∧ D.length=k) (hb:((m ≤ 4 ∧ (-1000000 ≤ b ∧ b ≤ 1000000) ∧ ∀ i,i < m → (-60 ≤ at4 p0 p1 p2 p3 i ∧ at4 p0 p1 p2 p3 i ≤ 60) ∧ -12960000 ≤ st.getD i 0 ∧ st.getD i 0 ≤ 12960000) ∧ k ≤ 1000) ∧ good4 D) :
    BCall Tryz.prog 44 [.agg [.int .i64 b,.rows false (IL sh) n,.rows false (IL st) m,.int .i64 p0,.int .i64 p1,.int .i64 p2,.int .i64 p3,.rows false (IL (dm D E)) k]] [] (OV (stB D (b + dot (at4 p0 p1 p2 p3) st m)) D (stE D E)):=by
  subst hm
  obtain ⟨hk1,hk2⟩:=hk
  subst hk2
  obtain ⟨hb,hg⟩:=hb
  have hg4:=hg.2
  refine bcall_of (pins:=[]) (pin:=0) l44_eq rfl rfl rfl ?_
  have hkk:E.length=D.length ∧ D.length=D.length:=⟨hk1,rfl⟩
  unfold stB stE
  by_cases hz:pr D=0
  · rw [if_pos hz,if_pos hz]
    (repeat' (first
 | (first|refine awp_seq ?_|refine awp_block ?_)
 | ((first|refine awp_reg ?_|refine awp_drawX (mid:=l44r3a) (post:=l44r3b) [48,1000000009,1000000010,1000000013] mixed (by decide) ?_|refine awp_condB ?_|refine awp_skip ?_|refine awp_exit ?_);simp (disch:=omega) only [push_cast,seval,l44r0,l44r1,l44r2,l44r3a,l44r3b,l44r3,l44r4,hz,List.length_replicate])
 | ((first|refine condB_split (fun h=>?_) (fun h=>?_)|refine gIf_split (fun h=>?_) (fun h=>?_)|refine qIf_split (fun h=>?_) (fun h=>?_))<;>(try simp only [h])<;>(try simp only [bitvec_to_nat] at h)<;>(try simp only [h])<;>(first|(exfalso;omega)|(focus (exfalso;simp_all;done))|(simp (disch:=omega) only [push_cast,seval,hz,List.length_replicate])|skip))
 | ((first|refine callD_of false ?_|refine qcallD_of false ?_);simp (disch:=omega) only [push_cast,seval,hz,List.length_replicate])
 | ((first|((first|refine call0D (partview4_ok _ _ _ _ _ _ _ _ _ _ _ _ ?_ ?_ ?_) ?_|refine qcall0D (partview4_ok _ _ _ _ _ _ _ _ _ _ _ _ ?_ ?_ ?_) ⟨_,_,rfl,rfl⟩ ?_);(iterate 3 (exact sd));rintro _ _ ⟨rfl,rfl⟩)|((first|refine call0D (BCall.ofP (vcount_ok _ _ _ _ _ _ ?_ ?_)) ?_|refine qcall0D (BCall.ofP (vcount_ok _ _ _ _ _ _ ?_ ?_)) ⟨_,_,rfl,rfl⟩ ?_);(iterate 2 (exact sd));rintro _ _ ⟨rfl,rfl⟩))<;>(try simp (disch:=omega) only [push_cast,seval,hz,List.length_replicate]))
 | (refine awp_ret ⟨.inr rfl,[80,192],[],_,by decide,rfl,?_⟩;(try simp (disch:=omega) only [push_cast,seval,↓allMem_nil,↓allMem_cons,↓List.map_cons,↓List.map_nil,hz,List.length_replicate]))))
    all_goals simp [OV]
  · rw [if_neg hz,if_neg hz]
    (repeat' (first
 | (first|refine awp_seq ?_|refine awp_block ?_)
 | ((first|refine awp_reg ?_|refine awp_drawX (mid:=l44r3a) (post:=l44r3b) [48,1000000009,1000000010,1000000013] mixed (by decide) ?_|refine awp_condB ?_|refine awp_skip ?_|refine awp_exit ?_);simp (disch:=omega) only [push_cast,seval,l44r0,l44r1,l44r2,l44r3a,l44r3b,l44r3,l44r4,hz])
 | ((first|refine condB_split (fun h=>?_) (fun h=>?_)|refine gIf_split (fun h=>?_) (fun h=>?_)|refine qIf_split (fun h=>?_) (fun h=>?_))<;>(try simp only [h])<;>(try simp only [bitvec_to_nat] at h)<;>(try simp only [h])<;>(first|(exfalso;omega)|(focus (exfalso;simp_all;done))|(simp (disch:=omega) only [push_cast,seval,hz])|skip))
 | ((first|refine callD_of false ?_|refine qcallD_of false ?_);simp (disch:=omega) only [push_cast,seval,hz])
 | ((first|((first|refine call0D (partview4_ok _ _ _ _ _ _ _ _ _ _ _ _ ?_ ?_ ?_) ?_|refine qcall0D (partview4_ok _ _ _ _ _ _ _ _ _ _ _ _ ?_ ?_ ?_) ⟨_,_,rfl,rfl⟩ ?_);(iterate 3 (exact sd));rintro _ _ ⟨rfl,rfl⟩)|((first|refine call0D (BCall.ofP (vcount_ok _ _ _ _ _ _ ?_ ?_)) ?_|refine qcall0D (BCall.ofP (vcount_ok _ _ _ _ _ _ ?_ ?_)) ⟨_,_,rfl,rfl⟩ ?_);(iterate 2 (exact sd));rintro _ _ ⟨rfl,rfl⟩))<;>(try simp (disch:=omega) only [push_cast,seval,hz]))
 | (refine awp_ret ⟨.inr rfl,[80,81],[],_,by decide,rfl,?_⟩;(try simp (disch:=omega) only [push_cast,seval,↓allMem_nil,↓allMem_cons,↓List.map_cons,↓List.map_nil,hz]))))
    all_goals simp [OV]


set_option maxHeartbeats 16000000 in
theorem iSliceDim_ok (b:Int) (sh st:List Int) (n m:Nat) (d:Int) (f t w:Int) (hf ht:Bool) (hn:sh.length=n) (hm:st.length=m) (hb:n ≤ 1099511627776 ∧ m ≤ 1099511627776) :
    BCall Tryz.prog 8 [.agg [.int .i64 b,.rows false (IL sh) n,.rows false (IL st) m],.int .i64 d,slc f t w hf ht] [] (MV (sdOk b sh st d f t w hf ht) (cutB b sh st d.toNat f t w hf ht) (cutSh sh d.toNat f t w hf ht) (cutSt sh st d.toNat f t w hf ht)):=by
  subst hn hm
  obtain ⟨hb1,hb2⟩:=hb
  refine bcall_of (pins:=[]) (pin:=0) l8_eq rfl rfl rfl ?_
  cases hv:vV b sh st with
  | false =>
    have e:sdOk b sh st d f t w hf ht=false:=by simp [sdOk,hv]
    rw [e]
    (repeat' (first
 | (first|refine awp_seq ?_|refine awp_block ?_)
 | ((first|refine awp_reg ?_|refine awp_draw (mid:=l8r3a) (post:=l8r3b) mixed (by decide) ?_|refine awp_draw (mid:=l8r6a) (post:=l8r6b) mixed (by decide) ?_|refine awp_condB ?_|refine awp_skip ?_|refine awp_exit ?_);simp (disch:=omega) only [push_cast,seval,l8r0,l8r1,l8r2,l8r3a,l8r3b,l8r3,l8r4,l8r5,l8r6a,l8r6b,l8r6,l8r7,hv])
 | ((first|refine condB_split (fun h=>?_) (fun h=>?_)|refine gIf_split (fun h=>?_) (fun h=>?_)|refine qIf_split (fun h=>?_) (fun h=>?_))<;>(try simp only [h])<;>(try simp only [bitvec_to_nat] at h)<;>(try simp only [h])<;>(first|(exfalso;omega)|(focus (exfalso;simp_all;done))|(simp (disch:=omega) only [push_cast,seval,hv])|skip))
 | ((first|((with_reducible refine callD_of (f:=41) true ?_);simp (disch:=omega) only [push_cast,seval,hv];(refine call0D (wholeOf_ok _ _ _ _ _ ?_ ?_ ?_) ?_;(iterate 3 (exact sd));rintro _ _ ⟨rfl,rfl⟩)))<;>(try simp (disch:=omega) only [push_cast,seval,hv]))
 | ((first|refine callD_of false ?_|refine qcallD_of false ?_);simp (disch:=omega) only [push_cast,seval,hv])
 | ((first|((first|refine call0D (BCall.ofP (hasDim_ok _ _ _ _ _ _ ?_ ?_ ?_)) ?_|refine qcall0D (BCall.ofP (hasDim_ok _ _ _ _ _ _ ?_ ?_ ?_)) ⟨_,_,rfl,rfl⟩ ?_);(iterate 3 (exact sd));rintro _ _ ⟨rfl,rfl⟩)|((first|refine call0D (BCall.ofP (iValidSlice_ok _ _ _ _ _)) ?_|refine qcall0D (BCall.ofP (iValidSlice_ok _ _ _ _ _)) ⟨_,_,rfl,rfl⟩ ?_);rintro _ _ ⟨rfl,rfl⟩)|((first|refine call0D (BCall.ofP (over_ok _ _ _ _ _ _ ?_ ?_)) ?_|refine qcall0D (BCall.ofP (over_ok _ _ _ _ _ _ ?_ ?_)) ⟨_,_,rfl,rfl⟩ ?_);(iterate 2 (exact sd));rintro _ _ ⟨rfl,rfl⟩)|((first|refine call0D (BCall.ofP (count_ok _ _ _ ?_)) ?_|refine qcall0D (BCall.ofP (count_ok _ _ _ ?_)) ⟨_,_,rfl,rfl⟩ ?_);(exact sd);rintro _ _ ⟨rfl,rfl⟩)|((first|refine call0D (BCall.ofP (dimOf_ok _ _)) ?_|refine qcall0D (BCall.ofP (dimOf_ok _ _)) ⟨_,_,rfl,rfl⟩ ?_);rintro _ _ ⟨rfl,rfl⟩)|((first|refine call0D (settled_ok _ _ _ _ _ _ _ _ _ _ _ _ ?_ ?_ ?_) ?_|refine qcall0D (settled_ok _ _ _ _ _ _ _ _ _ _ _ _ ?_ ?_ ?_) ⟨_,_,rfl,rfl⟩ ?_);(iterate 3 (exact sd));rintro _ _ ⟨rfl,rfl⟩))<;>(try simp (disch:=omega) only [push_cast,seval,hv]))
 | (refine awp_ret ⟨.inr rfl,[16000,16016],[(16000,1),(16016,1)],_,by decide,rfl,?_⟩;(try simp (disch:=omega) only [push_cast,seval,↓allMem_nil,↓allMem_cons,↓List.map_cons,↓List.map_nil,hv]))))
    all_goals simp [MV,MVB,MVL]
  | true =>
  by_cases hd:0 ≤ d ∧ d ≤ (sh.length:Int) - 1
  · cases hs:vS f t w hf ht with
    | false =>
      have e:sdOk b sh st d f t w hf ht=false:=by simp [sdOk,hs]
      have hd':=tru_and hd
      rw [e]
      (repeat' (first
 | (first|refine awp_seq ?_|refine awp_block ?_)
 | ((first|refine awp_reg ?_|refine awp_draw (mid:=l8r3a) (post:=l8r3b) mixed (by decide) ?_|refine awp_draw (mid:=l8r6a) (post:=l8r6b) mixed (by decide) ?_|refine awp_condB ?_|refine awp_skip ?_|refine awp_exit ?_);simp (disch:=omega) only [push_cast,seval,l8r0,l8r1,l8r2,l8r3a,l8r3b,l8r3,l8r4,l8r5,l8r6a,l8r6b,l8r6,l8r7,hv,hd',hs])
 | ((first|refine condB_split (fun h=>?_) (fun h=>?_)|refine gIf_split (fun h=>?_) (fun h=>?_)|refine qIf_split (fun h=>?_) (fun h=>?_))<;>(try simp only [h])<;>(try simp only [bitvec_to_nat] at h)<;>(try simp only [h])<;>(first|(exfalso;omega)|(focus (exfalso;simp_all;done))|(simp (disch:=omega) only [push_cast,seval,hv,hd',hs])|skip))
 | ((first|((with_reducible refine callD_of (f:=41) true ?_);simp (disch:=omega) only [push_cast,seval,hv,hd',hs];(refine call0D (wholeOf_ok _ _ _ _ _ ?_ ?_ ?_) ?_;(iterate 3 (exact sd));rintro _ _ ⟨rfl,rfl⟩)))<;>(try simp (disch:=omega) only [push_cast,seval,hv,hd',hs]))
 | ((first|refine callD_of false ?_|refine qcallD_of false ?_);simp (disch:=omega) only [push_cast,seval,hv,hd',hs])
 | ((first|((first|refine call0D (BCall.ofP (hasDim_ok _ _ _ _ _ _ ?_ ?_ ?_)) ?_|refine qcall0D (BCall.ofP (hasDim_ok _ _ _ _ _ _ ?_ ?_ ?_)) ⟨_,_,rfl,rfl⟩ ?_);(iterate 3 (exact sd));rintro _ _ ⟨rfl,rfl⟩)|((first|refine call0D (BCall.ofP (iValidSlice_ok _ _ _ _ _)) ?_|refine qcall0D (BCall.ofP (iValidSlice_ok _ _ _ _ _)) ⟨_,_,rfl,rfl⟩ ?_);rintro _ _ ⟨rfl,rfl⟩)|((first|refine call0D (BCall.ofP (over_ok _ _ _ _ _ _ ?_ ?_)) ?_|refine qcall0D (BCall.ofP (over_ok _ _ _ _ _ _ ?_ ?_)) ⟨_,_,rfl,rfl⟩ ?_);(iterate 2 (exact sd));rintro _ _ ⟨rfl,rfl⟩)|((first|refine call0D (BCall.ofP (count_ok _ _ _ ?_)) ?_|refine qcall0D (BCall.ofP (count_ok _ _ _ ?_)) ⟨_,_,rfl,rfl⟩ ?_);(exact sd);rintro _ _ ⟨rfl,rfl⟩)|((first|refine call0D (BCall.ofP (dimOf_ok _ _)) ?_|refine qcall0D (BCall.ofP (dimOf_ok _ _)) ⟨_,_,rfl,rfl⟩ ?_);rintro _ _ ⟨rfl,rfl⟩)|((first|refine call0D (settled_ok _ _ _ _ _ _ _ _ _ _ _ _ ?_ ?_ ?_) ?_|refine qcall0D (settled_ok _ _ _ _ _ _ _ _ _ _ _ _ ?_ ?_ ?_) ⟨_,_,rfl,rfl⟩ ?_);(iterate 3 (exact sd));rintro _ _ ⟨rfl,rfl⟩))<;>(try simp (disch:=omega) only [push_cast,seval,hv,hd',hs]))
 | (refine awp_ret ⟨.inr rfl,[16000,16016],[(16000,1),(16016,1)],_,by decide,rfl,?_⟩;(try simp (disch:=omega) only [push_cast,seval,↓allMem_nil,↓allMem_cons,↓List.map_cons,↓List.map_nil,hv,hd',hs]))))
      all_goals simp [MV,MVB,MVL]
    | true =>
      have hd':=tru_and hd
      obtain ⟨j,rfl⟩:∃ j:Nat,d=j:=⟨d.toNat,by omega⟩
      have hj:j < sh.length:=by omega
      have e:sdOk b sh st j f t w hf ht=true:=by simp only [sdOk,hv,hs,hd',Int.toNat_natCast,Bool.true_and,vV_cut hv hj hs]
      rw [e]
      simp only [Int.toNat_natCast]
      obtain ⟨hok,hlen⟩:=okV_valid hv
      have hl4:=hok.1.1.2
      have hn6:=good4_at hok.1.1 hj
      have hq1:st.length=sh.length ∧ sh.length ≤ 1000:=by omega
      have hvr:=over_valid (f:=f) (t:=t) (b:=w) (hf:=hf) (ht:=ht) hn6 hs
      have hc:=cutK_cast hn6 hs
      have hst6:=vSt_at (vV_spec.1 hv).2.1 hj
      have hw6:=(vS_spec.1 hs).2.2.1
      have hmb:=mul_bd (x:=st.getD j 0) (y:=w) (p:=60) (q:=200) (by omega) (by omega)
      have hcl:=cutSt_length (sh:=sh) (st:=st) hlen j f t w hf ht
      have hk60:=cutK_le hn6 hs
      unfold cutSh
      rcases (by omega:j=0 ∨ j=1 ∨ j=2 ∨ j=3) with rfl|rfl|rfl|rfl
      · rw [show ((0:Nat):Int)=0 from rfl] at hd' ⊢
        obtain ⟨k1,k2,k3,k4⟩:=cut_settled hv hj hs (at4_0 _)
        have kb:=And.intro (And.intro k1 (show sh.length ≤ 1000 by omega)) k2
        generalize cutB b sh st 0 f t w hf ht=cB at *
        generalize cutSt sh st 0 f t w hf ht=cS at *
        generalize hSF:sFrom f (sh.getD 0 0) w hf=sF at *
        generalize hST:sTo t (sh.getD 0 0) w ht=sT at *
        generalize hKK:cutK (sh.getD 0 0) f t w hf ht=K at *
        have hkk:(st.set 0 (dmS K (st.getD 0 0 * w))).length=(sh.set 0 (K:Int)).length ∧ (sh.set 0 (K:Int)).length=sh.length:=by simp;omega
        have hj0:0 < sh.length:=hj
        have hj2:0 < st.length:=by omega
        have ds:=dm_set (sh:=sh) (st:=st) (k:=0) (K:Int) (dmS K (st.getD 0 0 * w)) hj hlen
        rw [show 0 * 2=0 from rfl] at ds
        have hdl:=dm_length (sh:=sh) (st:=st) hlen
        have k5:(stE (sh.set 0 (K:Int)) (st.set 0 (dmS K (st.getD 0 0 * w)))).length ≤ 4:=by rw [k4];omega
        clear hcl
        have hdl2:(dm (sh.set 0 (K:Int)) (st.set 0 (dmS K (st.getD 0 0 * w)))).length=sh.length * 2:=by rw [dm_length (by simp;omega)];simp
        generalize hXX:dmS K (st.getD 0 0 * w)=XX at *
        (repeat' (first
 | (first|refine awp_seq ?_|refine awp_block ?_)
 | ((first|refine awp_reg ?_|refine awp_draw (mid:=l8r3a) (post:=l8r3b) mixed (by decide) ?_|refine awp_draw (mid:=l8r6a) (post:=l8r6b) mixed (by decide) ?_|refine awp_condB ?_|refine awp_skip ?_|refine awp_exit ?_);simp (disch:=omega) only [push_cast,seval,l8r0,l8r1,l8r2,l8r3a,l8r3b,l8r3,l8r4,l8r5,l8r6a,l8r6b,l8r6,l8r7,hv,hd',hs,hSF,hST,hc,hdl,hdl2,setRange2,IL_set,ds,hXX,k3,k4])
 | ((first|refine condB_split (fun h=>?_) (fun h=>?_)|refine gIf_split (fun h=>?_) (fun h=>?_)|refine qIf_split (fun h=>?_) (fun h=>?_))<;>(try simp only [h])<;>(try simp only [bitvec_to_nat] at h)<;>(try simp only [h])<;>(first|(exfalso;omega)|(focus (exfalso;simp_all;done))|(simp (disch:=omega) only [push_cast,seval,hv,hd',hs,hSF,hST,hc,hdl,hdl2,setRange2,IL_set,ds,hXX,k3,k4])|skip))
 | ((first|((with_reducible refine callD_of (f:=41) true ?_);simp (disch:=omega) only [push_cast,seval,hv,hd',hs,hSF,hST,hc,hdl,hdl2,setRange2,IL_set,ds,hXX,k3,k4];(refine call0D (wholeOf_ok _ _ _ _ _ ?_ ?_ ?_) ?_;(iterate 3 (exact sd));rintro _ _ ⟨rfl,rfl⟩)))<;>(try simp (disch:=omega) only [push_cast,seval,hv,hd',hs,hSF,hST,hc,hdl,hdl2,setRange2,IL_set,ds,hXX,k3,k4]))
 | ((first|refine callD_of false ?_|refine qcallD_of false ?_);simp (disch:=omega) only [push_cast,seval,hv,hd',hs,hSF,hST,hc,hdl,hdl2,setRange2,IL_set,ds,hXX,k3,k4])
 | ((first|((first|refine call0D (BCall.ofP (hasDim_ok _ _ _ _ _ _ ?_ ?_ ?_)) ?_|refine qcall0D (BCall.ofP (hasDim_ok _ _ _ _ _ _ ?_ ?_ ?_)) ⟨_,_,rfl,rfl⟩ ?_);(iterate 3 (exact sd));rintro _ _ ⟨rfl,rfl⟩)|((first|refine call0D (BCall.ofP (iValidSlice_ok _ _ _ _ _)) ?_|refine qcall0D (BCall.ofP (iValidSlice_ok _ _ _ _ _)) ⟨_,_,rfl,rfl⟩ ?_);rintro _ _ ⟨rfl,rfl⟩)|((first|refine call0D (BCall.ofP (over_ok _ _ _ _ _ _ ?_ ?_)) ?_|refine qcall0D (BCall.ofP (over_ok _ _ _ _ _ _ ?_ ?_)) ⟨_,_,rfl,rfl⟩ ?_);(iterate 2 (exact sd));rintro _ _ ⟨rfl,rfl⟩)|((first|refine call0D (BCall.ofP (count_ok _ _ _ ?_)) ?_|refine qcall0D (BCall.ofP (count_ok _ _ _ ?_)) ⟨_,_,rfl,rfl⟩ ?_);(exact sd);rintro _ _ ⟨rfl,rfl⟩)|((first|refine call0D (BCall.ofP (dimOf_ok _ _)) ?_|refine qcall0D (BCall.ofP (dimOf_ok _ _)) ⟨_,_,rfl,rfl⟩ ?_);rintro _ _ ⟨rfl,rfl⟩)|((first|refine call0D (settled_ok _ _ _ _ _ _ _ _ _ _ _ _ ?_ ?_ ?_) ?_|refine qcall0D (settled_ok _ _ _ _ _ _ _ _ _ _ _ _ ?_ ?_ ?_) ⟨_,_,rfl,rfl⟩ ?_);(iterate 3 (exact sd));rintro _ _ ⟨rfl,rfl⟩))<;>(try simp (disch:=omega) only [push_cast,seval,hv,hd',hs,hSF,hST,hc,hdl,hdl2,setRange2,IL_set,ds,hXX,k3,k4]))
 | (refine awp_ret ⟨.inr rfl,[800,801],[],_,by decide,rfl,?_⟩;(try simp (disch:=omega) only [push_cast,seval,↓allMem_nil,↓allMem_cons,↓List.map_cons,↓List.map_nil,hv,hd',hs,hSF,hST,hc,hdl,hdl2,setRange2,IL_set,ds,hXX,k3,k4]))))
        all_goals exact ⟨rfl,rfl⟩
      · rw [show ((1:Nat):Int)=1 from rfl] at hd' ⊢
        obtain ⟨k1,k2,k3,k4⟩:=cut_settled hv hj hs (at4_1 _)
        have kb:=And.intro (And.intro k1 (show sh.length ≤ 1000 by omega)) k2
        generalize cutB b sh st 1 f t w hf ht=cB at *
        generalize cutSt sh st 1 f t w hf ht=cS at *
        generalize hSF:sFrom f (sh.getD 1 0) w hf=sF at *
        generalize hST:sTo t (sh.getD 1 0) w ht=sT at *
        generalize hKK:cutK (sh.getD 1 0) f t w hf ht=K at *
        have hkk:(st.set 1 (dmS K (st.getD 1 0 * w))).length=(sh.set 1 (K:Int)).length ∧ (sh.set 1 (K:Int)).length=sh.length:=by simp;omega
        have hj0:1 < sh.length:=hj
        have hj2:1 < st.length:=by omega
        have ds:=dm_set (sh:=sh) (st:=st) (k:=1) (K:Int) (dmS K (st.getD 1 0 * w)) hj hlen
        rw [show 1 * 2=2 from rfl] at ds
        have hdl:=dm_length (sh:=sh) (st:=st) hlen
        have k5:(stE (sh.set 1 (K:Int)) (st.set 1 (dmS K (st.getD 1 0 * w)))).length ≤ 4:=by rw [k4];omega
        clear hcl
        have hdl2:(dm (sh.set 1 (K:Int)) (st.set 1 (dmS K (st.getD 1 0 * w)))).length=sh.length * 2:=by rw [dm_length (by simp;omega)];simp
        generalize hXX:dmS K (st.getD 1 0 * w)=XX at *
        (repeat' (first
 | (first|refine awp_seq ?_|refine awp_block ?_)
 | ((first|refine awp_reg ?_|refine awp_draw (mid:=l8r3a) (post:=l8r3b) mixed (by decide) ?_|refine awp_draw (mid:=l8r6a) (post:=l8r6b) mixed (by decide) ?_|refine awp_condB ?_|refine awp_skip ?_|refine awp_exit ?_);simp (disch:=omega) only [push_cast,seval,l8r0,l8r1,l8r2,l8r3a,l8r3b,l8r3,l8r4,l8r5,l8r6a,l8r6b,l8r6,l8r7,hv,hd',hs,hSF,hST,hc,hdl,hdl2,setRange2,IL_set,ds,hXX,k3,k4])
 | ((first|refine condB_split (fun h=>?_) (fun h=>?_)|refine gIf_split (fun h=>?_) (fun h=>?_)|refine qIf_split (fun h=>?_) (fun h=>?_))<;>(try simp only [h])<;>(try simp only [bitvec_to_nat] at h)<;>(try simp only [h])<;>(first|(exfalso;omega)|(focus (exfalso;simp_all;done))|(simp (disch:=omega) only [push_cast,seval,hv,hd',hs,hSF,hST,hc,hdl,hdl2,setRange2,IL_set,ds,hXX,k3,k4])|skip))
 | ((first|((with_reducible refine callD_of (f:=41) true ?_);simp (disch:=omega) only [push_cast,seval,hv,hd',hs,hSF,hST,hc,hdl,hdl2,setRange2,IL_set,ds,hXX,k3,k4];(refine call0D (wholeOf_ok _ _ _ _ _ ?_ ?_ ?_) ?_;(iterate 3 (exact sd));rintro _ _ ⟨rfl,rfl⟩)))<;>(try simp (disch:=omega) only [push_cast,seval,hv,hd',hs,hSF,hST,hc,hdl,hdl2,setRange2,IL_set,ds,hXX,k3,k4]))
 | ((first|refine callD_of false ?_|refine qcallD_of false ?_);simp (disch:=omega) only [push_cast,seval,hv,hd',hs,hSF,hST,hc,hdl,hdl2,setRange2,IL_set,ds,hXX,k3,k4])
 | ((first|((first|refine call0D (BCall.ofP (hasDim_ok _ _ _ _ _ _ ?_ ?_ ?_)) ?_|refine qcall0D (BCall.ofP (hasDim_ok _ _ _ _ _ _ ?_ ?_ ?_)) ⟨_,_,rfl,rfl⟩ ?_);(iterate 3 (exact sd));rintro _ _ ⟨rfl,rfl⟩)|((first|refine call0D (BCall.ofP (iValidSlice_ok _ _ _ _ _)) ?_|refine qcall0D (BCall.ofP (iValidSlice_ok _ _ _ _ _)) ⟨_,_,rfl,rfl⟩ ?_);rintro _ _ ⟨rfl,rfl⟩)|((first|refine call0D (BCall.ofP (over_ok _ _ _ _ _ _ ?_ ?_)) ?_|refine qcall0D (BCall.ofP (over_ok _ _ _ _ _ _ ?_ ?_)) ⟨_,_,rfl,rfl⟩ ?_);(iterate 2 (exact sd));rintro _ _ ⟨rfl,rfl⟩)|((first|refine call0D (BCall.ofP (count_ok _ _ _ ?_)) ?_|refine qcall0D (BCall.ofP (count_ok _ _ _ ?_)) ⟨_,_,rfl,rfl⟩ ?_);(exact sd);rintro _ _ ⟨rfl,rfl⟩)|((first|refine call0D (BCall.ofP (dimOf_ok _ _)) ?_|refine qcall0D (BCall.ofP (dimOf_ok _ _)) ⟨_,_,rfl,rfl⟩ ?_);rintro _ _ ⟨rfl,rfl⟩)|((first|refine call0D (settled_ok _ _ _ _ _ _ _ _ _ _ _ _ ?_ ?_ ?_) ?_|refine qcall0D (settled_ok _ _ _ _ _ _ _ _ _ _ _ _ ?_ ?_ ?_) ⟨_,_,rfl,rfl⟩ ?_);(iterate 3 (exact sd));rintro _ _ ⟨rfl,rfl⟩))<;>(try simp (disch:=omega) only [push_cast,seval,hv,hd',hs,hSF,hST,hc,hdl,hdl2,setRange2,IL_set,ds,hXX,k3,k4]))
 | (refine awp_ret ⟨.inr rfl,[800,801],[],_,by decide,rfl,?_⟩;(try simp (disch:=omega) only [push_cast,seval,↓allMem_nil,↓allMem_cons,↓List.map_cons,↓List.map_nil,hv,hd',hs,hSF,hST,hc,hdl,hdl2,setRange2,IL_set,ds,hXX,k3,k4]))))
        all_goals exact ⟨rfl,rfl⟩
      · rw [show ((2:Nat):Int)=2 from rfl] at hd' ⊢
        obtain ⟨k1,k2,k3,k4⟩:=cut_settled hv hj hs (at4_2 _)
        have kb:=And.intro (And.intro k1 (show sh.length ≤ 1000 by omega)) k2
        generalize cutB b sh st 2 f t w hf ht=cB at *
        generalize cutSt sh st 2 f t w hf ht=cS at *
        generalize hSF:sFrom f (sh.getD 2 0) w hf=sF at *
        generalize hST:sTo t (sh.getD 2 0) w ht=sT at *
        generalize hKK:cutK (sh.getD 2 0) f t w hf ht=K at *
        have hkk:(st.set 2 (dmS K (st.getD 2 0 * w))).length=(sh.set 2 (K:Int)).length ∧ (sh.set 2 (K:Int)).length=sh.length:=by simp;omega
        have hj0:2 < sh.length:=hj
        have hj2:2 < st.length:=by omega
        have ds:=dm_set (sh:=sh) (st:=st) (k:=2) (K:Int) (dmS K (st.getD 2 0 * w)) hj hlen
        rw [show 2 * 2=4 from rfl] at ds
        have hdl:=dm_length (sh:=sh) (st:=st) hlen
        have k5:(stE (sh.set 2 (K:Int)) (st.set 2 (dmS K (st.getD 2 0 * w)))).length ≤ 4:=by rw [k4];omega
        clear hcl
        have hdl2:(dm (sh.set 2 (K:Int)) (st.set 2 (dmS K (st.getD 2 0 * w)))).length=sh.length * 2:=by rw [dm_length (by simp;omega)];simp
        generalize hXX:dmS K (st.getD 2 0 * w)=XX at *
        (repeat' (first
 | (first|refine awp_seq ?_|refine awp_block ?_)
 | ((first|refine awp_reg ?_|refine awp_draw (mid:=l8r3a) (post:=l8r3b) mixed (by decide) ?_|refine awp_draw (mid:=l8r6a) (post:=l8r6b) mixed (by decide) ?_|refine awp_condB ?_|refine awp_skip ?_|refine awp_exit ?_);simp (disch:=omega) only [push_cast,seval,l8r0,l8r1,l8r2,l8r3a,l8r3b,l8r3,l8r4,l8r5,l8r6a,l8r6b,l8r6,l8r7,hv,hd',hs,hSF,hST,hc,hdl,hdl2,setRange2,IL_set,ds,hXX,k3,k4])
 | ((first|refine condB_split (fun h=>?_) (fun h=>?_)|refine gIf_split (fun h=>?_) (fun h=>?_)|refine qIf_split (fun h=>?_) (fun h=>?_))<;>(try simp only [h])<;>(try simp only [bitvec_to_nat] at h)<;>(try simp only [h])<;>(first|(exfalso;omega)|(focus (exfalso;simp_all;done))|(simp (disch:=omega) only [push_cast,seval,hv,hd',hs,hSF,hST,hc,hdl,hdl2,setRange2,IL_set,ds,hXX,k3,k4])|skip))
 | ((first|((with_reducible refine callD_of (f:=41) true ?_);simp (disch:=omega) only [push_cast,seval,hv,hd',hs,hSF,hST,hc,hdl,hdl2,setRange2,IL_set,ds,hXX,k3,k4];(refine call0D (wholeOf_ok _ _ _ _ _ ?_ ?_ ?_) ?_;(iterate 3 (exact sd));rintro _ _ ⟨rfl,rfl⟩)))<;>(try simp (disch:=omega) only [push_cast,seval,hv,hd',hs,hSF,hST,hc,hdl,hdl2,setRange2,IL_set,ds,hXX,k3,k4]))
 | ((first|refine callD_of false ?_|refine qcallD_of false ?_);simp (disch:=omega) only [push_cast,seval,hv,hd',hs,hSF,hST,hc,hdl,hdl2,setRange2,IL_set,ds,hXX,k3,k4])
 | ((first|((first|refine call0D (BCall.ofP (hasDim_ok _ _ _ _ _ _ ?_ ?_ ?_)) ?_|refine qcall0D (BCall.ofP (hasDim_ok _ _ _ _ _ _ ?_ ?_ ?_)) ⟨_,_,rfl,rfl⟩ ?_);(iterate 3 (exact sd));rintro _ _ ⟨rfl,rfl⟩)|((first|refine call0D (BCall.ofP (iValidSlice_ok _ _ _ _ _)) ?_|refine qcall0D (BCall.ofP (iValidSlice_ok _ _ _ _ _)) ⟨_,_,rfl,rfl⟩ ?_);rintro _ _ ⟨rfl,rfl⟩)|((first|refine call0D (BCall.ofP (over_ok _ _ _ _ _ _ ?_ ?_)) ?_|refine qcall0D (BCall.ofP (over_ok _ _ _ _ _ _ ?_ ?_)) ⟨_,_,rfl,rfl⟩ ?_);(iterate 2 (exact sd));rintro _ _ ⟨rfl,rfl⟩)|((first|refine call0D (BCall.ofP (count_ok _ _ _ ?_)) ?_|refine qcall0D (BCall.ofP (count_ok _ _ _ ?_)) ⟨_,_,rfl,rfl⟩ ?_);(exact sd);rintro _ _ ⟨rfl,rfl⟩)|((first|refine call0D (BCall.ofP (dimOf_ok _ _)) ?_|refine qcall0D (BCall.ofP (dimOf_ok _ _)) ⟨_,_,rfl,rfl⟩ ?_);rintro _ _ ⟨rfl,rfl⟩)|((first|refine call0D (settled_ok _ _ _ _ _ _ _ _ _ _ _ _ ?_ ?_ ?_) ?_|refine qcall0D (settled_ok _ _ _ _ _ _ _ _ _ _ _ _ ?_ ?_ ?_) ⟨_,_,rfl,rfl⟩ ?_);(iterate 3 (exact sd));rintro _ _ ⟨rfl,rfl⟩))<;>(try simp (disch:=omega) only [push_cast,seval,hv,hd',hs,hSF,hST,hc,hdl,hdl2,setRange2,IL_set,ds,hXX,k3,k4]))
 | (refine awp_ret ⟨.inr rfl,[800,801],[],_,by decide,rfl,?_⟩;(try simp (disch:=omega) only [push_cast,seval,↓allMem_nil,↓allMem_cons,↓List.map_cons,↓List.map_nil,hv,hd',hs,hSF,hST,hc,hdl,hdl2,setRange2,IL_set,ds,hXX,k3,k4]))))
        all_goals exact ⟨rfl,rfl⟩
      · rw [show ((3:Nat):Int)=3 from rfl] at hd' ⊢
        obtain ⟨k1,k2,k3,k4⟩:=cut_settled hv hj hs (at4_3 _)
        have kb:=And.intro (And.intro k1 (show sh.length ≤ 1000 by omega)) k2
        generalize cutB b sh st 3 f t w hf ht=cB at *
        generalize cutSt sh st 3 f t w hf ht=cS at *
        generalize hSF:sFrom f (sh.getD 3 0) w hf=sF at *
        generalize hST:sTo t (sh.getD 3 0) w ht=sT at *
        generalize hKK:cutK (sh.getD 3 0) f t w hf ht=K at *
        have hkk:(st.set 3 (dmS K (st.getD 3 0 * w))).length=(sh.set 3 (K:Int)).length ∧ (sh.set 3 (K:Int)).length=sh.length:=by simp;omega
        have hj0:3 < sh.length:=hj
        have hj2:3 < st.length:=by omega
        have ds:=dm_set (sh:=sh) (st:=st) (k:=3) (K:Int) (dmS K (st.getD 3 0 * w)) hj hlen
        rw [show 3 * 2=6 from rfl] at ds
        have hdl:=dm_length (sh:=sh) (st:=st) hlen
        have k5:(stE (sh.set 3 (K:Int)) (st.set 3 (dmS K (st.getD 3 0 * w)))).length ≤ 4:=by rw [k4];omega
        clear hcl
        have hdl2:(dm (sh.set 3 (K:Int)) (st.set 3 (dmS K (st.getD 3 0 * w)))).length=sh.length * 2:=by rw [dm_length (by simp;omega)];simp
        generalize hXX:dmS K (st.getD 3 0 * w)=XX at *
        (repeat' (first
 | (first|refine awp_seq ?_|refine awp_block ?_)
 | ((first|refine awp_reg ?_|refine awp_draw (mid:=l8r3a) (post:=l8r3b) mixed (by decide) ?_|refine awp_draw (mid:=l8r6a) (post:=l8r6b) mixed (by decide) ?_|refine awp_condB ?_|refine awp_skip ?_|refine awp_exit ?_);simp (disch:=omega) only [push_cast,seval,l8r0,l8r1,l8r2,l8r3a,l8r3b,l8r3,l8r4,l8r5,l8r6a,l8r6b,l8r6,l8r7,hv,hd',hs,hSF,hST,hc,hdl,hdl2,setRange2,IL_set,ds,hXX,k3,k4])
 | ((first|refine condB_split (fun h=>?_) (fun h=>?_)|refine gIf_split (fun h=>?_) (fun h=>?_)|refine qIf_split (fun h=>?_) (fun h=>?_))<;>(try simp only [h])<;>(try simp only [bitvec_to_nat] at h)<;>(try simp only [h])<;>(first|(exfalso;omega)|(focus (exfalso;simp_all;done))|(simp (disch:=omega) only [push_cast,seval,hv,hd',hs,hSF,hST,hc,hdl,hdl2,setRange2,IL_set,ds,hXX,k3,k4])|skip))
 | ((first|((with_reducible refine callD_of (f:=41) true ?_);simp (disch:=omega) only [push_cast,seval,hv,hd',hs,hSF,hST,hc,hdl,hdl2,setRange2,IL_set,ds,hXX,k3,k4];(refine call0D (wholeOf_ok _ _ _ _ _ ?_ ?_ ?_) ?_;(iterate 3 (exact sd));rintro _ _ ⟨rfl,rfl⟩)))<;>(try simp (disch:=omega) only [push_cast,seval,hv,hd',hs,hSF,hST,hc,hdl,hdl2,setRange2,IL_set,ds,hXX,k3,k4]))
 | ((first|refine callD_of false ?_|refine qcallD_of false ?_);simp (disch:=omega) only [push_cast,seval,hv,hd',hs,hSF,hST,hc,hdl,hdl2,setRange2,IL_set,ds,hXX,k3,k4])
 | ((first|((first|refine call0D (BCall.ofP (hasDim_ok _ _ _ _ _ _ ?_ ?_ ?_)) ?_|refine qcall0D (BCall.ofP (hasDim_ok _ _ _ _ _ _ ?_ ?_ ?_)) ⟨_,_,rfl,rfl⟩ ?_);(iterate 3 (exact sd));rintro _ _ ⟨rfl,rfl⟩)|((first|refine call0D (BCall.ofP (iValidSlice_ok _ _ _ _ _)) ?_|refine qcall0D (BCall.ofP (iValidSlice_ok _ _ _ _ _)) ⟨_,_,rfl,rfl⟩ ?_);rintro _ _ ⟨rfl,rfl⟩)|((first|refine call0D (BCall.ofP (over_ok _ _ _ _ _ _ ?_ ?_)) ?_|refine qcall0D (BCall.ofP (over_ok _ _ _ _ _ _ ?_ ?_)) ⟨_,_,rfl,rfl⟩ ?_);(iterate 2 (exact sd));rintro _ _ ⟨rfl,rfl⟩)|((first|refine call0D (BCall.ofP (count_ok _ _ _ ?_)) ?_|refine qcall0D (BCall.ofP (count_ok _ _ _ ?_)) ⟨_,_,rfl,rfl⟩ ?_);(exact sd);rintro _ _ ⟨rfl,rfl⟩)|((first|refine call0D (BCall.ofP (dimOf_ok _ _)) ?_|refine qcall0D (BCall.ofP (dimOf_ok _ _)) ⟨_,_,rfl,rfl⟩ ?_);rintro _ _ ⟨rfl,rfl⟩)|((first|refine call0D (settled_ok _ _ _ _ _ _ _ _ _ _ _ _ ?_ ?_ ?_) ?_|refine qcall0D (settled_ok _ _ _ _ _ _ _ _ _ _ _ _ ?_ ?_ ?_) ⟨_,_,rfl,rfl⟩ ?_);(iterate 3 (exact sd));rintro _ _ ⟨rfl,rfl⟩))<;>(try simp (disch:=omega) only [push_cast,seval,hv,hd',hs,hSF,hST,hc,hdl,hdl2,setRange2,IL_set,ds,hXX,k3,k4]))
 | (refine awp_ret ⟨.inr rfl,[800,801],[],_,by decide,rfl,?_⟩;(try simp (disch:=omega) only [push_cast,seval,↓allMem_nil,↓allMem_cons,↓List.map_cons,↓List.map_nil,hv,hd',hs,hSF,hST,hc,hdl,hdl2,setRange2,IL_set,ds,hXX,k3,k4]))))
        all_goals exact ⟨rfl,rfl⟩
  · have hd':=fls_and hd
    have e:sdOk b sh st d f t w hf ht=false:=by simp only [sdOk,hd',Bool.and_false,Bool.false_and]
    rw [e]
    (repeat' (first
 | (first|refine awp_seq ?_|refine awp_block ?_)
 | ((first|refine awp_reg ?_|refine awp_draw (mid:=l8r3a) (post:=l8r3b) mixed (by decide) ?_|refine awp_draw (mid:=l8r6a) (post:=l8r6b) mixed (by decide) ?_|refine awp_condB ?_|refine awp_skip ?_|refine awp_exit ?_);simp (disch:=omega) only [push_cast,seval,l8r0,l8r1,l8r2,l8r3a,l8r3b,l8r3,l8r4,l8r5,l8r6a,l8r6b,l8r6,l8r7,hv,hd'])
 | ((first|refine condB_split (fun h=>?_) (fun h=>?_)|refine gIf_split (fun h=>?_) (fun h=>?_)|refine qIf_split (fun h=>?_) (fun h=>?_))<;>(try simp only [h])<;>(try simp only [bitvec_to_nat] at h)<;>(try simp only [h])<;>(first|(exfalso;omega)|(focus (exfalso;simp_all;done))|(simp (disch:=omega) only [push_cast,seval,hv,hd'])|skip))
 | ((first|((with_reducible refine callD_of (f:=41) true ?_);simp (disch:=omega) only [push_cast,seval,hv,hd'];(refine call0D (wholeOf_ok _ _ _ _ _ ?_ ?_ ?_) ?_;(iterate 3 (exact sd));rintro _ _ ⟨rfl,rfl⟩)))<;>(try simp (disch:=omega) only [push_cast,seval,hv,hd']))
 | ((first|refine callD_of false ?_|refine qcallD_of false ?_);simp (disch:=omega) only [push_cast,seval,hv,hd'])
 | ((first|((first|refine call0D (BCall.ofP (hasDim_ok _ _ _ _ _ _ ?_ ?_ ?_)) ?_|refine qcall0D (BCall.ofP (hasDim_ok _ _ _ _ _ _ ?_ ?_ ?_)) ⟨_,_,rfl,rfl⟩ ?_);(iterate 3 (exact sd));rintro _ _ ⟨rfl,rfl⟩)|((first|refine call0D (BCall.ofP (iValidSlice_ok _ _ _ _ _)) ?_|refine qcall0D (BCall.ofP (iValidSlice_ok _ _ _ _ _)) ⟨_,_,rfl,rfl⟩ ?_);rintro _ _ ⟨rfl,rfl⟩)|((first|refine call0D (BCall.ofP (over_ok _ _ _ _ _ _ ?_ ?_)) ?_|refine qcall0D (BCall.ofP (over_ok _ _ _ _ _ _ ?_ ?_)) ⟨_,_,rfl,rfl⟩ ?_);(iterate 2 (exact sd));rintro _ _ ⟨rfl,rfl⟩)|((first|refine call0D (BCall.ofP (count_ok _ _ _ ?_)) ?_|refine qcall0D (BCall.ofP (count_ok _ _ _ ?_)) ⟨_,_,rfl,rfl⟩ ?_);(exact sd);rintro _ _ ⟨rfl,rfl⟩)|((first|refine call0D (BCall.ofP (dimOf_ok _ _)) ?_|refine qcall0D (BCall.ofP (dimOf_ok _ _)) ⟨_,_,rfl,rfl⟩ ?_);rintro _ _ ⟨rfl,rfl⟩)|((first|refine call0D (settled_ok _ _ _ _ _ _ _ _ _ _ _ _ ?_ ?_ ?_) ?_|refine qcall0D (settled_ok _ _ _ _ _ _ _ _ _ _ _ _ ?_ ?_ ?_) ⟨_,_,rfl,rfl⟩ ?_);(iterate 3 (exact sd));rintro _ _ ⟨rfl,rfl⟩))<;>(try simp (disch:=omega) only [push_cast,seval,hv,hd']))
 | (refine awp_ret ⟨.inr rfl,[16000,16016],[(16000,1),(16016,1)],_,by decide,rfl,?_⟩;(try simp (disch:=omega) only [push_cast,seval,↓allMem_nil,↓allMem_cons,↓List.map_cons,↓List.map_nil,hv,hd']))))
    all_goals simp [MV,MVB,MVL]

end Go.Proofs.YtfphjgmkpgoomaaGreat
