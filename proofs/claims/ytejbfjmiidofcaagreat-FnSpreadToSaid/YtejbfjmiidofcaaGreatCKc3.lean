import Derived.Test.YtejbfjmiidofcaaGreatCKc2
import Derived.Test.YtejbfjmiidofcaaGreatCM1
set_option linter.unusedSimpArgs false
set_option linter.unusedVariables false
set_option maxRecDepth 4000
set_option maxHeartbeats 4000000
namespace Go.Proofs.YtejbfjmiidofcaaGreat
open VwM Vw Go

def sdOk (b:Int) (sh st:List Int) (d:Int) (f t w:Int) (hf ht:Bool):Bool :=
  vV b sh st && (decide (0 ≤ d) && decide (d ≤ (sh.length:Int) - 1)) && vS f t w hf ht && vV (cutB b sh st d.toNat f t w hf ht) (cutSh sh d.toNat f t w hf ht) (cutSt sh st d.toNat f t w hf ht)
theorem fls_and {p q:Prop} [Decidable p] [Decidable q] (h:¬ (p ∧ q)):(decide p && decide q)=false:=by
  rw [Bool.eq_false_iff];intro h';simp at h';exact h h'
theorem tru_and {p q:Prop} [Decidable p] [Decidable q] (h:p ∧ q):(decide p && decide q)=true:=by simp [h.1,h.2]


theorem sSliceDim_ok (b:Int) (sh st:List Int) (n m:Nat) (d:Int) (f t w:Int) (hf ht:Bool) (hn:sh.length=n) (hm:st.length=m) (hb:n ≤ 1099511627776 ∧ m ≤ 1099511627776) :
    BCall Tryz.prog 58 [.agg [.int .i64 b,.rows false (IL sh) n,.rows false (IL st) m],.int .i64 d,slc f t w hf ht] [] (MV (sdOk b sh st d f t w hf ht) (cutB b sh st d.toNat f t w hf ht) (cutSh sh d.toNat f t w hf ht) (cutSt sh st d.toNat f t w hf ht)):=by
  subst hn hm
  obtain ⟨hb1,hb2⟩:=hb
  refine bcall_of (pins:=[]) (pin:=0) l58_eq rfl rfl rfl ?_
  cases hv:vV b sh st with
  | false =>
    have e:sdOk b sh st d f t w hf ht=false:=by simp [sdOk,hv]
    rw [e]
    (repeat' (first
 | (first|refine awp_seq ?_|refine awp_block ?_)
 | ((first|refine awp_reg ?_|refine awp_condB ?_|refine awp_skip ?_|refine awp_exit ?_);simp (disch:=omega) only [push_cast,seval,l58r0,l58r1,l58r2,l58r3,hv])
 | ((first|refine condB_split (fun h=>?_) (fun h=>?_)|refine gIf_split (fun h=>?_) (fun h=>?_)|refine qIf_split (fun h=>?_) (fun h=>?_))<;>(try simp only [h])<;>(try simp only [bitvec_to_nat] at h)<;>(try simp only [h])<;>(first|(exfalso;omega)|(focus (exfalso;simp_all;done))|(simp (disch:=omega) only [push_cast,seval,hv])|skip))
 | ((first|refine callD_of false ?_|refine qcallD_of false ?_);simp (disch:=omega) only [push_cast,seval,hv])
 | ((first|((first|refine call0D (BCall.ofP (svalidView_ok _ _ _ _ _ ?_ ?_ ?_)) ?_|refine qcall0D (BCall.ofP (svalidView_ok _ _ _ _ _ ?_ ?_ ?_)) ⟨_,_,rfl,rfl⟩ ?_);(iterate 3 (exact sd));rintro _ _ ⟨rfl,rfl⟩)|((first|refine call0D (BCall.ofP (sisDim_ok _ _ _ _ _ _ ?_ ?_)) ?_|refine qcall0D (BCall.ofP (sisDim_ok _ _ _ _ _ _ ?_ ?_)) ⟨_,_,rfl,rfl⟩ ?_);(iterate 2 (exact sd));rintro _ _ ⟨rfl,rfl⟩)|((first|refine call0D (BCall.ofP (svalidSlice_ok _ _ _ _ _)) ?_|refine qcall0D (BCall.ofP (svalidSlice_ok _ _ _ _ _)) ⟨_,_,rfl,rfl⟩ ?_);rintro _ _ ⟨rfl,rfl⟩)|((first|refine call0D (scutDim_ok _ _ _ _ _ _ _ _ _ _ _ ?_ ?_ ?_ ?_) ?_|refine qcall0D (scutDim_ok _ _ _ _ _ _ _ _ _ _ _ ?_ ?_ ?_ ?_) ⟨_,_,rfl,rfl⟩ ?_);(iterate 4 (exact sd));rintro _ _ ⟨rfl,rfl⟩)|((first|refine call0D (smade_ok _ _ _ _ _ ?_ ?_ ?_) ?_|refine qcall0D (smade_ok _ _ _ _ _ ?_ ?_ ?_) ⟨_,_,rfl,rfl⟩ ?_);(iterate 3 (exact sd));rintro _ _ ⟨rfl,rfl⟩))<;>(try simp (disch:=omega) only [push_cast,seval,hv]))
 | (refine awp_ret ⟨.inr rfl,[16000,16016],[(16000,1),(16016,1)],_,by decide,rfl,?_⟩;(try simp (disch:=omega) only [push_cast,seval,↓allMem_nil,↓allMem_cons,↓List.map_cons,↓List.map_nil,hv]))))
    all_goals simp [MV,MVB,MVL]
  | true =>
  by_cases hd:0 ≤ d ∧ d ≤ (sh.length:Int) - 1
  · cases hs:vS f t w hf ht with
    | false =>
      have e:sdOk b sh st d f t w hf ht=false:=by simp [sdOk,hs]
      have hd':=tru_and hd
      rw [e]
      (repeat' (first
 | (first|refine awp_seq ?_|refine awp_block ?_)
 | ((first|refine awp_reg ?_|refine awp_condB ?_|refine awp_skip ?_|refine awp_exit ?_);simp (disch:=omega) only [push_cast,seval,l58r0,l58r1,l58r2,l58r3,hv,hd',hs])
 | ((first|refine condB_split (fun h=>?_) (fun h=>?_)|refine gIf_split (fun h=>?_) (fun h=>?_)|refine qIf_split (fun h=>?_) (fun h=>?_))<;>(try simp only [h])<;>(try simp only [bitvec_to_nat] at h)<;>(try simp only [h])<;>(first|(exfalso;omega)|(focus (exfalso;simp_all;done))|(simp (disch:=omega) only [push_cast,seval,hv,hd',hs])|skip))
 | ((first|refine callD_of false ?_|refine qcallD_of false ?_);simp (disch:=omega) only [push_cast,seval,hv,hd',hs])
 | ((first|((first|refine call0D (BCall.ofP (svalidView_ok _ _ _ _ _ ?_ ?_ ?_)) ?_|refine qcall0D (BCall.ofP (svalidView_ok _ _ _ _ _ ?_ ?_ ?_)) ⟨_,_,rfl,rfl⟩ ?_);(iterate 3 (exact sd));rintro _ _ ⟨rfl,rfl⟩)|((first|refine call0D (BCall.ofP (sisDim_ok _ _ _ _ _ _ ?_ ?_)) ?_|refine qcall0D (BCall.ofP (sisDim_ok _ _ _ _ _ _ ?_ ?_)) ⟨_,_,rfl,rfl⟩ ?_);(iterate 2 (exact sd));rintro _ _ ⟨rfl,rfl⟩)|((first|refine call0D (BCall.ofP (svalidSlice_ok _ _ _ _ _)) ?_|refine qcall0D (BCall.ofP (svalidSlice_ok _ _ _ _ _)) ⟨_,_,rfl,rfl⟩ ?_);rintro _ _ ⟨rfl,rfl⟩)|((first|refine call0D (scutDim_ok _ _ _ _ _ _ _ _ _ _ _ ?_ ?_ ?_ ?_) ?_|refine qcall0D (scutDim_ok _ _ _ _ _ _ _ _ _ _ _ ?_ ?_ ?_ ?_) ⟨_,_,rfl,rfl⟩ ?_);(iterate 4 (exact sd));rintro _ _ ⟨rfl,rfl⟩)|((first|refine call0D (smade_ok _ _ _ _ _ ?_ ?_ ?_) ?_|refine qcall0D (smade_ok _ _ _ _ _ ?_ ?_ ?_) ⟨_,_,rfl,rfl⟩ ?_);(iterate 3 (exact sd));rintro _ _ ⟨rfl,rfl⟩))<;>(try simp (disch:=omega) only [push_cast,seval,hv,hd',hs]))
 | (refine awp_ret ⟨.inr rfl,[16000,16016],[(16000,1),(16016,1)],_,by decide,rfl,?_⟩;(try simp (disch:=omega) only [push_cast,seval,↓allMem_nil,↓allMem_cons,↓List.map_cons,↓List.map_nil,hv,hd',hs]))))
      all_goals simp [MV,MVB,MVL]
    | true =>
      have hd':=tru_and hd
      obtain ⟨j,rfl⟩:∃ j:Nat,d=j:=⟨d.toNat,by omega⟩
      have hj:j < sh.length:=by omega
      have e:sdOk b sh st j f t w hf ht=vV (cutB b sh st j f t w hf ht) (cutSh sh j f t w hf ht) (cutSt sh st j f t w hf ht):=by simp only [sdOk,hv,hs,hd',Int.toNat_natCast,Bool.true_and]
      rw [e]
      simp only [Int.toNat_natCast]
      have hlen:=(okV_valid hv).2
      have l1:=cutSh_length sh j f t w hf ht
      have l2:=cutSt_length hlen j f t w hf ht
      have hq:(cutSh sh j f t w hf ht).length ≤ 1099511627776 ∧ (cutSt sh st j f t w hf ht).length ≤ 1099511627776:=by omega
      (repeat' (first
 | (first|refine awp_seq ?_|refine awp_block ?_)
 | ((first|refine awp_reg ?_|refine awp_condB ?_|refine awp_skip ?_|refine awp_exit ?_);simp (disch:=omega) only [push_cast,seval,l58r0,l58r1,l58r2,l58r3,hv,hd',hs])
 | ((first|refine condB_split (fun h=>?_) (fun h=>?_)|refine gIf_split (fun h=>?_) (fun h=>?_)|refine qIf_split (fun h=>?_) (fun h=>?_))<;>(try simp only [h])<;>(try simp only [bitvec_to_nat] at h)<;>(try simp only [h])<;>(first|(exfalso;omega)|(focus (exfalso;simp_all;done))|(simp (disch:=omega) only [push_cast,seval,hv,hd',hs])|skip))
 | ((first|refine callD_of false ?_|refine qcallD_of false ?_);simp (disch:=omega) only [push_cast,seval,hv,hd',hs])
 | ((first|((first|refine call0D (BCall.ofP (svalidView_ok _ _ _ _ _ ?_ ?_ ?_)) ?_|refine qcall0D (BCall.ofP (svalidView_ok _ _ _ _ _ ?_ ?_ ?_)) ⟨_,_,rfl,rfl⟩ ?_);(iterate 3 (exact sd));rintro _ _ ⟨rfl,rfl⟩)|((first|refine call0D (BCall.ofP (sisDim_ok _ _ _ _ _ _ ?_ ?_)) ?_|refine qcall0D (BCall.ofP (sisDim_ok _ _ _ _ _ _ ?_ ?_)) ⟨_,_,rfl,rfl⟩ ?_);(iterate 2 (exact sd));rintro _ _ ⟨rfl,rfl⟩)|((first|refine call0D (BCall.ofP (svalidSlice_ok _ _ _ _ _)) ?_|refine qcall0D (BCall.ofP (svalidSlice_ok _ _ _ _ _)) ⟨_,_,rfl,rfl⟩ ?_);rintro _ _ ⟨rfl,rfl⟩)|((first|refine call0D (scutDim_ok _ _ _ _ _ _ _ _ _ _ _ ?_ ?_ ?_ ?_) ?_|refine qcall0D (scutDim_ok _ _ _ _ _ _ _ _ _ _ _ ?_ ?_ ?_ ?_) ⟨_,_,rfl,rfl⟩ ?_);(iterate 4 (exact sd));rintro _ _ ⟨rfl,rfl⟩)|((first|refine call0D (smade_ok _ _ _ _ _ ?_ ?_ ?_) ?_|refine qcall0D (smade_ok _ _ _ _ _ ?_ ?_ ?_) ⟨_,_,rfl,rfl⟩ ?_);(iterate 3 (exact sd));rintro _ _ ⟨rfl,rfl⟩))<;>(try simp (disch:=omega) only [push_cast,seval,hv,hd',hs]))
 | (refine awp_ret ⟨.inr rfl,[432,433],[],_,by decide,rfl,?_⟩;(try simp (disch:=omega) only [push_cast,seval,↓allMem_nil,↓allMem_cons,↓List.map_cons,↓List.map_nil,hv,hd',hs]))))
      all_goals exact ⟨rfl,rfl⟩
  · have hd':=fls_and hd
    have e:sdOk b sh st d f t w hf ht=false:=by simp only [sdOk,hd',Bool.and_false,Bool.false_and]
    rw [e]
    (repeat' (first
 | (first|refine awp_seq ?_|refine awp_block ?_)
 | ((first|refine awp_reg ?_|refine awp_condB ?_|refine awp_skip ?_|refine awp_exit ?_);simp (disch:=omega) only [push_cast,seval,l58r0,l58r1,l58r2,l58r3,hv,hd'])
 | ((first|refine condB_split (fun h=>?_) (fun h=>?_)|refine gIf_split (fun h=>?_) (fun h=>?_)|refine qIf_split (fun h=>?_) (fun h=>?_))<;>(try simp only [h])<;>(try simp only [bitvec_to_nat] at h)<;>(try simp only [h])<;>(first|(exfalso;omega)|(focus (exfalso;simp_all;done))|(simp (disch:=omega) only [push_cast,seval,hv,hd'])|skip))
 | ((first|refine callD_of false ?_|refine qcallD_of false ?_);simp (disch:=omega) only [push_cast,seval,hv,hd'])
 | ((first|((first|refine call0D (BCall.ofP (svalidView_ok _ _ _ _ _ ?_ ?_ ?_)) ?_|refine qcall0D (BCall.ofP (svalidView_ok _ _ _ _ _ ?_ ?_ ?_)) ⟨_,_,rfl,rfl⟩ ?_);(iterate 3 (exact sd));rintro _ _ ⟨rfl,rfl⟩)|((first|refine call0D (BCall.ofP (sisDim_ok _ _ _ _ _ _ ?_ ?_)) ?_|refine qcall0D (BCall.ofP (sisDim_ok _ _ _ _ _ _ ?_ ?_)) ⟨_,_,rfl,rfl⟩ ?_);(iterate 2 (exact sd));rintro _ _ ⟨rfl,rfl⟩)|((first|refine call0D (BCall.ofP (svalidSlice_ok _ _ _ _ _)) ?_|refine qcall0D (BCall.ofP (svalidSlice_ok _ _ _ _ _)) ⟨_,_,rfl,rfl⟩ ?_);rintro _ _ ⟨rfl,rfl⟩)|((first|refine call0D (scutDim_ok _ _ _ _ _ _ _ _ _ _ _ ?_ ?_ ?_ ?_) ?_|refine qcall0D (scutDim_ok _ _ _ _ _ _ _ _ _ _ _ ?_ ?_ ?_ ?_) ⟨_,_,rfl,rfl⟩ ?_);(iterate 4 (exact sd));rintro _ _ ⟨rfl,rfl⟩)|((first|refine call0D (smade_ok _ _ _ _ _ ?_ ?_ ?_) ?_|refine qcall0D (smade_ok _ _ _ _ _ ?_ ?_ ?_) ⟨_,_,rfl,rfl⟩ ?_);(iterate 3 (exact sd));rintro _ _ ⟨rfl,rfl⟩))<;>(try simp (disch:=omega) only [push_cast,seval,hv,hd']))
 | (refine awp_ret ⟨.inr rfl,[16000,16016],[(16000,1),(16016,1)],_,by decide,rfl,?_⟩;(try simp (disch:=omega) only [push_cast,seval,↓allMem_nil,↓allMem_cons,↓List.map_cons,↓List.map_nil,hv,hd']))))
    all_goals simp [MV,MVB,MVL]


theorem sFlipDim_ok (b:Int) (sh st:List Int) (n m:Nat) (d:Int) (hn:sh.length=n) (hm:st.length=m) (hb:n ≤ 1099511627776 ∧ m ≤ 1099511627776) :
    BCall Tryz.prog 60 [.agg [.int .i64 b,.rows false (IL sh) n,.rows false (IL st) m],.int .i64 d] [] (MV (sdOk b sh st d 0 0 (-1) false false) (cutB b sh st d.toNat 0 0 (-1) false false) (cutSh sh d.toNat 0 0 (-1) false false) (cutSt sh st d.toNat 0 0 (-1) false false)):=by
  subst hn hm
  obtain ⟨hb1,hb2⟩:=hb
  refine bcall_of (pins:=[]) (pin:=0) l60_eq rfl rfl rfl ?_
  (repeat' (first
 | (first|refine awp_seq ?_|refine awp_block ?_)
 | ((first|refine awp_reg ?_|refine awp_condB ?_|refine awp_skip ?_|refine awp_exit ?_);simp (disch:=omega) only [push_cast,seval,l60r0,l60r1])
 | ((first|refine condB_split (fun h=>?_) (fun h=>?_)|refine gIf_split (fun h=>?_) (fun h=>?_)|refine qIf_split (fun h=>?_) (fun h=>?_))<;>(try simp only [h])<;>(try simp only [bitvec_to_nat] at h)<;>(try simp only [h])<;>(first|(exfalso;omega)|(focus (exfalso;simp_all;done))|(simp (disch:=omega) only [push_cast,seval])|skip))
 | ((first|refine callD_of false ?_|refine qcallD_of false ?_);simp (disch:=omega) only [push_cast,seval])
 | ((first|((first|refine call0D (sSliceDim_ok _ _ _ _ _ _ _ _ _ _ _ ?_ ?_ ?_) ?_|refine qcall0D (sSliceDim_ok _ _ _ _ _ _ _ _ _ _ _ ?_ ?_ ?_) ⟨_,_,rfl,rfl⟩ ?_);(iterate 3 (exact sd));rintro _ _ ⟨rfl,rfl⟩))<;>(try simp (disch:=omega) only [push_cast,seval]))
 | (refine awp_ret ⟨.inr rfl,[144,145],[],_,by decide,rfl,?_⟩;(try simp (disch:=omega) only [push_cast,seval,↓allMem_nil,↓allMem_cons,↓List.map_cons,↓List.map_nil]))))
  all_goals exact ⟨rfl,rfl⟩


def winSh (sh:List Int) (j:Nat) (s:Int):List Int:=sh.set j (sh.getD j 0 - s + 1) ++ [s]
def winSt (st:List Int) (j:Nat):List Int:=st ++ [st.getD j 0]
def wnOk (b:Int) (sh st:List Int) (d s:Int):Bool :=
  vV b sh st && (decide (0 ≤ d) && decide (d ≤ (sh.length:Int) - 1)) && (decide (1 ≤ s) && decide (s ≤ sh.getD d.toNat 0)) && vV b (winSh sh d.toNat s) (winSt st d.toNat)


theorem sWindowsOf_ok (b:Int) (sh st:List Int) (n m:Nat) (d s:Int) (hn:sh.length=n) (hm:st.length=m) (hb:n ≤ 1099511627776 ∧ m ≤ 1099511627776) :
    BCall Tryz.prog 64 [.agg [.int .i64 b,.rows false (IL sh) n,.rows false (IL st) m],.int .i64 d,.int .i64 s] [] (MV (wnOk b sh st d s) b (winSh sh d.toNat s) (winSt st d.toNat)):=by
  subst hn hm
  obtain ⟨hb1,hb2⟩:=hb
  refine bcall_of (pins:=[]) (pin:=0) l64_eq rfl rfl rfl ?_
  cases hv:vV b sh st with
  | false =>
    have e:wnOk b sh st d s=false:=by simp [wnOk,hv]
    rw [e]
    (repeat' (first
 | (first|refine awp_seq ?_|refine awp_block ?_)
 | ((first|refine awp_reg ?_|refine awp_draw (mid:=l64r4a) (post:=l64r4b) mixed (by decide) ?_|refine awp_draw (mid:=l64r6a) (post:=l64r6b) mixed (by decide) ?_|refine awp_condB ?_|refine awp_skip ?_|refine awp_exit ?_);simp (disch:=omega) only [push_cast,seval,l64r0,l64r1,l64r2,l64r3,l64r4a,l64r4b,l64r4,l64r5,l64r6a,l64r6b,l64r6,l64r7,hv])
 | ((first|refine condB_split (fun h=>?_) (fun h=>?_)|refine gIf_split (fun h=>?_) (fun h=>?_)|refine qIf_split (fun h=>?_) (fun h=>?_))<;>(try simp only [h])<;>(try simp only [bitvec_to_nat] at h)<;>(try simp only [h])<;>(first|(exfalso;omega)|(focus (exfalso;simp_all;done))|(simp (disch:=omega) only [push_cast,seval,hv])|skip))
 | ((first|refine callD_of false ?_|refine qcallD_of false ?_);simp (disch:=omega) only [push_cast,seval,hv])
 | ((first|((first|refine call0D (BCall.ofP (svalidView_ok _ _ _ _ _ ?_ ?_ ?_)) ?_|refine qcall0D (BCall.ofP (svalidView_ok _ _ _ _ _ ?_ ?_ ?_)) ⟨_,_,rfl,rfl⟩ ?_);(iterate 3 (exact sd));rintro _ _ ⟨rfl,rfl⟩)|((first|refine call0D (BCall.ofP (sisDim_ok _ _ _ _ _ _ ?_ ?_)) ?_|refine qcall0D (BCall.ofP (sisDim_ok _ _ _ _ _ _ ?_ ?_)) ⟨_,_,rfl,rfl⟩ ?_);(iterate 2 (exact sd));rintro _ _ ⟨rfl,rfl⟩)|((first|refine call0D (BCall.ofP (inRange_ok _ _ _)) ?_|refine qcall0D (BCall.ofP (inRange_ok _ _ _)) ⟨_,_,rfl,rfl⟩ ?_);rintro _ _ ⟨rfl,rfl⟩)|((first|refine call0D (scopyView_ok _ _ _ _ _ ?_ ?_ ?_) ?_|refine qcall0D (scopyView_ok _ _ _ _ _ ?_ ?_ ?_) ⟨_,_,rfl,rfl⟩ ?_);(iterate 3 (exact sd));rintro _ _ ⟨rfl,rfl⟩)|((first|refine call0D (smade_ok _ _ _ _ _ ?_ ?_ ?_) ?_|refine qcall0D (smade_ok _ _ _ _ _ ?_ ?_ ?_) ⟨_,_,rfl,rfl⟩ ?_);(iterate 3 (exact sd));rintro _ _ ⟨rfl,rfl⟩))<;>(try simp (disch:=omega) only [push_cast,seval,hv]))
 | (refine awp_ret ⟨.inr rfl,[16000,16016],[(16000,1),(16016,1)],_,by decide,rfl,?_⟩;(try simp (disch:=omega) only [push_cast,seval,↓allMem_nil,↓allMem_cons,↓List.map_cons,↓List.map_nil,hv]))))
    all_goals simp [MV,MVB,MVL]
  | true =>
  by_cases hd:0 ≤ d ∧ d ≤ (sh.length:Int) - 1
  · have hd':=tru_and hd
    obtain ⟨j,rfl⟩:∃ j:Nat,d=j:=⟨d.toNat,by omega⟩
    have hj:j < sh.length:=by omega
    by_cases hs:1 ≤ s ∧ s ≤ sh.getD j 0
    · have hs':=tru_and hs
      have e:wnOk b sh st j s=vV b (winSh sh j s) (winSt st j):=by simp only [wnOk,hv,hs',hd',Int.toNat_natCast,Bool.true_and]
      rw [e]
      simp only [Int.toNat_natCast]
      obtain ⟨hok,hlen⟩:=okV_valid hv
      have hj2:j < st.length:=by omega
      have hl4:=hok.1.1.2
      have hx:=good4_at hok.1.1 hj
      unfold winSh winSt
      have l1:(sh.set j (sh.getD j 0 - s + 1) ++ [s]).length=sh.length + 1:=by simp
      have l2:(st ++ [st.getD j 0]).length=st.length + 1:=by simp
      have hq:sh.length + 1 ≤ 1099511627776 ∧ st.length + 1 ≤ 1099511627776:=by omega
      (repeat' (first
 | (first|refine awp_seq ?_|refine awp_block ?_)
 | ((first|refine awp_reg ?_|refine awp_draw (mid:=l64r4a) (post:=l64r4b) mixed (by decide) ?_|refine awp_draw (mid:=l64r6a) (post:=l64r6b) mixed (by decide) ?_|refine awp_condB ?_|refine awp_skip ?_|refine awp_exit ?_);simp (disch:=omega) only [push_cast,seval,l64r0,l64r1,l64r2,l64r3,l64r4a,l64r4b,l64r4,l64r5,l64r6a,l64r6b,l64r6,l64r7,hv,hd',hs',IL_set,IL_snoc,List.length_set,l1,l2])
 | ((first|refine condB_split (fun h=>?_) (fun h=>?_)|refine gIf_split (fun h=>?_) (fun h=>?_)|refine qIf_split (fun h=>?_) (fun h=>?_))<;>(try simp only [h])<;>(try simp only [bitvec_to_nat] at h)<;>(try simp only [h])<;>(first|(exfalso;omega)|(focus (exfalso;simp_all;done))|(simp (disch:=omega) only [push_cast,seval,hv,hd',hs',IL_set,IL_snoc,List.length_set,l1,l2])|skip))
 | ((first|refine callD_of false ?_|refine qcallD_of false ?_);simp (disch:=omega) only [push_cast,seval,hv,hd',hs',IL_set,IL_snoc,List.length_set,l1,l2])
 | ((first|((first|refine call0D (BCall.ofP (svalidView_ok _ _ _ _ _ ?_ ?_ ?_)) ?_|refine qcall0D (BCall.ofP (svalidView_ok _ _ _ _ _ ?_ ?_ ?_)) ⟨_,_,rfl,rfl⟩ ?_);(iterate 3 (exact sd));rintro _ _ ⟨rfl,rfl⟩)|((first|refine call0D (BCall.ofP (sisDim_ok _ _ _ _ _ _ ?_ ?_)) ?_|refine qcall0D (BCall.ofP (sisDim_ok _ _ _ _ _ _ ?_ ?_)) ⟨_,_,rfl,rfl⟩ ?_);(iterate 2 (exact sd));rintro _ _ ⟨rfl,rfl⟩)|((first|refine call0D (BCall.ofP (inRange_ok _ _ _)) ?_|refine qcall0D (BCall.ofP (inRange_ok _ _ _)) ⟨_,_,rfl,rfl⟩ ?_);rintro _ _ ⟨rfl,rfl⟩)|((first|refine call0D (scopyView_ok _ _ _ _ _ ?_ ?_ ?_) ?_|refine qcall0D (scopyView_ok _ _ _ _ _ ?_ ?_ ?_) ⟨_,_,rfl,rfl⟩ ?_);(iterate 3 (exact sd));rintro _ _ ⟨rfl,rfl⟩)|((first|refine call0D (smade_ok _ _ _ _ _ ?_ ?_ ?_) ?_|refine qcall0D (smade_ok _ _ _ _ _ ?_ ?_ ?_) ⟨_,_,rfl,rfl⟩ ?_);(iterate 3 (exact sd));rintro _ _ ⟨rfl,rfl⟩))<;>(try simp (disch:=omega) only [push_cast,seval,hv,hd',hs',IL_set,IL_snoc,List.length_set,l1,l2]))
 | (refine awp_ret ⟨.inr rfl,[960,961],[],_,by decide,rfl,?_⟩;(try simp (disch:=omega) only [push_cast,seval,↓allMem_nil,↓allMem_cons,↓List.map_cons,↓List.map_nil,hv,hd',hs',IL_set,IL_snoc,List.length_set,l1,l2]))))
      all_goals exact ⟨rfl,rfl⟩
    · have hs':=fls_and hs
      have e:wnOk b sh st j s=false:=by simp only [wnOk,hs',Int.toNat_natCast,Bool.and_false,Bool.false_and]
      rw [e]
      (repeat' (first
 | (first|refine awp_seq ?_|refine awp_block ?_)
 | ((first|refine awp_reg ?_|refine awp_draw (mid:=l64r4a) (post:=l64r4b) mixed (by decide) ?_|refine awp_draw (mid:=l64r6a) (post:=l64r6b) mixed (by decide) ?_|refine awp_condB ?_|refine awp_skip ?_|refine awp_exit ?_);simp (disch:=omega) only [push_cast,seval,l64r0,l64r1,l64r2,l64r3,l64r4a,l64r4b,l64r4,l64r5,l64r6a,l64r6b,l64r6,l64r7,hv,hd',hs'])
 | ((first|refine condB_split (fun h=>?_) (fun h=>?_)|refine gIf_split (fun h=>?_) (fun h=>?_)|refine qIf_split (fun h=>?_) (fun h=>?_))<;>(try simp only [h])<;>(try simp only [bitvec_to_nat] at h)<;>(try simp only [h])<;>(first|(exfalso;omega)|(focus (exfalso;simp_all;done))|(simp (disch:=omega) only [push_cast,seval,hv,hd',hs'])|skip))
 | ((first|refine callD_of false ?_|refine qcallD_of false ?_);simp (disch:=omega) only [push_cast,seval,hv,hd',hs'])
 | ((first|((first|refine call0D (BCall.ofP (svalidView_ok _ _ _ _ _ ?_ ?_ ?_)) ?_|refine qcall0D (BCall.ofP (svalidView_ok _ _ _ _ _ ?_ ?_ ?_)) ⟨_,_,rfl,rfl⟩ ?_);(iterate 3 (exact sd));rintro _ _ ⟨rfl,rfl⟩)|((first|refine call0D (BCall.ofP (sisDim_ok _ _ _ _ _ _ ?_ ?_)) ?_|refine qcall0D (BCall.ofP (sisDim_ok _ _ _ _ _ _ ?_ ?_)) ⟨_,_,rfl,rfl⟩ ?_);(iterate 2 (exact sd));rintro _ _ ⟨rfl,rfl⟩)|((first|refine call0D (BCall.ofP (inRange_ok _ _ _)) ?_|refine qcall0D (BCall.ofP (inRange_ok _ _ _)) ⟨_,_,rfl,rfl⟩ ?_);rintro _ _ ⟨rfl,rfl⟩)|((first|refine call0D (scopyView_ok _ _ _ _ _ ?_ ?_ ?_) ?_|refine qcall0D (scopyView_ok _ _ _ _ _ ?_ ?_ ?_) ⟨_,_,rfl,rfl⟩ ?_);(iterate 3 (exact sd));rintro _ _ ⟨rfl,rfl⟩)|((first|refine call0D (smade_ok _ _ _ _ _ ?_ ?_ ?_) ?_|refine qcall0D (smade_ok _ _ _ _ _ ?_ ?_ ?_) ⟨_,_,rfl,rfl⟩ ?_);(iterate 3 (exact sd));rintro _ _ ⟨rfl,rfl⟩))<;>(try simp (disch:=omega) only [push_cast,seval,hv,hd',hs']))
 | (refine awp_ret ⟨.inr rfl,[16000,16016],[(16000,1),(16016,1)],_,by decide,rfl,?_⟩;(try simp (disch:=omega) only [push_cast,seval,↓allMem_nil,↓allMem_cons,↓List.map_cons,↓List.map_nil,hv,hd',hs']))))
      all_goals simp [MV,MVB,MVL]
  · have hd':=fls_and hd
    have e:wnOk b sh st d s=false:=by simp only [wnOk,hd',Bool.and_false,Bool.false_and]
    rw [e]
    (repeat' (first
 | (first|refine awp_seq ?_|refine awp_block ?_)
 | ((first|refine awp_reg ?_|refine awp_draw (mid:=l64r4a) (post:=l64r4b) mixed (by decide) ?_|refine awp_draw (mid:=l64r6a) (post:=l64r6b) mixed (by decide) ?_|refine awp_condB ?_|refine awp_skip ?_|refine awp_exit ?_);simp (disch:=omega) only [push_cast,seval,l64r0,l64r1,l64r2,l64r3,l64r4a,l64r4b,l64r4,l64r5,l64r6a,l64r6b,l64r6,l64r7,hv,hd'])
 | ((first|refine condB_split (fun h=>?_) (fun h=>?_)|refine gIf_split (fun h=>?_) (fun h=>?_)|refine qIf_split (fun h=>?_) (fun h=>?_))<;>(try simp only [h])<;>(try simp only [bitvec_to_nat] at h)<;>(try simp only [h])<;>(first|(exfalso;omega)|(focus (exfalso;simp_all;done))|(simp (disch:=omega) only [push_cast,seval,hv,hd'])|skip))
 | ((first|refine callD_of false ?_|refine qcallD_of false ?_);simp (disch:=omega) only [push_cast,seval,hv,hd'])
 | ((first|((first|refine call0D (BCall.ofP (svalidView_ok _ _ _ _ _ ?_ ?_ ?_)) ?_|refine qcall0D (BCall.ofP (svalidView_ok _ _ _ _ _ ?_ ?_ ?_)) ⟨_,_,rfl,rfl⟩ ?_);(iterate 3 (exact sd));rintro _ _ ⟨rfl,rfl⟩)|((first|refine call0D (BCall.ofP (sisDim_ok _ _ _ _ _ _ ?_ ?_)) ?_|refine qcall0D (BCall.ofP (sisDim_ok _ _ _ _ _ _ ?_ ?_)) ⟨_,_,rfl,rfl⟩ ?_);(iterate 2 (exact sd));rintro _ _ ⟨rfl,rfl⟩)|((first|refine call0D (BCall.ofP (inRange_ok _ _ _)) ?_|refine qcall0D (BCall.ofP (inRange_ok _ _ _)) ⟨_,_,rfl,rfl⟩ ?_);rintro _ _ ⟨rfl,rfl⟩)|((first|refine call0D (scopyView_ok _ _ _ _ _ ?_ ?_ ?_) ?_|refine qcall0D (scopyView_ok _ _ _ _ _ ?_ ?_ ?_) ⟨_,_,rfl,rfl⟩ ?_);(iterate 3 (exact sd));rintro _ _ ⟨rfl,rfl⟩)|((first|refine call0D (smade_ok _ _ _ _ _ ?_ ?_ ?_) ?_|refine qcall0D (smade_ok _ _ _ _ _ ?_ ?_ ?_) ⟨_,_,rfl,rfl⟩ ?_);(iterate 3 (exact sd));rintro _ _ ⟨rfl,rfl⟩))<;>(try simp (disch:=omega) only [push_cast,seval,hv,hd']))
 | (refine awp_ret ⟨.inr rfl,[16000,16016],[(16000,1),(16016,1)],_,by decide,rfl,?_⟩;(try simp (disch:=omega) only [push_cast,seval,↓allMem_nil,↓allMem_cons,↓List.map_cons,↓List.map_nil,hv,hd']))))
    all_goals simp [MV,MVB,MVL]


def adOk (b:Int) (sh st:List Int) (d:Int):Bool :=
  vV b sh st && (decide (0 ≤ d) && decide (d ≤ (sh.length:Int))) && !decide (sh.length=4) && vV b (ins sh d.toNat 1) (ins st d.toNat 0)


theorem sAddDim_ok (b:Int) (sh st:List Int) (n m:Nat) (d:Int) (hn:sh.length=n) (hm:st.length=m) (hb:n ≤ 1099511627776 ∧ m ≤ 1099511627776) :
    BCall Tryz.prog 65 [.agg [.int .i64 b,.rows false (IL sh) n,.rows false (IL st) m],.int .i64 d] [] (MV (adOk b sh st d) b (ins sh d.toNat 1) (ins st d.toNat 0)):=by
  subst hn hm
  obtain ⟨hb1,hb2⟩:=hb
  refine bcall_of (pins:=[]) (pin:=0) l65_eq rfl rfl rfl ?_
  cases hv:vV b sh st with
  | false =>
    have e:adOk b sh st d=false:=by simp [adOk,hv]
    rw [e]
    (repeat' (first
 | (first|refine awp_seq ?_|refine awp_block ?_)
 | ((first|refine awp_reg ?_|refine awp_draw (mid:=l65r3a) (post:=l65r3b) mixed (by decide) ?_|refine awp_condB ?_|refine awp_skip ?_|refine awp_exit ?_);simp (disch:=omega) only [push_cast,seval,l65r0,l65r1,l65r2,l65r3a,l65r3b,l65r3,hv])
 | ((first|refine condB_split (fun h=>?_) (fun h=>?_)|refine gIf_split (fun h=>?_) (fun h=>?_)|refine qIf_split (fun h=>?_) (fun h=>?_))<;>(try simp only [h])<;>(try simp only [bitvec_to_nat] at h)<;>(try simp only [h])<;>(first|(exfalso;omega)|(focus (exfalso;simp_all;done))|(simp (disch:=omega) only [push_cast,seval,hv])|skip))
 | ((first|refine callD_of false ?_|refine qcallD_of false ?_);simp (disch:=omega) only [push_cast,seval,hv])
 | ((first|((first|refine call0D (BCall.ofP (svalidView_ok _ _ _ _ _ ?_ ?_ ?_)) ?_|refine qcall0D (BCall.ofP (svalidView_ok _ _ _ _ _ ?_ ?_ ?_)) ⟨_,_,rfl,rfl⟩ ?_);(iterate 3 (exact sd));rintro _ _ ⟨rfl,rfl⟩)|((first|refine call0D (BCall.ofP (inRange_ok _ _ _)) ?_|refine qcall0D (BCall.ofP (inRange_ok _ _ _)) ⟨_,_,rfl,rfl⟩ ?_);rintro _ _ ⟨rfl,rfl⟩)|((first|refine call0D (sinsert_ok _ _ _ _ ?_ ?_) ?_|refine qcall0D (sinsert_ok _ _ _ _ ?_ ?_) ⟨_,_,rfl,rfl⟩ ?_);(iterate 2 (exact sd));rintro _ _ ⟨rfl,rfl⟩)|((first|refine call0D (smade_ok _ _ _ _ _ ?_ ?_ ?_) ?_|refine qcall0D (smade_ok _ _ _ _ _ ?_ ?_ ?_) ⟨_,_,rfl,rfl⟩ ?_);(iterate 3 (exact sd));rintro _ _ ⟨rfl,rfl⟩))<;>(try simp (disch:=omega) only [push_cast,seval,hv]))
 | (refine awp_ret ⟨.inr rfl,[16000,16016],[(16000,1),(16016,1)],_,by decide,rfl,?_⟩;(try simp (disch:=omega) only [push_cast,seval,↓allMem_nil,↓allMem_cons,↓List.map_cons,↓List.map_nil,hv]))))
    all_goals simp [MV,MVB,MVL]
  | true =>
  by_cases hd:0 ≤ d ∧ d ≤ (sh.length:Int)
  · have hd':=tru_and hd
    obtain ⟨j,rfl⟩:∃ j:Nat,d=j:=⟨d.toNat,by omega⟩
    have hj:j ≤ sh.length:=by omega
    by_cases h4:sh.length=4
    · have e:adOk b sh st j=false:=by simp [adOk,h4]
      have h4':(sh.length:Int)=4:=by omega
      rw [e]
      (repeat' (first
 | (first|refine awp_seq ?_|refine awp_block ?_)
 | ((first|refine awp_reg ?_|refine awp_draw (mid:=l65r3a) (post:=l65r3b) mixed (by decide) ?_|refine awp_condB ?_|refine awp_skip ?_|refine awp_exit ?_);simp (disch:=omega) only [push_cast,seval,l65r0,l65r1,l65r2,l65r3a,l65r3b,l65r3,hv,hd',h4'])
 | ((first|refine condB_split (fun h=>?_) (fun h=>?_)|refine gIf_split (fun h=>?_) (fun h=>?_)|refine qIf_split (fun h=>?_) (fun h=>?_))<;>(try simp only [h])<;>(try simp only [bitvec_to_nat] at h)<;>(try simp only [h])<;>(first|(exfalso;omega)|(focus (exfalso;simp_all;done))|(simp (disch:=omega) only [push_cast,seval,hv,hd',h4'])|skip))
 | ((first|refine callD_of false ?_|refine qcallD_of false ?_);simp (disch:=omega) only [push_cast,seval,hv,hd',h4'])
 | ((first|((first|refine call0D (BCall.ofP (svalidView_ok _ _ _ _ _ ?_ ?_ ?_)) ?_|refine qcall0D (BCall.ofP (svalidView_ok _ _ _ _ _ ?_ ?_ ?_)) ⟨_,_,rfl,rfl⟩ ?_);(iterate 3 (exact sd));rintro _ _ ⟨rfl,rfl⟩)|((first|refine call0D (BCall.ofP (inRange_ok _ _ _)) ?_|refine qcall0D (BCall.ofP (inRange_ok _ _ _)) ⟨_,_,rfl,rfl⟩ ?_);rintro _ _ ⟨rfl,rfl⟩)|((first|refine call0D (sinsert_ok _ _ _ _ ?_ ?_) ?_|refine qcall0D (sinsert_ok _ _ _ _ ?_ ?_) ⟨_,_,rfl,rfl⟩ ?_);(iterate 2 (exact sd));rintro _ _ ⟨rfl,rfl⟩)|((first|refine call0D (smade_ok _ _ _ _ _ ?_ ?_ ?_) ?_|refine qcall0D (smade_ok _ _ _ _ _ ?_ ?_ ?_) ⟨_,_,rfl,rfl⟩ ?_);(iterate 3 (exact sd));rintro _ _ ⟨rfl,rfl⟩))<;>(try simp (disch:=omega) only [push_cast,seval,hv,hd',h4']))
 | (refine awp_ret ⟨.inr rfl,[16000,16016],[(16000,1),(16016,1)],_,by decide,rfl,?_⟩;(try simp (disch:=omega) only [push_cast,seval,↓allMem_nil,↓allMem_cons,↓List.map_cons,↓List.map_nil,hv,hd',h4']))))
      all_goals simp [MV,MVB,MVL]
    · have h4':¬ (sh.length:Int)=4:=by omega
      have e:adOk b sh st j=vV b (ins sh j 1) (ins st j 0):=by simp only [adOk,hv,hd',h4,Int.toNat_natCast,Bool.true_and,decide_false,Bool.not_false]
      rw [e]
      simp only [Int.toNat_natCast]
      obtain ⟨hok,hlen⟩:=okV_valid hv
      have hl4:=hok.1.1.2
      have l1:=ins_length 1 hj
      have l2:=ins_length (xs:=st) 0 (show j ≤ st.length by omega)
      have hq:sh.length + 1 ≤ 1099511627776 ∧ st.length + 1 ≤ 1099511627776:=by omega
      have hq1:j ≤ sh.length ∧ sh.length ≤ 1099511000000:=by omega
      have hq2:j ≤ st.length ∧ st.length ≤ 1099511000000:=by omega
      (repeat' (first
 | (first|refine awp_seq ?_|refine awp_block ?_)
 | ((first|refine awp_reg ?_|refine awp_draw (mid:=l65r3a) (post:=l65r3b) mixed (by decide) ?_|refine awp_condB ?_|refine awp_skip ?_|refine awp_exit ?_);simp (disch:=omega) only [push_cast,seval,l65r0,l65r1,l65r2,l65r3a,l65r3b,l65r3,hv,hd',h4',l1,l2])
 | ((first|refine condB_split (fun h=>?_) (fun h=>?_)|refine gIf_split (fun h=>?_) (fun h=>?_)|refine qIf_split (fun h=>?_) (fun h=>?_))<;>(try simp only [h])<;>(try simp only [bitvec_to_nat] at h)<;>(try simp only [h])<;>(first|(exfalso;omega)|(focus (exfalso;simp_all;done))|(simp (disch:=omega) only [push_cast,seval,hv,hd',h4',l1,l2])|skip))
 | ((first|refine callD_of false ?_|refine qcallD_of false ?_);simp (disch:=omega) only [push_cast,seval,hv,hd',h4',l1,l2])
 | ((first|((first|refine call0D (BCall.ofP (svalidView_ok _ _ _ _ _ ?_ ?_ ?_)) ?_|refine qcall0D (BCall.ofP (svalidView_ok _ _ _ _ _ ?_ ?_ ?_)) ⟨_,_,rfl,rfl⟩ ?_);(iterate 3 (exact sd));rintro _ _ ⟨rfl,rfl⟩)|((first|refine call0D (BCall.ofP (inRange_ok _ _ _)) ?_|refine qcall0D (BCall.ofP (inRange_ok _ _ _)) ⟨_,_,rfl,rfl⟩ ?_);rintro _ _ ⟨rfl,rfl⟩)|((first|refine call0D (sinsert_ok _ _ _ _ ?_ ?_) ?_|refine qcall0D (BCall.ofP (plainI (sinsert_ok _ _ _ _ ?_ ?_))) ⟨_,_,rfl,rfl⟩ ?_);(iterate 2 (exact sd));rintro _ _ ⟨rfl,rfl⟩)|((first|refine call0D (smade_ok _ _ _ _ _ ?_ ?_ ?_) ?_|refine qcall0D (smade_ok _ _ _ _ _ ?_ ?_ ?_) ⟨_,_,rfl,rfl⟩ ?_);(iterate 3 (exact sd));rintro _ _ ⟨rfl,rfl⟩))<;>(try simp (disch:=omega) only [push_cast,seval,hv,hd',h4',l1,l2]))
 | (refine awp_ret ⟨.inr rfl,[560,561],[],_,by decide,rfl,?_⟩;(try simp (disch:=omega) only [push_cast,seval,↓allMem_nil,↓allMem_cons,↓List.map_cons,↓List.map_nil,hv,hd',h4',l1,l2]))))
      all_goals exact ⟨rfl,rfl⟩
  · have hd':=fls_and hd
    have e:adOk b sh st d=false:=by simp only [adOk,hd',Bool.and_false,Bool.false_and]
    rw [e]
    (repeat' (first
 | (first|refine awp_seq ?_|refine awp_block ?_)
 | ((first|refine awp_reg ?_|refine awp_draw (mid:=l65r3a) (post:=l65r3b) mixed (by decide) ?_|refine awp_condB ?_|refine awp_skip ?_|refine awp_exit ?_);simp (disch:=omega) only [push_cast,seval,l65r0,l65r1,l65r2,l65r3a,l65r3b,l65r3,hv,hd'])
 | ((first|refine condB_split (fun h=>?_) (fun h=>?_)|refine gIf_split (fun h=>?_) (fun h=>?_)|refine qIf_split (fun h=>?_) (fun h=>?_))<;>(try simp only [h])<;>(try simp only [bitvec_to_nat] at h)<;>(try simp only [h])<;>(first|(exfalso;omega)|(focus (exfalso;simp_all;done))|(simp (disch:=omega) only [push_cast,seval,hv,hd'])|skip))
 | ((first|refine callD_of false ?_|refine qcallD_of false ?_);simp (disch:=omega) only [push_cast,seval,hv,hd'])
 | ((first|((first|refine call0D (BCall.ofP (svalidView_ok _ _ _ _ _ ?_ ?_ ?_)) ?_|refine qcall0D (BCall.ofP (svalidView_ok _ _ _ _ _ ?_ ?_ ?_)) ⟨_,_,rfl,rfl⟩ ?_);(iterate 3 (exact sd));rintro _ _ ⟨rfl,rfl⟩)|((first|refine call0D (BCall.ofP (inRange_ok _ _ _)) ?_|refine qcall0D (BCall.ofP (inRange_ok _ _ _)) ⟨_,_,rfl,rfl⟩ ?_);rintro _ _ ⟨rfl,rfl⟩)|((first|refine call0D (sinsert_ok _ _ _ _ ?_ ?_) ?_|refine qcall0D (sinsert_ok _ _ _ _ ?_ ?_) ⟨_,_,rfl,rfl⟩ ?_);(iterate 2 (exact sd));rintro _ _ ⟨rfl,rfl⟩)|((first|refine call0D (smade_ok _ _ _ _ _ ?_ ?_ ?_) ?_|refine qcall0D (smade_ok _ _ _ _ _ ?_ ?_ ?_) ⟨_,_,rfl,rfl⟩ ?_);(iterate 3 (exact sd));rintro _ _ ⟨rfl,rfl⟩))<;>(try simp (disch:=omega) only [push_cast,seval,hv,hd']))
 | (refine awp_ret ⟨.inr rfl,[16000,16016],[(16000,1),(16016,1)],_,by decide,rfl,?_⟩;(try simp (disch:=omega) only [push_cast,seval,↓allMem_nil,↓allMem_cons,↓List.map_cons,↓List.map_nil,hv,hd']))))
    all_goals simp [MV,MVB,MVL]

end Go.Proofs.YtejbfjmiidofcaaGreat
