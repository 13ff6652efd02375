import Derived.Test.YtfkbhkpbfnklaaaCKm1
import Derived.Test.YtfkbhkpbfnklaaaCM1
set_option linter.unusedSimpArgs false
set_option linter.unusedVariables false
set_option maxRecDepth 4000
set_option maxHeartbeats 4000000
namespace Go.Proofs.Ytfkbhkpbfnklaaa
open VwM Vw Go

abbrev OT (x y:List Int):AV → List (List AV) → Prop:=fun r H'=>r=.agg [.own 0 x.length 1,.own 1 y.length 1] ∧ H'=[IL x,IL y]
theorem plainT [Inhabited GlobT] {P:Program} {f:Nat} {args:List AV} {x y:List Int} (h:BCall P f args [] (OT x y)):PCall P f args (fun r=>r=.agg [.rows true (IL x) x.length,.rows true (IL y) y.length]):=by
  refine (BCall.plain h).mono ?_
  rintro r ⟨r0,H',⟨rfl,rfl⟩,rfl⟩
  simp [AV.ren,nthH,List.map_map,Function.comp_def]


theorem szTensor_ok (cs ds:List AV) (n m:Nat) (l:Int) (hl:0 ≤ l ∧ l ≤ 1048576) (hb:n ≤ 9223372036854775807 ∧ m ≤ 9223372036854775807):PCall Try.prog 30 [.agg [.rows false cs n,.rows false ds m],.int .i64 l] (fun r=>r=.int .i64 (if l - n - m < 0 then -1 else l - n - m)):=by
  refine pcall_of l30_eq rfl ?_
  by_cases h:l - (n:Int) < 0
  · have h2:l - (n:Int) - m < 0:=by omega
    (repeat' (first
 | (first|refine awp_seq ?_|refine awp_block ?_)
 | ((first|refine awp_reg ?_|refine awp_condB ?_|refine awp_skip ?_|refine awp_exit ?_);simp (disch:=omega) only [push_cast,seval,l30r0,l30r1,l30r2,l30r3,l30r4,l30r5,l30r6,l30r7,h,h2])
 | ((first|refine condB_split (fun h=>?_) (fun h=>?_)|refine gIf_split (fun h=>?_) (fun h=>?_)|refine qIf_split (fun h=>?_) (fun h=>?_))<;>(try simp only [h])<;>(try simp only [bitvec_to_nat] at h)<;>(try simp only [h])<;>(first|(exfalso;omega)|(focus (exfalso;simp_all;done))|(simp (disch:=omega) only [push_cast,seval,h,h2])|skip))
 | ((first|refine callD_of false ?_|refine qcallD_of false ?_);simp (disch:=omega) only [push_cast,seval,h,h2])
 | ((first|((first|refine call0D (BCall.ofP (szIntS_ok _ _ _ ?_ ?_)) ?_|refine qcall0D (BCall.ofP (szIntS_ok _ _ _ ?_ ?_)) ⟨_,_,rfl,rfl⟩ ?_);(iterate 2 (exact sd));rintro _ _ ⟨rfl,rfl⟩))<;>(try simp (disch:=omega) only [push_cast,seval,h,h2]))
 | (refine awp_ret ⟨.inr rfl,_,rfl,?_⟩;(try simp (disch:=omega) only [push_cast,seval,h,h2]))))
  · by_cases h2:l - (n:Int) - m < 0
    · (repeat' (first
 | (first|refine awp_seq ?_|refine awp_block ?_)
 | ((first|refine awp_reg ?_|refine awp_condB ?_|refine awp_skip ?_|refine awp_exit ?_);simp (disch:=omega) only [push_cast,seval,l30r0,l30r1,l30r2,l30r3,l30r4,l30r5,l30r6,l30r7,h,h2])
 | ((first|refine condB_split (fun h=>?_) (fun h=>?_)|refine gIf_split (fun h=>?_) (fun h=>?_)|refine qIf_split (fun h=>?_) (fun h=>?_))<;>(try simp only [h])<;>(try simp only [bitvec_to_nat] at h)<;>(try simp only [h])<;>(first|(exfalso;omega)|(focus (exfalso;simp_all;done))|(simp (disch:=omega) only [push_cast,seval,h,h2])|skip))
 | ((first|refine callD_of false ?_|refine qcallD_of false ?_);simp (disch:=omega) only [push_cast,seval,h,h2])
 | ((first|((first|refine call0D (BCall.ofP (szIntS_ok _ _ _ ?_ ?_)) ?_|refine qcall0D (BCall.ofP (szIntS_ok _ _ _ ?_ ?_)) ⟨_,_,rfl,rfl⟩ ?_);(iterate 2 (exact sd));rintro _ _ ⟨rfl,rfl⟩))<;>(try simp (disch:=omega) only [push_cast,seval,h,h2]))
 | (refine awp_ret ⟨.inr rfl,_,rfl,?_⟩;(try simp (disch:=omega) only [push_cast,seval,h,h2]))))
    · (repeat' (first
 | (first|refine awp_seq ?_|refine awp_block ?_)
 | ((first|refine awp_reg ?_|refine awp_condB ?_|refine awp_skip ?_|refine awp_exit ?_);simp (disch:=omega) only [push_cast,seval,l30r0,l30r1,l30r2,l30r3,l30r4,l30r5,l30r6,l30r7,h,h2])
 | ((first|refine condB_split (fun h=>?_) (fun h=>?_)|refine gIf_split (fun h=>?_) (fun h=>?_)|refine qIf_split (fun h=>?_) (fun h=>?_))<;>(try simp only [h])<;>(try simp only [bitvec_to_nat] at h)<;>(try simp only [h])<;>(first|(exfalso;omega)|(focus (exfalso;simp_all;done))|(simp (disch:=omega) only [push_cast,seval,h,h2])|skip))
 | ((first|refine callD_of false ?_|refine qcallD_of false ?_);simp (disch:=omega) only [push_cast,seval,h,h2])
 | ((first|((first|refine call0D (BCall.ofP (szIntS_ok _ _ _ ?_ ?_)) ?_|refine qcall0D (BCall.ofP (szIntS_ok _ _ _ ?_ ?_)) ⟨_,_,rfl,rfl⟩ ?_);(iterate 2 (exact sd));rintro _ _ ⟨rfl,rfl⟩))<;>(try simp (disch:=omega) only [push_cast,seval,h,h2]))
 | (refine awp_ret ⟨.inr rfl,_,rfl,?_⟩;(try simp (disch:=omega) only [push_cast,seval,h,h2]))))


theorem toTensor_ok (sh st:List Int) (n m:Nat) (hn:sh.length=n) (hm:st.length=m) (hb:n ≤ 1099511627776 ∧ m ≤ 1099511627776):BCall Try.prog 32 [.agg [.rows false (IL sh) n,.rows false (IL st) m]] [] (OT sh st):=by
  subst hn hm
  refine bcall_of (pins:=[]) (pin:=0) l32_eq rfl rfl rfl ?_
  (repeat' (first
 | (first|refine awp_seq ?_|refine awp_block ?_)
 | ((first|refine awp_reg ?_|refine awp_condB ?_|refine awp_skip ?_|refine awp_exit ?_);simp (disch:=omega) only [push_cast,seval,l32r0,l32r1,l32r2,l32r3,l32r4])
 | ((first|refine condB_split (fun h=>?_) (fun h=>?_)|refine gIf_split (fun h=>?_) (fun h=>?_)|refine qIf_split (fun h=>?_) (fun h=>?_))<;>(try simp only [h])<;>(try simp only [bitvec_to_nat] at h)<;>(try simp only [h])<;>(first|(exfalso;omega)|(focus (exfalso;simp_all;done))|(simp (disch:=omega) only [push_cast,seval])|skip))
 | ((first|refine callD_of false ?_|refine qcallD_of false ?_);simp (disch:=omega) only [push_cast,seval])
 | ((first|((first|refine call0D (toIntS_ok _ _ ?_ ?_) ?_|refine qcall0D (toIntS_ok _ _ ?_ ?_) ⟨_,_,rfl,rfl⟩ ?_);(iterate 2 (exact sd));rintro _ _ ⟨rfl,rfl⟩))<;>(try simp (disch:=omega) only [push_cast,seval]))
 | (refine awp_ret ⟨.inr rfl,[96,160],[],_,by decide,rfl,?_⟩;(try simp (disch:=omega) only [push_cast,seval,↓allMem_nil,↓allMem_cons,↓List.map_cons,↓List.map_nil]))))
  all_goals simp [OT]


theorem toTensorP_ok (sh st:List Int) (n m:Nat) (hn:sh.length=n) (hm:st.length=m) (hb:n ≤ 1099511627776 ∧ m ≤ 1099511627776):PCall Try.prog 32 [.agg [.rows false (IL sh) n,.rows false (IL st) m]] (fun r=>r=.agg [.rows true (IL sh) sh.length,.rows true (IL st) st.length]):=plainT (toTensor_ok sh st n m hn hm hb)


theorem eqTensor_ok (s t s' t':List Int) (n m n' m':Nat) (h1:s.length=n) (h2:t.length=m) (h3:s'.length=n') (h4:t'.length=m') (hb:n ≤ 1099511627776 ∧ m ≤ 1099511627776):PCall Try.prog 19 [.agg [.rows false (IL s) n,.rows false (IL t) m],.agg [.rows false (IL s') n',.rows false (IL t') m']] (fun r=>r=.bool (decide (s=s') && decide (t=t'))):=by
  subst h1 h2 h3 h4
  refine pcall_of l19_eq rfl ?_
  (repeat' (first
 | (first|refine awp_seq ?_|refine awp_block ?_)
 | ((first|refine awp_reg ?_|refine awp_condB ?_|refine awp_skip ?_|refine awp_exit ?_);simp (disch:=omega) only [push_cast,seval,l19r0,l19r1,l19r2,l19r3,l19r4,l19r5])
 | ((first|refine condB_split (fun h=>?_) (fun h=>?_)|refine gIf_split (fun h=>?_) (fun h=>?_)|refine qIf_split (fun h=>?_) (fun h=>?_))<;>(try simp only [h])<;>(try simp only [bitvec_to_nat] at h)<;>(try simp only [h])<;>(first|(exfalso;omega)|(focus (exfalso;simp_all;done))|(simp (disch:=omega) only [push_cast,seval])|skip))
 | ((first|refine callD_of false ?_|refine qcallD_of false ?_);simp (disch:=omega) only [push_cast,seval])
 | ((first|((first|refine call0D (BCall.ofP (eqIntS_ok _ _ _ _ ?_ ?_ ?_)) ?_|refine qcall0D (BCall.ofP (eqIntS_ok _ _ _ _ ?_ ?_ ?_)) ⟨_,_,rfl,rfl⟩ ?_);(iterate 3 (exact sd));rintro _ _ ⟨rfl,rfl⟩))<;>(try simp (disch:=omega) only [push_cast,seval]))
 | (refine awp_ret ⟨.inr rfl,_,rfl,?_⟩;(try simp (disch:=omega) only [push_cast,seval]))))
  all_goals (first|rfl|(simp_all;done)|(simp_all;omega)|(simp;omega)|(simp;grind)|(simp_all;grind)|skip)


theorem markTensor_ok (s t:List Int) (n m:Nat) (k:Int) (h1:s.length=n) (h2:t.length=m) (hk:((0 ≤ k ∧ k ≤ 100000000) ∧ n ≤ 100000000) ∧ m ≤ 100000000):BCall Try.prog 26 [.agg [.own 0 n 1,.own 1 m 1],.int .i64 k] [IL s,IL t] (fun r H'=>r=.int .i64 (k + n + m) ∧ H'=[IL (upFrom k n),IL (upFrom (k + n) m)]):=by
  subst h1 h2
  refine bcall_of (pins:=[0,1]) (pin:=2) l26_eq rfl rfl rfl ?_
  (repeat' (first
 | (first|refine awp_seq ?_|refine awp_block ?_)
 | ((first|refine awp_reg ?_|refine awp_condB ?_|refine awp_skip ?_|refine awp_exit ?_);simp (disch:=omega) only [push_cast,seval,l26r0,l26r1,l26r2,l26r3])
 | ((first|refine condB_split (fun h=>?_) (fun h=>?_)|refine gIf_split (fun h=>?_) (fun h=>?_)|refine qIf_split (fun h=>?_) (fun h=>?_))<;>(try simp only [h])<;>(try simp only [bitvec_to_nat] at h)<;>(try simp only [h])<;>(first|(exfalso;omega)|(focus (exfalso;simp_all;done))|(simp (disch:=omega) only [push_cast,seval])|skip))
 | ((first|((with_reducible refine qcallI_of (f:=25) [128] false ?_);simp (disch:=omega) only [push_cast,seval];(refine qcall1D (id:=128) (markIntS_ok _ _ _ ?_ ?_) (by first|((simp (disch:=omega) only [push_cast,seval]);done)|((simp (disch:=omega) only [push_cast,seval]);rfl)) (by decide) ⟨_,_,rfl,rfl⟩ ?_;(iterate 2 (exact sd));rintro _ _ ⟨rfl,rfl⟩))|((with_reducible refine qcallI_of (f:=25) [192] false ?_);simp (disch:=omega) only [push_cast,seval];(refine qcall1D (id:=192) (markIntS_ok _ _ _ ?_ ?_) (by first|((simp (disch:=omega) only [push_cast,seval]);done)|((simp (disch:=omega) only [push_cast,seval]);rfl)) (by decide) ⟨_,_,rfl,rfl⟩ ?_;(iterate 2 (exact sd));rintro _ _ ⟨rfl,rfl⟩))|((with_reducible refine qcallI_of (f:=25) [0] false ?_);simp (disch:=omega) only [push_cast,seval];(refine qcall1D (id:=0) (markIntS_ok _ _ _ ?_ ?_) (by first|((simp (disch:=omega) only [push_cast,seval]);done)|((simp (disch:=omega) only [push_cast,seval]);rfl)) (by decide) ⟨_,_,rfl,rfl⟩ ?_;(iterate 2 (exact sd));rintro _ _ ⟨rfl,rfl⟩))|((with_reducible refine qcallI_of (f:=25) [1] false ?_);simp (disch:=omega) only [push_cast,seval];(refine qcall1D (id:=1) (markIntS_ok _ _ _ ?_ ?_) (by first|((simp (disch:=omega) only [push_cast,seval]);done)|((simp (disch:=omega) only [push_cast,seval]);rfl)) (by decide) ⟨_,_,rfl,rfl⟩ ?_;(iterate 2 (exact sd));rintro _ _ ⟨rfl,rfl⟩))|((with_reducible refine callD_ids (f:=25) [128] false ?_);simp (disch:=omega) only [push_cast,seval];(refine call1D (id:=128) (markIntS_ok _ _ _ ?_ ?_) (by first|((simp (disch:=omega) only [push_cast,seval]);done)|((simp (disch:=omega) only [push_cast,seval]);rfl)) ?_;(iterate 2 (exact sd));rintro _ _ ⟨rfl,rfl⟩))|((with_reducible refine callD_ids (f:=25) [192] false ?_);simp (disch:=omega) only [push_cast,seval];(refine call1D (id:=192) (markIntS_ok _ _ _ ?_ ?_) (by first|((simp (disch:=omega) only [push_cast,seval]);done)|((simp (disch:=omega) only [push_cast,seval]);rfl)) ?_;(iterate 2 (exact sd));rintro _ _ ⟨rfl,rfl⟩))|((with_reducible refine callD_ids (f:=25) [0] false ?_);simp (disch:=omega) only [push_cast,seval];(refine call1D (id:=0) (markIntS_ok _ _ _ ?_ ?_) (by first|((simp (disch:=omega) only [push_cast,seval]);done)|((simp (disch:=omega) only [push_cast,seval]);rfl)) ?_;(iterate 2 (exact sd));rintro _ _ ⟨rfl,rfl⟩))|((with_reducible refine callD_ids (f:=25) [1] false ?_);simp (disch:=omega) only [push_cast,seval];(refine call1D (id:=1) (markIntS_ok _ _ _ ?_ ?_) (by first|((simp (disch:=omega) only [push_cast,seval]);done)|((simp (disch:=omega) only [push_cast,seval]);rfl)) ?_;(iterate 2 (exact sd));rintro _ _ ⟨rfl,rfl⟩)))<;>(try simp (disch:=omega) only [push_cast,seval]))
 | (refine awp_ret ⟨.inr rfl,[],[],_,by decide,rfl,?_⟩;(try simp (disch:=omega) only [push_cast,seval,↓allMem_nil,↓allMem_cons,↓List.map_cons,↓List.map_nil]))))


theorem heldTensor_ok (n m:Nat) (k:Int) (hk:((0 ≤ k ∧ k ≤ 100000000) ∧ n ≤ 100000000) ∧ m ≤ 100000000):PCall Try.prog 27 [.agg [.rows false (IL (upFrom k n)) n,.rows false (IL (upFrom (k + n) m)) m],.int .i64 k] (fun r=>r=.int .i64 (k + n + m)):=by
  refine pcall_of l27_eq rfl ?_
  (repeat' (first
 | (first|refine awp_seq ?_|refine awp_block ?_)
 | ((first|refine awp_reg ?_|refine awp_condB ?_|refine awp_skip ?_|refine awp_exit ?_);simp (disch:=omega) only [push_cast,seval,l27r0,l27r1,l27r2,l27r3,l27r4,l27r5,l27r6,l27r7])
 | ((first|refine condB_split (fun h=>?_) (fun h=>?_)|refine gIf_split (fun h=>?_) (fun h=>?_)|refine qIf_split (fun h=>?_) (fun h=>?_))<;>(try simp only [h])<;>(try simp only [bitvec_to_nat] at h)<;>(try simp only [h])<;>(first|(exfalso;omega)|(focus (exfalso;simp_all;done))|(simp (disch:=omega) only [push_cast,seval])|skip))
 | ((first|refine callD_of false ?_|refine qcallD_of false ?_);simp (disch:=omega) only [push_cast,seval])
 | ((first|((first|refine call0D (BCall.ofP (heldIntS_ok _ _ ?_)) ?_|refine qcall0D (BCall.ofP (heldIntS_ok _ _ ?_)) ⟨_,_,rfl,rfl⟩ ?_);(exact sd);rintro _ _ ⟨rfl,rfl⟩))<;>(try simp (disch:=omega) only [push_cast,seval]))
 | (refine awp_ret ⟨.inr rfl,_,rfl,?_⟩;(try simp (disch:=omega) only [push_cast,seval]))))


theorem vT_sh {x y:List Int} (h:vSh x=false):vT (x,y)=false:=by simp [vT,h]
theorem vT_len {x y:List Int} (h:¬ (y.length:Int)=pr x):vT (x,y)=false:=by simp [vT,h]
theorem vT_in {x y:List Int} (h:vSh x=true) (h2:(y.length:Int)=pr x):vT (x,y)=allI y (-1000000) 1000000:=by simp [vT,h,h2]
theorem vT_spec {t:Tn}:vT t=true ↔ vSh t.1=true ∧ (t.2.length:Int)=pr t.1 ∧ ∀ x ∈ t.2,-1000000 ≤ x ∧ x ≤ 1000000:=by
  simp [vT,allI_iff,and_assoc]
theorem vT_len60 {t:Tn} (h:vT t=true):t.1.length ≤ 4 ∧ t.2.length ≤ 60:=by
  obtain ⟨h1,h2,_⟩:=vT_spec.1 h
  have:=(vSh_good h1).1.2
  have:=(vSh_good h1).2
  omega


set_option maxHeartbeats 4000000 in
theorem svT_ok (x y:List Int) (n m:Nat) (hn:x.length=n) (hm:y.length=m) (hb:n ≤ 1099511627776 ∧ m ≤ 1099511627776):PCall Try.prog 69 [.agg [.rows false (IL x) n,.rows false (IL y) m]] (fun r=>r=.bool (vT (x,y))):=by
  subst hn hm
  refine pcall_of l69_eq rfl ?_
  cases hv:vSh x with
  | false =>
    rw [vT_sh hv]
    (repeat' (first
 | (first|refine awp_seq ?_|refine awp_block ?_)
 | ((first|refine awp_reg ?_|refine awp_draw (mid:=l69r1a) (post:=l69r1b) mixed (by decide) ?_|refine awp_condB ?_|refine awp_skip ?_|refine awp_exit ?_);simp (disch:=omega) only [push_cast,seval,l69r0,l69r1a,l69r1b,l69r1,hv])
 | ((first|refine condB_split (fun h=>?_) (fun h=>?_)|refine gIf_split (fun h=>?_) (fun h=>?_)|refine qIf_split (fun h=>?_) (fun h=>?_))<;>(try simp only [h])<;>(try simp only [bitvec_to_nat] at h)<;>(try simp only [h])<;>(first|(exfalso;omega)|(focus (exfalso;simp_all;done))|(simp (disch:=omega) only [push_cast,seval,hv])|skip))
 | ((first|refine callD_of false ?_|refine qcallD_of false ?_);simp (disch:=omega) only [push_cast,seval,hv])
 | ((first|((first|refine call0D (BCall.ofP (svalidShape_ok _ _ ?_ ?_)) ?_|refine qcall0D (BCall.ofP (svalidShape_ok _ _ ?_ ?_)) ⟨_,_,rfl,rfl⟩ ?_);(iterate 2 (exact sd));rintro _ _ ⟨rfl,rfl⟩)|((first|refine call0D (BCall.ofP (scount_ok _ _ ?_ ?_)) ?_|refine qcall0D (BCall.ofP (scount_ok _ _ ?_ ?_)) ⟨_,_,rfl,rfl⟩ ?_);(iterate 2 (exact sd));rintro _ _ ⟨rfl,rfl⟩)|((first|refine call0D (BCall.ofP (allIn_ok _ _ _ _ ?_ ?_)) ?_|refine qcall0D (BCall.ofP (allIn_ok _ _ _ _ ?_ ?_)) ⟨_,_,rfl,rfl⟩ ?_);(iterate 2 (exact sd));rintro _ _ ⟨rfl,rfl⟩))<;>(try simp (disch:=omega) only [push_cast,seval,hv]))
 | (refine awp_ret ⟨.inr rfl,_,rfl,?_⟩;(try simp (disch:=omega) only [push_cast,seval,hv]))))
  | true =>
    have hg:=(vSh_good hv).1
    have hl:=hg.2
    by_cases hz:(y.length:Int)=pr x
    · rw [vT_in hv hz]
      (repeat' (first
 | (first|refine awp_seq ?_|refine awp_block ?_)
 | ((first|refine awp_reg ?_|refine awp_draw (mid:=l69r1a) (post:=l69r1b) mixed (by decide) ?_|refine awp_condB ?_|refine awp_skip ?_|refine awp_exit ?_);simp (disch:=omega) only [push_cast,seval,l69r0,l69r1a,l69r1b,l69r1,hv,hz])
 | ((first|refine condB_split (fun h=>?_) (fun h=>?_)|refine gIf_split (fun h=>?_) (fun h=>?_)|refine qIf_split (fun h=>?_) (fun h=>?_))<;>(try simp only [h])<;>(try simp only [bitvec_to_nat] at h)<;>(try simp only [h])<;>(first|(exfalso;omega)|(focus (exfalso;simp_all;done))|(simp (disch:=omega) only [push_cast,seval,hv,hz])|skip))
 | ((first|refine callD_of false ?_|refine qcallD_of false ?_);simp (disch:=omega) only [push_cast,seval,hv,hz])
 | ((first|((first|refine call0D (BCall.ofP (svalidShape_ok _ _ ?_ ?_)) ?_|refine qcall0D (BCall.ofP (svalidShape_ok _ _ ?_ ?_)) ⟨_,_,rfl,rfl⟩ ?_);(iterate 2 (exact sd));rintro _ _ ⟨rfl,rfl⟩)|((first|refine call0D (BCall.ofP (scount_ok _ _ ?_ ?_)) ?_|refine qcall0D (BCall.ofP (scount_ok _ _ ?_ ?_)) ⟨_,_,rfl,rfl⟩ ?_);(iterate 2 (exact sd));rintro _ _ ⟨rfl,rfl⟩)|((first|refine call0D (BCall.ofP (allIn_ok _ _ _ _ ?_ ?_)) ?_|refine qcall0D (BCall.ofP (allIn_ok _ _ _ _ ?_ ?_)) ⟨_,_,rfl,rfl⟩ ?_);(iterate 2 (exact sd));rintro _ _ ⟨rfl,rfl⟩))<;>(try simp (disch:=omega) only [push_cast,seval,hv,hz]))
 | (refine awp_ret ⟨.inr rfl,_,rfl,?_⟩;(try simp (disch:=omega) only [push_cast,seval,hv,hz]))))
    · rw [vT_len hz]
      (repeat' (first
 | (first|refine awp_seq ?_|refine awp_block ?_)
 | ((first|refine awp_reg ?_|refine awp_draw (mid:=l69r1a) (post:=l69r1b) mixed (by decide) ?_|refine awp_condB ?_|refine awp_skip ?_|refine awp_exit ?_);simp (disch:=omega) only [push_cast,seval,l69r0,l69r1a,l69r1b,l69r1,hv,hz])
 | ((first|refine condB_split (fun h=>?_) (fun h=>?_)|refine gIf_split (fun h=>?_) (fun h=>?_)|refine qIf_split (fun h=>?_) (fun h=>?_))<;>(try simp only [h])<;>(try simp only [bitvec_to_nat] at h)<;>(try simp only [h])<;>(first|(exfalso;omega)|(focus (exfalso;simp_all;done))|(simp (disch:=omega) only [push_cast,seval,hv,hz])|skip))
 | ((first|refine callD_of false ?_|refine qcallD_of false ?_);simp (disch:=omega) only [push_cast,seval,hv,hz])
 | ((first|((first|refine call0D (BCall.ofP (svalidShape_ok _ _ ?_ ?_)) ?_|refine qcall0D (BCall.ofP (svalidShape_ok _ _ ?_ ?_)) ⟨_,_,rfl,rfl⟩ ?_);(iterate 2 (exact sd));rintro _ _ ⟨rfl,rfl⟩)|((first|refine call0D (BCall.ofP (scount_ok _ _ ?_ ?_)) ?_|refine qcall0D (BCall.ofP (scount_ok _ _ ?_ ?_)) ⟨_,_,rfl,rfl⟩ ?_);(iterate 2 (exact sd));rintro _ _ ⟨rfl,rfl⟩)|((first|refine call0D (BCall.ofP (allIn_ok _ _ _ _ ?_ ?_)) ?_|refine qcall0D (BCall.ofP (allIn_ok _ _ _ _ ?_ ?_)) ⟨_,_,rfl,rfl⟩ ?_);(iterate 2 (exact sd));rintro _ _ ⟨rfl,rfl⟩))<;>(try simp (disch:=omega) only [push_cast,seval,hv,hz]))
 | (refine awp_ret ⟨.inr rfl,_,rfl,?_⟩;(try simp (disch:=omega) only [push_cast,seval,hv,hz]))))


theorem withinB_ok (x l:Int) (h0:0 ≤ l) (h1:l ≤ 100000000):PCall Try.prog 104 [.int .i64 x,.int .i64 l] (fun r=>r=.bool (decide (-l ≤ x) && decide (x ≤ l))):=by
  refine pcall_of l104_eq rfl ?_
  (repeat' (first
 | (first|refine awp_seq ?_|refine awp_block ?_)
 | ((first|refine awp_reg ?_|refine awp_condB ?_|refine awp_skip ?_|refine awp_exit ?_);simp (disch:=omega) only [push_cast,seval,l104r0,l104r1])
 | ((first|refine condB_split (fun h=>?_) (fun h=>?_)|refine gIf_split (fun h=>?_) (fun h=>?_)|refine qIf_split (fun h=>?_) (fun h=>?_))<;>(try simp only [h])<;>(try simp only [bitvec_to_nat] at h)<;>(try simp only [h])<;>(first|(exfalso;omega)|(focus (exfalso;simp_all;done))|(simp (disch:=omega) only [push_cast,seval])|skip))
 | (refine awp_ret ⟨.inr rfl,_,rfl,?_⟩;(try simp (disch:=omega) only [push_cast,seval]))))
  all_goals (first|rfl|(simp_all;done)|(simp_all;omega)|(simp;omega)|(simp;grind)|(simp_all;grind)|skip)


set_option maxHeartbeats 4000000 in
theorem ivT_ok (x y:List Int) (n m:Nat) (hn:x.length=n) (hm:y.length=m) (hb:n ≤ 1099511627776 ∧ m ≤ 1099511627776):PCall Try.prog 60 [.agg [.rows false (IL x) n,.rows false (IL y) m]] (fun r=>r=.bool (vT (x,y))):=by
  subst hn hm
  refine pcall_of l60_eq rfl ?_
  cases hv:vSh x with
  | false =>
    rw [vT_sh hv]
    (repeat' (first
 | (first|refine awp_seq ?_|refine awp_block ?_)
 | ((first|refine awp_reg ?_|refine awp_draw (mid:=l60r1a) (post:=l60r1b) mixed (by decide) ?_|refine awp_condB ?_|refine awp_skip ?_|refine awp_exit ?_);simp (disch:=omega) only [push_cast,seval,l60r0,l60r1a,l60r1b,l60r1,l60r2,l60r3,l60r4,l60r5,l60r6,l60r7,l60r8,l60r9,hv])
 | ((first|refine condB_split (fun h=>?_) (fun h=>?_)|refine gIf_split (fun h=>?_) (fun h=>?_)|refine qIf_split (fun h=>?_) (fun h=>?_))<;>(try simp only [h])<;>(try simp only [bitvec_to_nat] at h)<;>(try simp only [h])<;>(first|(exfalso;omega)|(focus (exfalso;simp_all;done))|(simp (disch:=omega) only [push_cast,seval,hv])|skip))
 | ((first|refine callD_of false ?_|refine qcallD_of false ?_);simp (disch:=omega) only [push_cast,seval,hv])
 | ((first|((first|refine call0D (BCall.ofP (iValidShape_ok _ _ ?_ ?_)) ?_|refine qcall0D (BCall.ofP (iValidShape_ok _ _ ?_ ?_)) ⟨_,_,rfl,rfl⟩ ?_);(iterate 2 (exact sd));rintro _ _ ⟨rfl,rfl⟩)|((first|refine call0D (BCall.ofP (product_ok _ _ ?_ ?_)) ?_|refine qcall0D (BCall.ofP (product_ok _ _ ?_ ?_)) ⟨_,_,rfl,rfl⟩ ?_);(iterate 2 (exact sd));rintro _ _ ⟨rfl,rfl⟩)|((first|refine call0D (BCall.ofP (withinB_ok _ _ ?_ ?_)) ?_|refine qcall0D (BCall.ofP (withinB_ok _ _ ?_ ?_)) ⟨_,_,rfl,rfl⟩ ?_);(iterate 2 (exact sd));rintro _ _ ⟨rfl,rfl⟩))<;>(try simp (disch:=omega) only [push_cast,seval,hv]))
 | (refine awp_ret ⟨.inr rfl,_,rfl,?_⟩;(try simp (disch:=omega) only [push_cast,seval,hv]))))
  | true =>
    have hg:=(vSh_good hv).1
    have hl:=hg.2
    by_cases hz:(y.length:Int)=pr x
    · rw [vT_in hv hz]
      (repeat' (first
 | (first|refine awp_seq ?_|refine awp_block ?_)
 | ((first|refine awp_reg ?_|refine awp_draw (mid:=l60r1a) (post:=l60r1b) mixed (by decide) ?_|refine awp_condB ?_|refine awp_skip ?_|refine awp_exit ?_);simp (disch:=omega) only [push_cast,seval,l60r0,l60r1a,l60r1b,l60r1,l60r2,l60r3,l60r4,l60r5,l60r6,l60r7,l60r8,l60r9,hv,hz])
 | ((first|refine condB_split (fun h=>?_) (fun h=>?_)|refine gIf_split (fun h=>?_) (fun h=>?_)|refine qIf_split (fun h=>?_) (fun h=>?_))<;>(try simp only [h])<;>(try simp only [bitvec_to_nat] at h)<;>(try simp only [h])<;>(first|(exfalso;omega)|(focus (exfalso;simp_all;done))|(simp (disch:=omega) only [push_cast,seval,hv,hz])|skip))
 | ((first|refine callD_of false ?_|refine qcallD_of false ?_);simp (disch:=omega) only [push_cast,seval,hv,hz])
 | ((first|((first|refine call0D (BCall.ofP (iValidShape_ok _ _ ?_ ?_)) ?_|refine qcall0D (BCall.ofP (iValidShape_ok _ _ ?_ ?_)) ⟨_,_,rfl,rfl⟩ ?_);(iterate 2 (exact sd));rintro _ _ ⟨rfl,rfl⟩)|((first|refine call0D (BCall.ofP (product_ok _ _ ?_ ?_)) ?_|refine qcall0D (BCall.ofP (product_ok _ _ ?_ ?_)) ⟨_,_,rfl,rfl⟩ ?_);(iterate 2 (exact sd));rintro _ _ ⟨rfl,rfl⟩)|((first|refine call0D (BCall.ofP (withinB_ok _ _ ?_ ?_)) ?_|refine qcall0D (BCall.ofP (withinB_ok _ _ ?_ ?_)) ⟨_,_,rfl,rfl⟩ ?_);(iterate 2 (exact sd));rintro _ _ ⟨rfl,rfl⟩))<;>(try simp (disch:=omega) only [push_cast,seval,hv,hz]))
 | (refine awp_ret ⟨.inr rfl,_,rfl,?_⟩;(try simp (disch:=omega) only [push_cast,seval,hv,hz]))))
      refine awp_loop (fun k:Nat=>mkS [(19,RI y),(20,.int .i64 y.length),(21,.int .i64 k)] []) (fun k=>k ≤ y.length ∧ ∀ j:Nat,j < k → -1000000 ≤ y.getD j 0 ∧ y.getD j 0 ≤ 1000000) (fun k=>y.length - k) 0 ⟨Nat.zero_le _,fun j h=>absurd h (Nat.not_lt_zero _)⟩ ?_ ?_
      · (refine Sub.of_lists ?_ ?_ ?_ ?_ ?_<;>simp [Vw.mkS,Vw.lk,Vw.hk,AV.inn,innL,innL_ints,innL_append,innL_rep,-List.map_set,-List.getD_eq_getElem?_getD,hz])
      · rintro k ⟨hk,hj⟩
        by_cases hlt:k < y.length
        · by_cases hin:-1000000 ≤ y.getD k 0 ∧ y.getD k 0 ≤ 1000000
          · have hw:(decide (-1000000 ≤ y.getD k 0) && decide (y.getD k 0 ≤ 1000000))=true:=by
              rw [Bool.and_eq_true,decide_eq_true_eq,decide_eq_true_eq];exact hin
            (repeat' (first
 | (first|refine awp_seq ?_|refine awp_block ?_)
 | ((first|refine awp_reg ?_|refine awp_draw (mid:=l60r1a) (post:=l60r1b) mixed (by decide) ?_|refine awp_condB ?_|refine awp_skip ?_|refine awp_exit ?_);simp (disch:=omega) only [push_cast,seval,l60r0,l60r1a,l60r1b,l60r1,l60r2,l60r3,l60r4,l60r5,l60r6,l60r7,l60r8,l60r9,hw])
 | ((first|refine condB_split (fun h=>?_) (fun h=>?_)|refine gIf_split (fun h=>?_) (fun h=>?_)|refine qIf_split (fun h=>?_) (fun h=>?_))<;>(try simp only [h])<;>(try simp only [bitvec_to_nat] at h)<;>(try simp only [h])<;>(first|(exfalso;omega)|(focus (exfalso;simp_all;done))|(simp (disch:=omega) only [push_cast,seval,hw])|skip))
 | ((first|refine callD_of false ?_|refine qcallD_of false ?_);simp (disch:=omega) only [push_cast,seval,hw])
 | ((first|((first|refine call0D (BCall.ofP (iValidShape_ok _ _ ?_ ?_)) ?_|refine qcall0D (BCall.ofP (iValidShape_ok _ _ ?_ ?_)) ⟨_,_,rfl,rfl⟩ ?_);(iterate 2 (exact sd));rintro _ _ ⟨rfl,rfl⟩)|((first|refine call0D (BCall.ofP (product_ok _ _ ?_ ?_)) ?_|refine qcall0D (BCall.ofP (product_ok _ _ ?_ ?_)) ⟨_,_,rfl,rfl⟩ ?_);(iterate 2 (exact sd));rintro _ _ ⟨rfl,rfl⟩)|((first|refine call0D (BCall.ofP (withinB_ok _ _ ?_ ?_)) ?_|refine qcall0D (BCall.ofP (withinB_ok _ _ ?_ ?_)) ⟨_,_,rfl,rfl⟩ ?_);(iterate 2 (exact sd));rintro _ _ ⟨rfl,rfl⟩))<;>(try simp (disch:=omega) only [push_cast,seval,hw]))
 | (refine awp_ret ⟨.inr rfl,_,rfl,?_⟩; (try simp (disch := omega) only [push_cast,seval,hw]))))
            refine ⟨k + 1,⟨by omega,fun j h=>?_⟩,by omega,?_⟩
            · by_cases hjk:j=k
              · subst hjk;exact hin
              · exact hj j (by omega)
            · (refine Sub.of_lists ?_ ?_ ?_ ?_ ?_<;>simp [Vw.mkS,Vw.lk,Vw.hk,AV.inn,innL,innL_ints,innL_append,innL_rep,-List.map_set,-List.getD_eq_getElem?_getD])
          · have hw:(decide (-1000000 ≤ y.getD k 0) && decide (y.getD k 0 ≤ 1000000))=false:=by
              rw [Bool.and_eq_false_iff,decide_eq_false_iff_not,decide_eq_false_iff_not];omega
            rw [allI_false (j:=k) hlt (by omega)]
            (repeat' (first
 | (first|refine awp_seq ?_|refine awp_block ?_)
 | ((first|refine awp_reg ?_|refine awp_draw (mid:=l60r1a) (post:=l60r1b) mixed (by decide) ?_|refine awp_condB ?_|refine awp_skip ?_|refine awp_exit ?_);simp (disch:=omega) only [push_cast,seval,l60r0,l60r1a,l60r1b,l60r1,l60r2,l60r3,l60r4,l60r5,l60r6,l60r7,l60r8,l60r9,hw])
 | ((first|refine condB_split (fun h=>?_) (fun h=>?_)|refine gIf_split (fun h=>?_) (fun h=>?_)|refine qIf_split (fun h=>?_) (fun h=>?_))<;>(try simp only [h])<;>(try simp only [bitvec_to_nat] at h)<;>(try simp only [h])<;>(first|(exfalso;omega)|(focus (exfalso;simp_all;done))|(simp (disch:=omega) only [push_cast,seval,hw])|skip))
 | ((first|refine callD_of false ?_|refine qcallD_of false ?_);simp (disch:=omega) only [push_cast,seval,hw])
 | ((first|((first|refine call0D (BCall.ofP (iValidShape_ok _ _ ?_ ?_)) ?_|refine qcall0D (BCall.ofP (iValidShape_ok _ _ ?_ ?_)) ⟨_,_,rfl,rfl⟩ ?_);(iterate 2 (exact sd));rintro _ _ ⟨rfl,rfl⟩)|((first|refine call0D (BCall.ofP (product_ok _ _ ?_ ?_)) ?_|refine qcall0D (BCall.ofP (product_ok _ _ ?_ ?_)) ⟨_,_,rfl,rfl⟩ ?_);(iterate 2 (exact sd));rintro _ _ ⟨rfl,rfl⟩)|((first|refine call0D (BCall.ofP (withinB_ok _ _ ?_ ?_)) ?_|refine qcall0D (BCall.ofP (withinB_ok _ _ ?_ ?_)) ⟨_,_,rfl,rfl⟩ ?_);(iterate 2 (exact sd));rintro _ _ ⟨rfl,rfl⟩))<;>(try simp (disch:=omega) only [push_cast,seval,hw]))
 | (refine awp_ret ⟨.inr rfl,_,rfl,?_⟩;(try simp (disch:=omega) only [push_cast,seval,hw]))))
        · rw [allI_getD fun j h=>hj j (by omega)]
          (repeat' (first
 | (first|refine awp_seq ?_|refine awp_block ?_)
 | ((first|refine awp_reg ?_|refine awp_draw (mid:=l60r1a) (post:=l60r1b) mixed (by decide) ?_|refine awp_condB ?_|refine awp_skip ?_|refine awp_exit ?_);simp (disch:=omega) only [push_cast,seval,l60r0,l60r1a,l60r1b,l60r1,l60r2,l60r3,l60r4,l60r5,l60r6,l60r7,l60r8,l60r9])
 | ((first|refine condB_split (fun h=>?_) (fun h=>?_)|refine gIf_split (fun h=>?_) (fun h=>?_)|refine qIf_split (fun h=>?_) (fun h=>?_))<;>(try simp only [h])<;>(try simp only [bitvec_to_nat] at h)<;>(try simp only [h])<;>(first|(exfalso;omega)|(focus (exfalso;simp_all;done))|(simp (disch:=omega) only [push_cast,seval])|skip))
 | ((first|refine callD_of false ?_|refine qcallD_of false ?_);simp (disch:=omega) only [push_cast,seval])
 | ((first|((first|refine call0D (BCall.ofP (iValidShape_ok _ _ ?_ ?_)) ?_|refine qcall0D (BCall.ofP (iValidShape_ok _ _ ?_ ?_)) ⟨_,_,rfl,rfl⟩ ?_);(iterate 2 (exact sd));rintro _ _ ⟨rfl,rfl⟩)|((first|refine call0D (BCall.ofP (product_ok _ _ ?_ ?_)) ?_|refine qcall0D (BCall.ofP (product_ok _ _ ?_ ?_)) ⟨_,_,rfl,rfl⟩ ?_);(iterate 2 (exact sd));rintro _ _ ⟨rfl,rfl⟩)|((first|refine call0D (BCall.ofP (withinB_ok _ _ ?_ ?_)) ?_|refine qcall0D (BCall.ofP (withinB_ok _ _ ?_ ?_)) ⟨_,_,rfl,rfl⟩ ?_);(iterate 2 (exact sd));rintro _ _ ⟨rfl,rfl⟩))<;>(try simp (disch:=omega) only [push_cast,seval]))
 | (refine awp_ret ⟨.inr rfl,_,rfl,?_⟩;(try simp (disch:=omega) only [push_cast,seval]))))
    · rw [vT_len hz]
      (repeat' (first
 | (first|refine awp_seq ?_|refine awp_block ?_)
 | ((first|refine awp_reg ?_|refine awp_draw (mid:=l60r1a) (post:=l60r1b) mixed (by decide) ?_|refine awp_condB ?_|refine awp_skip ?_|refine awp_exit ?_);simp (disch:=omega) only [push_cast,seval,l60r0,l60r1a,l60r1b,l60r1,l60r2,l60r3,l60r4,l60r5,l60r6,l60r7,l60r8,l60r9,hv,hz])
 | ((first|refine condB_split (fun h=>?_) (fun h=>?_)|refine gIf_split (fun h=>?_) (fun h=>?_)|refine qIf_split (fun h=>?_) (fun h=>?_))<;>(try simp only [h])<;>(try simp only [bitvec_to_nat] at h)<;>(try simp only [h])<;>(first|(exfalso;omega)|(focus (exfalso;simp_all;done))|(simp (disch:=omega) only [push_cast,seval,hv,hz])|skip))
 | ((first|refine callD_of false ?_|refine qcallD_of false ?_);simp (disch:=omega) only [push_cast,seval,hv,hz])
 | ((first|((first|refine call0D (BCall.ofP (iValidShape_ok _ _ ?_ ?_)) ?_|refine qcall0D (BCall.ofP (iValidShape_ok _ _ ?_ ?_)) ⟨_,_,rfl,rfl⟩ ?_);(iterate 2 (exact sd));rintro _ _ ⟨rfl,rfl⟩)|((first|refine call0D (BCall.ofP (product_ok _ _ ?_ ?_)) ?_|refine qcall0D (BCall.ofP (product_ok _ _ ?_ ?_)) ⟨_,_,rfl,rfl⟩ ?_);(iterate 2 (exact sd));rintro _ _ ⟨rfl,rfl⟩)|((first|refine call0D (BCall.ofP (withinB_ok _ _ ?_ ?_)) ?_|refine qcall0D (BCall.ofP (withinB_ok _ _ ?_ ?_)) ⟨_,_,rfl,rfl⟩ ?_);(iterate 2 (exact sd));rintro _ _ ⟨rfl,rfl⟩))<;>(try simp (disch:=omega) only [push_cast,seval,hv,hz]))
 | (refine awp_ret ⟨.inr rfl,_,rfl,?_⟩;(try simp (disch:=omega) only [push_cast,seval,hv,hz]))))

end Go.Proofs.Ytfkbhkpbfnklaaa
