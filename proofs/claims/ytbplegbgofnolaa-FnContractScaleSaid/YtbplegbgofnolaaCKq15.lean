import Derived.Test.YtbplegbgofnolaaCKq14
import Derived.Test.YtbplegbgofnolaaCM1
import Derived.Test.YtbplegbgofnolaaCW3
set_option linter.unusedSimpArgs false
set_option linter.unusedVariables false
set_option maxRecDepth 4000
set_option maxHeartbeats 4000000
namespace Go.Proofs.Ytbplegbgofnolaa
open VwM Vw Go

theorem lequT_ok (s t s' t':List Int) (n m n' m':Nat) (h:(s.length=n ∧ t.length=m) ∧ s'.length=n' ∧ t'.length=m') (hb:(n ≤ 1099511627776 ∧ m ≤ 1099511627776) ∧ n' ≤ 1099511627776 ∧ m' ≤ 1099511627776):PCall Try.prog 19 [.agg [.rows false (IL s) n,.rows false (IL t) m],.agg [.rows false (IL s') n',.rows false (IL t') m']] (fun r=>r=.bool (decide (s=s') && decide (t=t'))):=by
  obtain ⟨⟨rfl,rfl⟩,rfl,rfl⟩:=h
  refine pcall_of l19_eq rfl ?_
  (repeat' (first
 | (first|refine awp_seq ?_|refine awp_block ?_)
 | ((first|refine awp_reg ?_|refine awp_condB ?_|refine awp_skip ?_|refine awp_exit ?_);simp (disch:=omega) only [push_cast,seval,l19r0,l19r1])
 | ((first|refine condB_split (fun h=>?_) (fun h=>?_)|refine gIf_split (fun h=>?_) (fun h=>?_)|refine qIf_split (fun h=>?_) (fun h=>?_))<;>(try simp only [h])<;>(try simp only [bitvec_to_nat] at h)<;>(try simp only [h])<;>(first|(exfalso;omega)|(focus (exfalso;simp_all;done))|(simp (disch:=omega) only [push_cast,seval])|skip))
 | ((first|refine callD_of false ?_|refine qcallD_of false ?_);simp (disch:=omega) only [push_cast,seval])
 | ((first|((first|refine call0D (BCall.ofP (equalInts_ok _ _ _ _ ?_ ?_ ?_)) ?_|refine qcall0D (BCall.ofP (equalInts_ok _ _ _ _ ?_ ?_ ?_)) ⟨_,_,rfl,rfl⟩ ?_);(iterate 3 (exact sd));rintro _ _ ⟨rfl,rfl⟩))<;>(try simp (disch:=omega) only [push_cast,seval]))
 | (refine awp_ret ⟨.inr rfl,_,rfl,?_⟩;(try simp (disch:=omega) only [push_cast,seval]))))
  all_goals (first|rfl|(simp_all;done)|(simp_all;omega)|(simp;omega)|(simp;grind)|(simp_all;grind)|skip)


set_option maxHeartbeats 8000000 in
theorem drawCtB_ok (bs:List Int) (n:Nat) (hn:bs.length=n) (hb:n ≤ 1099511627776 ∧ ∀ x ∈ bs,0 ≤ x ∧ x ≤ 255):BCall Try.prog 20 [.rows false (UL bs) n] [] (fun r H'=>∃ (ts:List Tn) (ls:List (List Int)) (out:List Int),prodF ts ls out ∧ r=.tup [.own 0 ts.length 2,.own 1 ls.length 1,.own 2 out.length 1] ∧ H'=[TL true ts,LL true ls,IL out]):=by
  refine bcall_of (pins:=[]) (pin:=0) l20_eq rfl rfl rfl ?_
  (repeat' (first
 | (first|refine awp_seq ?_|refine awp_block ?_)
 | ((first|refine awp_reg ?_|refine awp_condB ?_|refine awp_skip ?_|refine awp_exit ?_);simp (disch:=omega) only [push_cast,seval,l20r0,l20r1,l20r2,innL_TL,innL_LL])
 | ((first|refine condB_split (fun h=>?_) (fun h=>?_)|refine gIf_split (fun h=>?_) (fun h=>?_)|refine qIf_split (fun h=>?_) (fun h=>?_))<;>(try simp only [h])<;>(try simp only [bitvec_to_nat] at h)<;>(try simp only [h])<;>(first|(exfalso;omega)|(focus (exfalso;simp_all;done))|(simp (disch:=omega) only [push_cast,seval,innL_TL,innL_LL])|skip))
 | ((first|((with_reducible refine callD_of (f:=44) true ?_);simp (disch:=omega) only [push_cast,seval,innL_TL,innL_LL];(refine call0D (newReader_ok _ _ ?_ ?_) ?_;(iterate 2 (exact sd));rintro _ _ ⟨bs0,hbs0,rfl,rfl⟩))|((with_reducible refine callD_ids (f:=46) (args:=[Operand.tmp 9,Operand.tmp 10]) [112,160] true ?_);simp (disch:=omega) only [push_cast,seval,innL_TL,innL_LL];(refine call2D (id:=112) (id':=160) (by decide) (one_ok _ _ _ _ ?_ ?_ ?_ ?_ ?_) (by first|((simp (disch:=omega) only [push_cast,seval,innL_TL,innL_LL]);done)|((simp (disch:=omega) only [push_cast,seval,innL_TL,innL_LL]);rfl)) (by first|((simp (disch:=omega) only [push_cast,seval,innL_TL,innL_LL]);done)|((simp (disch:=omega) only [push_cast,seval,innL_TL,innL_LL]);rfl)) ?_;(iterate 5 (exact sd));rintro _ _ ⟨x,hx,hx0,rfl,rfl⟩))|((with_reducible refine callD_ids (f:=46) [112] true ?_);simp (disch:=omega) only [push_cast,seval,innL_TL,innL_LL];(refine call1D (id:=112) (oneR_ok _ _ _ _ ?_ ?_ ?_ ?_ ?_) (by first|((simp (disch:=omega) only [push_cast,seval,innL_TL,innL_LL]);done)|((simp (disch:=omega) only [push_cast,seval,innL_TL,innL_LL]);rfl)) ?_;(iterate 5 (exact sd));rintro _ _ ⟨x,hx,hx0,rfl,rfl⟩))|((with_reducible refine qcallI_of (f:=46) [112] true ?_);simp (disch:=omega) only [push_cast,seval,innL_TL,innL_LL];(refine qcall1D (id:=112) (oneR_ok _ _ _ _ ?_ ?_ ?_ ?_ ?_) (by first|((simp (disch:=omega) only [push_cast,seval,innL_TL,innL_LL]);done)|((simp (disch:=omega) only [push_cast,seval,innL_TL,innL_LL]);rfl)) (by decide) (by simp only [unI_cons,unI_nil];exact ⟨_,_,_,List.mem_cons_self,by omega,rfl,rfl⟩) ?_;(iterate 5 (exact sd));rintro _ _ ⟨x,hx,hx0,rfl,rfl⟩))|((with_reducible refine callD_ids (f:=45) [112] true ?_);simp (disch:=omega) only [push_cast,seval,innL_TL,innL_LL];(refine call1D (id:=112) (prodOf_ok _ _ _ ?_ ?_) (by first|((simp (disch:=omega) only [push_cast,seval,innL_TL,innL_LL]);done)|((simp (disch:=omega) only [push_cast,seval,innL_TL,innL_LL]);rfl)) ?_;(iterate 2 (exact sd));rintro _ _ ⟨ts,ls,out,q,hpf,hq,rfl,rfl⟩)))<;>(try simp (disch:=omega) only [push_cast,seval,innL_TL,innL_LL]))))
  all_goals ((refine awp_ret ⟨.inr rfl,[192,193,194],[],_,by decide,rfl,?_⟩;(try simp (disch:=omega) only [push_cast,seval,↓allMem_nil,↓allMem_cons,↓List.map_cons,↓List.map_nil,innL_TL,innL_LL]));exact ⟨ts,ls,out,hpf,rfl,rfl⟩)
theorem drawCt_ok (bs:List Int) (n:Nat) (hn:bs.length=n) (hb:n ≤ 1099511627776 ∧ ∀ x ∈ bs,0 ≤ x ∧ x ≤ 255):PCall Try.prog 20 [.rows false (UL bs) n] (fun r=>∃ (ts:List Tn) (ls:List (List Int)) (out:List Int),prodF ts ls out ∧ r=.tup [.rows true (TL true ts) ts.length,.rows true (LL true ls) ls.length,.rows true (IL out) out.length]):=by
  refine (BCall.plain (drawCtB_ok bs n hn hb)).mono ?_
  rintro r ⟨r0,H',⟨ts,ls,out,hpf,rfl,rfl⟩,rfl⟩
  refine ⟨ts,ls,out,hpf,?_⟩
  simp [AV.ren,nthH,TL_length,LL_length,List.map_map,Function.comp_def,ren_TL3,ren_LL3]


theorem prodF_q {ts:List Tn} {ls:List (List Int)} {out:List Int} (h:prodF ts ls out):(ts.length ≤ 1048576 ∧ ls.length ≤ 1048576 ∧ out.length ≤ 1048576) ∧ (∀ t ∈ ts,t.1.length ≤ 1099511627776 ∧ t.2.length ≤ 1099511627776) ∧ ∀ l ∈ ls,l.length ≤ 1099511627776:=by
  obtain ⟨h1,h2,h3,h4⟩:=prodF_c h
  exact ⟨⟨h1,h2,h3⟩,fun t ht=>by have:=h4.1 t ht;omega,fun l hl=>by have:=h4.2 l hl;omega⟩
theorem t0_some (t:Tn):t0 (some t)=t:=rfl





end Go.Proofs.Ytbplegbgofnolaa
