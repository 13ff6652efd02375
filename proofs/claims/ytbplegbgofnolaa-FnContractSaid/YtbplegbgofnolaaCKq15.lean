import Derived.Test.YtbplegbgofnolaaCKq14
import Derived.Test.YtbplegbgofnolaaCM1
import Derived.Test.YtbplegbgofnolaaCW3
set_option linter.unusedSimpArgs false
set_option linter.unusedVariables false
set_option maxRecDepth 4000
set_option maxHeartbeats 4000000
namespace Go.Proofs.Ytbplegbgofnolaa
open VwM Vw Go

theorem lequT_ok (s t s' t':List Int) (n m n' m':Nat) (h:(s.length=n ∧ t.length=m) ∧ s'.length=n' ∧ t'.length=m') (hb:(n ≤ 1099511627776 ∧ m ≤ 1099511627776) ∧ n' ≤ 1099511627776 ∧ m' ≤ 1099511627776):PCall Try.prog 19 [.agg [.rows false (IL s) n,.rows false (IL t) m],.agg [.rows false (IL s') n',.rows false (IL t') m']] (fun r=>r=.bool (decide (s=s') && decide (t=t'))):=by
  obtain ⟨⟨rfl,rfl⟩,rfl,rfl⟩:=h
  refine A2z l19_eq rfl ?_
  (repeat' (first
 | (first|refine Anz ?_|refine Agz ?_)
 | ((first|refine Aoz ?_|refine Afz ?_|refine Ahz ?_|refine Aiz ?_);simp (disch:=omega) only [push_cast,seval,l19r0,l19r1])
 | ((first|refine Acz ?_ ?_|refine Aez ?_ ?_|refine Adz ?_ ?_)<;>intro h<;>(try simp only [h])<;>(try simp only [bitvec_to_nat] at h)<;>(try simp only [h])<;>(first|(exfalso;omega)|(exfalso;simp_all;done)|(simp (disch:=omega) only [push_cast,seval])|skip))
 | ((first|refine Aqz false ?_|refine qcallD_of false ?_);simp (disch:=omega) only [push_cast,seval])
 | ((first|((first|refine call0D (BCall.ofP (equalInts_ok _ _ _ _ ?_ ?_ ?_)) ?_|refine qcall0D (BCall.ofP (equalInts_ok _ _ _ _ ?_ ?_ ?_)) ⟨_,_,rfl,rfl⟩ ?_);(iterate 3 (exact sd));rintro _ _ ⟨rfl,rfl⟩))<;>(try simp (disch:=omega) only [push_cast,seval]))
 | (refine Akz ⟨.inr rfl,_,rfl,?_⟩;(try simp (disch:=omega) only [push_cast,seval]))))
  all_goals (first|rfl|(simp_all;done)|(simp_all;omega)|(simp;omega)|(simp;grind)|(simp_all;grind)|skip)


set_option maxHeartbeats 8000000 in
theorem drawCtB_ok (bs:List Int) (n:Nat) (hn:bs.length=n) (hb:n ≤ 1099511627776 ∧ ∀ x ∈ bs,0 ≤ x ∧ x ≤ 255):BCall Try.prog 20 [.rows false (UL bs) n] [] (fun r H'=>∃ (ts:List Tn) (ls:List (List Int)) (out:List Int),prodF ts ls out ∧ r=.tup [.own 0 ts.length 2,.own 1 ls.length 1,.own 2 out.length 1] ∧ H'=[TL true ts,LL true ls,IL out]):=by
  refine A3z (pins:=[]) (pin:=0) l20_eq rfl rfl rfl ?_
  (repeat' (first
 | (first|refine Anz ?_|refine Agz ?_)
 | ((first|refine Aoz ?_|refine Afz ?_|refine Ahz ?_|refine Aiz ?_);simp (disch:=omega) only [push_cast,seval,l20r0,l20r1,l20r2,Abz,Aaz])
 | ((first|refine Acz ?_ ?_|refine Aez ?_ ?_|refine Adz ?_ ?_)<;>intro h<;>(try simp only [h])<;>(try simp only [bitvec_to_nat] at h)<;>(try simp only [h])<;>(first|(exfalso;omega)|(exfalso;simp_all;done)|(simp (disch:=omega) only [push_cast,seval,Abz,Aaz])|skip))
 | ((first|((with_reducible refine Aqz (f:=44) true ?_);simp (disch:=omega) only [push_cast,seval,Abz,Aaz];(refine call0D (newReader_ok _ _ ?_ ?_) ?_;(iterate 2 (exact sd));rintro _ _ ⟨bs0,hbs0,rfl,rfl⟩))|((with_reducible refine callD_ids (f:=46) (args:=[Operand.tmp 9,Operand.tmp 10]) [112,160] true ?_);simp (disch:=omega) only [push_cast,seval,Abz,Aaz];(refine Axz (id:=112) (id':=160) (by decide) (A0z _ _ _ _ ?_ ?_ ?_ ?_ ?_) (by (simp (disch:=omega) only [push_cast,seval,Abz,Aaz])<;>rfl) (by (simp (disch:=omega) only [push_cast,seval,Abz,Aaz])<;>rfl) ?_;(iterate 5 (exact sd));rintro _ _ ⟨x,hx,hx0,rfl,rfl⟩))|((with_reducible refine callD_ids (f:=46) [112] true ?_);simp (disch:=omega) only [push_cast,seval,Abz,Aaz];(refine Bbz (id:=112) (Bfz _ _ _ _ ?_ ?_ ?_ ?_ ?_) (by (simp (disch:=omega) only [push_cast,seval,Abz,Aaz])<;>rfl) ?_;(iterate 5 (exact sd));rintro _ _ ⟨x,hx,hx0,rfl,rfl⟩))|((with_reducible refine qcallI_of (f:=46) [112] true ?_);simp (disch:=omega) only [push_cast,seval,Abz,Aaz];(refine Bdz (id:=112) (Bfz _ _ _ _ ?_ ?_ ?_ ?_ ?_) (by (simp (disch:=omega) only [push_cast,seval,Abz,Aaz])<;>rfl) (by decide) (by simp only [Bmz,Byz];exact ⟨_,_,_,List.mem_cons_self,by omega,rfl,rfl⟩) ?_;(iterate 5 (exact sd));rintro _ _ ⟨x,hx,hx0,rfl,rfl⟩))|((with_reducible refine callD_ids (f:=45) [112] true ?_);simp (disch:=omega) only [push_cast,seval,Abz,Aaz];(refine Bbz (id:=112) (prodOf_ok _ _ _ ?_ ?_) (by (simp (disch:=omega) only [push_cast,seval,Abz,Aaz])<;>rfl) ?_;(iterate 2 (exact sd));rintro _ _ ⟨ts,ls,out,q,hpf,hq,rfl,rfl⟩)))<;>(try simp (disch:=omega) only [push_cast,seval,Abz,Aaz]))))
  all_goals ((refine Akz ⟨.inr rfl,[192,193,194],[],_,by decide,rfl,?_⟩;(try simp (disch:=omega) only [push_cast,seval,↓Alz,↓Ajz,↓List.map_cons,↓List.map_nil,Abz,Aaz]));exact ⟨ts,ls,out,hpf,rfl,rfl⟩)
theorem Fkz (bs:List Int) (n:Nat) (hn:bs.length=n) (hb:n ≤ 1099511627776 ∧ ∀ x ∈ bs,0 ≤ x ∧ x ≤ 255):PCall Try.prog 20 [.rows false (UL bs) n] (fun r=>∃ (ts:List Tn) (ls:List (List Int)) (out:List Int),prodF ts ls out ∧ r=.tup [.rows true (TL true ts) ts.length,.rows true (LL true ls) ls.length,.rows true (IL out) out.length]):=by
  refine (BCall.plain (drawCtB_ok bs n hn hb)).mono ?_
  rintro r ⟨r0,H',⟨ts,ls,out,hpf,rfl,rfl⟩,rfl⟩
  refine ⟨ts,ls,out,hpf,?_⟩
  simp [AV.ren,nthH,Caz,Cbz,List.map_map,Function.comp_def,ren_TL3,ren_LL3]


theorem prodF_q {ts:List Tn} {ls:List (List Int)} {out:List Int} (h:prodF ts ls out):(ts.length ≤ 1048576 ∧ ls.length ≤ 1048576 ∧ out.length ≤ 1048576) ∧ (∀ t ∈ ts,t.1.length ≤ 1099511627776 ∧ t.2.length ≤ 1099511627776) ∧ ∀ l ∈ ls,l.length ≤ 1099511627776:=by
  obtain ⟨h1,h2,h3,h4⟩:=prodF_c h
  exact ⟨⟨h1,h2,h3⟩,fun t ht=>by have:=h4.1 t ht;omega,fun l hl=>by have:=h4.2 l hl;omega⟩
theorem Foz (t:Tn):t0 (some t)=t:=rfl





end Go.Proofs.Ytbplegbgofnolaa
