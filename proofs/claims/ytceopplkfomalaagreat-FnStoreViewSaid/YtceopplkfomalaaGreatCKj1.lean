import Derived.Test.YtceopplkfomalaaGreatCKn10
import Derived.Test.YtceopplkfomalaaGreatCM1
import Derived.Test.YtceopplkfomalaaGreatCW3
set_option linter.unusedSimpArgs false
set_option linter.unusedVariables false
set_option maxRecDepth 4000
set_option maxHeartbeats 4000000
namespace Go.Proofs.YtceopplkfomalaaGreat
open VwM Vw Go

theorem mvlJ_le {v:Bool} {l:List Int} {n:Nat} (h:v=true → l.length ≤ n):(MVL v l).length ≤ n:=by
  cases v with
  | false=>simp [MVL]
  | true=>exact h rfl
theorem seeJ_pr {mem:List Int} {b:Int} {sh st:List Int} (h:seeB mem b sh st=true):(offs b sh st).length ≤ 60 ∧ mem.length ≤ 60:=by
  obtain ⟨_,_,_,f4,f5,f6⟩:=see_facts h
  have:=offs_length b sh st
  omega


set_option maxHeartbeats 8000000 in
theorem memView_ok (bs:List Int) (p:Int) (hb:okB bs) (hp:0 ≤ p ∧ p ≤ 600000):BCall Tryz.prog 22 [.ref 0 2 0] [RD bs p] (fun r H'=>∃ mem b sh st q,(1 ≤ mem.length ∧ mem.length ≤ 60 ∧ good4 sh ∧ sh.length ≤ 4 ∧ st.length ≤ 5) ∧ (p ≤ q ∧ q ≤ p + 280) ∧ r=.tup [.own 1 mem.length 1,.agg [.int .i64 b,.own 2 sh.length 1,.own 3 st.length 1]] ∧ H'=[RD bs q,IL mem,IL sh,IL st]):=by
  refine bcall_of (pins:=[0]) (pin:=1) l22_eq rfl rfl rfl ?_
  (repeat' (first
 | (first|refine awp_seq ?_|refine awp_block ?_)
 | ((first|refine awp_reg ?_|refine awp_condB ?_|refine awp_skip ?_|refine awp_exit ?_);simp (maxSteps:=400000) (disch:=omega) only [push_cast,seval,l22r0,l22r1])
 | ((first|refine condB_split (fun h=>?_) (fun h=>?_)|refine gIf_split (fun h=>?_) (fun h=>?_)|refine qIf_split (fun h=>?_) (fun h=>?_))<;>(try simp only [h])<;>(try simp only [bitvec_to_nat] at h)<;>(try simp only [h])<;>(first|(exfalso;omega)|(focus (exfalso;simp_all;done))|(simp (maxSteps:=400000) (disch:=omega) only [push_cast,seval])|skip))
 | ((first|((with_reducible refine callD_ids (f:=45) [0] true ?_);simp (maxSteps:=400000) (disch:=omega) only [push_cast,seval];(refine call1D (id:=0) (someMem_ok _ _ ?_ ?_) (by first|((simp (maxSteps:=400000) (disch:=omega) only [push_cast,seval]);done)|((simp (maxSteps:=400000) (disch:=omega) only [push_cast,seval]);rfl)) ?_;(iterate 2 (exact sd));rintro _ _ ⟨xs,q,⟨hxs,hxl⟩,hq,rfl,rfl⟩))|((with_reducible refine callD_ids (f:=53) [0] true ?_);simp (maxSteps:=400000) (disch:=omega) only [push_cast,seval];(refine call1D (id:=0) (someView_ok _ _ ?_ ?_) (by first|((simp (maxSteps:=400000) (disch:=omega) only [push_cast,seval]);done)|((simp (maxSteps:=400000) (disch:=omega) only [push_cast,seval]);rfl)) ?_;(iterate 2 (exact sd));rintro _ _ ⟨b,sh,st,q,⟨hl1,hl9,hl2⟩,hq,rfl,rfl⟩)))<;>(try simp (maxSteps:=400000) (disch:=omega) only [push_cast,seval]))
 | (refine awp_ret ⟨.inr rfl,[80,112,113],[],_,by decide,rfl,?_⟩;(try simp (maxSteps:=400000) (disch:=omega) only [push_cast,seval,↓allMem_nil,↓allMem_cons,↓List.map_cons,↓List.map_nil]))))
  exact ⟨_,_,_,_,_,⟨by assumption,by assumption,by assumption,by assumption,by assumption⟩,by omega,rfl,rfl⟩

end Go.Proofs.YtceopplkfomalaaGreat
