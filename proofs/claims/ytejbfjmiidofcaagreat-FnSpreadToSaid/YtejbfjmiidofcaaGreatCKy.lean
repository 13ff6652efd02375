import Derived.Test.YtejbfjmiidofcaaGreatCKr2
import Derived.Test.YtejbfjmiidofcaaGreatCM1
import Derived.Test.YtejbfjmiidofcaaGreatCW3
set_option linter.unusedSimpArgs false
set_option linter.unusedVariables false
set_option maxRecDepth 4000
set_option maxHeartbeats 4000000
namespace Go.Proofs.YtejbfjmiidofcaaGreat
open VwM Vw Go

/-- A list that is drawn as a shape. -/
def drawnSh (xs:List Int):Prop:=xs.length ≤ 5 ∧ ∀ x ∈ xs,-1 ≤ x ∧ x ≤ 61


theorem goodShape_ok (bs:List Int) (p:Int) (hb:okB bs) (hp:0 ≤ p ∧ p ≤ 900000):BCall Tryz.prog 41 [.ref 0 2 0] [RD bs p] (fun r H'=>∃ xs q,(good4 xs ∧ xs.length ≤ 4) ∧ (p ≤ q ∧ q ≤ p + 10) ∧ r=.own 1 xs.length 1 ∧ H'=[RD bs q,IL xs]):=by
  refine bcall_of (pins:=[0]) (pin:=1) l41_eq rfl rfl rfl ?_
  (repeat' (first
 | (first|refine awp_seq ?_|refine awp_block ?_)
 | ((first|refine awp_reg ?_|refine awp_condB ?_|refine awp_skip ?_|refine awp_exit ?_);simp (disch:=omega) only [push_cast,seval,l41r0,l41r1,l41r2,l41r3,l41r4,l41r5,l41r6,l41r7,l41r8])
 | ((first|refine condB_split (fun h=>?_) (fun h=>?_)|refine gIf_split (fun h=>?_) (fun h=>?_)|refine qIf_split (fun h=>?_) (fun h=>?_))<;>(try simp only [h])<;>(try simp only [bitvec_to_nat] at h)<;>(try simp only [h])<;>(first|(exfalso;omega)|(focus (exfalso;simp_all;done))|(simp (disch:=omega) only [push_cast,seval])|skip))
 | ((first|((with_reducible refine callD_ids (f:=17) (args:=[Operand.tmp 7,Operand.tmp 8]) [0,128] true ?_);simp (disch:=omega) only [push_cast,seval];(refine call2D (id:=0) (id':=128) (by decide) (one_ok _ _ _ _ ?_ ?_ ?_ ?_ ?_) (by first|((simp (disch:=omega) only [push_cast,seval]);done)|((simp (disch:=omega) only [push_cast,seval]);rfl)) (by first|((simp (disch:=omega) only [push_cast,seval]);done)|((simp (disch:=omega) only [push_cast,seval]);rfl)) ?_;(iterate 5 (exact sd));rintro _ _ ⟨x,hx,hx0,rfl,rfl⟩))|((with_reducible refine callD_ids (f:=17) (args:=[Operand.tmp 14,Operand.tmp 15]) [0,240] true ?_);simp (disch:=omega) only [push_cast,seval];(refine call2D (id:=0) (id':=240) (by decide) (one_ok _ _ _ _ ?_ ?_ ?_ ?_ ?_) (by first|((simp (disch:=omega) only [push_cast,seval]);done)|((simp (disch:=omega) only [push_cast,seval]);rfl)) (by first|((simp (disch:=omega) only [push_cast,seval]);done)|((simp (disch:=omega) only [push_cast,seval]);rfl)) ?_;(iterate 5 (exact sd));rintro _ _ ⟨x,hx,hx0,rfl,rfl⟩))|((with_reducible refine callD_ids (f:=17) [0] true ?_);simp (disch:=omega) only [push_cast,seval];(refine call1D (id:=0) (oneR_ok _ _ _ _ ?_ ?_ ?_ ?_ ?_) (by first|((simp (disch:=omega) only [push_cast,seval]);done)|((simp (disch:=omega) only [push_cast,seval]);rfl)) ?_;(iterate 5 (exact sd));rintro _ _ ⟨x,hx,hx0,rfl,rfl⟩))|((with_reducible refine qcallI_of (f:=17) [0] true ?_);simp (disch:=omega) only [push_cast,seval];(refine qcall1D (id:=0) (oneR_ok _ _ _ _ ?_ ?_ ?_ ?_ ?_) (by first|((simp (disch:=omega) only [push_cast,seval]);done)|((simp (disch:=omega) only [push_cast,seval]);rfl)) (by decide) (by simp only [unI_cons,unI_nil];exact ⟨_,_,_,List.mem_cons_self,by omega,rfl,rfl⟩) ?_;(iterate 5 (exact sd));rintro _ _ ⟨x,hx,hx0,rfl,rfl⟩)))<;>(try simp (disch:=omega) only [push_cast,seval]))
 | ((first|refine callD_of false ?_|refine qcallD_of false ?_);simp (disch:=omega) only [push_cast,seval])
 | ((first|((first|refine call0D (BCall.ofP (scount_ok _ _ ?_ ?_)) ?_|refine qcall0D (BCall.ofP (scount_ok _ _ ?_ ?_)) ⟨_,_,rfl,rfl⟩ ?_);(iterate 2 (exact sd));rintro _ _ ⟨rfl,rfl⟩))<;>(try simp (disch:=omega) only [push_cast,seval]))
 | (refine awp_ret ⟨.inr rfl,[96],[],_,by decide,rfl,?_⟩;(try simp (disch:=omega) only [push_cast,seval,↓allMem_nil,↓allMem_cons,↓List.map_cons,↓List.map_nil]))))
  have hn:0 ≤ x ∧ x ≤ 4:=by
    simp only [unI_cons,unI_nil,List.mem_cons,List.not_mem_nil,or_false] at hx
    omega
  refine awp_loop (fun y:List Int × Int × Int=>mkS [(0,.ref 0 2 0),(3,.own 96 y.1.length 1),(4,.int .i64 y.2.1)] [(0,RD bs y.2.2),(96,IL y.1)])
    (fun y=>((∀ x ∈ y.1,0 ≤ x ∧ x ≤ 60) ∧ (y.1.length:Int) + y.2.1 ≤ 4) ∧ 0 ≤ y.2.1 ∧ p ≤ y.2.2 ∧ y.2.2 + y.2.1 ≤ p + 10) (fun y=>y.2.1.toNat) ([],x,p + 1) ⟨⟨(fun x h=>by cases h),by simp;omega⟩,by simp only;omega⟩ ?_ ?_
  · (refine Sub.of_lists ?_ ?_ ?_ ?_ ?_<;>simp [Vw.mkS,Vw.lk,Vw.hk,AV.inn,innL,innL_ints,innL_append,innL_rep,-List.map_set,-List.getD_eq_getElem?_getD])
  · rintro ⟨xs,n,q⟩ ⟨⟨hxs,hlen⟩,h0,hq1,hq2⟩
    clear hx hx0 hn
    simp only at hxs hlen h0 hq1 hq2 ⊢
    by_cases hlt:n > 0
    · have hg:good4 xs:=⟨hxs,by omega⟩
      (repeat' (first
 | (first|refine awp_seq ?_|refine awp_block ?_)
 | ((first|refine awp_reg ?_|refine awp_condB ?_|refine awp_skip ?_|refine awp_exit ?_);simp (disch:=omega) only [push_cast,seval,l41r0,l41r1,l41r2,l41r3,l41r4,l41r5,l41r6,l41r7,l41r8,hlt])
 | ((first|refine condB_split (fun h=>?_) (fun h=>?_)|refine gIf_split (fun h=>?_) (fun h=>?_)|refine qIf_split (fun h=>?_) (fun h=>?_))<;>(try simp only [h])<;>(try simp only [bitvec_to_nat] at h)<;>(try simp only [h])<;>(first|(exfalso;omega)|(focus (exfalso;simp_all;done))|(simp (disch:=omega) only [push_cast,seval,hlt])|skip))
 | ((first|((with_reducible refine callD_ids (f:=17) (args:=[Operand.tmp 7,Operand.tmp 8]) [0,128] true ?_);simp (disch:=omega) only [push_cast,seval,hlt];(refine call2D (id:=0) (id':=128) (by decide) (one_ok _ _ _ _ ?_ ?_ ?_ ?_ ?_) (by first|((simp (disch:=omega) only [push_cast,seval,hlt]);done)|((simp (disch:=omega) only [push_cast,seval,hlt]);rfl)) (by first|((simp (disch:=omega) only [push_cast,seval,hlt]);done)|((simp (disch:=omega) only [push_cast,seval,hlt]);rfl)) ?_;(iterate 5 (exact sd));rintro _ _ ⟨x,hx,hx0,rfl,rfl⟩))|((with_reducible refine callD_ids (f:=17) (args:=[Operand.tmp 14,Operand.tmp 15]) [0,240] true ?_);simp (disch:=omega) only [push_cast,seval,hlt];(refine call2D (id:=0) (id':=240) (by decide) (one_ok _ _ _ _ ?_ ?_ ?_ ?_ ?_) (by first|((simp (disch:=omega) only [push_cast,seval,hlt]);done)|((simp (disch:=omega) only [push_cast,seval,hlt]);rfl)) (by first|((simp (disch:=omega) only [push_cast,seval,hlt]);done)|((simp (disch:=omega) only [push_cast,seval,hlt]);rfl)) ?_;(iterate 5 (exact sd));rintro _ _ ⟨x,hx,hx0,rfl,rfl⟩))|((with_reducible refine callD_ids (f:=17) [0] true ?_);simp (disch:=omega) only [push_cast,seval,hlt];(refine call1D (id:=0) (oneR_ok _ _ _ _ ?_ ?_ ?_ ?_ ?_) (by first|((simp (disch:=omega) only [push_cast,seval,hlt]);done)|((simp (disch:=omega) only [push_cast,seval,hlt]);rfl)) ?_;(iterate 5 (exact sd));rintro _ _ ⟨x,hx,hx0,rfl,rfl⟩))|((with_reducible refine qcallI_of (f:=17) [0] true ?_);simp (disch:=omega) only [push_cast,seval,hlt];(refine qcall1D (id:=0) (oneR_ok _ _ _ _ ?_ ?_ ?_ ?_ ?_) (by first|((simp (disch:=omega) only [push_cast,seval,hlt]);done)|((simp (disch:=omega) only [push_cast,seval,hlt]);rfl)) (by decide) (by simp only [unI_cons,unI_nil];exact ⟨_,_,_,List.mem_cons_self,by omega,rfl,rfl⟩) ?_;(iterate 5 (exact sd));rintro _ _ ⟨x,hx,hx0,rfl,rfl⟩)))<;>(try simp (disch:=omega) only [push_cast,seval,hlt]))
 | ((first|refine callD_of false ?_|refine qcallD_of false ?_);simp (disch:=omega) only [push_cast,seval,hlt])
 | ((first|((first|refine call0D (BCall.ofP (scount_ok _ _ ?_ ?_)) ?_|refine qcall0D (BCall.ofP (scount_ok _ _ ?_ ?_)) ⟨_,_,rfl,rfl⟩ ?_);(iterate 2 (exact sd));rintro _ _ ⟨rfl,rfl⟩))<;>(try simp (disch:=omega) only [push_cast,seval,hlt]))
 | (refine awp_ret ⟨.inr rfl,[96],[],_,by decide,rfl,?_⟩;(try simp (disch:=omega) only [push_cast,seval,↓allMem_nil,↓allMem_cons,↓List.map_cons,↓List.map_nil,hlt]))))
      · have hx2:0 ≤ x ∧ x ≤ 5:=by
          simp only [unI_cons,unI_nil,List.mem_cons,List.not_mem_nil,or_false] at hx
          omega
        refine ⟨(xs ++ [x],n - 1,q + 1),⟨⟨fun y hy=>?_,by simp;omega⟩,by simp only;omega⟩,by simp only;omega,?_⟩
        · simp only [List.mem_append,List.mem_singleton] at hy
          rcases hy with hy|hy
          · exact hxs y hy
          · omega
        · (refine Sub.of_lists ?_ ?_ ?_ ?_ ?_<;>simp [Vw.mkS,Vw.lk,Vw.hk,AV.inn,innL,innL_ints,innL_append,innL_rep,-List.map_set,-List.getD_eq_getElem?_getD])
      · refine ⟨(xs,n - 1,q + 1),⟨⟨hxs,by simp only;omega⟩,by simp only;omega⟩,by simp only;omega,?_⟩
        (refine Sub.of_lists ?_ ?_ ?_ ?_ ?_<;>simp [Vw.mkS,Vw.lk,Vw.hk,AV.inn,innL,innL_ints,innL_append,innL_rep,-List.map_set,-List.getD_eq_getElem?_getD])
    · (repeat' (first
 | (first|refine awp_seq ?_|refine awp_block ?_)
 | ((first|refine awp_reg ?_|refine awp_condB ?_|refine awp_skip ?_|refine awp_exit ?_);simp (disch:=omega) only [push_cast,seval,l41r0,l41r1,l41r2,l41r3,l41r4,l41r5,l41r6,l41r7,l41r8,hlt])
 | ((first|refine condB_split (fun h=>?_) (fun h=>?_)|refine gIf_split (fun h=>?_) (fun h=>?_)|refine qIf_split (fun h=>?_) (fun h=>?_))<;>(try simp only [h])<;>(try simp only [bitvec_to_nat] at h)<;>(try simp only [h])<;>(first|(exfalso;omega)|(focus (exfalso;simp_all;done))|(simp (disch:=omega) only [push_cast,seval,hlt])|skip))
 | ((first|((with_reducible refine callD_ids (f:=17) (args:=[Operand.tmp 7,Operand.tmp 8]) [0,128] true ?_);simp (disch:=omega) only [push_cast,seval,hlt];(refine call2D (id:=0) (id':=128) (by decide) (one_ok _ _ _ _ ?_ ?_ ?_ ?_ ?_) (by first|((simp (disch:=omega) only [push_cast,seval,hlt]);done)|((simp (disch:=omega) only [push_cast,seval,hlt]);rfl)) (by first|((simp (disch:=omega) only [push_cast,seval,hlt]);done)|((simp (disch:=omega) only [push_cast,seval,hlt]);rfl)) ?_;(iterate 5 (exact sd));rintro _ _ ⟨x,hx,hx0,rfl,rfl⟩))|((with_reducible refine callD_ids (f:=17) (args:=[Operand.tmp 14,Operand.tmp 15]) [0,240] true ?_);simp (disch:=omega) only [push_cast,seval,hlt];(refine call2D (id:=0) (id':=240) (by decide) (one_ok _ _ _ _ ?_ ?_ ?_ ?_ ?_) (by first|((simp (disch:=omega) only [push_cast,seval,hlt]);done)|((simp (disch:=omega) only [push_cast,seval,hlt]);rfl)) (by first|((simp (disch:=omega) only [push_cast,seval,hlt]);done)|((simp (disch:=omega) only [push_cast,seval,hlt]);rfl)) ?_;(iterate 5 (exact sd));rintro _ _ ⟨x,hx,hx0,rfl,rfl⟩))|((with_reducible refine callD_ids (f:=17) [0] true ?_);simp (disch:=omega) only [push_cast,seval,hlt];(refine call1D (id:=0) (oneR_ok _ _ _ _ ?_ ?_ ?_ ?_ ?_) (by first|((simp (disch:=omega) only [push_cast,seval,hlt]);done)|((simp (disch:=omega) only [push_cast,seval,hlt]);rfl)) ?_;(iterate 5 (exact sd));rintro _ _ ⟨x,hx,hx0,rfl,rfl⟩))|((with_reducible refine qcallI_of (f:=17) [0] true ?_);simp (disch:=omega) only [push_cast,seval,hlt];(refine qcall1D (id:=0) (oneR_ok _ _ _ _ ?_ ?_ ?_ ?_ ?_) (by first|((simp (disch:=omega) only [push_cast,seval,hlt]);done)|((simp (disch:=omega) only [push_cast,seval,hlt]);rfl)) (by decide) (by simp only [unI_cons,unI_nil];exact ⟨_,_,_,List.mem_cons_self,by omega,rfl,rfl⟩) ?_;(iterate 5 (exact sd));rintro _ _ ⟨x,hx,hx0,rfl,rfl⟩)))<;>(try simp (disch:=omega) only [push_cast,seval,hlt]))
 | ((first|refine callD_of false ?_|refine qcallD_of false ?_);simp (disch:=omega) only [push_cast,seval,hlt])
 | ((first|((first|refine call0D (BCall.ofP (scount_ok _ _ ?_ ?_)) ?_|refine qcall0D (BCall.ofP (scount_ok _ _ ?_ ?_)) ⟨_,_,rfl,rfl⟩ ?_);(iterate 2 (exact sd));rintro _ _ ⟨rfl,rfl⟩))<;>(try simp (disch:=omega) only [push_cast,seval,hlt]))
 | (refine awp_ret ⟨.inr rfl,[96],[],_,by decide,rfl,?_⟩;(try simp (disch:=omega) only [push_cast,seval,↓allMem_nil,↓allMem_cons,↓List.map_cons,↓List.map_nil,hlt]))))
      exact ⟨xs,q,⟨⟨hxs,by omega⟩,by omega⟩,by omega,rfl,rfl⟩


theorem someShape_ok (bs:List Int) (p:Int) (hb:okB bs) (hp:0 ≤ p ∧ p ≤ 800000):BCall Tryz.prog 19 [.ref 0 2 0] [RD bs p] (fun r H'=>∃ xs q,(drawnSh xs ∧ xs.length ≤ 5) ∧ (p ≤ q ∧ q ≤ p + 20) ∧ r=.own 1 xs.length 1 ∧ H'=[RD bs q,IL xs]):=by
  refine bcall_of (pins:=[0]) (pin:=1) l19_eq rfl rfl rfl ?_
  (repeat' (first
 | (first|refine awp_seq ?_|refine awp_block ?_)
 | ((first|refine awp_reg ?_|refine awp_condB ?_|refine awp_skip ?_|refine awp_exit ?_);simp (disch:=omega) only [push_cast,seval,l19r0,l19r1,l19r2,l19r3,l19r4,l19r5,l19r6,l19r7])
 | ((first|refine condB_split (fun h=>?_) (fun h=>?_)|refine gIf_split (fun h=>?_) (fun h=>?_)|refine qIf_split (fun h=>?_) (fun h=>?_))<;>(try simp only [h])<;>(try simp only [bitvec_to_nat] at h)<;>(try simp only [h])<;>(first|(exfalso;omega)|(focus (exfalso;simp_all;done))|(simp (disch:=omega) only [push_cast,seval])|skip))
 | ((first|((with_reducible refine callD_ids (f:=41) [0] true ?_);simp (disch:=omega) only [push_cast,seval];(refine call1D (id:=0) (goodShape_ok _ _ ?_ ?_) (by first|((simp (disch:=omega) only [push_cast,seval]);done)|((simp (disch:=omega) only [push_cast,seval]);rfl)) ?_;(iterate 2 (exact sd));rintro _ _ ⟨xs,q,⟨hxs,hxl⟩,hq,rfl,rfl⟩))|((with_reducible refine callD_ids (f:=16) [0] true ?_);simp (disch:=omega) only [push_cast,seval];(refine call1D (id:=0) (pick_ok _ _ _ ?_ ?_) (by first|((simp (disch:=omega) only [push_cast,seval]);done)|((simp (disch:=omega) only [push_cast,seval]);rfl)) ?_;(iterate 2 (exact sd));rintro _ _ ⟨x,hx0,hx1,rfl,rfl⟩))|((with_reducible refine qcallI_of (f:=16) [0] true ?_);simp (disch:=omega) only [push_cast,seval];(refine qcall1D (id:=0) (pick_ok _ _ _ ?_ ?_) (by first|((simp (disch:=omega) only [push_cast,seval]);done)|((simp (disch:=omega) only [push_cast,seval]);rfl)) (by decide) ⟨_,_,0,by omega,Or.inr (Or.inr rfl),rfl,rfl⟩ ?_;(iterate 2 (exact sd));rintro _ _ ⟨x,hx0,hx1,rfl,rfl⟩))|((with_reducible refine callD_ids (f:=17) (args:=[Operand.tmp 11,Operand.tmp 12]) [0,192] true ?_);simp (disch:=omega) only [push_cast,seval];(refine call2D (id:=0) (id':=192) (by decide) (one_ok _ _ _ _ ?_ ?_ ?_ ?_ ?_) (by first|((simp (disch:=omega) only [push_cast,seval]);done)|((simp (disch:=omega) only [push_cast,seval]);rfl)) (by first|((simp (disch:=omega) only [push_cast,seval]);done)|((simp (disch:=omega) only [push_cast,seval]);rfl)) ?_;(iterate 5 (exact sd));rintro _ _ ⟨x,hx,hx0,rfl,rfl⟩))|((with_reducible refine callD_ids (f:=17) [0] true ?_);simp (disch:=omega) only [push_cast,seval];(refine call1D (id:=0) (oneR_ok _ _ _ _ ?_ ?_ ?_ ?_ ?_) (by first|((simp (disch:=omega) only [push_cast,seval]);done)|((simp (disch:=omega) only [push_cast,seval]);rfl)) ?_;(iterate 5 (exact sd));rintro _ _ ⟨x,hx,hx0,rfl,rfl⟩))|((with_reducible refine qcallI_of (f:=17) [0] true ?_);simp (disch:=omega) only [push_cast,seval];(refine qcall1D (id:=0) (oneR_ok _ _ _ _ ?_ ?_ ?_ ?_ ?_) (by first|((simp (disch:=omega) only [push_cast,seval]);done)|((simp (disch:=omega) only [push_cast,seval]);rfl)) (by decide) (by simp only [unI_cons,unI_nil];exact ⟨_,_,_,List.mem_cons_self,by omega,rfl,rfl⟩) ?_;(iterate 5 (exact sd));rintro _ _ ⟨x,hx,hx0,rfl,rfl⟩)))<;>(try simp (disch:=omega) only [push_cast,seval]))))
  · (refine awp_ret ⟨.inr rfl,[80],[],_,by decide,rfl,?_⟩;(try simp (disch:=omega) only [push_cast,seval,↓allMem_nil,↓allMem_cons,↓List.map_cons,↓List.map_nil]))
    have hx:-1 ≤ x ∧ x ≤ 61:=by
      simp only [unI_cons,unI_nil,List.mem_cons,List.not_mem_nil,or_false] at hx
      omega
    refine ⟨xs ++ [x],q + 1 + 1,⟨⟨by simp;omega,fun y hy=>?_⟩,by simp;omega⟩,?_,?_,?_⟩
    · simp only [List.mem_append,List.mem_singleton] at hy
      rcases hy with hy|hy
      · have:=hxs.1 y hy;omega
      · omega
    · omega
    · simp
    · first|rfl|(simp;exact ⟨fun _ _=>rfl,rfl⟩)
  · (refine awp_ret ⟨.inr rfl,[288],[],_,by decide,rfl,?_⟩;(try simp (disch:=omega) only [push_cast,seval,↓allMem_nil,↓allMem_cons,↓List.map_cons,↓List.map_nil]))
    exact ⟨[1,1,1,1,1],_,⟨⟨by decide,by decide⟩,by decide⟩,by omega,rfl,rfl⟩
  · (refine awp_ret ⟨.inr rfl,[80],[],_,by decide,rfl,?_⟩;(try simp (disch:=omega) only [push_cast,seval,↓allMem_nil,↓allMem_cons,↓List.map_cons,↓List.map_nil]))
    exact ⟨xs,_,⟨⟨by omega,fun y hy=>by have:=hxs.1 y hy;omega⟩,by omega⟩,by omega,rfl,rfl⟩

end Go.Proofs.YtejbfjmiidofcaaGreat
