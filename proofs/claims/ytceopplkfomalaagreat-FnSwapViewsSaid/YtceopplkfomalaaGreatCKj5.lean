import Derived.Test.YtceopplkfomalaaGreatCKj3
import Derived.Test.YtceopplkfomalaaGreatCM1
import Derived.Test.YtceopplkfomalaaGreatCW3
set_option linter.unusedSimpArgs false
set_option linter.unusedVariables false
set_option maxRecDepth 4000
set_option maxHeartbeats 4000000
namespace Go.Proofs.YtceopplkfomalaaGreat
open VwM Vw Go

theorem plainMVJ {P:Program} {f:Nat} {args:List AV} {ok:Bool} {b:Int} {sh st:List Int} (h:BCall P f args [] (MV ok b sh st)) (h1:ok=true → sh.length ≤ 5) (h2:ok=true → st.length ≤ 5):PCall P f args (fun r=>∃ ok b' sh' st' k1 k2,(sh'.length=k1 ∧ st'.length=k2 ∧ sh'.length ≤ 5 ∧ st'.length ≤ 5) ∧ r=.tup [.agg [.int .i64 b',.rows true (IL sh') k1,.rows true (IL st') k2],.bool ok]):=by
  refine (BCall.plain h).mono ?_
  rintro r ⟨r0,H',⟨rfl,rfl⟩,rfl⟩
  refine ⟨ok,MVB ok b,MVL ok sh,MVL ok st,_,_,⟨rfl,rfl,?_,?_⟩,by simp [AV.ren,nthH,List.map_map,Function.comp_def]⟩
  · cases ok with
    | false=>simp [MVL]
    | true=>exact h1 rfl
  · cases ok with
    | false=>simp [MVL]
    | true=>exact h2 rfl


theorem relFlipP_ok (b:Int) (sh st:List Int) (n m:Nat) (d:Int) (hn:sh.length=n) (hm:st.length=m) (hb:n ≤ 5 ∧ m ≤ 5):PCall Tryz.prog 88 [.agg [.int .i64 b,.rows false (IL sh) n,.rows false (IL st) m],.int .i64 d] (fun r=>∃ ok b' sh' st' k1 k2,(sh'.length=k1 ∧ st'.length=k2 ∧ sh'.length ≤ 5 ∧ st'.length ≤ 5) ∧ r=.tup [.agg [.int .i64 b',.rows true (IL sh') k1,.rows true (IL st') k2],.bool ok]):=by
  refine plainMVJ (sFlipDim_ok b sh st n m d hn hm (by omega)) (fun _=>by rw [cutSh_length];omega) (fun hok=>?_)
  by_cases hl:sh.length=st.length
  · rw [cutSt_length (by omega)];omega
  · simp [sdOk,vV,vSt,Ne.symm hl] at hok


set_option maxHeartbeats 32000000 in
theorem copyOf_ok (bs:List Int) (p:Int) (hb:okB bs) (hp:0 ≤ p ∧ p ≤ 600000):BCall Tryz.prog 75 [.ref 0 2 0] [RD bs p] (fun r H'=>∃ b sh st b' sh' st' q,(sh.length ≤ 5 ∧ st.length ≤ 5 ∧ sh'.length ≤ 5 ∧ st'.length ≤ 5) ∧ (p ≤ q ∧ q ≤ p + 430) ∧
    ((r=.tup [.agg [.int .i64 b,.own 1 sh.length 1,.own 2 st.length 1],.agg [.int .i64 b',.own 3 sh'.length 1,.own 4 st'.length 1]] ∧ H'=[RD bs q,IL sh,IL st,IL sh',IL st']) ∨
     (r=.tup [.agg [.int .i64 b,.own 1 sh.length 1,.own 2 st.length 1],.agg [.int .i64 b',.rows true (IL sh') sh'.length,.rows true (IL st') st'.length]] ∧ H'=[RD bs q,IL sh,IL st]))):=by
  refine bcall_of (pins:=[0]) (pin:=1) l75_eq rfl rfl rfl ?_
  (repeat' (first
 | (first|refine awp_seq ?_|refine awp_block ?_)
 | ((first|refine awp_reg ?_|refine awp_drawX (mid:=l75r6a) (post:=l75r6b) [0] mixed (by decide) ?_|refine awp_drawX (mid:=l75r8a) (post:=l75r8b) [0] mixed (by decide) ?_|refine awp_drawX (mid:=l75r11a) (post:=l75r11b) [0,96,1000000006,2000000096] mixed (by decide) ?_|refine awp_drawX (mid:=l75r16a) (post:=l75r16b) [0] mixed (by decide) ?_|refine awp_drawX (mid:=l75r18a) (post:=l75r18b) [32] mixed (by decide) ?_|refine awp_condB ?_|refine awp_skip ?_|refine awp_exit ?_);simp (disch:=omega) only [push_cast,seval,l75r0,l75r1,l75r2,l75r3,l75r4,l75r5,l75r6a,l75r6b,l75r6,l75r7,l75r8a,l75r8b,l75r8,l75r9,l75r10,l75r11a,l75r11b,l75r11,l75r12,l75r13,l75r14,l75r15,l75r16a,l75r16b,l75r16,l75r17,l75r18a,l75r18b,l75r18,IL_set,List.length_set])
 | ((first|refine condB_split (fun h=>?_) (fun h=>?_)|refine gIf_split (fun h=>?_) (fun h=>?_)|refine qIf_split (fun h=>?_) (fun h=>?_))<;>(try simp only [h])<;>(try simp only [bitvec_to_nat] at h)<;>(try simp only [h])<;>(first|(exfalso;omega)|(focus (exfalso;simp_all;done))|(simp (disch:=omega) only [push_cast,seval,IL_set,List.length_set])|skip))
 | ((first|((with_reducible refine callD_ids (f:=53) [0] true ?_);simp (disch:=omega) only [push_cast,seval,IL_set,List.length_set];(refine call1D (id:=0) (someView_ok _ _ ?_ ?_) (by first|((simp (disch:=omega) only [push_cast,seval,IL_set,List.length_set]);done)|((simp (disch:=omega) only [push_cast,seval,IL_set,List.length_set]);rfl)) ?_;(iterate 2 (exact sd));rintro _ _ ⟨b,sh,st,q,⟨hl1,hl9,hl2⟩,hq,rfl,rfl⟩))|((with_reducible refine callD_ids (f:=44) [0] true ?_);simp (disch:=omega) only [push_cast,seval,IL_set,List.length_set];(refine call1D (id:=0) (pick_ok _ _ _ ?_ ?_) (by first|((simp (disch:=omega) only [push_cast,seval,IL_set,List.length_set]);done)|((simp (disch:=omega) only [push_cast,seval,IL_set,List.length_set]);rfl)) ?_;(iterate 2 (exact sd));rintro _ _ ⟨x,hx0,hx1,rfl,rfl⟩))|((with_reducible refine qcallI_of (f:=44) [0] true ?_);simp (disch:=omega) only [push_cast,seval,IL_set,List.length_set];(refine qcall1D (id:=0) (pick_ok _ _ _ ?_ ?_) (by first|((simp (disch:=omega) only [push_cast,seval,IL_set,List.length_set]);done)|((simp (disch:=omega) only [push_cast,seval,IL_set,List.length_set]);rfl)) (by decide) ⟨_,_,0,by omega,Or.inr (Or.inr rfl),rfl,rfl⟩ ?_;(iterate 2 (exact sd));rintro _ _ ⟨x,hx0,hx1,rfl,rfl⟩))|((with_reducible refine callD_ids (f:=37) (args:=[Operand.tmp 70,Operand.tmp 71]) [0,1136] true ?_);simp (disch:=omega) only [push_cast,seval,IL_set,List.length_set];(refine call2D (id:=0) (id':=1136) (by decide) (one_ok _ _ _ _ ?_ ?_ ?_ ?_ ?_) (by first|((simp (disch:=omega) only [push_cast,seval,IL_set,List.length_set]);done)|((simp (disch:=omega) only [push_cast,seval,IL_set,List.length_set]);rfl)) (by first|((simp (disch:=omega) only [push_cast,seval,IL_set,List.length_set]);done)|((simp (disch:=omega) only [push_cast,seval,IL_set,List.length_set]);rfl)) ?_;(iterate 5 (exact sd));rintro _ _ ⟨x,hx,hx0,rfl,rfl⟩))|((with_reducible refine callD_ids (f:=37) [0] true ?_);simp (disch:=omega) only [push_cast,seval,IL_set,List.length_set];(refine call1D (id:=0) (oneR_ok _ _ _ _ ?_ ?_ ?_ ?_ ?_) (by first|((simp (disch:=omega) only [push_cast,seval,IL_set,List.length_set]);done)|((simp (disch:=omega) only [push_cast,seval,IL_set,List.length_set]);rfl)) ?_;(iterate 5 (exact sd));rintro _ _ ⟨x,hx,hx0,rfl,rfl⟩))|((with_reducible refine qcallI_of (f:=37) [0] true ?_);simp (disch:=omega) only [push_cast,seval,IL_set,List.length_set];(refine qcall1D (id:=0) (oneR_ok _ _ _ _ ?_ ?_ ?_ ?_ ?_) (by first|((simp (disch:=omega) only [push_cast,seval,IL_set,List.length_set]);done)|((simp (disch:=omega) only [push_cast,seval,IL_set,List.length_set]);rfl)) (by decide) (by simp only [unI_cons,unI_nil];exact ⟨_,_,_,List.mem_cons_self,by omega,rfl,rfl⟩) ?_;(iterate 5 (exact sd));rintro _ _ ⟨x,hx,hx0,rfl,rfl⟩)))<;>(try simp (disch:=omega) only [push_cast,seval,IL_set,List.length_set]))
 | ((first|refine callD_of false ?_|refine qcallD_of false ?_);simp (disch:=omega) only [push_cast,seval,IL_set,List.length_set])
 | ((first|((first|refine call0D (scopyView_ok _ _ _ _ _ ?_ ?_ ?_) ?_|refine qcall0D (scopyView_ok _ _ _ _ _ ?_ ?_ ?_) ⟨_,_,rfl,rfl⟩ ?_);(iterate 3 (exact sd));rintro _ _ ⟨rfl,rfl⟩)|((first|refine call0D (BCall.ofP (relFlipP_ok _ _ _ _ _ _ ?_ ?_ ?_)) ?_|refine qcall0D (BCall.ofP (relFlipP_ok _ _ _ _ _ _ ?_ ?_ ?_)) ⟨_,_,⟨true,0,[],[],0,0,⟨rfl,rfl,by simp,by simp⟩,rfl⟩,rfl⟩ ?_);(iterate 3 (exact sd));rintro _ _ ⟨⟨ok,b',sh',st',_,_,⟨rfl,rfl,hf1,hf2⟩,rfl⟩,rfl⟩))<;>(try simp (disch:=omega) only [push_cast,seval,IL_set,List.length_set]))))
  all_goals first
    | ((refine awp_ret ⟨.inr rfl,[144,145,176,177],[],_,by decide,rfl,?_⟩;(try simp (disch:=omega) only [push_cast,seval,↓allMem_nil,↓allMem_cons,↓List.map_cons,↓List.map_nil,IL_set]));exact ⟨_,_,_,_,_,_,_,⟨(by first|omega|(rw [List.length_set];omega)),(by first|omega|(rw [List.length_set];omega)),(by first|omega|(rw [List.length_set];omega)),(by first|omega|(rw [List.length_set];omega))⟩,by omega,.inl ⟨rfl,rfl⟩⟩)
    | ((refine awp_ret ⟨.inr rfl,[144,145],[],_,by decide,rfl,?_⟩;(try simp (disch:=omega) only [push_cast,seval,↓allMem_nil,↓allMem_cons,↓List.map_cons,↓List.map_nil,IL_set]));exact ⟨_,_,_,_,_,_,_,⟨(by first|omega|(rw [List.length_set];omega)),(by first|omega|(rw [List.length_set];omega)),(by first|omega|(rw [List.length_set];omega)),(by first|omega|(rw [List.length_set];omega))⟩,by omega,.inr ⟨rfl,rfl⟩⟩)
    | ((refine awp_ret ⟨.inr rfl,[144,145,240,241],[],_,by decide,rfl,?_⟩;(try simp (disch:=omega) only [push_cast,seval,↓allMem_nil,↓allMem_cons,↓List.map_cons,↓List.map_nil,IL_set]));exact ⟨_,_,_,_,_,_,_,⟨(by first|omega|(rw [List.length_set];omega)),(by first|omega|(rw [List.length_set];omega)),(by first|omega|(rw [List.length_set];omega)),(by first|omega|(rw [List.length_set];omega))⟩,by omega,.inl ⟨rfl,rfl⟩⟩)
    | ((refine awp_ret ⟨.inr rfl,[144,145,176,177],[],_,by decide,rfl,?_⟩;(try simp (disch:=omega) only [push_cast,seval,↓allMem_nil,↓allMem_cons,↓List.map_cons,↓List.map_nil,IL_set]));refine ⟨b,sh,st,b,sh,st.set 0 x,_,⟨by omega,by omega,by omega,by rw [List.length_set];omega⟩,by omega,.inl ⟨?_,rfl⟩⟩;rw [List.length_set];done)

end Go.Proofs.YtceopplkfomalaaGreat
