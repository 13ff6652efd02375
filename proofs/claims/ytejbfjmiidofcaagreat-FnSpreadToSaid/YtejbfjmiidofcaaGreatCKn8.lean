import Derived.Test.YtejbfjmiidofcaaGreatCKn7
import Derived.Test.YtejbfjmiidofcaaGreatCM1
import Derived.Test.YtejbfjmiidofcaaGreatCW3
set_option linter.unusedSimpArgs false
set_option linter.unusedVariables false
set_option maxRecDepth 4000
set_option maxHeartbeats 4000000
namespace Go.Proofs.YtejbfjmiidofcaaGreat
open VwM Vw Go

theorem catD00_ok (xs ys:List Int) (n m:Nat) (hx:xs.length=n * 2) (hy:ys.length=m * 2) (hb:n=0 ∧ m=0):BCall Tryz.prog 23 [.rows false [.rows false (IL xs) n,.rows false (IL ys) m] 2] [] (fun r H'=>r=.own 0 0 2 ∧ H'=[[]]):=by
  obtain ⟨rfl,rfl⟩:=hb
  obtain rfl:=List.length_eq_zero_iff.1 hx
  obtain rfl:=List.length_eq_zero_iff.1 hy
  exact catD0_ok


set_option maxHeartbeats 16000000 in
theorem iSpread_ok (b:Int) (sh st T:List Int) (n m k:Nat) (hn:sh.length=n) (hm:st.length=m) (hk:T.length=k) (hb:(n ≤ 1099511627776 ∧ m ≤ 1099511627776) ∧ k ≤ 1099511627776) :
    BCall Tryz.prog 5 [.agg [.int .i64 b,.rows false (IL sh) n,.rows false (IL st) m],.rows false (IL T) k] [] (MV (spOk b sh st T) (stB T b) T (stE T (sprS sh st T))):=by
  subst hn hm hk
  obtain ⟨⟨hb1,hb2⟩,hb3⟩:=hb
  refine bcall_of (pins:=[]) (pin:=0) l5_eq rfl rfl rfl ?_
  cases hv:vV b sh st with
  | false =>
    have e:spOk b sh st T=false:=by simp [spOk,hv]
    rw [e]
    (repeat' (first
 | (first|refine awp_seq ?_|refine awp_block ?_)
 | ((first|refine awp_reg ?_|refine awp_draw (mid:=l5r5a) (post:=l5r5b) mixed (by decide) ?_|refine awp_condB ?_|refine awp_skip ?_|refine awp_exit ?_);simp (disch:=omega) only [push_cast,seval,l5r0,l5r1,l5r2,l5r3,l5r4,l5r5a,l5r5b,l5r5,l5r6,l5r7,l5r8,l5r9,l5r10,l5r11,l5r12,l5r13,l5r14,hv])
 | ((first|refine condB_split (fun h=>?_) (fun h=>?_)|refine gIf_split (fun h=>?_) (fun h=>?_)|refine qIf_split (fun h=>?_) (fun h=>?_))<;>(try simp only [h])<;>(try simp only [bitvec_to_nat] at h)<;>(try simp only [h])<;>(first|(exfalso;omega)|(focus (exfalso;simp_all;done))|(simp (disch:=omega) only [push_cast,seval,hv])|skip))
 | ((first|((with_reducible refine callD_of (f:=22) true ?_);simp (disch:=omega) only [push_cast,seval,hv];(refine call0D (wholeOf_ok _ _ _ _ _ ?_ ?_ ?_) ?_;(iterate 3 (exact sd));rintro _ _ ⟨rfl,rfl⟩)))<;>(try simp (disch:=omega) only [push_cast,seval,hv]))
 | ((first|refine callD_of false ?_|refine qcallD_of false ?_);simp (disch:=omega) only [push_cast,seval,hv])
 | ((first|((first|refine call0D (BCall.ofP (iValidView_ok _ _ _ _ _ ?_ ?_ ?_)) ?_|refine qcall0D (BCall.ofP (iValidView_ok _ _ _ _ _ ?_ ?_ ?_)) ⟨_,_,rfl,rfl⟩ ?_);(iterate 3 (exact sd));rintro _ _ ⟨rfl,rfl⟩)|((first|refine call0D (BCall.ofP (iValidShape_ok _ _ ?_ ?_)) ?_|refine qcall0D (BCall.ofP (iValidShape_ok _ _ ?_ ?_)) ⟨_,_,rfl,rfl⟩ ?_);(iterate 2 (exact sd));rintro _ _ ⟨rfl,rfl⟩)|((first|refine call0D (repD_ok _ _ _ ?_) ?_|refine qcall0D (repD_ok _ _ _ ?_) ⟨_,_,rfl,rfl⟩ ?_);(exact sd);rintro _ _ ⟨rfl,rfl⟩)|((with_reducible refine call0D (catD_ok _ _ _ _ ?_ ?_ ?_) ?_);(iterate 3 (exact sd));rintro _ _ ⟨rfl,rfl⟩)|((with_reducible refine qcall0D (catD_ok _ _ _ _ ?_ ?_ ?_) ⟨_,_,rfl,rfl⟩ ?_);(iterate 3 (exact sd));rintro _ _ ⟨rfl,rfl⟩)|((with_reducible refine call0D (catD0_ok) ?_);rintro _ _ ⟨rfl,rfl⟩)|((with_reducible refine qcall0D (catD0_ok) ⟨_,_,rfl,rfl⟩ ?_);rintro _ _ ⟨rfl,rfl⟩)|((with_reducible refine call0D (catD00_ok _ _ _ _ ?_ ?_ ?_) ?_);(iterate 3 (exact sd));rintro _ _ ⟨rfl,rfl⟩)|((with_reducible refine qcall0D (catD00_ok _ _ _ _ ?_ ?_ ?_) ⟨_,_,rfl,rfl⟩ ?_);(iterate 3 (exact sd));rintro _ _ ⟨rfl,rfl⟩)|((first|refine call0D (BCall.ofP (dimSpread_ok _ _ _)) ?_|refine qcall0D (BCall.ofP (dimSpread_ok _ _ _)) ⟨_,_,rfl,rfl⟩ ?_);rintro _ _ ⟨rfl,rfl⟩)|((first|refine call0D (settled_ok _ _ _ _ _ _ _ _ _ _ _ _ ?_ ?_ ?_) ?_|refine qcall0D (settled_ok _ _ _ _ _ _ _ _ _ _ _ _ ?_ ?_ ?_) ⟨_,_,rfl,rfl⟩ ?_);(iterate 3 (exact sd));rintro _ _ ⟨rfl,rfl⟩))<;>(try simp (disch:=omega) only [push_cast,seval,hv]))
 | (refine awp_ret ⟨.inr rfl,[16000,16016],[(16000,1),(16016,1)],_,by decide,rfl,?_⟩;(try simp (disch:=omega) only [push_cast,seval,↓allMem_nil,↓allMem_cons,↓List.map_cons,↓List.map_nil,hv]))))
    all_goals simp [MV,MVB,MVL]
  | true =>
  cases hT:vSh T with
  | false =>
    have e:spOk b sh st T=false:=by simp [spOk,hT]
    rw [e]
    (repeat' (first
 | (first|refine awp_seq ?_|refine awp_block ?_)
 | ((first|refine awp_reg ?_|refine awp_draw (mid:=l5r5a) (post:=l5r5b) mixed (by decide) ?_|refine awp_condB ?_|refine awp_skip ?_|refine awp_exit ?_);simp (disch:=omega) only [push_cast,seval,l5r0,l5r1,l5r2,l5r3,l5r4,l5r5a,l5r5b,l5r5,l5r6,l5r7,l5r8,l5r9,l5r10,l5r11,l5r12,l5r13,l5r14,hv,hT])
 | ((first|refine condB_split (fun h=>?_) (fun h=>?_)|refine gIf_split (fun h=>?_) (fun h=>?_)|refine qIf_split (fun h=>?_) (fun h=>?_))<;>(try simp only [h])<;>(try simp only [bitvec_to_nat] at h)<;>(try simp only [h])<;>(first|(exfalso;omega)|(focus (exfalso;simp_all;done))|(simp (disch:=omega) only [push_cast,seval,hv,hT])|skip))
 | ((first|((with_reducible refine callD_of (f:=22) true ?_);simp (disch:=omega) only [push_cast,seval,hv,hT];(refine call0D (wholeOf_ok _ _ _ _ _ ?_ ?_ ?_) ?_;(iterate 3 (exact sd));rintro _ _ ⟨rfl,rfl⟩)))<;>(try simp (disch:=omega) only [push_cast,seval,hv,hT]))
 | ((first|refine callD_of false ?_|refine qcallD_of false ?_);simp (disch:=omega) only [push_cast,seval,hv,hT])
 | ((first|((first|refine call0D (BCall.ofP (iValidView_ok _ _ _ _ _ ?_ ?_ ?_)) ?_|refine qcall0D (BCall.ofP (iValidView_ok _ _ _ _ _ ?_ ?_ ?_)) ⟨_,_,rfl,rfl⟩ ?_);(iterate 3 (exact sd));rintro _ _ ⟨rfl,rfl⟩)|((first|refine call0D (BCall.ofP (iValidShape_ok _ _ ?_ ?_)) ?_|refine qcall0D (BCall.ofP (iValidShape_ok _ _ ?_ ?_)) ⟨_,_,rfl,rfl⟩ ?_);(iterate 2 (exact sd));rintro _ _ ⟨rfl,rfl⟩)|((first|refine call0D (repD_ok _ _ _ ?_) ?_|refine qcall0D (repD_ok _ _ _ ?_) ⟨_,_,rfl,rfl⟩ ?_);(exact sd);rintro _ _ ⟨rfl,rfl⟩)|((with_reducible refine call0D (catD_ok _ _ _ _ ?_ ?_ ?_) ?_);(iterate 3 (exact sd));rintro _ _ ⟨rfl,rfl⟩)|((with_reducible refine qcall0D (catD_ok _ _ _ _ ?_ ?_ ?_) ⟨_,_,rfl,rfl⟩ ?_);(iterate 3 (exact sd));rintro _ _ ⟨rfl,rfl⟩)|((with_reducible refine call0D (catD0_ok) ?_);rintro _ _ ⟨rfl,rfl⟩)|((with_reducible refine qcall0D (catD0_ok) ⟨_,_,rfl,rfl⟩ ?_);rintro _ _ ⟨rfl,rfl⟩)|((with_reducible refine call0D (catD00_ok _ _ _ _ ?_ ?_ ?_) ?_);(iterate 3 (exact sd));rintro _ _ ⟨rfl,rfl⟩)|((with_reducible refine qcall0D (catD00_ok _ _ _ _ ?_ ?_ ?_) ⟨_,_,rfl,rfl⟩ ?_);(iterate 3 (exact sd));rintro _ _ ⟨rfl,rfl⟩)|((first|refine call0D (BCall.ofP (dimSpread_ok _ _ _)) ?_|refine qcall0D (BCall.ofP (dimSpread_ok _ _ _)) ⟨_,_,rfl,rfl⟩ ?_);rintro _ _ ⟨rfl,rfl⟩)|((first|refine call0D (settled_ok _ _ _ _ _ _ _ _ _ _ _ _ ?_ ?_ ?_) ?_|refine qcall0D (settled_ok _ _ _ _ _ _ _ _ _ _ _ _ ?_ ?_ ?_) ⟨_,_,rfl,rfl⟩ ?_);(iterate 3 (exact sd));rintro _ _ ⟨rfl,rfl⟩))<;>(try simp (disch:=omega) only [push_cast,seval,hv,hT]))
 | (refine awp_ret ⟨.inr rfl,[16000,16016],[(16000,1),(16016,1)],_,by decide,rfl,?_⟩;(try simp (disch:=omega) only [push_cast,seval,↓allMem_nil,↓allMem_cons,↓List.map_cons,↓List.map_nil,hv,hT]))))
    all_goals simp [MV,MVB,MVL]
  | true =>
  obtain ⟨hok,hlen⟩:=okV_valid hv
  have hl4:=hok.1.1.2
  have hg:=(vSh_good hT).1
  have hg4:=hg.2
  have e:spOk b sh st T=spA sh T:=by simp [spOk,hv,hT]
  rw [e]
  by_cases hle:sh.length ≤ T.length
  · obtain ⟨a,ha⟩:∃ a:Nat,T.length - sh.length=a:=⟨_,rfl⟩
    have ha':(T.length:Int) - (sh.length:Int)=(a:Int):=by omega
    have ha0:¬ (a:Int) < 0:=by omega
    have hq1:st.length=sh.length ∧ sh.length ≤ 1000:=by omega
    have hqa:a ≤ 1000:=by omega
    have pvb:=pv_ok hv
    have d0:=dot_at4 st st.length
    have haN:a + sh.length=T.length:=by omega
    by_cases h0:T.length=0
    · have hs0:sh.length=0:=by omega
      have hq0:a=0 ∧ sh.length=0:=by omega
      have lr:(rpt [1,0] a).length=a * 2:=by rw [rpt_length];simp
      have dl:=dm_length (sh:=sh) (st:=st) (by omega)
      have hAll:=sp_all hle ha fun k h=>by omega
      have hSl:=sprS_length sh st T
      have dm0:dm T (sprS sh st T)=[]:=by rw [List.length_eq_zero_iff.1 h0];rfl
      rw [hAll]
      generalize sprS sh st T=S at *
      have pk:S.length=T.length ∧ T.length=T.length:=⟨hSl,rfl⟩
      have pvk:((st.length ≤ 4 ∧ (-1000000 ≤ b ∧ b ≤ 1000000) ∧ ∀ i,i < st.length → (-60 ≤ at4 0 0 0 0 i ∧ at4 0 0 0 0 i ≤ 60) ∧ -12960000 ≤ st.getD i 0 ∧ st.getD i 0 ≤ 12960000) ∧ T.length ≤ 1000) ∧ good4 T:=⟨⟨pvb,by omega⟩,hg⟩
      (repeat' (first
 | (first|refine awp_seq ?_|refine awp_block ?_)
 | ((first|refine awp_reg ?_|refine awp_drawX (mid:=l5r5a) (post:=l5r5b) [] mixed (by decide) ?_|refine awp_condB ?_|refine awp_skip ?_|refine awp_exit ?_);simp (disch:=omega) only [push_cast,seval,l5r0,l5r1,l5r2,l5r3,l5r4,l5r5a,l5r5b,l5r5,l5r6,l5r7,l5r8,l5r9,l5r10,l5r11,l5r12,l5r13,l5r14,hv,hT,ha',ha0,lr,dl])
 | ((first|refine condB_split (fun h=>?_) (fun h=>?_)|refine gIf_split (fun h=>?_) (fun h=>?_)|refine qIf_split (fun h=>?_) (fun h=>?_))<;>(try simp only [h])<;>(try simp only [bitvec_to_nat] at h)<;>(try simp only [h])<;>(first|(exfalso;omega)|(focus (exfalso;simp_all;done))|(simp (disch:=omega) only [push_cast,seval,hv,hT,ha',ha0,lr,dl])|skip))
 | ((first|((with_reducible refine callD_of (f:=22) true ?_);simp (disch:=omega) only [push_cast,seval,hv,hT,ha',ha0,lr,dl];(refine call0D (wholeOf_ok _ _ _ _ _ ?_ ?_ ?_) ?_;(iterate 3 (exact sd));rintro _ _ ⟨rfl,rfl⟩)))<;>(try simp (disch:=omega) only [push_cast,seval,hv,hT,ha',ha0,lr,dl]))
 | ((first|refine callD_of false ?_|refine qcallD_of false ?_);simp (disch:=omega) only [push_cast,seval,hv,hT,ha',ha0,lr,dl])
 | ((first|((first|refine call0D (BCall.ofP (iValidView_ok _ _ _ _ _ ?_ ?_ ?_)) ?_|refine qcall0D (BCall.ofP (iValidView_ok _ _ _ _ _ ?_ ?_ ?_)) ⟨_,_,rfl,rfl⟩ ?_);(iterate 3 (exact sd));rintro _ _ ⟨rfl,rfl⟩)|((first|refine call0D (BCall.ofP (iValidShape_ok _ _ ?_ ?_)) ?_|refine qcall0D (BCall.ofP (iValidShape_ok _ _ ?_ ?_)) ⟨_,_,rfl,rfl⟩ ?_);(iterate 2 (exact sd));rintro _ _ ⟨rfl,rfl⟩)|((first|refine call0D (repD_ok _ _ _ ?_) ?_|refine qcall0D (repD_ok _ _ _ ?_) ⟨_,_,rfl,rfl⟩ ?_);(exact sd);rintro _ _ ⟨rfl,rfl⟩)|((with_reducible refine call0D (catD_ok _ _ _ _ ?_ ?_ ?_) ?_);(iterate 3 (exact sd));rintro _ _ ⟨rfl,rfl⟩)|((with_reducible refine qcall0D (catD_ok _ _ _ _ ?_ ?_ ?_) ⟨_,_,rfl,rfl⟩ ?_);(iterate 3 (exact sd));rintro _ _ ⟨rfl,rfl⟩)|((with_reducible refine call0D (catD0_ok) ?_);rintro _ _ ⟨rfl,rfl⟩)|((with_reducible refine qcall0D (catD0_ok) ⟨_,_,rfl,rfl⟩ ?_);rintro _ _ ⟨rfl,rfl⟩)|((with_reducible refine call0D (catD00_ok _ _ _ _ ?_ ?_ ?_) ?_);(iterate 3 (exact sd));rintro _ _ ⟨rfl,rfl⟩)|((with_reducible refine qcall0D (catD00_ok _ _ _ _ ?_ ?_ ?_) ⟨_,_,rfl,rfl⟩ ?_);(iterate 3 (exact sd));rintro _ _ ⟨rfl,rfl⟩)|((first|refine call0D (BCall.ofP (dimSpread_ok _ _ _)) ?_|refine qcall0D (BCall.ofP (dimSpread_ok _ _ _)) ⟨_,_,rfl,rfl⟩ ?_);rintro _ _ ⟨rfl,rfl⟩)|((first|refine call0D (settled_ok _ _ _ _ _ _ _ _ _ _ _ _ ?_ ?_ ?_) ?_|refine qcall0D (settled_ok _ _ _ _ _ _ _ _ _ _ _ _ ?_ ?_ ?_) ⟨_,_,rfl,rfl⟩ ?_);(iterate 3 (exact sd));rintro _ _ ⟨rfl,rfl⟩))<;>(try simp (disch:=omega) only [push_cast,seval,hv,hT,ha',ha0,lr,dl]))
 | (refine awp_ret ⟨.inr rfl,[1104,1105],[],_,by decide,rfl,?_⟩;(try simp (disch:=omega) only [push_cast,seval,↓allMem_nil,↓allMem_cons,↓List.map_cons,↓List.map_nil,hv,hT,ha',ha0,lr,dl]))))
      refine awp_loop (fun j:Nat=>mkS [(4,.ref 64 3 0),(7,.ref 112 8 0),(42,RI T),(43,.int .i64 T.length),(44,.int .i64 0)] [(64,[.int .i64 0,.val (.slice none 0 0),.val (.slice none 0 0)]),(112,[.int .i64 b,RI sh,RI st,.int .i64 0,.int .i64 0,.int .i64 0,.int .i64 0,.own 640 T.length 2]),(640,IL (dm T S))]) (fun j=>j=0) (fun j=>j) 0 rfl ?_ ?_
      · (refine Sub.of_lists ?_ ?_ ?_ ?_ ?_<;>simp [Vw.mkS,Vw.lk,Vw.hk,AV.inn,innL,innL_ints,innL_append,innL_rep,-List.map_set,-List.getD_eq_getElem?_getD,dm0,h0])
      · intro j hj
        have hlt:¬ (0:Int) < (T.length:Int):=by omega
        have dl2:=dm_length (sh:=T) (st:=S) hSl
        clear dm0
        (repeat' (first
 | (first|refine awp_seq ?_|refine awp_block ?_)
 | ((first|refine awp_reg ?_|refine awp_draw (mid:=l5r5a) (post:=l5r5b) mixed (by decide) ?_|refine awp_condB ?_|refine awp_skip ?_|refine awp_exit ?_);simp (disch:=omega) only [push_cast,seval,l5r0,l5r1,l5r2,l5r3,l5r4,l5r5a,l5r5b,l5r5,l5r6,l5r7,l5r8,l5r9,l5r10,l5r11,l5r12,l5r13,l5r14,hlt,dl2,d0,Int.add_zero])
 | ((first|refine condB_split (fun h=>?_) (fun h=>?_)|refine gIf_split (fun h=>?_) (fun h=>?_)|refine qIf_split (fun h=>?_) (fun h=>?_))<;>(try simp only [h])<;>(try simp only [bitvec_to_nat] at h)<;>(try simp only [h])<;>(first|(exfalso;omega)|(focus (exfalso;simp_all;done))|(simp (disch:=omega) only [push_cast,seval,hlt,dl2,d0,Int.add_zero])|skip))
 | ((first|((with_reducible refine callD_of (f:=22) true ?_);simp (disch:=omega) only [push_cast,seval,hlt,dl2,d0,Int.add_zero];(refine call0D (wholeOf_ok _ _ _ _ _ ?_ ?_ ?_) ?_;(iterate 3 (exact sd));rintro _ _ ⟨rfl,rfl⟩)))<;>(try simp (disch:=omega) only [push_cast,seval,hlt,dl2,d0,Int.add_zero]))
 | ((first|refine callD_of false ?_|refine qcallD_of false ?_);simp (disch:=omega) only [push_cast,seval,hlt,dl2,d0,Int.add_zero])
 | ((first|((first|refine call0D (BCall.ofP (iValidView_ok _ _ _ _ _ ?_ ?_ ?_)) ?_|refine qcall0D (BCall.ofP (iValidView_ok _ _ _ _ _ ?_ ?_ ?_)) ⟨_,_,rfl,rfl⟩ ?_);(iterate 3 (exact sd));rintro _ _ ⟨rfl,rfl⟩)|((first|refine call0D (BCall.ofP (iValidShape_ok _ _ ?_ ?_)) ?_|refine qcall0D (BCall.ofP (iValidShape_ok _ _ ?_ ?_)) ⟨_,_,rfl,rfl⟩ ?_);(iterate 2 (exact sd));rintro _ _ ⟨rfl,rfl⟩)|((first|refine call0D (repD_ok _ _ _ ?_) ?_|refine qcall0D (repD_ok _ _ _ ?_) ⟨_,_,rfl,rfl⟩ ?_);(exact sd);rintro _ _ ⟨rfl,rfl⟩)|((with_reducible refine call0D (catD_ok _ _ _ _ ?_ ?_ ?_) ?_);(iterate 3 (exact sd));rintro _ _ ⟨rfl,rfl⟩)|((with_reducible refine qcall0D (catD_ok _ _ _ _ ?_ ?_ ?_) ⟨_,_,rfl,rfl⟩ ?_);(iterate 3 (exact sd));rintro _ _ ⟨rfl,rfl⟩)|((with_reducible refine call0D (catD0_ok) ?_);rintro _ _ ⟨rfl,rfl⟩)|((with_reducible refine qcall0D (catD0_ok) ⟨_,_,rfl,rfl⟩ ?_);rintro _ _ ⟨rfl,rfl⟩)|((with_reducible refine call0D (catD00_ok _ _ _ _ ?_ ?_ ?_) ?_);(iterate 3 (exact sd));rintro _ _ ⟨rfl,rfl⟩)|((with_reducible refine qcall0D (catD00_ok _ _ _ _ ?_ ?_ ?_) ⟨_,_,rfl,rfl⟩ ?_);(iterate 3 (exact sd));rintro _ _ ⟨rfl,rfl⟩)|((first|refine call0D (BCall.ofP (dimSpread_ok _ _ _)) ?_|refine qcall0D (BCall.ofP (dimSpread_ok _ _ _)) ⟨_,_,rfl,rfl⟩ ?_);rintro _ _ ⟨rfl,rfl⟩)|((first|refine call0D (settled_ok _ _ _ _ _ _ _ _ _ _ _ _ ?_ ?_ ?_) ?_|refine qcall0D (settled_ok _ _ _ _ _ _ _ _ _ _ _ _ ?_ ?_ ?_) ⟨_,_,rfl,rfl⟩ ?_);(iterate 3 (exact sd));rintro _ _ ⟨rfl,rfl⟩))<;>(try simp (disch:=omega) only [push_cast,seval,hlt,dl2,d0,Int.add_zero]))
 | (refine awp_ret ⟨.inr rfl,[1104,1105],[],_,by decide,rfl,?_⟩;(try simp (disch:=omega) only [push_cast,seval,↓allMem_nil,↓allMem_cons,↓List.map_cons,↓List.map_nil,hlt,dl2,d0,Int.add_zero]))))
        all_goals exact ⟨rfl,rfl⟩
    · have lr:(rpt [1,0] a).length=a * 2:=by rw [rpt_length];simp
      have dl:=dm_length (sh:=sh) (st:=st) (by omega)
      have hqc:0 < a + sh.length ∧ a + sh.length ≤ 1000:=by omega
      have hpd:=dm_pad (sh:=sh) (st:=st) a
      have hPl:=padX_length 1 sh a
      have hQl:=padX_length 0 st a
      rw [haN] at hPl
      rw [hlen,haN] at hQl
      have hSl:=sprS_length sh st T
      have hNew:=fun k (h:k < T.length)=>sp_new (st:=st) hle ha h
      have hAll:=sp_all hle ha
      have hNot:=fun k (h:k < T.length)=>sp_not (k:=k) hle ha h
      (repeat' (first
 | (first|refine awp_seq ?_|refine awp_block ?_)
 | ((first|refine awp_reg ?_|refine awp_drawX (mid:=l5r5a) (post:=l5r5b) [] mixed (by decide) ?_|refine awp_condB ?_|refine awp_skip ?_|refine awp_exit ?_);simp (disch:=omega) only [push_cast,seval,l5r0,l5r1,l5r2,l5r3,l5r4,l5r5a,l5r5b,l5r5,l5r6,l5r7,l5r8,l5r9,l5r10,l5r11,l5r12,l5r13,l5r14,hv,hT,ha',ha0,lr,dl,haN,hpd])
 | ((first|refine condB_split (fun h=>?_) (fun h=>?_)|refine gIf_split (fun h=>?_) (fun h=>?_)|refine qIf_split (fun h=>?_) (fun h=>?_))<;>(try simp only [h])<;>(try simp only [bitvec_to_nat] at h)<;>(try simp only [h])<;>(first|(exfalso;omega)|(focus (exfalso;simp_all;done))|(simp (disch:=omega) only [push_cast,seval,hv,hT,ha',ha0,lr,dl,haN,hpd])|skip))
 | ((first|((with_reducible refine callD_of (f:=22) true ?_);simp (disch:=omega) only [push_cast,seval,hv,hT,ha',ha0,lr,dl,haN,hpd];(refine call0D (wholeOf_ok _ _ _ _ _ ?_ ?_ ?_) ?_;(iterate 3 (exact sd));rintro _ _ ⟨rfl,rfl⟩)))<;>(try simp (disch:=omega) only [push_cast,seval,hv,hT,ha',ha0,lr,dl,haN,hpd]))
 | ((first|refine callD_of false ?_|refine qcallD_of false ?_);simp (disch:=omega) only [push_cast,seval,hv,hT,ha',ha0,lr,dl,haN,hpd])
 | ((first|((first|refine call0D (BCall.ofP (iValidView_ok _ _ _ _ _ ?_ ?_ ?_)) ?_|refine qcall0D (BCall.ofP (iValidView_ok _ _ _ _ _ ?_ ?_ ?_)) ⟨_,_,rfl,rfl⟩ ?_);(iterate 3 (exact sd));rintro _ _ ⟨rfl,rfl⟩)|((first|refine call0D (BCall.ofP (iValidShape_ok _ _ ?_ ?_)) ?_|refine qcall0D (BCall.ofP (iValidShape_ok _ _ ?_ ?_)) ⟨_,_,rfl,rfl⟩ ?_);(iterate 2 (exact sd));rintro _ _ ⟨rfl,rfl⟩)|((first|refine call0D (repD_ok _ _ _ ?_) ?_|refine qcall0D (repD_ok _ _ _ ?_) ⟨_,_,rfl,rfl⟩ ?_);(exact sd);rintro _ _ ⟨rfl,rfl⟩)|((with_reducible refine call0D (catD_ok _ _ _ _ ?_ ?_ ?_) ?_);(iterate 3 (exact sd));rintro _ _ ⟨rfl,rfl⟩)|((with_reducible refine qcall0D (catD_ok _ _ _ _ ?_ ?_ ?_) ⟨_,_,rfl,rfl⟩ ?_);(iterate 3 (exact sd));rintro _ _ ⟨rfl,rfl⟩)|((with_reducible refine call0D (catD0_ok) ?_);rintro _ _ ⟨rfl,rfl⟩)|((with_reducible refine qcall0D (catD0_ok) ⟨_,_,rfl,rfl⟩ ?_);rintro _ _ ⟨rfl,rfl⟩)|((with_reducible refine call0D (catD00_ok _ _ _ _ ?_ ?_ ?_) ?_);(iterate 3 (exact sd));rintro _ _ ⟨rfl,rfl⟩)|((with_reducible refine qcall0D (catD00_ok _ _ _ _ ?_ ?_ ?_) ⟨_,_,rfl,rfl⟩ ?_);(iterate 3 (exact sd));rintro _ _ ⟨rfl,rfl⟩)|((first|refine call0D (BCall.ofP (dimSpread_ok _ _ _)) ?_|refine qcall0D (BCall.ofP (dimSpread_ok _ _ _)) ⟨_,_,rfl,rfl⟩ ?_);rintro _ _ ⟨rfl,rfl⟩)|((first|refine call0D (settled_ok _ _ _ _ _ _ _ _ _ _ _ _ ?_ ?_ ?_) ?_|refine qcall0D (settled_ok _ _ _ _ _ _ _ _ _ _ _ _ ?_ ?_ ?_) ⟨_,_,rfl,rfl⟩ ?_);(iterate 3 (exact sd));rintro _ _ ⟨rfl,rfl⟩))<;>(try simp (disch:=omega) only [push_cast,seval,hv,hT,ha',ha0,lr,dl,haN,hpd]))
 | (refine awp_ret ⟨.inr rfl,[1104,1105],[],_,by decide,rfl,?_⟩;(try simp (disch:=omega) only [push_cast,seval,↓allMem_nil,↓allMem_cons,↓List.map_cons,↓List.map_nil,hv,hT,ha',ha0,lr,dl,haN,hpd]))))
      generalize sprS sh st T=S at *
      generalize padX 1 sh a=P at *
      generalize padX 0 st a=Q at *
      refine awp_loop (fun k:Nat=>mkS [(4,.ref 64 3 0),(7,.ref 112 8 0),(42,RI T),(43,.int .i64 T.length),(44,.int .i64 k)] [(64,[.int .i64 0,.val (.slice none 0 0),.val (.slice none 0 0)]),(112,[.int .i64 b,RI sh,RI st,.int .i64 0,.int .i64 0,.int .i64 0,.int .i64 0,.osl 640 (T.length * 2) 0 T.length 2 T.length]),(640,IL (dm (mixL T P k) (mixL S Q k)))])
        (fun k=>k ≤ T.length ∧ ∀ j,j < k → P.getD j 0=T.getD j 0 ∨ P.getD j 0=1) (fun k=>T.length - k) 0 ⟨Nat.zero_le _,fun j h=>absurd h (Nat.not_lt_zero _)⟩ ?_ ?_
      · rw [mixL_zero,mixL_zero]
        (refine Sub.of_lists ?_ ?_ ?_ ?_ ?_<;>simp [Vw.mkS,Vw.lk,Vw.hk,AV.inn,innL,innL_ints,innL_append,innL_rep,-List.map_set,-List.getD_eq_getElem?_getD])
      · rintro k ⟨hk,hj⟩
        have ml:=mixL_length (k:=k) (rfl:T.length=T.length) hPl hk
        have ml2:=mixL_length (k:=k) hSl hQl hk
        have dl2:=dm_length (sh:=mixL T P k) (st:=mixL S Q k) (by omega)
        rw [ml] at dl2
        by_cases hlt:k < T.length
        · have g1:=dm_even (k:=k) (sh:=mixL T P k) (st:=mixL S Q k) (by omega) (by omega)
          have g2:=dm_odd (k:=k) (sh:=mixL T P k) (st:=mixL S Q k) (by omega) (by omega)
          rw [mixL_getD (rfl:T.length=T.length) hPl hlt] at g1
          rw [mixL_getD hSl hQl hlt] at g2
          have s1:=mixL_succ (rfl:T.length=T.length) hPl hlt
          have s2:=mixL_succ hSl hQl hlt
          have ds:=dm_set (sh:=mixL T P k) (st:=mixL S Q k) (k:=k) (T.getD k 0) (S.getD k 0) (by omega) (by omega)
          rw [← s1,← s2,← hNew k hlt] at ds
          have hn2:=hNot k hlt
          clear s1 s2 hNew hAll hNot hpd
          generalize dm (mixL T P k) (mixL S Q k)=L at *
          generalize hX:(if P.getD k 0=T.getD k 0 then Q.getD k 0 else 0)=X at *
          cases hd:(decide (P.getD k 0=T.getD k 0) || decide (P.getD k 0=1)) with
          | true =>
            clear hn2
            (repeat' (first
 | (first|refine awp_seq ?_|refine awp_block ?_)
 | ((first|refine awp_reg ?_|refine awp_draw (mid:=l5r5a) (post:=l5r5b) mixed (by decide) ?_|refine awp_condB ?_|refine awp_skip ?_|refine awp_exit ?_);simp (disch:=omega) only [push_cast,seval,l5r0,l5r1,l5r2,l5r3,l5r4,l5r5a,l5r5b,l5r5,l5r6,l5r7,l5r8,l5r9,l5r10,l5r11,l5r12,l5r13,l5r14,g1,g2,dl2,hX,hd,setRange2])
 | ((first|refine condB_split (fun h=>?_) (fun h=>?_)|refine gIf_split (fun h=>?_) (fun h=>?_)|refine qIf_split (fun h=>?_) (fun h=>?_))<;>(try simp only [h])<;>(try simp only [bitvec_to_nat] at h)<;>(try simp only [h])<;>(first|(exfalso;omega)|(focus (exfalso;simp_all;done))|(simp (disch:=omega) only [push_cast,seval,g1,g2,dl2,hX,hd,setRange2])|skip))
 | ((first|((with_reducible refine callD_of (f:=22) true ?_);simp (disch:=omega) only [push_cast,seval,g1,g2,dl2,hX,hd,setRange2];(refine call0D (wholeOf_ok _ _ _ _ _ ?_ ?_ ?_) ?_;(iterate 3 (exact sd));rintro _ _ ⟨rfl,rfl⟩)))<;>(try simp (disch:=omega) only [push_cast,seval,g1,g2,dl2,hX,hd,setRange2]))
 | ((first|refine callD_of false ?_|refine qcallD_of false ?_);simp (disch:=omega) only [push_cast,seval,g1,g2,dl2,hX,hd,setRange2])
 | ((first|((first|refine call0D (BCall.ofP (iValidView_ok _ _ _ _ _ ?_ ?_ ?_)) ?_|refine qcall0D (BCall.ofP (iValidView_ok _ _ _ _ _ ?_ ?_ ?_)) ⟨_,_,rfl,rfl⟩ ?_);(iterate 3 (exact sd));rintro _ _ ⟨rfl,rfl⟩)|((first|refine call0D (BCall.ofP (iValidShape_ok _ _ ?_ ?_)) ?_|refine qcall0D (BCall.ofP (iValidShape_ok _ _ ?_ ?_)) ⟨_,_,rfl,rfl⟩ ?_);(iterate 2 (exact sd));rintro _ _ ⟨rfl,rfl⟩)|((first|refine call0D (repD_ok _ _ _ ?_) ?_|refine qcall0D (repD_ok _ _ _ ?_) ⟨_,_,rfl,rfl⟩ ?_);(exact sd);rintro _ _ ⟨rfl,rfl⟩)|((with_reducible refine call0D (catD_ok _ _ _ _ ?_ ?_ ?_) ?_);(iterate 3 (exact sd));rintro _ _ ⟨rfl,rfl⟩)|((with_reducible refine qcall0D (catD_ok _ _ _ _ ?_ ?_ ?_) ⟨_,_,rfl,rfl⟩ ?_);(iterate 3 (exact sd));rintro _ _ ⟨rfl,rfl⟩)|((with_reducible refine call0D (catD0_ok) ?_);rintro _ _ ⟨rfl,rfl⟩)|((with_reducible refine qcall0D (catD0_ok) ⟨_,_,rfl,rfl⟩ ?_);rintro _ _ ⟨rfl,rfl⟩)|((with_reducible refine call0D (catD00_ok _ _ _ _ ?_ ?_ ?_) ?_);(iterate 3 (exact sd));rintro _ _ ⟨rfl,rfl⟩)|((with_reducible refine qcall0D (catD00_ok _ _ _ _ ?_ ?_ ?_) ⟨_,_,rfl,rfl⟩ ?_);(iterate 3 (exact sd));rintro _ _ ⟨rfl,rfl⟩)|((first|refine call0D (BCall.ofP (dimSpread_ok _ _ _)) ?_|refine qcall0D (BCall.ofP (dimSpread_ok _ _ _)) ⟨_,_,rfl,rfl⟩ ?_);rintro _ _ ⟨rfl,rfl⟩)|((first|refine call0D (settled_ok _ _ _ _ _ _ _ _ _ _ _ _ ?_ ?_ ?_) ?_|refine qcall0D (settled_ok _ _ _ _ _ _ _ _ _ _ _ _ ?_ ?_ ?_) ⟨_,_,rfl,rfl⟩ ?_);(iterate 3 (exact sd));rintro _ _ ⟨rfl,rfl⟩))<;>(try simp (disch:=omega) only [push_cast,seval,g1,g2,dl2,hX,hd,setRange2]))
 | (refine awp_ret ⟨.inr rfl,[1104,1105],[],_,by decide,rfl,?_⟩; (try simp (disch := omega) only [push_cast,seval,↓allMem_nil,↓allMem_cons,↓List.map_cons,↓List.map_nil,g1,g2,dl2,hX,hd,setRange2]))))
            refine ⟨k + 1,⟨by omega,fun j h=>?_⟩,by omega,?_⟩
            · by_cases hjk:j=k
              · subst hjk;simpa using hd
              · exact hj j (by omega)
            · rw [← ds]
              (refine Sub.of_lists ?_ ?_ ?_ ?_ ?_<;>simp [Vw.mkS,Vw.lk,Vw.hk,AV.inn,innL,innL_ints,innL_append,innL_rep,-List.map_set,-List.getD_eq_getElem?_getD,dl2,IL_set])
          | false =>
            have hd':=hd
            simp only [Bool.or_eq_false_iff,decide_eq_false_iff_not] at hd'
            rw [hn2 hd'.1 hd'.2]
            clear hn2 hd' hj
            (repeat' (first
 | (first|refine awp_seq ?_|refine awp_block ?_)
 | ((first|refine awp_reg ?_|refine awp_draw (mid:=l5r5a) (post:=l5r5b) mixed (by decide) ?_|refine awp_condB ?_|refine awp_skip ?_|refine awp_exit ?_);simp (disch:=omega) only [push_cast,seval,l5r0,l5r1,l5r2,l5r3,l5r4,l5r5a,l5r5b,l5r5,l5r6,l5r7,l5r8,l5r9,l5r10,l5r11,l5r12,l5r13,l5r14,g1,g2,dl2,hX,hd])
 | ((first|refine condB_split (fun h=>?_) (fun h=>?_)|refine gIf_split (fun h=>?_) (fun h=>?_)|refine qIf_split (fun h=>?_) (fun h=>?_))<;>(try simp only [h])<;>(try simp only [bitvec_to_nat] at h)<;>(try simp only [h])<;>(first|(exfalso;omega)|(focus (exfalso;simp_all;done))|(simp (disch:=omega) only [push_cast,seval,g1,g2,dl2,hX,hd])|skip))
 | ((first|((with_reducible refine callD_of (f:=22) true ?_);simp (disch:=omega) only [push_cast,seval,g1,g2,dl2,hX,hd];(refine call0D (wholeOf_ok _ _ _ _ _ ?_ ?_ ?_) ?_;(iterate 3 (exact sd));rintro _ _ ⟨rfl,rfl⟩)))<;>(try simp (disch:=omega) only [push_cast,seval,g1,g2,dl2,hX,hd]))
 | ((first|refine callD_of false ?_|refine qcallD_of false ?_);simp (disch:=omega) only [push_cast,seval,g1,g2,dl2,hX,hd])
 | ((first|((first|refine call0D (BCall.ofP (iValidView_ok _ _ _ _ _ ?_ ?_ ?_)) ?_|refine qcall0D (BCall.ofP (iValidView_ok _ _ _ _ _ ?_ ?_ ?_)) ⟨_,_,rfl,rfl⟩ ?_);(iterate 3 (exact sd));rintro _ _ ⟨rfl,rfl⟩)|((first|refine call0D (BCall.ofP (iValidShape_ok _ _ ?_ ?_)) ?_|refine qcall0D (BCall.ofP (iValidShape_ok _ _ ?_ ?_)) ⟨_,_,rfl,rfl⟩ ?_);(iterate 2 (exact sd));rintro _ _ ⟨rfl,rfl⟩)|((first|refine call0D (repD_ok _ _ _ ?_) ?_|refine qcall0D (repD_ok _ _ _ ?_) ⟨_,_,rfl,rfl⟩ ?_);(exact sd);rintro _ _ ⟨rfl,rfl⟩)|((with_reducible refine call0D (catD_ok _ _ _ _ ?_ ?_ ?_) ?_);(iterate 3 (exact sd));rintro _ _ ⟨rfl,rfl⟩)|((with_reducible refine qcall0D (catD_ok _ _ _ _ ?_ ?_ ?_) ⟨_,_,rfl,rfl⟩ ?_);(iterate 3 (exact sd));rintro _ _ ⟨rfl,rfl⟩)|((with_reducible refine call0D (catD0_ok) ?_);rintro _ _ ⟨rfl,rfl⟩)|((with_reducible refine qcall0D (catD0_ok) ⟨_,_,rfl,rfl⟩ ?_);rintro _ _ ⟨rfl,rfl⟩)|((with_reducible refine call0D (catD00_ok _ _ _ _ ?_ ?_ ?_) ?_);(iterate 3 (exact sd));rintro _ _ ⟨rfl,rfl⟩)|((with_reducible refine qcall0D (catD00_ok _ _ _ _ ?_ ?_ ?_) ⟨_,_,rfl,rfl⟩ ?_);(iterate 3 (exact sd));rintro _ _ ⟨rfl,rfl⟩)|((first|refine call0D (BCall.ofP (dimSpread_ok _ _ _)) ?_|refine qcall0D (BCall.ofP (dimSpread_ok _ _ _)) ⟨_,_,rfl,rfl⟩ ?_);rintro _ _ ⟨rfl,rfl⟩)|((first|refine call0D (settled_ok _ _ _ _ _ _ _ _ _ _ _ _ ?_ ?_ ?_) ?_|refine qcall0D (settled_ok _ _ _ _ _ _ _ _ _ _ _ _ ?_ ?_ ?_) ⟨_,_,rfl,rfl⟩ ?_);(iterate 3 (exact sd));rintro _ _ ⟨rfl,rfl⟩))<;>(try simp (disch:=omega) only [push_cast,seval,g1,g2,dl2,hX,hd]))
 | (refine awp_ret ⟨.inr rfl,[16000,16016],[(16000,1),(16016,1)],_,by decide,rfl,?_⟩; (try simp (disch := omega) only [push_cast,seval,↓allMem_nil,↓allMem_cons,↓List.map_cons,↓List.map_nil,g1,g2,dl2,hX,hd]))))
            all_goals simp [MV,MVB,MVL]
        · have hke:k=T.length:=by omega
          subst hke
          rw [hAll fun k h=>hj k h]
          have m1:=mixL_all (rfl:T.length=T.length) hPl
          have m2:=mixL_all hSl hQl
          rw [m1,m2] at dl2 ⊢
          clear hNew hAll hNot hj m1 m2 ml ml2 hpd
          have tkm:List.take (T.length * 2) (List.map (AV.int .i64) (dm T S))=List.map (AV.int .i64) (dm T S):=List.take_of_length_le (by simp [dl2])
          have pk:S.length=T.length ∧ T.length=T.length:=⟨hSl,rfl⟩
          have pvk:((st.length ≤ 4 ∧ (-1000000 ≤ b ∧ b ≤ 1000000) ∧ ∀ i,i < st.length → (-60 ≤ at4 0 0 0 0 i ∧ at4 0 0 0 0 i ≤ 60) ∧ -12960000 ≤ st.getD i 0 ∧ st.getD i 0 ≤ 12960000) ∧ T.length ≤ 1000) ∧ good4 T:=⟨⟨pvb,by omega⟩,hg⟩
          (repeat' (first
 | (first|refine awp_seq ?_|refine awp_block ?_)
 | ((first|refine awp_reg ?_|refine awp_draw (mid:=l5r5a) (post:=l5r5b) mixed (by decide) ?_|refine awp_condB ?_|refine awp_skip ?_|refine awp_exit ?_);simp (disch:=omega) only [push_cast,seval,l5r0,l5r1,l5r2,l5r3,l5r4,l5r5a,l5r5b,l5r5,l5r6,l5r7,l5r8,l5r9,l5r10,l5r11,l5r12,l5r13,l5r14,dl2,tkm,d0,Int.add_zero])
 | ((first|refine condB_split (fun h=>?_) (fun h=>?_)|refine gIf_split (fun h=>?_) (fun h=>?_)|refine qIf_split (fun h=>?_) (fun h=>?_))<;>(try simp only [h])<;>(try simp only [bitvec_to_nat] at h)<;>(try simp only [h])<;>(first|(exfalso;omega)|(focus (exfalso;simp_all;done))|(simp (disch:=omega) only [push_cast,seval,dl2,tkm,d0,Int.add_zero])|skip))
 | ((first|((with_reducible refine callD_of (f:=22) true ?_);simp (disch:=omega) only [push_cast,seval,dl2,tkm,d0,Int.add_zero];(refine call0D (wholeOf_ok _ _ _ _ _ ?_ ?_ ?_) ?_;(iterate 3 (exact sd));rintro _ _ ⟨rfl,rfl⟩)))<;>(try simp (disch:=omega) only [push_cast,seval,dl2,tkm,d0,Int.add_zero]))
 | ((first|refine callD_of false ?_|refine qcallD_of false ?_);simp (disch:=omega) only [push_cast,seval,dl2,tkm,d0,Int.add_zero])
 | ((first|((first|refine call0D (BCall.ofP (iValidView_ok _ _ _ _ _ ?_ ?_ ?_)) ?_|refine qcall0D (BCall.ofP (iValidView_ok _ _ _ _ _ ?_ ?_ ?_)) ⟨_,_,rfl,rfl⟩ ?_);(iterate 3 (exact sd));rintro _ _ ⟨rfl,rfl⟩)|((first|refine call0D (BCall.ofP (iValidShape_ok _ _ ?_ ?_)) ?_|refine qcall0D (BCall.ofP (iValidShape_ok _ _ ?_ ?_)) ⟨_,_,rfl,rfl⟩ ?_);(iterate 2 (exact sd));rintro _ _ ⟨rfl,rfl⟩)|((first|refine call0D (repD_ok _ _ _ ?_) ?_|refine qcall0D (repD_ok _ _ _ ?_) ⟨_,_,rfl,rfl⟩ ?_);(exact sd);rintro _ _ ⟨rfl,rfl⟩)|((with_reducible refine call0D (catD_ok _ _ _ _ ?_ ?_ ?_) ?_);(iterate 3 (exact sd));rintro _ _ ⟨rfl,rfl⟩)|((with_reducible refine qcall0D (catD_ok _ _ _ _ ?_ ?_ ?_) ⟨_,_,rfl,rfl⟩ ?_);(iterate 3 (exact sd));rintro _ _ ⟨rfl,rfl⟩)|((with_reducible refine call0D (catD0_ok) ?_);rintro _ _ ⟨rfl,rfl⟩)|((with_reducible refine qcall0D (catD0_ok) ⟨_,_,rfl,rfl⟩ ?_);rintro _ _ ⟨rfl,rfl⟩)|((with_reducible refine call0D (catD00_ok _ _ _ _ ?_ ?_ ?_) ?_);(iterate 3 (exact sd));rintro _ _ ⟨rfl,rfl⟩)|((with_reducible refine qcall0D (catD00_ok _ _ _ _ ?_ ?_ ?_) ⟨_,_,rfl,rfl⟩ ?_);(iterate 3 (exact sd));rintro _ _ ⟨rfl,rfl⟩)|((first|refine call0D (BCall.ofP (dimSpread_ok _ _ _)) ?_|refine qcall0D (BCall.ofP (dimSpread_ok _ _ _)) ⟨_,_,rfl,rfl⟩ ?_);rintro _ _ ⟨rfl,rfl⟩)|((first|refine call0D (settled_ok _ _ _ _ _ _ _ _ _ _ _ _ ?_ ?_ ?_) ?_|refine qcall0D (settled_ok _ _ _ _ _ _ _ _ _ _ _ _ ?_ ?_ ?_) ⟨_,_,rfl,rfl⟩ ?_);(iterate 3 (exact sd));rintro _ _ ⟨rfl,rfl⟩))<;>(try simp (disch:=omega) only [push_cast,seval,dl2,tkm,d0,Int.add_zero]))
 | (refine awp_ret ⟨.inr rfl,[1104,1105],[],_,by decide,rfl,?_⟩; (try simp (disch := omega) only [push_cast,seval,↓allMem_nil,↓allMem_cons,↓List.map_cons,↓List.map_nil,dl2,tkm,d0,Int.add_zero]))))
          all_goals exact ⟨rfl,rfl⟩
  · rw [spA_short (by omega)]
    have hc:(T.length:Int) - (sh.length:Int) < 0:=by omega
    (repeat' (first
 | (first|refine awp_seq ?_|refine awp_block ?_)
 | ((first|refine awp_reg ?_|refine awp_draw (mid:=l5r5a) (post:=l5r5b) mixed (by decide) ?_|refine awp_condB ?_|refine awp_skip ?_|refine awp_exit ?_);simp (disch:=omega) only [push_cast,seval,l5r0,l5r1,l5r2,l5r3,l5r4,l5r5a,l5r5b,l5r5,l5r6,l5r7,l5r8,l5r9,l5r10,l5r11,l5r12,l5r13,l5r14,hv,hT,hc])
 | ((first|refine condB_split (fun h=>?_) (fun h=>?_)|refine gIf_split (fun h=>?_) (fun h=>?_)|refine qIf_split (fun h=>?_) (fun h=>?_))<;>(try simp only [h])<;>(try simp only [bitvec_to_nat] at h)<;>(try simp only [h])<;>(first|(exfalso;omega)|(focus (exfalso;simp_all;done))|(simp (disch:=omega) only [push_cast,seval,hv,hT,hc])|skip))
 | ((first|((with_reducible refine callD_of (f:=22) true ?_);simp (disch:=omega) only [push_cast,seval,hv,hT,hc];(refine call0D (wholeOf_ok _ _ _ _ _ ?_ ?_ ?_) ?_;(iterate 3 (exact sd));rintro _ _ ⟨rfl,rfl⟩)))<;>(try simp (disch:=omega) only [push_cast,seval,hv,hT,hc]))
 | ((first|refine callD_of false ?_|refine qcallD_of false ?_);simp (disch:=omega) only [push_cast,seval,hv,hT,hc])
 | ((first|((first|refine call0D (BCall.ofP (iValidView_ok _ _ _ _ _ ?_ ?_ ?_)) ?_|refine qcall0D (BCall.ofP (iValidView_ok _ _ _ _ _ ?_ ?_ ?_)) ⟨_,_,rfl,rfl⟩ ?_);(iterate 3 (exact sd));rintro _ _ ⟨rfl,rfl⟩)|((first|refine call0D (BCall.ofP (iValidShape_ok _ _ ?_ ?_)) ?_|refine qcall0D (BCall.ofP (iValidShape_ok _ _ ?_ ?_)) ⟨_,_,rfl,rfl⟩ ?_);(iterate 2 (exact sd));rintro _ _ ⟨rfl,rfl⟩)|((first|refine call0D (repD_ok _ _ _ ?_) ?_|refine qcall0D (repD_ok _ _ _ ?_) ⟨_,_,rfl,rfl⟩ ?_);(exact sd);rintro _ _ ⟨rfl,rfl⟩)|((with_reducible refine call0D (catD_ok _ _ _ _ ?_ ?_ ?_) ?_);(iterate 3 (exact sd));rintro _ _ ⟨rfl,rfl⟩)|((with_reducible refine qcall0D (catD_ok _ _ _ _ ?_ ?_ ?_) ⟨_,_,rfl,rfl⟩ ?_);(iterate 3 (exact sd));rintro _ _ ⟨rfl,rfl⟩)|((with_reducible refine call0D (catD0_ok) ?_);rintro _ _ ⟨rfl,rfl⟩)|((with_reducible refine qcall0D (catD0_ok) ⟨_,_,rfl,rfl⟩ ?_);rintro _ _ ⟨rfl,rfl⟩)|((with_reducible refine call0D (catD00_ok _ _ _ _ ?_ ?_ ?_) ?_);(iterate 3 (exact sd));rintro _ _ ⟨rfl,rfl⟩)|((with_reducible refine qcall0D (catD00_ok _ _ _ _ ?_ ?_ ?_) ⟨_,_,rfl,rfl⟩ ?_);(iterate 3 (exact sd));rintro _ _ ⟨rfl,rfl⟩)|((first|refine call0D (BCall.ofP (dimSpread_ok _ _ _)) ?_|refine qcall0D (BCall.ofP (dimSpread_ok _ _ _)) ⟨_,_,rfl,rfl⟩ ?_);rintro _ _ ⟨rfl,rfl⟩)|((first|refine call0D (settled_ok _ _ _ _ _ _ _ _ _ _ _ _ ?_ ?_ ?_) ?_|refine qcall0D (settled_ok _ _ _ _ _ _ _ _ _ _ _ _ ?_ ?_ ?_) ⟨_,_,rfl,rfl⟩ ?_);(iterate 3 (exact sd));rintro _ _ ⟨rfl,rfl⟩))<;>(try simp (disch:=omega) only [push_cast,seval,hv,hT,hc]))
 | (refine awp_ret ⟨.inr rfl,[16000,16016],[(16000,1),(16016,1)],_,by decide,rfl,?_⟩;(try simp (disch:=omega) only [push_cast,seval,↓allMem_nil,↓allMem_cons,↓List.map_cons,↓List.map_nil,hv,hT,hc]))))
    all_goals simp [MV,MVB,MVL]

end Go.Proofs.YtejbfjmiidofcaaGreat
