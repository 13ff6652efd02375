import Derived.Test.YtceopplkfomalaaGreatCKw8
import Derived.Test.YtceopplkfomalaaGreatCM1
import Derived.Test.YtceopplkfomalaaGreatCW3
set_option linter.unusedSimpArgs false
set_option linter.unusedVariables false
set_option maxRecDepth 4000
set_option maxHeartbeats 4000000
namespace Go.Proofs.YtceopplkfomalaaGreat
open VwM Vw Go

theorem fill_at {mem L V:List Int} {x:Int} (hV:∀ k,k < L.length → V.getD k 0=x) (hin:inM L mem.length):∀ k,k ≤ L.length → ∀ i,i < k → (putK mem L V k).getD (L.getD i 0).toNat 0=x
  | 0,_,i,hi=>absurd hi (Nat.not_lt_zero _)
  | k + 1,hk,i,hi=>by
    rw [putK]
    by_cases e:(L.getD k 0).toNat=(L.getD i 0).toNat
    · have:=hin i (by omega)
      rw [e,set_getD_self (by rw [putK_length];omega),hV k (by omega)]
    · have:i ≠ k:=fun h=>e (by rw [h])
      rw [set_getD_ne e]
      exact fill_at hV hin k (by omega) i (by omega)
def fillVP (r:AV):Prop:=∃ mem b sh st x k1 k2 k3,(mem.length=k1 ∧ sh.length=k2 ∧ st.length=k3 ∧ mem.length ≤ 60 ∧ sh.length ≤ 100 ∧ st.length ≤ 100) ∧ r=.tup [.rows true (IL mem) k1,.agg [.int .i64 b,.rows true (IL sh) k2,.rows true (IL st) k3],.int .i64 x]
def fillVB (r:AV) (H':List (List AV)):Prop:=∃ mem b sh st x,(mem.length ≤ 60 ∧ sh.length ≤ 100 ∧ st.length ≤ 100) ∧ r=.tup [.own 0 mem.length 1,.agg [.int .i64 b,.own 1 sh.length 1,.own 2 st.length 1],.int .i64 x] ∧ H'=[IL mem,IL sh,IL st]
theorem fillV_plain {P:Program} {f:Nat} {args:List AV} (h:BCall P f args [] fillVB):PCall P f args fillVP:=by
  refine (BCall.plain h).mono ?_
  rintro r ⟨r0,H',⟨mem,b,sh,st,x,⟨h1,h2,h3⟩,rfl,rfl⟩,rfl⟩
  exact ⟨mem,b,sh,st,x,_,_,_,⟨rfl,rfl,rfl,h1,h2,h3⟩,by simp [AV.ren,nthH,List.map_map,Function.comp_def]⟩


set_option maxHeartbeats 16000000 in
theorem drawFiVb_ok (bs:List Int) (n:Nat) (hn:bs.length=n) (hb:n ≤ 1099511627776 ∧ ∀ x ∈ bs,0 ≤ x ∧ x ≤ 255):BCall Tryz.prog 15 [.rows false (UL bs) n] [] fillVB:=by
  refine bcall_of (pins:=[]) (pin:=0) l15_eq rfl rfl rfl ?_
  unfold fillVB
  (repeat' (first
 | (first|refine awp_seq ?_|refine awp_block ?_)
 | ((first|refine awp_reg ?_|refine awp_drawX (mid:=l15r3a) (post:=l15r3b) [144] mixed (by decide) ?_|refine awp_condB ?_|refine awp_skip ?_|refine awp_exit ?_);simp (disch:=omega) only [push_cast,seval,l15r0,l15r1,l15r2,l15r3a,l15r3b,l15r3])
 | ((first|refine condB_split (fun h=>?_) (fun h=>?_)|refine gIf_split (fun h=>?_) (fun h=>?_)|refine qIf_split (fun h=>?_) (fun h=>?_))<;>(try simp only [h])<;>(try simp only [bitvec_to_nat] at h)<;>(try simp only [h])<;>(first|(exfalso;omega)|(focus (exfalso;simp_all;done))|(simp (disch:=omega) only [push_cast,seval])|skip))
 | ((first|((with_reducible refine callD_of (f:=21) true ?_);simp (disch:=omega) only [push_cast,seval];(refine call0D (newReader_ok _ _ ?_ ?_) ?_;(iterate 2 (exact sd));rintro _ _ ⟨bs0,hbs0,rfl,rfl⟩))|((with_reducible refine callD_ids (f:=22) [144] true ?_);simp (disch:=omega) only [push_cast,seval];(refine call1D (id:=144) (memView_ok _ _ ?_ ?_) (by first|((simp (disch:=omega) only [push_cast,seval]);done)|((simp (disch:=omega) only [push_cast,seval]);rfl)) ?_;(iterate 2 (exact sd));rintro _ _ ⟨mem,b,sh,st,q,⟨hm1,hm2,hl1,hl9,hl2⟩,hq,rfl,rfl⟩))|((with_reducible refine callD_ids (f:=37) (args:=[Operand.tmp 17,Operand.tmp 18]) [144,288] true ?_);simp (disch:=omega) only [push_cast,seval];(refine call2D (id:=144) (id':=288) (by decide) (one_ok _ _ _ _ ?_ ?_ ?_ ?_ ?_) (by first|((simp (disch:=omega) only [push_cast,seval]);done)|((simp (disch:=omega) only [push_cast,seval]);rfl)) (by first|((simp (disch:=omega) only [push_cast,seval]);done)|((simp (disch:=omega) only [push_cast,seval]);rfl)) ?_;(iterate 5 (exact sd));rintro _ _ ⟨x,hx,hx0,rfl,rfl⟩))|((with_reducible refine callD_ids (f:=37) [144] true ?_);simp (disch:=omega) only [push_cast,seval];(refine call1D (id:=144) (oneR_ok _ _ _ _ ?_ ?_ ?_ ?_ ?_) (by first|((simp (disch:=omega) only [push_cast,seval]);done)|((simp (disch:=omega) only [push_cast,seval]);rfl)) ?_;(iterate 5 (exact sd));rintro _ _ ⟨x,hx,hx0,rfl,rfl⟩))|((with_reducible refine qcallI_of (f:=37) [144] true ?_);simp (disch:=omega) only [push_cast,seval];(refine qcall1D (id:=144) (oneR_ok _ _ _ _ ?_ ?_ ?_ ?_ ?_) (by first|((simp (disch:=omega) only [push_cast,seval]);done)|((simp (disch:=omega) only [push_cast,seval]);rfl)) (by decide) (by simp only [unI_cons,unI_nil];exact ⟨_,_,_,List.mem_cons_self,by omega,rfl,rfl⟩) ?_;(iterate 5 (exact sd));rintro _ _ ⟨x,hx,hx0,rfl,rfl⟩)))<;>(try simp (disch:=omega) only [push_cast,seval]))
 | (refine awp_ret ⟨.inr rfl,[192,193,194],[],_,by decide,rfl,?_⟩;(try simp (disch:=omega) only [push_cast,seval,↓allMem_nil,↓allMem_cons,↓List.map_cons,↓List.map_nil]))))
  all_goals exact ⟨_,_,_,_,_,⟨by assumption,by have:=hl1.2;omega,by omega⟩,rfl,rfl⟩
theorem drawFiV_ok (bs:List Int) (n:Nat) (hn:bs.length=n) (hb:n ≤ 1099511627776 ∧ ∀ x ∈ bs,0 ≤ x ∧ x ≤ 255):PCall Tryz.prog 15 [.rows false (UL bs) n] fillVP:=fillV_plain (drawFiVb_ok bs n hn hb)


set_option maxHeartbeats 16000000 in
theorem lFnFiV_ok (bs:List Int) (hl:bs.length ≤ 9223372036854775807) (hb:∀ x ∈ bs,0 ≤ x ∧ x ≤ 255):PCall Tryz.prog 4 [.rows false (UL bs) bs.length] (fun r=>r=.bool true):=by
  refine pcall_of l4_eq rfl ?_
  by_cases h:bs.length ≤ 1048576
  · have q:bs.length ≤ 1099511627776 ∧ ∀ x ∈ bs,0 ≤ x ∧ x ≤ 255:=⟨by omega,hb⟩
    (repeat' (first
 | (refine awp_joinL (c1:=.reg l4r3) (fun x:List Int × Int × List Int × List Int × Int=>mkS [(3,.rows true (IL x.1) x.1.length),(4,.ref 64 3 0),(5,.int .i64 x.2.2.2.2)] [(64,[.int .i64 x.2.1,.rows true (IL x.2.2.1) x.2.2.1.length,.rows true (IL x.2.2.2.1) x.2.2.2.1.length])]) (fun x=>x.1.length ≤ 60 ∧ x.2.2.1.length ≤ 100 ∧ x.2.2.2.1.length ≤ 100) ?_ ?_)
 | (first|refine awp_seq ?_|refine awp_block ?_)
 | ((first|refine awp_reg ?_|refine awp_draw (mid:=l4r14a) (post:=l4r14b) mixed (by decide) ?_|refine awp_condB ?_|refine awp_skip ?_|refine awp_exit ?_);simp (disch:=omega) only [push_cast,seval,l4r0,l4r1,l4r2,l4r3,l4r4,l4r5,l4r6,l4r7,l4r8,l4r9,l4r10,l4r11,l4r12,l4r13,l4r14a,l4r14b,l4r14])
 | ((first|refine condB_split (fun h=>?_) (fun h=>?_)|refine gIf_split (fun h=>?_) (fun h=>?_)|refine qIf_split (fun h=>?_) (fun h=>?_))<;>(try simp only [h])<;>(try simp only [bitvec_to_nat] at h)<;>(try simp only [h])<;>(first|(exfalso;omega)|(focus (exfalso;simp_all;done))|(simp (disch:=omega) only [push_cast,seval])|skip))
 | ((first|refine callD_of false ?_|refine qcallD_of false ?_);simp (disch:=omega) only [push_cast,seval])
 | ((first|(refine call0D (BCall.ofP (drawFiV_ok _ _ ?_ ?_)) ?_;(iterate 2 (exact sd));rintro _ _ ⟨⟨mem,b,sh,st,x,_,_,_,⟨rfl,rfl,rfl,hm2,hl1,hl2⟩,rfl⟩,rfl⟩)|((first|refine call0D (iFill_ok _ _ _ _ _ _ _ _ ?_ ?_ ?_ ?_) ?_|refine qcall0D (iFill_ok _ _ _ _ _ _ _ _ ?_ ?_ ?_ ?_) ⟨_,_,rfl,rfl⟩ ?_);(iterate 4 (exact sd));rintro _ _ ⟨rfl,rfl⟩)|((first|refine call0D (sFill_ok _ _ _ _ _ _ _ _ ?_ ?_ ?_ ?_) ?_|refine qcall0D (sFill_ok _ _ _ _ _ _ _ _ ?_ ?_ ?_ ?_) ⟨_,_,rfl,rfl⟩ ?_);(iterate 4 (exact sd));rintro _ _ ⟨rfl,rfl⟩)|((first|refine call0D (BCall.ofP (equalInts_ok _ _ _ _ ?_ ?_ ?_)) ?_|refine qcall0D (BCall.ofP (equalInts_ok _ _ _ _ ?_ ?_ ?_)) ⟨_,_,rfl,rfl⟩ ?_);(iterate 3 (exact sd));rintro _ _ ⟨rfl,rfl⟩)|((first|refine call0D (iLoad_ok _ _ _ _ _ _ _ ?_ ?_ ?_ ?_) ?_|refine qcall0D (iLoad_ok _ _ _ _ _ _ _ ?_ ?_ ?_ ?_) ⟨_,_,rfl,rfl⟩ ?_);(iterate 4 (exact sd));rintro _ _ ⟨rfl,rfl⟩)|((first|refine call0D (iCh_ok _ _ _ _ ?_ ?_ ?_) ?_|refine qcall0D (iCh_ok _ _ _ _ ?_ ?_ ?_) ⟨_,_,rfl,rfl⟩ ?_);(iterate 3 (exact sd));rintro _ _ ⟨rfl,rfl⟩)|((first|refine call0D (iCe_ok _ _ _ _ _ ?_ ?_ ?_) ?_|refine qcall0D (iCe_ok _ _ _ _ _ ?_ ?_ ?_) ⟨_,_,rfl,rfl⟩ ?_);(iterate 3 (exact sd));rintro _ _ ⟨rfl,rfl⟩)|((first|refine call0D (BCall.ofP (lwithin_ok _ _ _ _ ?_ ?_ ?_)) ?_|refine qcall0D (BCall.ofP (lwithin_ok _ _ _ _ ?_ ?_ ?_)) ⟨_,_,rfl,rfl⟩ ?_);(iterate 3 (exact sd));rintro _ _ ⟨rfl,rfl⟩))<;>(try simp (disch:=omega) only [push_cast,seval]))
 | (refine awp_ret ⟨.inr rfl,_,rfl,?_⟩;(try simp (disch:=omega) only [push_cast,seval]))))
    · (refine exSub5 (Sub.of_eqs rfl rfl ?_ ?_ ?_) ?_;(focus (simp [Vw.mkS,Vw.lk,Vw.hk,AV.inn,innL,innL_ints,innL_append,innL_rep,-List.map_set,-List.getD_eq_getElem?_getD,innL_ints];done));(focus (simp [AV.inn,innL,Vw.hk,innL_ints];done));(focus (simp [AV.inn,innL,innL_ints,innL_append,innL_rep,Vw.hk,innL_ints];done));(try simp only);(first|omega|(refine ⟨?_,?_⟩<;>first|assumption|omega)|(refine ⟨?_,?_,?_⟩<;>first|assumption|omega)|(refine ⟨?_,?_,?_,?_⟩<;>first|assumption|omega)))
    · refine ⟨?_⟩
      rintro ⟨mem,b,sh,st,x⟩ ⟨hm2,hl1,hl2⟩
      try simp only at hm2 hl1 hl2 ⊢
      have hq:mem.length ≤ 1099511627776 ∧ sh.length ≤ 1099511627776 ∧ st.length ≤ 1099511627776:=by omega
      have hq2:sh.length ≤ 1099511627776 ∧ st.length ≤ 1099511627776:=by omega
      cases hT:filB mem b sh st x with
 | false =>
        have hQl:(MVL false (filL mem b sh st x)).length=0:=rfl
        generalize hQ:MVL false (filL mem b sh st x)=Q at *
        have hQ2:Q.length ≤ 1099511627776 ∧ Q.length ≤ 1099511627776:=by omega
        (repeat' (first
 | (first|refine awp_seq ?_|refine awp_block ?_)
 | ((first|refine awp_reg ?_|refine awp_draw (mid:=l4r14a) (post:=l4r14b) mixed (by decide) ?_|refine awp_condB ?_|refine awp_skip ?_|refine awp_exit ?_);simp (disch:=omega) only [push_cast,seval,l4r0,l4r1,l4r2,l4r3,l4r4,l4r5,l4r6,l4r7,l4r8,l4r9,l4r10,l4r11,l4r12,l4r13,l4r14a,l4r14b,l4r14,hT,hQ,decide_true])
 | ((first|refine condB_split (fun h=>?_) (fun h=>?_)|refine gIf_split (fun h=>?_) (fun h=>?_)|refine qIf_split (fun h=>?_) (fun h=>?_))<;>(try simp only [h])<;>(try simp only [bitvec_to_nat] at h)<;>(try simp only [h])<;>(first|(exfalso;omega)|(focus (exfalso;simp_all;done))|(simp (disch:=omega) only [push_cast,seval,hT,hQ,decide_true])|skip))
 | ((first|refine callD_of false ?_|refine qcallD_of false ?_);simp (disch:=omega) only [push_cast,seval,hT,hQ,decide_true])
 | ((first|(refine call0D (BCall.ofP (drawFiV_ok _ _ ?_ ?_)) ?_;(iterate 2 (exact sd));rintro _ _ ⟨⟨mem,b,sh,st,x,_,_,_,⟨rfl,rfl,rfl,hm2,hl1,hl2⟩,rfl⟩,rfl⟩)|((first|refine call0D (iFill_ok _ _ _ _ _ _ _ _ ?_ ?_ ?_ ?_) ?_|refine qcall0D (iFill_ok _ _ _ _ _ _ _ _ ?_ ?_ ?_ ?_) ⟨_,_,rfl,rfl⟩ ?_);(iterate 4 (exact sd));rintro _ _ ⟨rfl,rfl⟩)|((first|refine call0D (sFill_ok _ _ _ _ _ _ _ _ ?_ ?_ ?_ ?_) ?_|refine qcall0D (sFill_ok _ _ _ _ _ _ _ _ ?_ ?_ ?_ ?_) ⟨_,_,rfl,rfl⟩ ?_);(iterate 4 (exact sd));rintro _ _ ⟨rfl,rfl⟩)|((first|refine call0D (BCall.ofP (equalInts_ok _ _ _ _ ?_ ?_ ?_)) ?_|refine qcall0D (BCall.ofP (equalInts_ok _ _ _ _ ?_ ?_ ?_)) ⟨_,_,rfl,rfl⟩ ?_);(iterate 3 (exact sd));rintro _ _ ⟨rfl,rfl⟩)|((first|refine call0D (iLoad_ok _ _ _ _ _ _ _ ?_ ?_ ?_ ?_) ?_|refine qcall0D (iLoad_ok _ _ _ _ _ _ _ ?_ ?_ ?_ ?_) ⟨_,_,rfl,rfl⟩ ?_);(iterate 4 (exact sd));rintro _ _ ⟨rfl,rfl⟩)|((first|refine call0D (iCh_ok _ _ _ _ ?_ ?_ ?_) ?_|refine qcall0D (iCh_ok _ _ _ _ ?_ ?_ ?_) ⟨_,_,rfl,rfl⟩ ?_);(iterate 3 (exact sd));rintro _ _ ⟨rfl,rfl⟩)|((first|refine call0D (iCe_ok _ _ _ _ _ ?_ ?_ ?_) ?_|refine qcall0D (iCe_ok _ _ _ _ _ ?_ ?_ ?_) ⟨_,_,rfl,rfl⟩ ?_);(iterate 3 (exact sd));rintro _ _ ⟨rfl,rfl⟩)|((first|refine call0D (BCall.ofP (lwithin_ok _ _ _ _ ?_ ?_ ?_)) ?_|refine qcall0D (BCall.ofP (lwithin_ok _ _ _ _ ?_ ?_ ?_)) ⟨_,_,rfl,rfl⟩ ?_);(iterate 3 (exact sd));rintro _ _ ⟨rfl,rfl⟩))<;>(try simp (disch:=omega) only [push_cast,seval,hT,hQ,decide_true]))
 | (refine awp_ret ⟨.inr rfl,_,rfl,?_⟩;(try simp (disch:=omega) only [push_cast,seval,hT,hQ,decide_true]))))
        all_goals (try simp)
 | true =>
        have hT1:=hT
        simp only [filB,Bool.and_eq_true,decide_eq_true_eq] at hT1
        have hpr:=see_facts hT1.1
        have hV:∀ k,k < (pr sh).toNat → (rpt [x] (pr sh).toNat).getD k 0=x:=fun k hk=>rpt_at hk
        have hT2:takB mem b sh st (rpt [x] (pr sh).toNat)=true:=by
          simp only [takB,Bool.and_eq_true,decide_eq_true_eq]
          refine ⟨⟨hT1.1,by rw [rpt_one,List.length_replicate];omega⟩,allI_iff.2 fun v hv=>?_⟩
          rw [rpt_one] at hv
          rw [List.eq_of_mem_replicate hv]
          omega
        obtain ⟨⟨g1,g2,g3,g4⟩,hin,hLv,hL60,hwc⟩:=w8_facts hT2
        have hol:=offs_length b sh st
        have hat:∀ i,i < (offs b sh st).length → (takesL (putL mem (offs b sh st) (rpt [x] (pr sh).toNat)) (offs b sh st)).getD i 0=x:=fun i hi=>by
          rw [takesL_getD hi]
          exact fill_at (fun k hk=>hV k (by omega)) hin _ (Nat.le_refl _) i hi
        have hpl:=putL_length mem (offs b sh st) (rpt [x] (pr sh).toNat)
        have htl:=takesL_length (putL mem (offs b sh st) (rpt [x] (pr sh).toNat)) (offs b sh st)
        have hfl:filL mem b sh st x=putL mem (offs b sh st) (rpt [x] (pr sh).toNat):=rfl
        generalize hL:offs b sh st=L at *
        generalize hP:putL mem L (rpt [x] (pr sh).toNat)=P at *
        generalize hR:takesL P L=R at *
        generalize hX:chL mem P=X at *
        generalize hC:bothL L L=C at *
        have hP2:P.length ≤ 1099511627776 ∧ P.length ≤ 1099511627776:=by omega
        have hP3:mem.length ≤ 1099511627776 ∧ P.length ≤ 1099511627776:=by omega
        have hP4:P.length ≤ 1099511627776 ∧ sh.length ≤ 1099511627776 ∧ st.length ≤ 1099511627776:=by omega
        clear hin hV hT1 hpr hT2
        (repeat' (first
 | (first|refine awp_seq ?_|refine awp_block ?_)
 | ((first|refine awp_reg ?_|refine awp_draw (mid:=l4r14a) (post:=l4r14b) mixed (by decide) ?_|refine awp_condB ?_|refine awp_skip ?_|refine awp_exit ?_);simp (disch:=omega) only [push_cast,seval,l4r0,l4r1,l4r2,l4r3,l4r4,l4r5,l4r6,l4r7,l4r8,l4r9,l4r10,l4r11,l4r12,l4r13,l4r14a,l4r14b,l4r14,hT,MVL_true,hL,hfl,hR,hX,hC,g1,g2,g3,g4,decide_true])
 | ((first|refine condB_split (fun h=>?_) (fun h=>?_)|refine gIf_split (fun h=>?_) (fun h=>?_)|refine qIf_split (fun h=>?_) (fun h=>?_))<;>(try simp only [h])<;>(try simp only [bitvec_to_nat] at h)<;>(try simp only [h])<;>(first|(exfalso;omega)|(focus (exfalso;simp_all;done))|(simp (disch:=omega) only [push_cast,seval,hT,MVL_true,hL,hfl,hR,hX,hC,g1,g2,g3,g4,decide_true])|skip))
 | ((first|refine callD_of false ?_|refine qcallD_of false ?_);simp (disch:=omega) only [push_cast,seval,hT,MVL_true,hL,hfl,hR,hX,hC,g1,g2,g3,g4,decide_true])
 | ((first|(refine call0D (BCall.ofP (drawFiV_ok _ _ ?_ ?_)) ?_;(iterate 2 (exact sd));rintro _ _ ⟨⟨mem,b,sh,st,x,_,_,_,⟨rfl,rfl,rfl,hm2,hl1,hl2⟩,rfl⟩,rfl⟩)|((first|refine call0D (iFill_ok _ _ _ _ _ _ _ _ ?_ ?_ ?_ ?_) ?_|refine qcall0D (iFill_ok _ _ _ _ _ _ _ _ ?_ ?_ ?_ ?_) ⟨_,_,rfl,rfl⟩ ?_);(iterate 4 (exact sd));rintro _ _ ⟨rfl,rfl⟩)|((first|refine call0D (sFill_ok _ _ _ _ _ _ _ _ ?_ ?_ ?_ ?_) ?_|refine qcall0D (sFill_ok _ _ _ _ _ _ _ _ ?_ ?_ ?_ ?_) ⟨_,_,rfl,rfl⟩ ?_);(iterate 4 (exact sd));rintro _ _ ⟨rfl,rfl⟩)|((first|refine call0D (BCall.ofP (equalInts_ok _ _ _ _ ?_ ?_ ?_)) ?_|refine qcall0D (BCall.ofP (equalInts_ok _ _ _ _ ?_ ?_ ?_)) ⟨_,_,rfl,rfl⟩ ?_);(iterate 3 (exact sd));rintro _ _ ⟨rfl,rfl⟩)|((first|refine call0D (iLoad_ok _ _ _ _ _ _ _ ?_ ?_ ?_ ?_) ?_|refine qcall0D (iLoad_ok _ _ _ _ _ _ _ ?_ ?_ ?_ ?_) ⟨_,_,rfl,rfl⟩ ?_);(iterate 4 (exact sd));rintro _ _ ⟨rfl,rfl⟩)|((first|refine call0D (iCh_ok _ _ _ _ ?_ ?_ ?_) ?_|refine qcall0D (BCall.ofP (plainI (iCh_ok _ _ _ _ ?_ ?_ ?_))) ⟨_,_,rfl,rfl⟩ ?_);(iterate 3 (exact sd));rintro _ _ ⟨rfl,rfl⟩)|((first|refine call0D (iCe_ok _ _ _ _ _ ?_ ?_ ?_) ?_|refine qcall0D (iCe_ok _ _ _ _ _ ?_ ?_ ?_) ⟨_,_,rfl,rfl⟩ ?_);(iterate 3 (exact sd));rintro _ _ ⟨rfl,rfl⟩)|((first|refine call0D (BCall.ofP (lwithin_ok _ _ _ _ ?_ ?_ ?_)) ?_|refine qcall0D (BCall.ofP (lwithin_ok _ _ _ _ ?_ ?_ ?_)) ⟨_,_,rfl,rfl⟩ ?_);(iterate 3 (exact sd));rintro _ _ ⟨rfl,rfl⟩))<;>(try simp (disch:=omega) only [push_cast,seval,hT,MVL_true,hL,hfl,hR,hX,hC,g1,g2,g3,g4,decide_true]))
 | (refine awp_ret ⟨.inr rfl,_,rfl,?_⟩;(try simp (disch:=omega) only [push_cast,seval,hT,MVL_true,hL,hfl,hR,hX,hC,g1,g2,g3,g4,decide_true]))))
        refine awp_loop (fun k:Nat=>mkS [(3,.rows true (IL mem) mem.length),(4,.ref 64 3 0),(5,.int .i64 x),(6,.own 400 P.length 1),(10,.own 928 R.length 1),(11,.int .i64 k)] [(64,[.int .i64 b,.rows true (IL sh) sh.length,.rows true (IL st) st.length]),(400,IL P),(928,IL R)]) (fun k=>k ≤ R.length) (fun k=>R.length - k) 0 (Nat.zero_le _) ?_ ?_
        · (refine Sub.of_lists ?_ ?_ ?_ ?_ ?_<;>simp [Vw.mkS,Vw.lk,Vw.hk,AV.inn,innL,innL_ints,innL_append,innL_rep,-List.map_set,-List.getD_eq_getElem?_getD])
        · intro k hk
          by_cases hlt:k < R.length
          · have hx:=hat k (by omega)
            (repeat' (first
 | (first|refine awp_seq ?_|refine awp_block ?_)
 | ((first|refine awp_reg ?_|refine awp_draw (mid:=l4r14a) (post:=l4r14b) mixed (by decide) ?_|refine awp_condB ?_|refine awp_skip ?_|refine awp_exit ?_);simp (disch:=omega) only [push_cast,seval,l4r0,l4r1,l4r2,l4r3,l4r4,l4r5,l4r6,l4r7,l4r8,l4r9,l4r10,l4r11,l4r12,l4r13,l4r14a,l4r14b,l4r14,hx,decide_false])
 | ((first|refine condB_split (fun h=>?_) (fun h=>?_)|refine gIf_split (fun h=>?_) (fun h=>?_)|refine qIf_split (fun h=>?_) (fun h=>?_))<;>(try simp only [h])<;>(try simp only [bitvec_to_nat] at h)<;>(try simp only [h])<;>(first|(exfalso;omega)|(focus (exfalso;simp_all;done))|(simp (disch:=omega) only [push_cast,seval,hx,decide_false])|skip))
 | ((first|refine callD_of false ?_|refine qcallD_of false ?_);simp (disch:=omega) only [push_cast,seval,hx,decide_false])
 | ((first|(refine call0D (BCall.ofP (drawFiV_ok _ _ ?_ ?_)) ?_;(iterate 2 (exact sd));rintro _ _ ⟨⟨mem,b,sh,st,x,_,_,_,⟨rfl,rfl,rfl,hm2,hl1,hl2⟩,rfl⟩,rfl⟩)|((first|refine call0D (iFill_ok _ _ _ _ _ _ _ _ ?_ ?_ ?_ ?_) ?_|refine qcall0D (iFill_ok _ _ _ _ _ _ _ _ ?_ ?_ ?_ ?_) ⟨_,_,rfl,rfl⟩ ?_);(iterate 4 (exact sd));rintro _ _ ⟨rfl,rfl⟩)|((first|refine call0D (sFill_ok _ _ _ _ _ _ _ _ ?_ ?_ ?_ ?_) ?_|refine qcall0D (sFill_ok _ _ _ _ _ _ _ _ ?_ ?_ ?_ ?_) ⟨_,_,rfl,rfl⟩ ?_);(iterate 4 (exact sd));rintro _ _ ⟨rfl,rfl⟩)|((first|refine call0D (BCall.ofP (equalInts_ok _ _ _ _ ?_ ?_ ?_)) ?_|refine qcall0D (BCall.ofP (equalInts_ok _ _ _ _ ?_ ?_ ?_)) ⟨_,_,rfl,rfl⟩ ?_);(iterate 3 (exact sd));rintro _ _ ⟨rfl,rfl⟩)|((first|refine call0D (iLoad_ok _ _ _ _ _ _ _ ?_ ?_ ?_ ?_) ?_|refine qcall0D (iLoad_ok _ _ _ _ _ _ _ ?_ ?_ ?_ ?_) ⟨_,_,rfl,rfl⟩ ?_);(iterate 4 (exact sd));rintro _ _ ⟨rfl,rfl⟩)|((first|refine call0D (iCh_ok _ _ _ _ ?_ ?_ ?_) ?_|refine qcall0D (iCh_ok _ _ _ _ ?_ ?_ ?_) ⟨_,_,rfl,rfl⟩ ?_);(iterate 3 (exact sd));rintro _ _ ⟨rfl,rfl⟩)|((first|refine call0D (iCe_ok _ _ _ _ _ ?_ ?_ ?_) ?_|refine qcall0D (iCe_ok _ _ _ _ _ ?_ ?_ ?_) ⟨_,_,rfl,rfl⟩ ?_);(iterate 3 (exact sd));rintro _ _ ⟨rfl,rfl⟩)|((first|refine call0D (BCall.ofP (lwithin_ok _ _ _ _ ?_ ?_ ?_)) ?_|refine qcall0D (BCall.ofP (lwithin_ok _ _ _ _ ?_ ?_ ?_)) ⟨_,_,rfl,rfl⟩ ?_);(iterate 3 (exact sd));rintro _ _ ⟨rfl,rfl⟩))<;>(try simp (disch:=omega) only [push_cast,seval,hx,decide_false]))
 | (refine awp_ret ⟨.inr rfl,_,rfl,?_⟩; (try simp (disch := omega) only [push_cast,seval,hx,decide_false]))))
            refine ⟨k + 1,by omega,by omega,?_⟩
            (refine Sub.of_lists ?_ ?_ ?_ ?_ ?_<;>simp [Vw.mkS,Vw.lk,Vw.hk,AV.inn,innL,innL_ints,innL_append,innL_rep,-List.map_set,-List.getD_eq_getElem?_getD])
          · (repeat' (first
 | (first|refine awp_seq ?_|refine awp_block ?_)
 | ((first|refine awp_reg ?_|refine awp_draw (mid:=l4r14a) (post:=l4r14b) mixed (by decide) ?_|refine awp_condB ?_|refine awp_skip ?_|refine awp_exit ?_);simp (disch:=omega) only [push_cast,seval,l4r0,l4r1,l4r2,l4r3,l4r4,l4r5,l4r6,l4r7,l4r8,l4r9,l4r10,l4r11,l4r12,l4r13,l4r14a,l4r14b,l4r14,MVL_true,hL,hX,hC,g1,g4,List.length_map,decide_true])
 | ((first|refine condB_split (fun h=>?_) (fun h=>?_)|refine gIf_split (fun h=>?_) (fun h=>?_)|refine qIf_split (fun h=>?_) (fun h=>?_))<;>(try simp only [h])<;>(try simp only [bitvec_to_nat] at h)<;>(try simp only [h])<;>(first|(exfalso;omega)|(focus (exfalso;simp_all;done))|(simp (disch:=omega) only [push_cast,seval,MVL_true,hL,hX,hC,g1,g4,List.length_map,decide_true])|skip))
 | ((first|refine callD_of false ?_|refine qcallD_of false ?_);simp (disch:=omega) only [push_cast,seval,MVL_true,hL,hX,hC,g1,g4,List.length_map,decide_true])
 | ((first|(refine call0D (BCall.ofP (drawFiV_ok _ _ ?_ ?_)) ?_;(iterate 2 (exact sd));rintro _ _ ⟨⟨mem,b,sh,st,x,_,_,_,⟨rfl,rfl,rfl,hm2,hl1,hl2⟩,rfl⟩,rfl⟩)|((first|refine call0D (iFill_ok _ _ _ _ _ _ _ _ ?_ ?_ ?_ ?_) ?_|refine qcall0D (iFill_ok _ _ _ _ _ _ _ _ ?_ ?_ ?_ ?_) ⟨_,_,rfl,rfl⟩ ?_);(iterate 4 (exact sd));rintro _ _ ⟨rfl,rfl⟩)|((first|refine call0D (sFill_ok _ _ _ _ _ _ _ _ ?_ ?_ ?_ ?_) ?_|refine qcall0D (sFill_ok _ _ _ _ _ _ _ _ ?_ ?_ ?_ ?_) ⟨_,_,rfl,rfl⟩ ?_);(iterate 4 (exact sd));rintro _ _ ⟨rfl,rfl⟩)|((first|refine call0D (BCall.ofP (equalInts_ok _ _ _ _ ?_ ?_ ?_)) ?_|refine qcall0D (BCall.ofP (equalInts_ok _ _ _ _ ?_ ?_ ?_)) ⟨_,_,rfl,rfl⟩ ?_);(iterate 3 (exact sd));rintro _ _ ⟨rfl,rfl⟩)|((first|refine call0D (iLoad_ok _ _ _ _ _ _ _ ?_ ?_ ?_ ?_) ?_|refine qcall0D (iLoad_ok _ _ _ _ _ _ _ ?_ ?_ ?_ ?_) ⟨_,_,rfl,rfl⟩ ?_);(iterate 4 (exact sd));rintro _ _ ⟨rfl,rfl⟩)|((first|refine call0D (iCh_ok _ _ _ _ ?_ ?_ ?_) ?_|refine qcall0D (BCall.ofP (plainI (iCh_ok _ _ _ _ ?_ ?_ ?_))) ⟨_,_,rfl,rfl⟩ ?_);(iterate 3 (exact sd));rintro _ _ ⟨rfl,rfl⟩)|((first|refine call0D (iCe_ok _ _ _ _ _ ?_ ?_ ?_) ?_|refine qcall0D (iCe_ok _ _ _ _ _ ?_ ?_ ?_) ⟨_,_,rfl,rfl⟩ ?_);(iterate 3 (exact sd));rintro _ _ ⟨rfl,rfl⟩)|((first|refine call0D (BCall.ofP (lwithin_ok _ _ _ _ ?_ ?_ ?_)) ?_|refine qcall0D (BCall.ofP (lwithin_ok _ _ _ _ ?_ ?_ ?_)) ⟨_,_,rfl,rfl⟩ ?_);(iterate 3 (exact sd));rintro _ _ ⟨rfl,rfl⟩))<;>(try simp (disch:=omega) only [push_cast,seval,MVL_true,hL,hX,hC,g1,g4,List.length_map,decide_true]))
 | (refine awp_ret ⟨.inr rfl,_,rfl,?_⟩; (try simp (disch := omega) only [push_cast,seval,MVL_true,hL,hX,hC,g1,g4,List.length_map,decide_true]))))
            all_goals (try simp)
  · (repeat' (first
 | (first|refine awp_seq ?_|refine awp_block ?_)
 | ((first|refine awp_reg ?_|refine awp_draw (mid:=l4r14a) (post:=l4r14b) mixed (by decide) ?_|refine awp_condB ?_|refine awp_skip ?_|refine awp_exit ?_);simp (disch:=omega) only [push_cast,seval,l4r0,l4r1,l4r2,l4r3,l4r4,l4r5,l4r6,l4r7,l4r8,l4r9,l4r10,l4r11,l4r12,l4r13,l4r14a,l4r14b,l4r14])
 | ((first|refine condB_split (fun h=>?_) (fun h=>?_)|refine gIf_split (fun h=>?_) (fun h=>?_)|refine qIf_split (fun h=>?_) (fun h=>?_))<;>(try simp only [h])<;>(try simp only [bitvec_to_nat] at h)<;>(try simp only [h])<;>(first|(exfalso;omega)|(focus (exfalso;simp_all;done))|(simp (disch:=omega) only [push_cast,seval])|skip))
 | ((first|refine callD_of false ?_|refine qcallD_of false ?_);simp (disch:=omega) only [push_cast,seval])
 | ((first|(refine call0D (BCall.ofP (drawFiV_ok _ _ ?_ ?_)) ?_;(iterate 2 (exact sd));rintro _ _ ⟨⟨mem,b,sh,st,x,_,_,_,⟨rfl,rfl,rfl,hm2,hl1,hl2⟩,rfl⟩,rfl⟩)|((first|refine call0D (iFill_ok _ _ _ _ _ _ _ _ ?_ ?_ ?_ ?_) ?_|refine qcall0D (iFill_ok _ _ _ _ _ _ _ _ ?_ ?_ ?_ ?_) ⟨_,_,rfl,rfl⟩ ?_);(iterate 4 (exact sd));rintro _ _ ⟨rfl,rfl⟩)|((first|refine call0D (sFill_ok _ _ _ _ _ _ _ _ ?_ ?_ ?_ ?_) ?_|refine qcall0D (sFill_ok _ _ _ _ _ _ _ _ ?_ ?_ ?_ ?_) ⟨_,_,rfl,rfl⟩ ?_);(iterate 4 (exact sd));rintro _ _ ⟨rfl,rfl⟩)|((first|refine call0D (BCall.ofP (equalInts_ok _ _ _ _ ?_ ?_ ?_)) ?_|refine qcall0D (BCall.ofP (equalInts_ok _ _ _ _ ?_ ?_ ?_)) ⟨_,_,rfl,rfl⟩ ?_);(iterate 3 (exact sd));rintro _ _ ⟨rfl,rfl⟩)|((first|refine call0D (iLoad_ok _ _ _ _ _ _ _ ?_ ?_ ?_ ?_) ?_|refine qcall0D (iLoad_ok _ _ _ _ _ _ _ ?_ ?_ ?_ ?_) ⟨_,_,rfl,rfl⟩ ?_);(iterate 4 (exact sd));rintro _ _ ⟨rfl,rfl⟩)|((first|refine call0D (iCh_ok _ _ _ _ ?_ ?_ ?_) ?_|refine qcall0D (iCh_ok _ _ _ _ ?_ ?_ ?_) ⟨_,_,rfl,rfl⟩ ?_);(iterate 3 (exact sd));rintro _ _ ⟨rfl,rfl⟩)|((first|refine call0D (iCe_ok _ _ _ _ _ ?_ ?_ ?_) ?_|refine qcall0D (iCe_ok _ _ _ _ _ ?_ ?_ ?_) ⟨_,_,rfl,rfl⟩ ?_);(iterate 3 (exact sd));rintro _ _ ⟨rfl,rfl⟩)|((first|refine call0D (BCall.ofP (lwithin_ok _ _ _ _ ?_ ?_ ?_)) ?_|refine qcall0D (BCall.ofP (lwithin_ok _ _ _ _ ?_ ?_ ?_)) ⟨_,_,rfl,rfl⟩ ?_);(iterate 3 (exact sd));rintro _ _ ⟨rfl,rfl⟩))<;>(try simp (disch:=omega) only [push_cast,seval]))
 | (refine awp_ret ⟨.inr rfl,_,rfl,?_⟩;(try simp (disch:=omega) only [push_cast,seval]))))

end Go.Proofs.YtceopplkfomalaaGreat
