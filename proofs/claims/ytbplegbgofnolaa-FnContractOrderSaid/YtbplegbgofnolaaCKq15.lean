import Derived.Test.YtbplegbgofnolaaCKq14
import Derived.Test.YtbplegbgofnolaaCM1
import Derived.Test.YtbplegbgofnolaaCW3
set_option linter.unusedSimpArgs false
set_option linter.unusedVariables false
set_option maxRecDepth 4000
set_option maxHeartbeats 4000000
namespace Go.Proofs.Ytbplegbgofnolaa
open VwM Vw Go

theorem lequT_ok (s t s' t':List Int) (n m n' m':Nat) (h:(s.length=n ∧ t.length=m) ∧ s'.length=n' ∧ t'.length=m') (hb:(n ≤ 1099511627776 ∧ m ≤ 1099511627776) ∧ n' ≤ 1099511627776 ∧ m' ≤ 1099511627776):PCall Try.prog 19 [.agg [.rows false (IL s) n,.rows false (IL t) m],.agg [.rows false (IL s') n',.rows false (IL t') m']] (fun r=>r=.bool (decide (s=s') && decide (t=t'))):=by
  obtain ⟨⟨rfl,rfl⟩,rfl,rfl⟩:=h
  refine pcall_of l19_eq rfl ?_
  (repeat' (first
 | (first|refine awp_seq ?_|refine awp_block ?_)
 | ((first|refine awp_reg ?_|refine awp_condB ?_|refine awp_skip ?_|refine awp_exit ?_);simp (disch:=omega) only [push_cast,seval,l19r0,l19r1])
 | ((first|refine condB_split (fun h=>?_) (fun h=>?_)|refine gIf_split (fun h=>?_) (fun h=>?_)|refine qIf_split (fun h=>?_) (fun h=>?_))<;>(try simp only [h])<;>(try simp only [bitvec_to_nat] at h)<;>(try simp only [h])<;>(first|(exfalso;omega)|(focus (exfalso;simp_all;done))|(simp (disch:=omega) only [push_cast,seval])|skip))
 | ((first|refine callD_of false ?_|refine qcallD_of false ?_);simp (disch:=omega) only [push_cast,seval])
 | ((first|((first|refine call0D (BCall.ofP (equalInts_ok _ _ _ _ ?_ ?_ ?_)) ?_|refine qcall0D (BCall.ofP (equalInts_ok _ _ _ _ ?_ ?_ ?_)) ⟨_,_,rfl,rfl⟩ ?_);(iterate 3 (exact sd));rintro _ _ ⟨rfl,rfl⟩))<;>(try simp (disch:=omega) only [push_cast,seval]))
 | (refine awp_ret ⟨.inr rfl,_,rfl,?_⟩;(try simp (disch:=omega) only [push_cast,seval]))))
  all_goals (first|rfl|(simp_all;done)|(simp_all;omega)|(simp;omega)|(simp;grind)|(simp_all;grind)|skip)


set_option maxHeartbeats 8000000 in
theorem drawCtB_ok (bs:List Int) (n:Nat) (hn:bs.length=n) (hb:n ≤ 1099511627776 ∧ ∀ x ∈ bs,0 ≤ x ∧ x ≤ 255):BCall Try.prog 20 [.rows false (UL bs) n] [] (fun r H'=>∃ (ts:List Tn) (ls:List (List Int)) (out:List Int),prodF ts ls out ∧ r=.tup [.own 0 ts.length 2,.own 1 ls.length 1,.own 2 out.length 1] ∧ H'=[TL true ts,LL true ls,IL out]):=by
  refine bcall_of (pins:=[]) (pin:=0) l20_eq rfl rfl rfl ?_
  (repeat' (first
 | (first|refine awp_seq ?_|refine awp_block ?_)
 | ((first|refine awp_reg ?_|refine awp_condB ?_|refine awp_skip ?_|refine awp_exit ?_);simp (disch:=omega) only [push_cast,seval,l20r0,l20r1,l20r2,innL_TL,innL_LL])
 | ((first|refine condB_split (fun h=>?_) (fun h=>?_)|refine gIf_split (fun h=>?_) (fun h=>?_)|refine qIf_split (fun h=>?_) (fun h=>?_))<;>(try simp only [h])<;>(try simp only [bitvec_to_nat] at h)<;>(try simp only [h])<;>(first|(exfalso;omega)|(focus (exfalso;simp_all;done))|(simp (disch:=omega) only [push_cast,seval,innL_TL,innL_LL])|skip))
 | ((first|((with_reducible refine callD_of (f:=44) true ?_);simp (disch:=omega) only [push_cast,seval,innL_TL,innL_LL];(refine call0D (newReader_ok _ _ ?_ ?_) ?_;(iterate 2 (exact sd));rintro _ _ ⟨bs0,hbs0,rfl,rfl⟩))|((with_reducible refine callD_ids (f:=46) (args:=[Operand.tmp 9,Operand.tmp 10]) [112,160] true ?_);simp (disch:=omega) only [push_cast,seval,innL_TL,innL_LL];(refine call2D (id:=112) (id':=160) (by decide) (one_ok _ _ _ _ ?_ ?_ ?_ ?_ ?_) (by first|((simp (disch:=omega) only [push_cast,seval,innL_TL,innL_LL]);done)|((simp (disch:=omega) only [push_cast,seval,innL_TL,innL_LL]);rfl)) (by first|((simp (disch:=omega) only [push_cast,seval,innL_TL,innL_LL]);done)|((simp (disch:=omega) only [push_cast,seval,innL_TL,innL_LL]);rfl)) ?_;(iterate 5 (exact sd));rintro _ _ ⟨x,hx,hx0,rfl,rfl⟩))|((with_reducible refine callD_ids (f:=46) [112] true ?_);simp (disch:=omega) only [push_cast,seval,innL_TL,innL_LL];(refine call1D (id:=112) (oneR_ok _ _ _ _ ?_ ?_ ?_ ?_ ?_) (by first|((simp (disch:=omega) only [push_cast,seval,innL_TL,innL_LL]);done)|((simp (disch:=omega) only [push_cast,seval,innL_TL,innL_LL]);rfl)) ?_;(iterate 5 (exact sd));rintro _ _ ⟨x,hx,hx0,rfl,rfl⟩))|((with_reducible refine qcallI_of (f:=46) [112] true ?_);simp (disch:=omega) only [push_cast,seval,innL_TL,innL_LL];(refine qcall1D (id:=112) (oneR_ok _ _ _ _ ?_ ?_ ?_ ?_ ?_) (by first|((simp (disch:=omega) only [push_cast,seval,innL_TL,innL_LL]);done)|((simp (disch:=omega) only [push_cast,seval,innL_TL,innL_LL]);rfl)) (by decide) (by simp only [unI_cons,unI_nil];exact ⟨_,_,_,List.mem_cons_self,by omega,rfl,rfl⟩) ?_;(iterate 5 (exact sd));rintro _ _ ⟨x,hx,hx0,rfl,rfl⟩))|((with_reducible refine callD_ids (f:=45) [112] true ?_);simp (disch:=omega) only [push_cast,seval,innL_TL,innL_LL];(refine call1D (id:=112) (prodOf_ok _ _ _ ?_ ?_) (by first|((simp (disch:=omega) only [push_cast,seval,innL_TL,innL_LL]);done)|((simp (disch:=omega) only [push_cast,seval,innL_TL,innL_LL]);rfl)) ?_;(iterate 2 (exact sd));rintro _ _ ⟨ts,ls,out,q,hpf,hq,rfl,rfl⟩)))<;>(try simp (disch:=omega) only [push_cast,seval,innL_TL,innL_LL]))))
  all_goals ((refine awp_ret ⟨.inr rfl,[192,193,194],[],_,by decide,rfl,?_⟩;(try simp (disch:=omega) only [push_cast,seval,↓allMem_nil,↓allMem_cons,↓List.map_cons,↓List.map_nil,innL_TL,innL_LL]));exact ⟨ts,ls,out,hpf,rfl,rfl⟩)
theorem drawCt_ok (bs:List Int) (n:Nat) (hn:bs.length=n) (hb:n ≤ 1099511627776 ∧ ∀ x ∈ bs,0 ≤ x ∧ x ≤ 255):PCall Try.prog 20 [.rows false (UL bs) n] (fun r=>∃ (ts:List Tn) (ls:List (List Int)) (out:List Int),prodF ts ls out ∧ r=.tup [.rows true (TL true ts) ts.length,.rows true (LL true ls) ls.length,.rows true (IL out) out.length]):=by
  refine (BCall.plain (drawCtB_ok bs n hn hb)).mono ?_
  rintro r ⟨r0,H',⟨ts,ls,out,hpf,rfl,rfl⟩,rfl⟩
  refine ⟨ts,ls,out,hpf,?_⟩
  simp [AV.ren,nthH,TL_length,LL_length,List.map_map,Function.comp_def,ren_TL3,ren_LL3]


theorem prodF_q {ts:List Tn} {ls:List (List Int)} {out:List Int} (h:prodF ts ls out):(ts.length ≤ 1048576 ∧ ls.length ≤ 1048576 ∧ out.length ≤ 1048576) ∧ (∀ t ∈ ts,t.1.length ≤ 1099511627776 ∧ t.2.length ≤ 1099511627776) ∧ ∀ l ∈ ls,l.length ≤ 1099511627776:=by
  obtain ⟨h1,h2,h3,h4⟩:=prodF_c h
  exact ⟨⟨h1,h2,h3⟩,fun t ht=>by have:=h4.1 t ht;omega,fun l hl=>by have:=h4.2 l hl;omega⟩
theorem t0_some (t:Tn):t0 (some t)=t:=rfl






set_option maxHeartbeats 32000000 in
theorem fOrd_ok (bs:List Int) (hl:bs.length ≤ 9223372036854775807) (hb:∀ x ∈ bs,0 ≤ x ∧ x ≤ 255):PCall Try.prog 5 [.rows false (UL bs) bs.length] (fun r=>r=.bool true):=by
  refine pcall_of l5_eq rfl ?_
  by_cases h:bs.length ≤ 1048576
  · have q:bs.length ≤ 1099511627776 ∧ ∀ x ∈ bs,0 ≤ x ∧ x ≤ 255:=⟨by omega,hb⟩
    (repeat' (first
 | (refine awp_joinL (c1:=.reg l5r3) (fun x:List Tn × List (List Int) × List Int=>mkS [(3,.rows true (TL true x.1) x.1.length),(4,.rows true (LL true x.2.1) x.2.1.length),(5,.rows true (IL x.2.2) x.2.2.length)] []) (fun x=>prodF x.1 x.2.1 x.2.2) ?_ ?_)
 | (first|refine awp_seq ?_|refine awp_block ?_)
 | ((first|refine awp_reg ?_|refine awp_condB ?_|refine awp_skip ?_|refine awp_exit ?_);simp (disch:=omega) only [push_cast,seval,l5r0,l5r1,l5r2,l5r3,l5r4,l5r5,l5r6,l5r7,l5r8,l5r9,l5r10,l5r11,l5r12,l5r13,l5r14,l5r15,l5r16,innL_TL,innL_LL])
 | ((first|refine condB_split (fun h=>?_) (fun h=>?_)|refine gIf_split (fun h=>?_) (fun h=>?_)|refine qIf_split (fun h=>?_) (fun h=>?_))<;>(try simp only [h])<;>(try simp only [bitvec_to_nat] at h)<;>(try simp only [h])<;>(first|(exfalso;omega)|(focus (exfalso;simp_all;done))|(simp (disch:=omega) only [push_cast,seval,innL_TL,innL_LL])|skip))
 | ((first|refine callD_of false ?_|refine qcallD_of false ?_);simp (disch:=omega) only [push_cast,seval,innL_TL,innL_LL])
 | ((first|(refine call0D (BCall.ofP (drawCt_ok _ _ ?_ ?_)) ?_;(iterate 2 (exact sd));rintro _ _ ⟨⟨ts,ls,out,hpf,rfl⟩,rfl⟩)|((first|refine call0D (iCon_ok _ _ _ _ _ _ ?_ ?_ ?_ ?_) ?_|refine qcall0D (iCon_ok _ _ _ _ _ _ ?_ ?_ ?_ ?_) ⟨_,_,rfl,rfl⟩ ?_);(iterate 4 (exact sd));rintro _ _ ⟨rfl,rfl⟩)|((first|refine call0D (sCon_ok _ _ _ _ _ _ ?_ ?_ ?_ ?_) ?_|refine qcall0D (sCon_ok _ _ _ _ _ _ ?_ ?_ ?_ ?_) ⟨_,_,rfl,rfl⟩ ?_);(iterate 4 (exact sd));rintro _ _ ⟨rfl,rfl⟩)|((first|refine call0D (BCall.ofP (lequT_ok _ _ _ _ _ _ _ _ ?_ ?_)) ?_|refine qcall0D (BCall.ofP (lequT_ok _ _ _ _ _ _ _ _ ?_ ?_)) ⟨_,_,rfl,rfl⟩ ?_);(iterate 2 (exact sd));rintro _ _ ⟨rfl,rfl⟩))<;>(try simp (disch:=omega) only [push_cast,seval,innL_TL,innL_LL]))
 | (refine awp_ret ⟨.inr rfl,_,rfl,?_⟩;(try simp (disch:=omega) only [push_cast,seval,innL_TL,innL_LL]))))
    · exact exSub3 (by (refine Sub.of_lists ?_ ?_ ?_ ?_ ?_<;>simp [Vw.mkS,Vw.lk,Vw.hk,AV.inn,innL,innL_ints,innL_append,innL_rep,-List.map_set,-List.getD_eq_getElem?_getD,innL_TL,innL_LL])) hpf
    · refine ⟨?_⟩
      rintro ⟨ts,ls,out⟩ hpf
      try simp only at hpf ⊢
      have hq:=prodF_q hpf
      obtain ⟨⟨hn1,hn3,hn5⟩,_⟩:=id hpf
      have hC:(t0 (ctT ts ls out)).1.length ≤ 60 ∧ (t0 (ctT ts ls out)).2.length ≤ 60:=ctT_short
      cases hct:ctT ts ls out with
 | none =>
        rw [hct] at hC
        obtain ⟨⟨Q,R⟩,hP⟩:∃ p:Tn,t0 none=p:=⟨_,rfl⟩
        rw [hP] at hC
        simp only at hC
        obtain ⟨hC1,hC2⟩:=hC
        (repeat' (first
 | (first|refine awp_seq ?_|refine awp_block ?_)
 | ((first|refine awp_reg ?_|refine awp_condB ?_|refine awp_skip ?_|refine awp_exit ?_);simp (disch:=omega) only [push_cast,seval,l5r0,l5r1,l5r2,l5r3,l5r4,l5r5,l5r6,l5r7,l5r8,l5r9,l5r10,l5r11,l5r12,l5r13,l5r14,l5r15,l5r16,hct,hP,Option.isSome_none,decide_true,innL_TL,innL_LL])
 | ((first|refine condB_split (fun h=>?_) (fun h=>?_)|refine gIf_split (fun h=>?_) (fun h=>?_)|refine qIf_split (fun h=>?_) (fun h=>?_))<;>(try simp only [h])<;>(try simp only [bitvec_to_nat] at h)<;>(try simp only [h])<;>(first|(exfalso;omega)|(focus (exfalso;simp_all;done))|(simp (disch:=omega) only [push_cast,seval,hct,hP,Option.isSome_none,decide_true,innL_TL,innL_LL])|skip))
 | ((first|refine callD_of false ?_|refine qcallD_of false ?_);simp (disch:=omega) only [push_cast,seval,hct,hP,Option.isSome_none,decide_true,innL_TL,innL_LL])
 | ((first|(refine call0D (BCall.ofP (drawCt_ok _ _ ?_ ?_)) ?_;(iterate 2 (exact sd));rintro _ _ ⟨⟨ts,ls,out,hpf,rfl⟩,rfl⟩)|((first|refine call0D (iCon_ok _ _ _ _ _ _ ?_ ?_ ?_ ?_) ?_|refine qcall0D (iCon_ok _ _ _ _ _ _ ?_ ?_ ?_ ?_) ⟨_,_,rfl,rfl⟩ ?_);(iterate 4 (exact sd));rintro _ _ ⟨rfl,rfl⟩)|((first|refine call0D (sCon_ok _ _ _ _ _ _ ?_ ?_ ?_ ?_) ?_|refine qcall0D (sCon_ok _ _ _ _ _ _ ?_ ?_ ?_ ?_) ⟨_,_,rfl,rfl⟩ ?_);(iterate 4 (exact sd));rintro _ _ ⟨rfl,rfl⟩)|((first|refine call0D (BCall.ofP (lequT_ok _ _ _ _ _ _ _ _ ?_ ?_)) ?_|refine qcall0D (BCall.ofP (lequT_ok _ _ _ _ _ _ _ _ ?_ ?_)) ⟨_,_,rfl,rfl⟩ ?_);(iterate 2 (exact sd));rintro _ _ ⟨rfl,rfl⟩))<;>(try simp (disch:=omega) only [push_cast,seval,hct,hP,Option.isSome_none,decide_true,innL_TL,innL_LL]))
 | (refine awp_ret ⟨.inr rfl,_,rfl,?_⟩;(try simp (disch:=omega) only [push_cast,seval,hct,hP,Option.isSome_none,decide_true,innL_TL,innL_LL]))))
        all_goals (try simp)
 | some o =>
        rw [hct] at hC
        obtain ⟨e,he,_⟩:=ct_some hct
        have hrv:=ct_rev he out
        rw [hct] at hrv
        obtain ⟨Q,R⟩:=o
        simp only [t0_some] at hC
        obtain ⟨hC1,hC2⟩:=hC
        obtain ⟨us,hus⟩:∃ us:List Tn,us=ts.reverse:=⟨_,rfl⟩
        obtain ⟨ms,hms⟩:∃ ms:List (List Int),ms=ls.reverse:=⟨_,rfl⟩
        rw [← hus,← hms] at hrv
        have hul:us.length=ts.length:=by rw [hus,List.length_reverse]
        have hml:ms.length=ts.length:=by rw [hms,List.length_reverse,hn5]
        (repeat' (first
 | (first|refine awp_seq ?_|refine awp_block ?_)
 | ((first|refine awp_reg ?_|refine awp_condB ?_|refine awp_skip ?_|refine awp_exit ?_);simp (disch:=omega) only [push_cast,seval,l5r0,l5r1,l5r2,l5r3,l5r4,l5r5,l5r6,l5r7,l5r8,l5r9,l5r10,l5r11,l5r12,l5r13,l5r14,l5r15,l5r16,hct,t0_some,Option.isSome_some,decide_true,innL_TL,innL_LL])
 | ((first|refine condB_split (fun h=>?_) (fun h=>?_)|refine gIf_split (fun h=>?_) (fun h=>?_)|refine qIf_split (fun h=>?_) (fun h=>?_))<;>(try simp only [h])<;>(try simp only [bitvec_to_nat] at h)<;>(try simp only [h])<;>(first|(exfalso;omega)|(focus (exfalso;simp_all;done))|(simp (disch:=omega) only [push_cast,seval,hct,t0_some,Option.isSome_some,decide_true,innL_TL,innL_LL])|skip))
 | ((first|refine callD_of false ?_|refine qcallD_of false ?_);simp (disch:=omega) only [push_cast,seval,hct,t0_some,Option.isSome_some,decide_true,innL_TL,innL_LL])
 | ((first|(refine call0D (BCall.ofP (drawCt_ok _ _ ?_ ?_)) ?_;(iterate 2 (exact sd));rintro _ _ ⟨⟨ts,ls,out,hpf,rfl⟩,rfl⟩)|((first|refine call0D (iCon_ok _ _ _ _ _ _ ?_ ?_ ?_ ?_) ?_|refine qcall0D (iCon_ok _ _ _ _ _ _ ?_ ?_ ?_ ?_) ⟨_,_,rfl,rfl⟩ ?_);(iterate 4 (exact sd));rintro _ _ ⟨rfl,rfl⟩)|((first|refine call0D (sCon_ok _ _ _ _ _ _ ?_ ?_ ?_ ?_) ?_|refine qcall0D (sCon_ok _ _ _ _ _ _ ?_ ?_ ?_ ?_) ⟨_,_,rfl,rfl⟩ ?_);(iterate 4 (exact sd));rintro _ _ ⟨rfl,rfl⟩)|((first|refine call0D (BCall.ofP (lequT_ok _ _ _ _ _ _ _ _ ?_ ?_)) ?_|refine qcall0D (BCall.ofP (lequT_ok _ _ _ _ _ _ _ _ ?_ ?_)) ⟨_,_,rfl,rfl⟩ ?_);(iterate 2 (exact sd));rintro _ _ ⟨rfl,rfl⟩))<;>(try simp (disch:=omega) only [push_cast,seval,hct,t0_some,Option.isSome_some,decide_true,innL_TL,innL_LL]))
 | (refine awp_ret ⟨.inr rfl,_,rfl,?_⟩;(try simp (disch:=omega) only [push_cast,seval,hct,t0_some,Option.isSome_some,decide_true,innL_TL,innL_LL]))))
        refine awp_loop (fun k:Nat=>mkS [(3,.rows true (TL true ts) ts.length),(4,.rows true (LL true ls) ls.length),(5,.rows true (IL out) out.length),(6,.ref 96 2 0),(10,.own 944 k 2),(11,.own 960 k 1),(12,.int .i64 ((ts.length:Int) - 1 - k))] [(96,[.own 448 Q.length 1,.own 449 R.length 1]),(448,IL Q),(449,IL R),(944,TL true (us.take k)),(960,LL true (ms.take k))]) (fun k=>k ≤ ts.length) (fun k=>ts.length - k) 0 (Nat.zero_le _) ?_ ?_
        · have e0:TL true ([]:List Tn)=[]:=rfl
          have e1:LL true ([]:List (List Int))=[]:=rfl
          (refine Sub.of_lists ?_ ?_ ?_ ?_ ?_<;>simp [Vw.mkS,Vw.lk,Vw.hk,AV.inn,innL,innL_ints,innL_append,innL_rep,-List.map_set,-List.getD_eq_getElem?_getD,e0,e1,innL_TL,innL_LL])
        · intro k hk
          by_cases hlt:k < ts.length
          · obtain ⟨j,hj⟩:∃ j:Nat,(ts.length:Int) - 1 - k=j:=⟨ts.length - 1 - k,by omega⟩
            have hj':j < ts.length:=by omega
            obtain ⟨⟨x,y⟩,ht⟩:=mem_lt hj'
            obtain ⟨l,hli⟩:=mem_lt (l:=ls) (i:=j) (by omega)
            have hd:=TL_drop true ts j ht
            have hd2:=LL_drop true ls j hli
            simp only at hd
            have hil1:j * 2 + 2 ≤ ts.length * 2:=by omega
            have hil2:j + 1 ≤ ls.length:=by omega
            have htl:=TL_length true ts
            have hll:=LL_length true ls
            have hx:x.length ≤ 1099511627776 ∧ y.length ≤ 1099511627776:=hq.2.1 _ (List.mem_of_getElem? ht)
            have s1:us.take (k + 1)=us.take k ++ [(x,y)]:=by
              rw [List.take_add_one,hus,List.getElem?_reverse (by omega),show ts.length - 1 - k=j by omega,ht];rfl
            have s2:ms.take (k + 1)=ms.take k ++ [l]:=by
              rw [List.take_add_one,hms,List.getElem?_reverse (by omega),show ls.length - 1 - k=j by omega,hli];rfl
            have tk1:(TL true (us.take k)).length=k * 2:=by rw [TL_length,List.length_take];omega
            have tk2:(LL true (ms.take k)).length=k:=by rw [LL_length,List.length_take];omega
            have g1:=TL_snoc2 true (us.take k) x y
            have g2:LL true (ms.take k) ++ [.rows true (IL l) l.length]=LL true (ms.take k ++ [l]):=by rw [LL_append];rfl
            rw [hj]
            (repeat' (first
 | (first|refine awp_seq ?_|refine awp_block ?_)
 | ((first|refine awp_reg ?_|refine awp_condB ?_|refine awp_skip ?_|refine awp_exit ?_);simp (disch:=omega) only [push_cast,seval,l5r0,l5r1,l5r2,l5r3,l5r4,l5r5,l5r6,l5r7,l5r8,l5r9,l5r10,l5r11,l5r12,l5r13,l5r14,l5r15,l5r16,hj,hd,hd2,htl,hll,hil1,hil2,tk1,tk2,g1,g2,innL_TL,innL_LL])
 | ((first|refine condB_split (fun h=>?_) (fun h=>?_)|refine gIf_split (fun h=>?_) (fun h=>?_)|refine qIf_split (fun h=>?_) (fun h=>?_))<;>(try simp only [h])<;>(try simp only [bitvec_to_nat] at h)<;>(try simp only [h])<;>(first|(exfalso;omega)|(focus (exfalso;simp_all;done))|(simp (disch:=omega) only [push_cast,seval,hj,hd,hd2,htl,hll,hil1,hil2,tk1,tk2,g1,g2,innL_TL,innL_LL])|skip))
 | ((first|refine callD_of false ?_|refine qcallD_of false ?_);simp (disch:=omega) only [push_cast,seval,hj,hd,hd2,htl,hll,hil1,hil2,tk1,tk2,g1,g2,innL_TL,innL_LL])
 | ((first|(refine call0D (BCall.ofP (drawCt_ok _ _ ?_ ?_)) ?_;(iterate 2 (exact sd));rintro _ _ ⟨⟨ts,ls,out,hpf,rfl⟩,rfl⟩)|((first|refine call0D (iCon_ok _ _ _ _ _ _ ?_ ?_ ?_ ?_) ?_|refine qcall0D (iCon_ok _ _ _ _ _ _ ?_ ?_ ?_ ?_) ⟨_,_,rfl,rfl⟩ ?_);(iterate 4 (exact sd));rintro _ _ ⟨rfl,rfl⟩)|((first|refine call0D (sCon_ok _ _ _ _ _ _ ?_ ?_ ?_ ?_) ?_|refine qcall0D (sCon_ok _ _ _ _ _ _ ?_ ?_ ?_ ?_) ⟨_,_,rfl,rfl⟩ ?_);(iterate 4 (exact sd));rintro _ _ ⟨rfl,rfl⟩)|((first|refine call0D (BCall.ofP (lequT_ok _ _ _ _ _ _ _ _ ?_ ?_)) ?_|refine qcall0D (BCall.ofP (lequT_ok _ _ _ _ _ _ _ _ ?_ ?_)) ⟨_,_,rfl,rfl⟩ ?_);(iterate 2 (exact sd));rintro _ _ ⟨rfl,rfl⟩))<;>(try simp (disch:=omega) only [push_cast,seval,hj,hd,hd2,htl,hll,hil1,hil2,tk1,tk2,g1,g2,innL_TL,innL_LL]))
 | (refine awp_ret ⟨.inr rfl,_,rfl,?_⟩; (try simp (disch := omega) only [push_cast,seval,hj,hd,hd2,htl,hll,hil1,hil2,tk1,tk2,g1,g2,innL_TL,innL_LL]))))
            refine ⟨k + 1,by omega,by omega,?_⟩
            have e9:(ts.length:Int) - 1 - ((k + 1:Nat):Int)=(j:Int) - 1:=by omega
            rw [e9,s1,s2]
            (refine Sub.of_lists ?_ ?_ ?_ ?_ ?_<;>simp [Vw.mkS,Vw.lk,Vw.hk,AV.inn,innL,innL_ints,innL_append,innL_rep,-List.map_set,-List.getD_eq_getElem?_getD,innL_TL,innL_LL])
          · have hk2:k=ts.length:=by omega
            subst hk2
            have e1:us.take ts.length=us:=List.take_of_length_le (by omega)
            have e2:ms.take ts.length=ms:=List.take_of_length_le (by omega)
            have hneg:(ts.length:Int) - 1 - ts.length=-1:=by omega
            have q3:(ts.length ≤ 1048576 ∧ ts.length ≤ 1048576 ∧ out.length ≤ 1048576) ∧ (∀ t ∈ us,t.1.length ≤ 1099511627776 ∧ t.2.length ≤ 1099511627776) ∧ ∀ l ∈ ms,l.length ≤ 1099511627776:=⟨⟨hq.1.1,hq.1.1,hq.1.2.2⟩,fun t ht=>hq.2.1 t (by rw [hus] at ht;simpa using ht),fun l hl=>hq.2.2 l (by rw [hms] at hl;simpa using hl)⟩
            rw [e1,e2,hneg]
            (repeat' (first
 | (first|refine awp_seq ?_|refine awp_block ?_)
 | ((first|refine awp_reg ?_|refine awp_condB ?_|refine awp_skip ?_|refine awp_exit ?_);simp (disch:=omega) only [push_cast,seval,l5r0,l5r1,l5r2,l5r3,l5r4,l5r5,l5r6,l5r7,l5r8,l5r9,l5r10,l5r11,l5r12,l5r13,l5r14,l5r15,l5r16,hrv,t0_some,Option.isSome_some,decide_true,innL_TL,innL_LL])
 | ((first|refine condB_split (fun h=>?_) (fun h=>?_)|refine gIf_split (fun h=>?_) (fun h=>?_)|refine qIf_split (fun h=>?_) (fun h=>?_))<;>(try simp only [h])<;>(try simp only [bitvec_to_nat] at h)<;>(try simp only [h])<;>(first|(exfalso;omega)|(focus (exfalso;simp_all;done))|(simp (disch:=omega) only [push_cast,seval,hrv,t0_some,Option.isSome_some,decide_true,innL_TL,innL_LL])|skip))
 | ((first|refine callD_of false ?_|refine qcallD_of false ?_);simp (disch:=omega) only [push_cast,seval,hrv,t0_some,Option.isSome_some,decide_true,innL_TL,innL_LL])
 | ((first|(refine call0D (BCall.ofP (drawCt_ok _ _ ?_ ?_)) ?_;(iterate 2 (exact sd));rintro _ _ ⟨⟨ts,ls,out,hpf,rfl⟩,rfl⟩)|((first|refine call0D (iCon_ok _ _ _ _ _ _ ?_ ?_ ?_ ?_) ?_|refine qcall0D (iCon_ok _ _ _ _ _ _ ?_ ?_ ?_ ?_) ⟨_,_,rfl,rfl⟩ ?_);(iterate 4 (exact sd));rintro _ _ ⟨rfl,rfl⟩)|((first|refine call0D (sCon_ok _ _ _ _ _ _ ?_ ?_ ?_ ?_) ?_|refine qcall0D (sCon_ok _ _ _ _ _ _ ?_ ?_ ?_ ?_) ⟨_,_,rfl,rfl⟩ ?_);(iterate 4 (exact sd));rintro _ _ ⟨rfl,rfl⟩)|((first|refine call0D (BCall.ofP (lequT_ok _ _ _ _ _ _ _ _ ?_ ?_)) ?_|refine qcall0D (BCall.ofP (lequT_ok _ _ _ _ _ _ _ _ ?_ ?_)) ⟨_,_,rfl,rfl⟩ ?_);(iterate 2 (exact sd));rintro _ _ ⟨rfl,rfl⟩))<;>(try simp (disch:=omega) only [push_cast,seval,hrv,t0_some,Option.isSome_some,decide_true,innL_TL,innL_LL]))
 | (refine awp_ret ⟨.inr rfl,_,rfl,?_⟩; (try simp (disch := omega) only [push_cast,seval,hrv,t0_some,Option.isSome_some,decide_true,innL_TL,innL_LL]))))
            all_goals (try simp)
  · (repeat' (first
 | (first|refine awp_seq ?_|refine awp_block ?_)
 | ((first|refine awp_reg ?_|refine awp_condB ?_|refine awp_skip ?_|refine awp_exit ?_);simp (disch:=omega) only [push_cast,seval,l5r0,l5r1,l5r2,l5r3,l5r4,l5r5,l5r6,l5r7,l5r8,l5r9,l5r10,l5r11,l5r12,l5r13,l5r14,l5r15,l5r16])
 | ((first|refine condB_split (fun h=>?_) (fun h=>?_)|refine gIf_split (fun h=>?_) (fun h=>?_)|refine qIf_split (fun h=>?_) (fun h=>?_))<;>(try simp only [h])<;>(try simp only [bitvec_to_nat] at h)<;>(try simp only [h])<;>(first|(exfalso;omega)|(focus (exfalso;simp_all;done))|(simp (disch:=omega) only [push_cast,seval])|skip))
 | ((first|refine callD_of false ?_|refine qcallD_of false ?_);simp (disch:=omega) only [push_cast,seval])
 | ((first|(refine call0D (BCall.ofP (drawCt_ok _ _ ?_ ?_)) ?_;(iterate 2 (exact sd));rintro _ _ ⟨⟨ts,ls,out,hpf,rfl⟩,rfl⟩)|((first|refine call0D (iCon_ok _ _ _ _ _ _ ?_ ?_ ?_ ?_) ?_|refine qcall0D (iCon_ok _ _ _ _ _ _ ?_ ?_ ?_ ?_) ⟨_,_,rfl,rfl⟩ ?_);(iterate 4 (exact sd));rintro _ _ ⟨rfl,rfl⟩)|((first|refine call0D (sCon_ok _ _ _ _ _ _ ?_ ?_ ?_ ?_) ?_|refine qcall0D (sCon_ok _ _ _ _ _ _ ?_ ?_ ?_ ?_) ⟨_,_,rfl,rfl⟩ ?_);(iterate 4 (exact sd));rintro _ _ ⟨rfl,rfl⟩)|((first|refine call0D (BCall.ofP (lequT_ok _ _ _ _ _ _ _ _ ?_ ?_)) ?_|refine qcall0D (BCall.ofP (lequT_ok _ _ _ _ _ _ _ _ ?_ ?_)) ⟨_,_,rfl,rfl⟩ ?_);(iterate 2 (exact sd));rintro _ _ ⟨rfl,rfl⟩))<;>(try simp (disch:=omega) only [push_cast,seval]))
 | (refine awp_ret ⟨.inr rfl,_,rfl,?_⟩;(try simp (disch:=omega) only [push_cast,seval]))))

end Go.Proofs.Ytbplegbgofnolaa
