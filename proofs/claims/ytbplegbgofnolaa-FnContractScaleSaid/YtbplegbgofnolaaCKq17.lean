import Derived.Test.YtbplegbgofnolaaCKq16
import Derived.Test.YtbplegbgofnolaaCM1
import Derived.Test.YtbplegbgofnolaaCW3
set_option linter.unusedSimpArgs false
set_option linter.unusedVariables false
set_option maxRecDepth 4000
set_option maxHeartbeats 4000000
namespace Go.Proofs.Ytbplegbgofnolaa
open VwM Vw Go

/-- Extents are those of the shapes. -/
theorem ex_same {ts ts':List Tn} {ls:List (List Int)} {e e':List Int} (h:exO ts ls=some e) (h':exO ts' ls=some e') (hsh:∀ (i:Nat) (t t':Tn),ts[i]?=some t → ts'[i]?=some t' → t'.1=t.1):e'=e:=by
  have hC:=ctOk_of h
  have hC':=ctOk_of h'
  refine ex_unique h h' (fun x=>Iff.rfl) fun x hx=>?_
  obtain ⟨l,hl,hxl⟩:=List.mem_flatten.1 hx
  obtain ⟨i,hi⟩:=List.mem_iff_getElem?.1 hl
  obtain ⟨j,hj,hj2⟩:=mem_getD.1 hxl
  have hil:=(List.getElem?_eq_some_iff.1 hi).1
  have hit:i < ts.length:=by have:=hC.num;omega
  have hit':i < ts'.length:=by have:=hC'.num;omega
  have a:=(hC.lab i _ l (List.getElem?_eq_getElem hit) hi).2.2.2 j hj
  have a':=(hC'.lab i _ l (List.getElem?_eq_getElem hit') hi).2.2.2 j hj
  rw [← hj2,a,a',hsh i _ _ (List.getElem?_eq_getElem hit) (List.getElem?_eq_getElem hit')]
theorem TLall:∀ r:List Tn,(TL true r).all AV.isCell=true
  | []=>rfl
  | t :: r=>by simp only [TL,List.all_cons,TLall r];rfl
def dbl (y:List Int) (k:Nat):List Int:=(y.take k).map (fun v=>2 * v) ++ y.drop k
theorem dbl_len (y:List Int) (k:Nat):(dbl y k).length=y.length:=by simp [dbl];omega
theorem dbl_all (y:List Int):dbl y y.length=y.map fun v=>2 * v:=by simp [dbl]
theorem dbl_getD {y:List Int} {k:Nat} (hk:k ≤ y.length) (j:Nat):(dbl y k).getD j 0=if j < k then 2 * y.getD j 0 else y.getD j 0:=by
  have hl:((y.take k).map fun v:Int=>2 * v).length=k:=by simp;omega
  unfold dbl
  simp only [List.getD_eq_getElem?_getD]
  by_cases hj:j < k
  · rw [List.getElem?_append_left (by omega),if_pos hj,List.getElem?_map,List.getElem?_take_of_lt hj,List.getElem?_eq_getElem (by omega)];simp
  · rw [List.getElem?_append_right (by omega),if_neg hj,hl,List.getElem?_drop,show k + (j - k)=j by omega]
theorem dbl_at {y:List Int} {k:Nat} (h:k < y.length):(dbl y k).getD k 0=y.getD k 0:=by
  rw [dbl_getD (by omega),if_neg (by omega)]
theorem dbl_succ {y:List Int} {k:Nat} (h:k < y.length):(dbl y k).set k (2 * y.getD k 0)=dbl y (k + 1):=by
  refine list_eq_of (by rw [List.length_set,dbl_len,dbl_len]) fun j hj=>?_
  rw [List.length_set,dbl_len] at hj
  rw [dbl_getD (by omega)]
  by_cases hjk:j=k
  · subst hjk
    rw [if_pos (by omega)]
    simp [List.getD,List.getElem?_set,dbl_len,hj]
  · have e:((dbl y k).set k (2 * y.getD k 0)).getD j 0=(dbl y k).getD j 0:=by simp [List.getD,List.getElem?_set,Ne.symm hjk]
    rw [e,dbl_getD (by omega)]
    by_cases h2:j < k
    · rw [if_pos h2,if_pos (by omega)]
    · rw [if_neg h2,if_neg (by omega)]
theorem get_dbl (y:List Int) (k:Nat):(y.map fun v=>2 * v).getD k 0=2 * y.getD k 0:=by
  simp only [List.getD_eq_getElem?_getD,List.getElem?_map]
  cases y[k]?<;>simp
/-- With a tensor taken twice,all is taken twice. -/
theorem ct_scale {x y:List Int} {r:List Tn} {ls:List (List Int)} {out:List Int} {o:Tn} (hct:ctT ((x,y) :: r) ls out=some o) {o':Tn} (hct':ctT ((x,y.map fun v=>2 * v) :: r) ls out=some o') :
    o'.2.length=o.2.length ∧ ∀ i,i < o'.2.length → o'.2.getD i 0=2 * o.2.getD i 0:=by
  obtain ⟨e,he,hc,hv,ho⟩:=ct_some hct
  obtain ⟨e',he',hc',hv',ho'⟩:=ct_some hct'
  have:e'=e:=ex_same he he' fun i t t' ht ht'=>by
    match i,ht,ht' with
    | 0,ht,ht'=>simp only [List.getElem?_cons_zero,Option.some.injEq] at ht ht';rw [← ht,← ht']
    | i + 1,ht,ht'=>simp only [List.getElem?_cons_succ] at ht ht';rw [ht] at ht';injection ht' with h;rw [h]
  subst this
  have hl:o'.2.length=o.2.length:=by rw [ho,ho'];unfold ctW;simp only [ctV_len]
  refine ⟨hl,fun i hi=>?_⟩
  have hgP:gP ((x,y.map fun v=>2 * v) :: r) ls=fun w=>2 * gP ((x,y) :: r) ls w:=by
    funext w
    have hnum:=(ctOk_of he).num
    match ls,hnum with
    | l :: ls,_ =>
      unfold gP
      simp only [List.zip_cons_cons,List.map_cons,prodL]
      have:tv (x,y.map fun v=>2 * v) l w=2 * tv (x,y) l w:=get_dbl y _
      rw [this,Int.mul_assoc]
  have hi2:i < (pr (out.map (gE e'))).toNat:=by rw [ho'] at hi;unfold ctW at hi;simpa only [ctV_len] using hi
  have e1:o'.2.getD i 0=w64 (ctE ((x,y.map fun v=>2 * v) :: r) ls out e' i):=by rw [ho'];unfold ctW ctV;simp [List.getD,hi2]
  have e2:o.2.getD i 0=w64 (ctE ((x,y) :: r) ls out e' i):=by rw [ho];unfold ctW ctV;simp [List.getD,hi2]
  have hb:=(vT_spec.1 hv).2.2 _ (getD_mem (xs:=(ctW ((x,y) :: r) ls out e').2) (j:=i) (by rw [← ho];omega))
  rw [← ho,e2] at hb
  rw [e1,e2]
  have e3:ctE ((x,y.map fun v=>2 * v) :: r) ls out e' i=2 * ctE ((x,y) :: r) ls out e' i:=by
    unfold ctE
    rw [hgP]
    exact SS_mul e' 2 _ _ _
  rw [e3,← w64_mulr]
  exact w64_id (by omega)


theorem iConH_ok (x y:List Int) (r:List Tn) (ls:List (List Int)) (out:List Int) (n1 n2 n m q:Nat) (hn:(x.length=n1 ∧ y.length=n2 ∧ r.length + 1=n) ∧ ls.length=m ∧ out.length=q)
    (hb:(n ≤ 1048576 ∧ m ≤ 1048576 ∧ q ≤ 1048576) ∧ (n1 ≤ 1099511627776 ∧ n2 ≤ 1099511627776) ∧ (∀ t ∈ r,t.1.length ≤ 1099511627776 ∧ t.2.length ≤ 1099511627776) ∧ ∀ l ∈ ls,l.length ≤ 1099511627776) :
    BCall Try.prog 17 [.rows false (.rows false (IL x) n1 :: .rows false (IL y) n2 :: TL false r) n,.rows false (LL false ls) m,.rows false (IL out) q] [] (OTn (ctT ((x,y) :: r) ls out)):=by
  obtain ⟨⟨rfl,rfl,rfl⟩,rfl,rfl⟩:=hn
  exact iCon_ok ((x,y) :: r) ls out _ _ _ rfl rfl rfl ⟨hb.1,fun t ht=>by
    rcases List.mem_cons.1 ht with rfl|ht
    · exact hb.2.1
    · exact hb.2.2.1 t ht,hb.2.2.2⟩


theorem sConH_ok (x y:List Int) (r:List Tn) (ls:List (List Int)) (out:List Int) (n1 n2 n m q:Nat) (hn:(x.length=n1 ∧ y.length=n2 ∧ r.length + 1=n) ∧ ls.length=m ∧ out.length=q)
    (hb:(n ≤ 1048576 ∧ m ≤ 1048576 ∧ q ≤ 1048576) ∧ (n1 ≤ 1099511627776 ∧ n2 ≤ 1099511627776) ∧ (∀ t ∈ r,t.1.length ≤ 1099511627776 ∧ t.2.length ≤ 1099511627776) ∧ ∀ l ∈ ls,l.length ≤ 1099511627776) :
    BCall Try.prog 21 [.rows false (.rows false (IL x) n1 :: .rows false (IL y) n2 :: TL false r) n,.rows false (LL false ls) m,.rows false (IL out) q] [] (OTn (ctT ((x,y) :: r) ls out)):=by
  obtain ⟨⟨rfl,rfl,rfl⟩,rfl,rfl⟩:=hn
  exact sCon_ok ((x,y) :: r) ls out _ _ _ rfl rfl rfl ⟨hb.1,fun t ht=>by
    rcases List.mem_cons.1 ht with rfl|ht
    · exact hb.2.1
    · exact hb.2.2.1 t ht,hb.2.2.2⟩


set_option maxHeartbeats 32000000 in
theorem fScl_ok (bs:List Int) (hl:bs.length ≤ 9223372036854775807) (hb:∀ x ∈ bs,0 ≤ x ∧ x ≤ 255):PCall Try.prog 7 [.rows false (UL bs) bs.length] (fun r=>r=.bool true):=by
  refine pcall_of l7_eq rfl ?_
  by_cases h:bs.length ≤ 1048576
  · have q:bs.length ≤ 1099511627776 ∧ ∀ x ∈ bs,0 ≤ x ∧ x ≤ 255:=⟨by omega,hb⟩
    (repeat' (first
 | (refine awp_joinL (c1:=.reg l7r3) (fun x:List Tn × List (List Int) × List Int=>mkS [(3,.rows true (TL true x.1) x.1.length),(4,.rows true (LL true x.2.1) x.2.1.length),(5,.rows true (IL x.2.2) x.2.2.length)] []) (fun x=>prodF x.1 x.2.1 x.2.2) ?_ ?_)
 | (first|refine awp_seq ?_|refine awp_block ?_)
 | ((first|refine awp_reg ?_|refine awp_drawX (mid:=l7r9a) (post:=l7r9b) [1072] mixed (by decide) ?_|refine awp_draw (mid:=l7r12a) (post:=l7r12b) mixed (by decide) ?_|refine awp_draw (mid:=l7r17a) (post:=l7r17b) mixed (by decide) ?_|refine awp_condB ?_|refine awp_skip ?_|refine awp_exit ?_);simp (disch:=omega) only [push_cast,seval,l7r0,l7r1,l7r2,l7r3,l7r4,l7r5,l7r6,l7r7,l7r8,l7r9a,l7r9b,l7r9,l7r10,l7r11,l7r12a,l7r12b,l7r12,l7r13,l7r14,l7r15,l7r16,l7r17a,l7r17b,l7r17,l7r18,l7r19,l7r20,innL_TL,innL_LL])
 | ((first|refine condB_split (fun h=>?_) (fun h=>?_)|refine gIf_split (fun h=>?_) (fun h=>?_)|refine qIf_split (fun h=>?_) (fun h=>?_))<;>(try simp only [h])<;>(try simp only [bitvec_to_nat] at h)<;>(try simp only [h])<;>(first|(exfalso;omega)|(focus (exfalso;simp_all;done))|(simp (disch:=omega) only [push_cast,seval,innL_TL,innL_LL])|skip))
 | ((first|refine callD_of false ?_|refine qcallD_of false ?_);simp (disch:=omega) only [push_cast,seval,innL_TL,innL_LL])
 | ((first|(refine call0D (BCall.ofP (drawCt_ok _ _ ?_ ?_)) ?_;(iterate 2 (exact sd));rintro _ _ ⟨⟨ts,ls,out,hpf,rfl⟩,rfl⟩)|((first|refine call0D (iConH_ok _ _ _ _ _ _ _ _ _ _ ?_ ?_) ?_|refine qcall0D (iConH_ok _ _ _ _ _ _ _ _ _ _ ?_ ?_) ⟨_,_,rfl,rfl⟩ ?_);(iterate 2 (exact sd));rintro _ _ ⟨rfl,rfl⟩)|((first|refine call0D (sConH_ok _ _ _ _ _ _ _ _ _ _ ?_ ?_) ?_|refine qcall0D (sConH_ok _ _ _ _ _ _ _ _ _ _ ?_ ?_) ⟨_,_,rfl,rfl⟩ ?_);(iterate 2 (exact sd));rintro _ _ ⟨rfl,rfl⟩)|((first|refine call0D (BCall.ofP (lequT_ok _ _ _ _ _ _ _ _ ?_ ?_)) ?_|refine qcall0D (BCall.ofP (lequT_ok _ _ _ _ _ _ _ _ ?_ ?_)) ⟨_,_,rfl,rfl⟩ ?_);(iterate 2 (exact sd));rintro _ _ ⟨rfl,rfl⟩))<;>(try simp (disch:=omega) only [push_cast,seval,innL_TL,innL_LL]))
 | (refine awp_ret ⟨.inr rfl,_,rfl,?_⟩;(try simp (disch:=omega) only [push_cast,seval,innL_TL,innL_LL]))))
    · exact exSub3 (by (refine Sub.of_lists ?_ ?_ ?_ ?_ ?_<;>simp [Vw.mkS,Vw.lk,Vw.hk,AV.inn,innL,innL_ints,innL_append,innL_rep,-List.map_set,-List.getD_eq_getElem?_getD,innL_TL,innL_LL])) hpf
    · refine ⟨?_⟩
      rintro ⟨ts,ls,out⟩ hpf
      try simp only at hpf ⊢
      have hq:=prodF_q hpf
      obtain ⟨⟨hn1,hn3,hn5⟩,hpt,_⟩:=id hpf
      match ts,hn1,hn3,hn5,hpt,hq,hpf with
 | (x,y) :: r,hn1,hn3,hn5,hpt,hq,hpf =>
        have hxy:=hpt (x,y) (by simp)
        have hC:(t0 (ctT ((x,y) :: r) ls out)).1.length ≤ 60 ∧ (t0 (ctT ((x,y) :: r) ls out)).2.length ≤ 60:=ctT_short
        have hT:TL true ((x,y) :: r)=.rows true (IL x) x.length :: .rows true (IL y) y.length :: TL true r:=rfl
        have hlen:((x,y) :: r).length=r.length + 1:=rfl
        have q1:(x.length=x.length ∧ y.length=y.length ∧ r.length + 1=r.length + 1) ∧ ls.length=ls.length ∧ out.length=out.length:=⟨⟨rfl,rfl,rfl⟩,rfl,rfl⟩
        have q2:(r.length + 1 ≤ 1048576 ∧ ls.length ≤ 1048576 ∧ out.length ≤ 1048576) ∧ (x.length ≤ 1099511627776 ∧ y.length ≤ 1099511627776) ∧ (∀ t ∈ r,t.1.length ≤ 1099511627776 ∧ t.2.length ≤ 1099511627776) ∧ ∀ l ∈ ls,l.length ≤ 1099511627776:=⟨hq.1,hq.2.1 (x,y) (by simp),fun t ht=>hq.2.1 t (by simp [ht]),hq.2.2⟩
        rw [hT,hlen]
        cases hct:ctT ((x,y) :: r) ls out with
        | none =>
          rw [hct] at hC
          obtain ⟨⟨Q,R⟩,hP⟩:∃ p:Tn,t0 none=p:=⟨_,rfl⟩
          rw [hP] at hC
          simp only at hC
          obtain ⟨hC1,hC2⟩:=hC
          (repeat' (first
 | (first|refine awp_seq ?_|refine awp_block ?_)
 | ((first|refine awp_reg ?_|refine awp_drawX (mid:=l7r9a) (post:=l7r9b) [1072] mixed (by decide) ?_|refine awp_draw (mid:=l7r12a) (post:=l7r12b) mixed (by decide) ?_|refine awp_draw (mid:=l7r17a) (post:=l7r17b) mixed (by decide) ?_|refine awp_condB ?_|refine awp_skip ?_|refine awp_exit ?_);simp (disch:=omega) only [push_cast,seval,l7r0,l7r1,l7r2,l7r3,l7r4,l7r5,l7r6,l7r7,l7r8,l7r9a,l7r9b,l7r9,l7r10,l7r11,l7r12a,l7r12b,l7r12,l7r13,l7r14,l7r15,l7r16,l7r17a,l7r17b,l7r17,l7r18,l7r19,l7r20,hct,hP,Option.isSome_none,decide_true,innL_TL,innL_LL])
 | ((first|refine condB_split (fun h=>?_) (fun h=>?_)|refine gIf_split (fun h=>?_) (fun h=>?_)|refine qIf_split (fun h=>?_) (fun h=>?_))<;>(try simp only [h])<;>(try simp only [bitvec_to_nat] at h)<;>(try simp only [h])<;>(first|(exfalso;omega)|(focus (exfalso;simp_all;done))|(simp (disch:=omega) only [push_cast,seval,hct,hP,Option.isSome_none,decide_true,innL_TL,innL_LL])|skip))
 | ((first|refine callD_of false ?_|refine qcallD_of false ?_);simp (disch:=omega) only [push_cast,seval,hct,hP,Option.isSome_none,decide_true,innL_TL,innL_LL])
 | ((first|(refine call0D (BCall.ofP (drawCt_ok _ _ ?_ ?_)) ?_;(iterate 2 (exact sd));rintro _ _ ⟨⟨ts,ls,out,hpf,rfl⟩,rfl⟩)|((first|refine call0D (iConH_ok _ _ _ _ _ _ _ _ _ _ ?_ ?_) ?_|refine qcall0D (iConH_ok _ _ _ _ _ _ _ _ _ _ ?_ ?_) ⟨_,_,rfl,rfl⟩ ?_);(iterate 2 (exact sd));rintro _ _ ⟨rfl,rfl⟩)|((first|refine call0D (sConH_ok _ _ _ _ _ _ _ _ _ _ ?_ ?_) ?_|refine qcall0D (sConH_ok _ _ _ _ _ _ _ _ _ _ ?_ ?_) ⟨_,_,rfl,rfl⟩ ?_);(iterate 2 (exact sd));rintro _ _ ⟨rfl,rfl⟩)|((first|refine call0D (BCall.ofP (lequT_ok _ _ _ _ _ _ _ _ ?_ ?_)) ?_|refine qcall0D (BCall.ofP (lequT_ok _ _ _ _ _ _ _ _ ?_ ?_)) ⟨_,_,rfl,rfl⟩ ?_);(iterate 2 (exact sd));rintro _ _ ⟨rfl,rfl⟩))<;>(try simp (disch:=omega) only [push_cast,seval,hct,hP,Option.isSome_none,decide_true,innL_TL,innL_LL]))
 | (refine awp_ret ⟨.inr rfl,_,rfl,?_⟩; (try simp (disch := omega) only [push_cast,seval,hct,hP,Option.isSome_none,decide_true,innL_TL,innL_LL]))))
          all_goals (try simp)
        | some o =>
          rw [hct] at hC
          have hvo:=ctT_vT hct
          have hsc:=fun o' h=>ct_scale hct (o':=o') h
          have hC':(t0 (ctT ((x,y.map fun v=>2 * v) :: r) ls out)).1.length ≤ 60 ∧ (t0 (ctT ((x,y.map fun v=>2 * v) :: r) ls out)).2.length ≤ 60:=ctT_short
          have hvb:=(vT_spec.1 hvo).2.2
          obtain ⟨Q,R⟩:=o
          simp only [t0_some] at hC
          obtain ⟨hC1,hC2⟩:=hC
          have htk:List.take ((r.length + 1) * 2) (AV.rows true (IL x) x.length :: .rows true (IL y) y.length :: TL true r)=.rows true (IL x) x.length :: .rows true (IL y) y.length :: TL true r:=List.take_of_length_le (by simp only [List.length_cons,TL_length];omega)
          have htl:=TL_length true r
          have hln:(r.length * 2 + 1 + 1=(r.length + 1) * 2)=True:=eq_true (by omega)
          have hce:(TL true r).all AV.isCell=true:=TLall r
          -- what the second contraction gives
          obtain ⟨Q2,R2,ok2,hP2,hok2,hR2,hfin⟩:∃ Q2 R2 ok2,t0 (ctT ((x,y.map fun v=>2 * v) :: r) ls out)=(Q2,R2) ∧ (ctT ((x,y.map fun v=>2 * v) :: r) ls out).isSome=ok2 ∧ (∀ i,i < R2.length → i < R.length ∧ R2.getD i 0=2 * R.getD i 0) ∧ (ok2=true → R2.length=R.length):=by
            cases h2:ctT ((x,y.map fun v=>2 * v) :: r) ls out with
            | none=>exact ⟨[],[],false,rfl,rfl,fun i hi=>by simp at hi,fun h=>by cases h⟩
            | some o' =>
              obtain ⟨s1,s2⟩:=hsc o' h2
              simp only at s1 s2
              exact ⟨o'.1,o'.2,true,rfl,rfl,fun i hi=>⟨by omega,s2 i hi⟩,fun _=>s1⟩
          rw [hP2] at hC'
          simp only at hC'
          obtain ⟨hC3,hC4⟩:=hC'
          clear hsc
          (repeat' (first
 | (first|refine awp_seq ?_|refine awp_block ?_)
 | ((first|refine awp_reg ?_|refine awp_drawX (mid:=l7r9a) (post:=l7r9b) [1072] mixed (by decide) ?_|refine awp_draw (mid:=l7r12a) (post:=l7r12b) mixed (by decide) ?_|refine awp_draw (mid:=l7r17a) (post:=l7r17b) mixed (by decide) ?_|refine awp_condB ?_|refine awp_skip ?_|refine awp_exit ?_);simp (disch:=omega) only [push_cast,seval,l7r0,l7r1,l7r2,l7r3,l7r4,l7r5,l7r6,l7r7,l7r8,l7r9a,l7r9b,l7r9,l7r10,l7r11,l7r12a,l7r12b,l7r12,l7r13,l7r14,l7r15,l7r16,l7r17a,l7r17b,l7r17,l7r18,l7r19,l7r20,hct,t0_some,htk,htl,hln,hce,Option.isSome_some,decide_true,innL_TL,innL_LL])
 | ((first|refine condB_split (fun h=>?_) (fun h=>?_)|refine gIf_split (fun h=>?_) (fun h=>?_)|refine qIf_split (fun h=>?_) (fun h=>?_))<;>(try simp only [h])<;>(try simp only [bitvec_to_nat] at h)<;>(try simp only [h])<;>(first|(exfalso;omega)|(focus (exfalso;simp_all;done))|(simp (disch:=omega) only [push_cast,seval,hct,t0_some,htk,htl,hln,hce,Option.isSome_some,decide_true,innL_TL,innL_LL])|skip))
 | ((first|refine callD_of false ?_|refine qcallD_of false ?_);simp (disch:=omega) only [push_cast,seval,hct,t0_some,htk,htl,hln,hce,Option.isSome_some,decide_true,innL_TL,innL_LL])
 | ((first|(refine call0D (BCall.ofP (drawCt_ok _ _ ?_ ?_)) ?_;(iterate 2 (exact sd));rintro _ _ ⟨⟨ts,ls,out,hpf,rfl⟩,rfl⟩)|((first|refine call0D (iConH_ok _ _ _ _ _ _ _ _ _ _ ?_ ?_) ?_|refine qcall0D (iConH_ok _ _ _ _ _ _ _ _ _ _ ?_ ?_) ⟨_,_,rfl,rfl⟩ ?_);(iterate 2 (exact sd));rintro _ _ ⟨rfl,rfl⟩)|((first|refine call0D (sConH_ok _ _ _ _ _ _ _ _ _ _ ?_ ?_) ?_|refine qcall0D (sConH_ok _ _ _ _ _ _ _ _ _ _ ?_ ?_) ⟨_,_,rfl,rfl⟩ ?_);(iterate 2 (exact sd));rintro _ _ ⟨rfl,rfl⟩)|((first|refine call0D (BCall.ofP (lequT_ok _ _ _ _ _ _ _ _ ?_ ?_)) ?_|refine qcall0D (BCall.ofP (lequT_ok _ _ _ _ _ _ _ _ ?_ ?_)) ⟨_,_,rfl,rfl⟩ ?_);(iterate 2 (exact sd));rintro _ _ ⟨rfl,rfl⟩))<;>(try simp (disch:=omega) only [push_cast,seval,hct,t0_some,htk,htl,hln,hce,Option.isSome_some,decide_true,innL_TL,innL_LL]))
 | (refine awp_ret ⟨.inr rfl,_,rfl,?_⟩; (try simp (disch := omega) only [push_cast,seval,hct,t0_some,htk,htl,hln,hce,Option.isSome_some,decide_true,innL_TL,innL_LL]))))
          refine awp_loop (fun k:Nat=>mkS [(3,.rows true (.rows true (IL x) x.length :: .rows true (IL y) y.length :: TL true r) (r.length + 1)),(4,.rows true (LL true ls) ls.length),(5,.rows true (IL out) out.length),(6,.ref 96 2 0),(10,.own 944 (r.length + 1) 2),(11,.int .i64 k)] [(96,[.own 448 Q.length 1,.own 449 R.length 1]),(448,IL Q),(449,IL R),(944,.rows true (IL x) x.length :: .own 1072 y.length 1 :: TL true r),(1072,IL (dbl y k))]) (fun k=>k ≤ y.length) (fun k=>y.length - k) 0 (Nat.zero_le _) ?_ ?_
          · have e0:dbl y 0=y:=by simp [dbl]
            (refine Sub.of_lists ?_ ?_ ?_ ?_ ?_<;>simp [Vw.mkS,Vw.lk,Vw.hk,AV.inn,innL,innL_ints,innL_append,innL_rep,-List.map_set,-List.getD_eq_getElem?_getD,e0,innL_TL,innL_LL])
          · intro k hk
            have hdl:=dbl_len y k
            by_cases hlt:k < y.length
            · have hbv:=hxy.2.2 _ (getD_mem (xs:=y) hlt)
              have hat:=dbl_at hlt
              have hst:=dbl_succ hlt
              generalize hD2:dbl y (k + 1)=D2 at *
              generalize dbl y k=D at *
              generalize y.getD k 0=v at *
              (repeat' (first
 | (first|refine awp_seq ?_|refine awp_block ?_)
 | ((first|refine awp_reg ?_|refine awp_drawX (mid:=l7r9a) (post:=l7r9b) [1072] mixed (by decide) ?_|refine awp_draw (mid:=l7r12a) (post:=l7r12b) mixed (by decide) ?_|refine awp_draw (mid:=l7r17a) (post:=l7r17b) mixed (by decide) ?_|refine awp_condB ?_|refine awp_skip ?_|refine awp_exit ?_);simp (disch:=omega) only [push_cast,seval,l7r0,l7r1,l7r2,l7r3,l7r4,l7r5,l7r6,l7r7,l7r8,l7r9a,l7r9b,l7r9,l7r10,l7r11,l7r12a,l7r12b,l7r12,l7r13,l7r14,l7r15,l7r16,l7r17a,l7r17b,l7r17,l7r18,l7r19,l7r20,hat,hdl,htl,innL_TL,innL_LL])
 | ((first|refine condB_split (fun h=>?_) (fun h=>?_)|refine gIf_split (fun h=>?_) (fun h=>?_)|refine qIf_split (fun h=>?_) (fun h=>?_))<;>(try simp only [h])<;>(try simp only [bitvec_to_nat] at h)<;>(try simp only [h])<;>(first|(exfalso;omega)|(focus (exfalso;simp_all;done))|(simp (disch:=omega) only [push_cast,seval,hat,hdl,htl,innL_TL,innL_LL])|skip))
 | ((first|refine callD_of false ?_|refine qcallD_of false ?_);simp (disch:=omega) only [push_cast,seval,hat,hdl,htl,innL_TL,innL_LL])
 | ((first|(refine call0D (BCall.ofP (drawCt_ok _ _ ?_ ?_)) ?_;(iterate 2 (exact sd));rintro _ _ ⟨⟨ts,ls,out,hpf,rfl⟩,rfl⟩)|((first|refine call0D (iConH_ok _ _ _ _ _ _ _ _ _ _ ?_ ?_) ?_|refine qcall0D (iConH_ok _ _ _ _ _ _ _ _ _ _ ?_ ?_) ⟨_,_,rfl,rfl⟩ ?_);(iterate 2 (exact sd));rintro _ _ ⟨rfl,rfl⟩)|((first|refine call0D (sConH_ok _ _ _ _ _ _ _ _ _ _ ?_ ?_) ?_|refine qcall0D (sConH_ok _ _ _ _ _ _ _ _ _ _ ?_ ?_) ⟨_,_,rfl,rfl⟩ ?_);(iterate 2 (exact sd));rintro _ _ ⟨rfl,rfl⟩)|((first|refine call0D (BCall.ofP (lequT_ok _ _ _ _ _ _ _ _ ?_ ?_)) ?_|refine qcall0D (BCall.ofP (lequT_ok _ _ _ _ _ _ _ _ ?_ ?_)) ⟨_,_,rfl,rfl⟩ ?_);(iterate 2 (exact sd));rintro _ _ ⟨rfl,rfl⟩))<;>(try simp (disch:=omega) only [push_cast,seval,hat,hdl,htl,innL_TL,innL_LL]))
 | (refine awp_ret ⟨.inr rfl,_,rfl,?_⟩; (try simp (disch := omega) only [push_cast,seval,hat,hdl,htl,innL_TL,innL_LL]))))
              refine ⟨k + 1,by omega,by omega,?_⟩
              (refine Sub.of_lists ?_ ?_ ?_ ?_ ?_<;>simp [Vw.mkS,Vw.lk,Vw.hk,AV.inn,innL,innL_ints,innL_append,innL_rep,-List.map_set,-List.getD_eq_getElem?_getD,hD2,hst,IL_set,innL_TL,innL_LL])
            · have hk2:k=y.length:=by omega
              subst hk2
              have q3:(x.length=x.length ∧ (y.map fun v=>2 * v).length=y.length ∧ r.length + 1=r.length + 1) ∧ ls.length=ls.length ∧ out.length=out.length:=⟨⟨rfl,by simp,rfl⟩,rfl,rfl⟩
              rw [dbl_all]
              generalize hY:(y.map fun v=>2 * v)=Y at *
              (repeat' (first
 | (first|refine awp_seq ?_|refine awp_block ?_)
 | ((first|refine awp_reg ?_|refine awp_drawX (mid:=l7r9a) (post:=l7r9b) [1072] mixed (by decide) ?_|refine awp_draw (mid:=l7r12a) (post:=l7r12b) mixed (by decide) ?_|refine awp_draw (mid:=l7r17a) (post:=l7r17b) mixed (by decide) ?_|refine awp_condB ?_|refine awp_skip ?_|refine awp_exit ?_);simp (disch:=omega) only [push_cast,seval,l7r0,l7r1,l7r2,l7r3,l7r4,l7r5,l7r6,l7r7,l7r8,l7r9a,l7r9b,l7r9,l7r10,l7r11,l7r12a,l7r12b,l7r12,l7r13,l7r14,l7r15,l7r16,l7r17a,l7r17b,l7r17,l7r18,l7r19,l7r20,hP2,hok2,htl,innL_TL,innL_LL])
 | ((first|refine condB_split (fun h=>?_) (fun h=>?_)|refine gIf_split (fun h=>?_) (fun h=>?_)|refine qIf_split (fun h=>?_) (fun h=>?_))<;>(try simp only [h])<;>(try simp only [bitvec_to_nat] at h)<;>(try simp only [h])<;>(first|(exfalso;omega)|(focus (exfalso;simp_all;done))|(simp (disch:=omega) only [push_cast,seval,hP2,hok2,htl,innL_TL,innL_LL])|skip))
 | ((first|refine callD_of false ?_|refine qcallD_of false ?_);simp (disch:=omega) only [push_cast,seval,hP2,hok2,htl,innL_TL,innL_LL])
 | ((first|(refine call0D (BCall.ofP (drawCt_ok _ _ ?_ ?_)) ?_;(iterate 2 (exact sd));rintro _ _ ⟨⟨ts,ls,out,hpf,rfl⟩,rfl⟩)|((first|refine call0D (iConH_ok _ _ _ _ _ _ _ _ _ _ ?_ ?_) ?_|refine qcall0D (iConH_ok _ _ _ _ _ _ _ _ _ _ ?_ ?_) ⟨_,_,rfl,rfl⟩ ?_);(iterate 2 (exact sd));rintro _ _ ⟨rfl,rfl⟩)|((first|refine call0D (sConH_ok _ _ _ _ _ _ _ _ _ _ ?_ ?_) ?_|refine qcall0D (sConH_ok _ _ _ _ _ _ _ _ _ _ ?_ ?_) ⟨_,_,rfl,rfl⟩ ?_);(iterate 2 (exact sd));rintro _ _ ⟨rfl,rfl⟩)|((first|refine call0D (BCall.ofP (lequT_ok _ _ _ _ _ _ _ _ ?_ ?_)) ?_|refine qcall0D (BCall.ofP (lequT_ok _ _ _ _ _ _ _ _ ?_ ?_)) ⟨_,_,rfl,rfl⟩ ?_);(iterate 2 (exact sd));rintro _ _ ⟨rfl,rfl⟩))<;>(try simp (disch:=omega) only [push_cast,seval,hP2,hok2,htl,innL_TL,innL_LL]))
 | (refine awp_ret ⟨.inr rfl,_,rfl,?_⟩; (try simp (disch := omega) only [push_cast,seval,hP2,hok2,htl,innL_TL,innL_LL]))))
              refine awp_loop (fun k:Nat=>mkS [(6,.ref 96 2 0),(12,.ref 192 2 0),(13,.bool ok2),(14,.int .i64 k)] [(96,[.own 448 Q.length 1,.own 449 R.length 1]),(448,IL Q),(449,IL R),(192,[.own 1632 Q2.length 1,.own 1633 R2.length 1]),(1632,IL Q2),(1633,IL R2)]) (fun k=>k ≤ R2.length) (fun k=>R2.length - k) 0 (Nat.zero_le _) ?_ ?_
              · (refine Sub.of_lists ?_ ?_ ?_ ?_ ?_<;>simp [Vw.mkS,Vw.lk,Vw.hk,AV.inn,innL,innL_ints,innL_append,innL_rep,-List.map_set,-List.getD_eq_getElem?_getD,innL_TL,innL_LL])
              · intro i hi
                by_cases hil:i < R2.length
                · obtain ⟨r1,r2⟩:=hR2 i hil
                  have r3:=hvb _ (getD_mem (xs:=R) r1)
                  clear hR2
                  generalize hv:R.getD i 0=v at *
                  (repeat' (first
 | (first|refine awp_seq ?_|refine awp_block ?_)
 | ((first|refine awp_reg ?_|refine awp_drawX (mid:=l7r9a) (post:=l7r9b) [1072] mixed (by decide) ?_|refine awp_draw (mid:=l7r12a) (post:=l7r12b) mixed (by decide) ?_|refine awp_draw (mid:=l7r17a) (post:=l7r17b) mixed (by decide) ?_|refine awp_condB ?_|refine awp_skip ?_|refine awp_exit ?_);simp (disch:=omega) only [push_cast,seval,l7r0,l7r1,l7r2,l7r3,l7r4,l7r5,l7r6,l7r7,l7r8,l7r9a,l7r9b,l7r9,l7r10,l7r11,l7r12a,l7r12b,l7r12,l7r13,l7r14,l7r15,l7r16,l7r17a,l7r17b,l7r17,l7r18,l7r19,l7r20,r2,hv,ne_eq,not_true_eq_false,decide_false])
 | ((first|refine condB_split (fun h=>?_) (fun h=>?_)|refine gIf_split (fun h=>?_) (fun h=>?_)|refine qIf_split (fun h=>?_) (fun h=>?_))<;>(try simp only [h])<;>(try simp only [bitvec_to_nat] at h)<;>(try simp only [h])<;>(first|(exfalso;omega)|(focus (exfalso;simp_all;done))|(simp (disch:=omega) only [push_cast,seval,r2,hv,ne_eq,not_true_eq_false,decide_false])|skip))
 | ((first|refine callD_of false ?_|refine qcallD_of false ?_);simp (disch:=omega) only [push_cast,seval,r2,hv,ne_eq,not_true_eq_false,decide_false])
 | ((first|(refine call0D (BCall.ofP (drawCt_ok _ _ ?_ ?_)) ?_;(iterate 2 (exact sd));rintro _ _ ⟨⟨ts,ls,out,hpf,rfl⟩,rfl⟩)|((first|refine call0D (iConH_ok _ _ _ _ _ _ _ _ _ _ ?_ ?_) ?_|refine qcall0D (iConH_ok _ _ _ _ _ _ _ _ _ _ ?_ ?_) ⟨_,_,rfl,rfl⟩ ?_);(iterate 2 (exact sd));rintro _ _ ⟨rfl,rfl⟩)|((first|refine call0D (sConH_ok _ _ _ _ _ _ _ _ _ _ ?_ ?_) ?_|refine qcall0D (sConH_ok _ _ _ _ _ _ _ _ _ _ ?_ ?_) ⟨_,_,rfl,rfl⟩ ?_);(iterate 2 (exact sd));rintro _ _ ⟨rfl,rfl⟩)|((first|refine call0D (BCall.ofP (lequT_ok _ _ _ _ _ _ _ _ ?_ ?_)) ?_|refine qcall0D (BCall.ofP (lequT_ok _ _ _ _ _ _ _ _ ?_ ?_)) ⟨_,_,rfl,rfl⟩ ?_);(iterate 2 (exact sd));rintro _ _ ⟨rfl,rfl⟩))<;>(try simp (disch:=omega) only [push_cast,seval,r2,hv,ne_eq,not_true_eq_false,decide_false]))
 | (refine awp_ret ⟨.inr rfl,_,rfl,?_⟩; (try simp (disch := omega) only [push_cast,seval,r2,hv,ne_eq,not_true_eq_false,decide_false]))))
                  refine ⟨i + 1,by omega,by omega,?_⟩
                  (refine Sub.of_lists ?_ ?_ ?_ ?_ ?_<;>simp [Vw.mkS,Vw.lk,Vw.hk,AV.inn,innL,innL_ints,innL_append,innL_rep,-List.map_set,-List.getD_eq_getElem?_getD])
                · cases ok2 with
                  | false => 
                    clear hR2
                    (repeat' (first
 | (first|refine awp_seq ?_|refine awp_block ?_)
 | ((first|refine awp_reg ?_|refine awp_drawX (mid:=l7r9a) (post:=l7r9b) [1072] mixed (by decide) ?_|refine awp_draw (mid:=l7r12a) (post:=l7r12b) mixed (by decide) ?_|refine awp_draw (mid:=l7r17a) (post:=l7r17b) mixed (by decide) ?_|refine awp_condB ?_|refine awp_skip ?_|refine awp_exit ?_);simp (disch:=omega) only [push_cast,seval,l7r0,l7r1,l7r2,l7r3,l7r4,l7r5,l7r6,l7r7,l7r8,l7r9a,l7r9b,l7r9,l7r10,l7r11,l7r12a,l7r12b,l7r12,l7r13,l7r14,l7r15,l7r16,l7r17a,l7r17b,l7r17,l7r18,l7r19,l7r20])
 | ((first|refine condB_split (fun h=>?_) (fun h=>?_)|refine gIf_split (fun h=>?_) (fun h=>?_)|refine qIf_split (fun h=>?_) (fun h=>?_))<;>(try simp only [h])<;>(try simp only [bitvec_to_nat] at h)<;>(try simp only [h])<;>(first|(exfalso;omega)|(focus (exfalso;simp_all;done))|(simp (disch:=omega) only [push_cast,seval])|skip))
 | ((first|refine callD_of false ?_|refine qcallD_of false ?_);simp (disch:=omega) only [push_cast,seval])
 | ((first|(refine call0D (BCall.ofP (drawCt_ok _ _ ?_ ?_)) ?_;(iterate 2 (exact sd));rintro _ _ ⟨⟨ts,ls,out,hpf,rfl⟩,rfl⟩)|((first|refine call0D (iConH_ok _ _ _ _ _ _ _ _ _ _ ?_ ?_) ?_|refine qcall0D (iConH_ok _ _ _ _ _ _ _ _ _ _ ?_ ?_) ⟨_,_,rfl,rfl⟩ ?_);(iterate 2 (exact sd));rintro _ _ ⟨rfl,rfl⟩)|((first|refine call0D (sConH_ok _ _ _ _ _ _ _ _ _ _ ?_ ?_) ?_|refine qcall0D (sConH_ok _ _ _ _ _ _ _ _ _ _ ?_ ?_) ⟨_,_,rfl,rfl⟩ ?_);(iterate 2 (exact sd));rintro _ _ ⟨rfl,rfl⟩)|((first|refine call0D (BCall.ofP (lequT_ok _ _ _ _ _ _ _ _ ?_ ?_)) ?_|refine qcall0D (BCall.ofP (lequT_ok _ _ _ _ _ _ _ _ ?_ ?_)) ⟨_,_,rfl,rfl⟩ ?_);(iterate 2 (exact sd));rintro _ _ ⟨rfl,rfl⟩))<;>(try simp (disch:=omega) only [push_cast,seval]))
 | (refine awp_ret ⟨.inr rfl,_,rfl,?_⟩; (try simp (disch := omega) only [push_cast,seval]))))
                    all_goals (try simp)
                  | true =>
                    have hf:=hfin rfl
                    clear hR2
                    (repeat' (first
 | (first|refine awp_seq ?_|refine awp_block ?_)
 | ((first|refine awp_reg ?_|refine awp_drawX (mid:=l7r9a) (post:=l7r9b) [1072] mixed (by decide) ?_|refine awp_draw (mid:=l7r12a) (post:=l7r12b) mixed (by decide) ?_|refine awp_draw (mid:=l7r17a) (post:=l7r17b) mixed (by decide) ?_|refine awp_condB ?_|refine awp_skip ?_|refine awp_exit ?_);simp (disch:=omega) only [push_cast,seval,l7r0,l7r1,l7r2,l7r3,l7r4,l7r5,l7r6,l7r7,l7r8,l7r9a,l7r9b,l7r9,l7r10,l7r11,l7r12a,l7r12b,l7r12,l7r13,l7r14,l7r15,l7r16,l7r17a,l7r17b,l7r17,l7r18,l7r19,l7r20,hf,decide_true])
 | ((first|refine condB_split (fun h=>?_) (fun h=>?_)|refine gIf_split (fun h=>?_) (fun h=>?_)|refine qIf_split (fun h=>?_) (fun h=>?_))<;>(try simp only [h])<;>(try simp only [bitvec_to_nat] at h)<;>(try simp only [h])<;>(first|(exfalso;omega)|(focus (exfalso;simp_all;done))|(simp (disch:=omega) only [push_cast,seval,hf,decide_true])|skip))
 | ((first|refine callD_of false ?_|refine qcallD_of false ?_);simp (disch:=omega) only [push_cast,seval,hf,decide_true])
 | ((first|(refine call0D (BCall.ofP (drawCt_ok _ _ ?_ ?_)) ?_;(iterate 2 (exact sd));rintro _ _ ⟨⟨ts,ls,out,hpf,rfl⟩,rfl⟩)|((first|refine call0D (iConH_ok _ _ _ _ _ _ _ _ _ _ ?_ ?_) ?_|refine qcall0D (iConH_ok _ _ _ _ _ _ _ _ _ _ ?_ ?_) ⟨_,_,rfl,rfl⟩ ?_);(iterate 2 (exact sd));rintro _ _ ⟨rfl,rfl⟩)|((first|refine call0D (sConH_ok _ _ _ _ _ _ _ _ _ _ ?_ ?_) ?_|refine qcall0D (sConH_ok _ _ _ _ _ _ _ _ _ _ ?_ ?_) ⟨_,_,rfl,rfl⟩ ?_);(iterate 2 (exact sd));rintro _ _ ⟨rfl,rfl⟩)|((first|refine call0D (BCall.ofP (lequT_ok _ _ _ _ _ _ _ _ ?_ ?_)) ?_|refine qcall0D (BCall.ofP (lequT_ok _ _ _ _ _ _ _ _ ?_ ?_)) ⟨_,_,rfl,rfl⟩ ?_);(iterate 2 (exact sd));rintro _ _ ⟨rfl,rfl⟩))<;>(try simp (disch:=omega) only [push_cast,seval,hf,decide_true]))
 | (refine awp_ret ⟨.inr rfl,_,rfl,?_⟩; (try simp (disch := omega) only [push_cast,seval,hf,decide_true]))))
                    all_goals (try simp)
  · (repeat' (first
 | (first|refine awp_seq ?_|refine awp_block ?_)
 | ((first|refine awp_reg ?_|refine awp_drawX (mid:=l7r9a) (post:=l7r9b) [1072] mixed (by decide) ?_|refine awp_draw (mid:=l7r12a) (post:=l7r12b) mixed (by decide) ?_|refine awp_draw (mid:=l7r17a) (post:=l7r17b) mixed (by decide) ?_|refine awp_condB ?_|refine awp_skip ?_|refine awp_exit ?_);simp (disch:=omega) only [push_cast,seval,l7r0,l7r1,l7r2,l7r3,l7r4,l7r5,l7r6,l7r7,l7r8,l7r9a,l7r9b,l7r9,l7r10,l7r11,l7r12a,l7r12b,l7r12,l7r13,l7r14,l7r15,l7r16,l7r17a,l7r17b,l7r17,l7r18,l7r19,l7r20])
 | ((first|refine condB_split (fun h=>?_) (fun h=>?_)|refine gIf_split (fun h=>?_) (fun h=>?_)|refine qIf_split (fun h=>?_) (fun h=>?_))<;>(try simp only [h])<;>(try simp only [bitvec_to_nat] at h)<;>(try simp only [h])<;>(first|(exfalso;omega)|(focus (exfalso;simp_all;done))|(simp (disch:=omega) only [push_cast,seval])|skip))
 | ((first|refine callD_of false ?_|refine qcallD_of false ?_);simp (disch:=omega) only [push_cast,seval])
 | ((first|(refine call0D (BCall.ofP (drawCt_ok _ _ ?_ ?_)) ?_;(iterate 2 (exact sd));rintro _ _ ⟨⟨ts,ls,out,hpf,rfl⟩,rfl⟩)|((first|refine call0D (iConH_ok _ _ _ _ _ _ _ _ _ _ ?_ ?_) ?_|refine qcall0D (iConH_ok _ _ _ _ _ _ _ _ _ _ ?_ ?_) ⟨_,_,rfl,rfl⟩ ?_);(iterate 2 (exact sd));rintro _ _ ⟨rfl,rfl⟩)|((first|refine call0D (sConH_ok _ _ _ _ _ _ _ _ _ _ ?_ ?_) ?_|refine qcall0D (sConH_ok _ _ _ _ _ _ _ _ _ _ ?_ ?_) ⟨_,_,rfl,rfl⟩ ?_);(iterate 2 (exact sd));rintro _ _ ⟨rfl,rfl⟩)|((first|refine call0D (BCall.ofP (lequT_ok _ _ _ _ _ _ _ _ ?_ ?_)) ?_|refine qcall0D (BCall.ofP (lequT_ok _ _ _ _ _ _ _ _ ?_ ?_)) ⟨_,_,rfl,rfl⟩ ?_);(iterate 2 (exact sd));rintro _ _ ⟨rfl,rfl⟩))<;>(try simp (disch:=omega) only [push_cast,seval]))
 | (refine awp_ret ⟨.inr rfl,_,rfl,?_⟩;(try simp (disch:=omega) only [push_cast,seval]))))

end Go.Proofs.Ytbplegbgofnolaa
