/- Texts of this verifier. -/
import Derived.Test.YtkpcjppnjmhanaaGreatDoorCB12
import Derived.Test.YtkpcjppnjmhanaaGreatDoorCM1
import Derived.Test.YtkpcjppnjmhanaaGreatDoorCW3
set_option maxHeartbeats 4000000
set_option linter.unusedSimpArgs false
set_option linter.unusedSectionVars false
set_option linter.unusedVariables false
set_option maxRecDepth 4000
namespace Go.Proofs.YtkpcjppnjmhanaaGreatDoor
open VwM Vw Go
variable [SentA]

theorem fill_has {mem L V:List Int} {x c:Int} (hV:∀ k,k < L.length → V.getD k 0=x) (hin:inM L mem.length) (hc:c ∈ L):(putL mem L V).getD c.toNat 0=x:=by
  obtain ⟨i,hi,rfl⟩:=List.getElem_of_mem hc
  have h:∀ k,k ≤ L.length → i < k → (putK mem L V k).getD (L.getD i 0).toNat 0=x:=by
    intro k
    induction k with
    | zero=>intro _ h;omega
    | succ k ih =>
      intro hk hik
      rw [putK]
      by_cases e:(L.getD k 0).toNat=(L.getD i 0).toNat
      · have:=hin i hi
        rw [e,Lfz (by rw [C2z];omega),hV k (by omega)]
      · have:i ≠ k:=fun h=>e (by rw [h])
        rw [Ixz e]
        exact ih (by omega) (by omega)
  have e:L.getD i 0=L[i]:=by rw [List.getD_eq_getElem?_getD,List.getElem?_eq_getElem hi,Option.getD_some]
  have:=h L.length (Nat.le_refl _) hi
  rw [e] at this
  exact this
theorem fill_not {mem L V:List Int} {c:Int} (hin:inM L mem.length) (h0:0 ≤ c) (hc:c ∉ L):(putL mem L V).getD c.toNat 0=mem.getD c.toNat 0:=by
  refine putK_out _ fun i hi e=>hc ?_
  have h1:=hin i hi
  have h2:L.getD i 0=c:=by omega
  rw [← h2]
  exact Cez hi
/-- Each open export is an open one. -/
theorem opens_get {es:List Ex} {j:Nat} (h:j < (opensT es es.length).length):∃ (q:Nat) (p b:Int) (x y:List Int),(opensT es es.length).getD j 0=q ∧ q < es.length ∧ es[q]?=some (p,(b,x,y),true):=by
  have hm:(opensT es es.length).getD j 0 ∈ opensT es es.length:=Cez h
  have hr:=Fhz hm
  obtain ⟨q,hq⟩:∃ q:Nat,(opensT es es.length).getD j 0=q:=⟨((opensT es es.length).getD j 0).toNat,by omega⟩
  rw [hq] at hm hr
  obtain ⟨⟨p,⟨b,x,y⟩,o⟩,he,ho⟩:=G9z hm
  simp only at ho
  subst ho
  exact ⟨q,p,b,x,y,hq,by omega,he⟩
theorem fillV {x:Int} {n:Nat}:∀ k,k < n → (rpt [x] n).getD k 0=x:=fun k hk=>by
  rw [I1z,List.getD_eq_getElem?_getD,List.getElem?_replicate,if_pos hk];rfl
/-- What an open export has after another was filled. -/
theorem xf_load {cs:List Int} {es:List Ex} {id v:Int} (h:xfG cs es id v=true):∃ (q:Nat) (p b:Int) (x y:List Int),id=q ∧ q < es.length ∧ es[q]?=some (p,(b,x,y),true) ∧ vV b x y=true ∧ (offs b x y).length ≤ 60 ∧
    ∀ c:Int,0 ≤ c → c ≤ 59 → (c ∈ bothL (offs b x y) (offs b x y) → (xfC cs es id v).getD c.toNat 0=v) ∧ (c ∉ bothL (offs b x y) (offs b x y) → (xfC cs es id v).getD c.toNat 0=cs.getD c.toNat 0):=by
  unfold xfG at h
  simp only [Bool.and_eq_true,decide_eq_true_eq] at h
  obtain ⟨⟨hv,hop⟩,hx⟩:=h
  obtain ⟨q,p,b,x,y,rfl,hq,he,hvw⟩:=E6z hop
  have hs:=Gcz hv he
  obtain ⟨g1,g2,g3⟩:=Eiz.1 hs
  have hol:=A8z b x y
  have hp:=Cnz hs
  have hin:inM (offs b x y) cs.length:=fun i hi=>by
    have:=g3 _ (Cez hi)
    omega
  refine ⟨q,p,b,x,y,rfl,hq,he,g2,by omega,fun c h0 h9=>?_⟩
  have hC:xfC cs es (q:Int) v=putL cs (offs b x y) (rpt [v] (pr x).toNat):=by unfold xfC filL;rw [hvw]
  rw [hC]
  constructor
  · intro hc
    exact fill_has (fun k hk=>fillV k (by omega)) hin (mem_bothL.1 hc).2.1
  · intro hc
    exact fill_not hin h0 fun hm=>hc (mem_bothL.2 ⟨⟨h0,h9⟩,hm,hm⟩)
abbrev fxQ (cs:List Int) (es:List Ex) (id v:Int):Prop:=(-1000 ≤ id ∧ id ≤ 1000) ∧ (-1000 ≤ v ∧ v ≤ 1000) ∧ (opensA cs es).length ≤ es.length ∧ ((ifB (xfG cs es id v) (xfC cs es id v)).length ≤ 1099511627776 ∧ (ifB (xfG cs es id v) es).length ≤ 1099511627776 ∧ exB 1099511627776 (ifB (xfG cs es id v) es))
theorem fxQ_of {cs:List Int} {es:List Ex} {id v:Int} (h:sbQ cs es) (hs:-1000 ≤ id ∧ id ≤ 1000) (hv:-1000 ≤ v ∧ v ≤ 1000):fxQ cs es id v:=by
  have h1:=h.1
  refine ⟨hs,hv,Klz cs es,?_⟩
  cases xfG cs es id v with
  | false=>exact ⟨Nat.zero_le _,Nat.zero_le _,fun e he=>by cases he⟩
  | true=>exact ⟨by rw [Dcz];unfold xfC;rw [E2z];exact h1.1,h1.2.1,h1.2.2⟩


theorem drawFEB_ok (bs:List Int) (n:Nat) (hn:bs.length=n) (hb:n ≤ 1099511627776 ∧ ∀ x ∈ bs,0 ≤ x ∧ x ≤ 255):BCall Tryz.prog 21 [.rows false (UL bs) n] [] (fun r H'=>∃ cs es id x,sbQ cs es ∧ (-1000 ≤ id ∧ id ≤ 1000) ∧ (-1000 ≤ x ∧ x ≤ 1000) ∧ r=.tup [.agg [.own 0 cs.length 1,.own 1 es.length 5],.int .i64 id,.int .i64 x] ∧ H'=[IL cs,EL false es]):=by
  subst hn
  refine Auz (pins:=[]) (pin:=0) l21_eq rfl rfl rfl ?_
  (repeat' (first
 | (first|refine Agz ?_|refine Abz ?_)
 | ((first|refine Ahz ?_|refine Bsz (mid:=l21r3a) (post:=l21r3b) [144,32] mixed (by decide) ?_);simp (disch:=omega) only [push_cast,seval,l21r0,l21r1,l21r2,l21r3a,l21r3b,l21r3,Aaz])
 | ((first|((with_reducible refine Alz (f:=41) true ?_);simp (disch:=omega) only [push_cast,seval,Aaz];(refine Akz (newReader_ok _ _ ?_ ?_) ?_;(iterate 2 (exact sd));rintro _ _ ⟨bs0,hbs0,rfl,rfl⟩))|((with_reducible refine A6z (f:=40) [144] true ?_);simp (disch:=omega) only [push_cast,seval,Aaz];(refine E8z (id:=144) (idOf_ok _ _ ?_ ?_) (by (simp (disch:=omega) only [push_cast,seval,Aaz])<;>rfl) ?_;(iterate 2 (exact sd));rintro _ _ ⟨csG,esG,idG,pG,hsG,hiG,hpG,rfl,rfl⟩))|((with_reducible refine Emz (f:=57) [144] true ?_);simp (disch:=omega) only [push_cast,seval,Aaz];(refine I5z (id:=144) (oneR_ok _ _ _ _ ?_ ?_ ?_ ?_ ?_) (by (simp (disch:=omega) only [push_cast,seval,Aaz])<;>rfl) (by decide) (by simp only [Euz,Glz];exact ⟨_,_,_,List.mem_cons_self,by omega,rfl,rfl⟩) ?_;(iterate 5 (exact sd));rintro _ _ ⟨x,hx,hx0,rfl,rfl⟩)))<;>(try simp (disch:=omega) only [push_cast,seval,Aaz]))))
  all_goals ((refine Afz ⟨.inr rfl,[192,193],[],_,by decide,rfl,?_⟩;(try simp (disch:=omega) only [push_cast,seval,↓Adz,↓Acz,↓List.map_cons,↓List.map_nil,Aaz])))
  all_goals exact ⟨csG,esG,idG,_,sbQ_of hsG,hiG,(by simp only [Euz,Glz,List.mem_cons,List.not_mem_nil,or_false] at hx;omega),rfl,rfl⟩
theorem drawFE_ok (bs:List Int) (n:Nat) (hn:bs.length=n) (hb:n ≤ 1099511627776 ∧ ∀ x ∈ bs,0 ≤ x ∧ x ≤ 255):PCall Tryz.prog 21 [.rows false (UL bs) n] (fun r=>∃ cs es id x,sbQ cs es ∧ fxQ cs es id x ∧ r=.tup [.agg [.rows true (IL cs) cs.length,.rows true (EL false es) es.length],.int .i64 id,.int .i64 x]):=by
  refine (BCall.plain (drawFEB_ok bs n hn hb)).mono ?_
  rintro r ⟨r0,H',⟨cs,es,id,x,h,hs,hx,rfl,rfl⟩,rfl⟩
  refine ⟨cs,es,id,x,h,fxQ_of h hs hx,?_⟩
  simp [AV.ren,nthH,I3z,Azz]


theorem iFEP_ok (cs:List Int) (es:List Ex) (m n:Nat) (id v:Int) (hm:cs.length=m) (hn:es.length=n) (hb:m ≤ 1048576 ∧ n ≤ 1048576 ∧ exB 1048576 es) :
    PCall Tryz.prog 22 [.agg [.rows false (IL cs) m,.rows false (EL false es) n],.int .i64 id,.int .i64 v] (fun r=>r=.tup [.agg [.rows true (IL (ifB (xfG cs es id v) (xfC cs es id v))) (ifB (xfG cs es id v) (xfC cs es id v)).length,.rows true (EL true (ifB (xfG cs es id v) es)) (ifB (xfG cs es id v) es).length],.bool (xfG cs es id v)]) :=
  OBf_plain (iFE_ok cs es m n id v hm hn hb)


theorem sFEP_ok (cs:List Int) (es:List Ex) (m n:Nat) (id v:Int) (hm:cs.length=m) (hn:es.length=n) (hb:m ≤ 1099511627776 ∧ n ≤ 1099511627776 ∧ exB 1099511627776 es) :
    PCall Tryz.prog 23 [.agg [.rows false (IL cs) m,.rows false (EL false es) n],.int .i64 id,.int .i64 v] (fun r=>r=.tup [.agg [.rows true (IL (ifB (xfG cs es id v) (xfC cs es id v))) (ifB (xfG cs es id v) (xfC cs es id v)).length,.rows true (EL true (ifB (xfG cs es id v) es)) (ifB (xfG cs es id v) es).length],.bool (xfG cs es id v)]) :=
  OBs_plain (sFE_ok cs es m n id v hm hn hb)


theorem iCeP_ok (b:Int) (sh st:List Int) (n m:Nat) (hn:sh.length=n) (hm:st.length=m) (hb:vV b sh st=true ∧ sh.length ≤ 1099511627776 ∧ st.length ≤ 1099511627776):PCall Tryz.prog 24 [.agg [.int .i64 b,.rows false (IL sh) n,.rows false (IL st) m]] (fun r=>r=.rows true (IL (bothL (offs b sh st) (offs b sh st))) (bothL (offs b sh st) (offs b sh st)).length):=by
  subst hn hm
  obtain ⟨hv,hb⟩:=hb
  refine (BCall.plain (iCe_ok b sh st _ _ rfl rfl hb)).mono ?_
  rintro r ⟨r0,H',⟨rfl,rfl⟩,rfl⟩
  rw [hv,MVL_true]
  simp [AV.ren,nthH,List.map_map,Function.comp_def]


theorem iOfP_ok (b:Int) (sh st:List Int) (n m:Nat) (hn:sh.length=n) (hm:st.length=m) (hb:vV b sh st=true ∧ sh.length ≤ 1099511627776 ∧ st.length ≤ 1099511627776):PCall Tryz.prog 25 [.agg [.int .i64 b,.rows false (IL sh) n,.rows false (IL st) m]] (fun r=>r=.rows true (IL (offs b sh st)) (offs b sh st).length):=by
  subst hn hm
  obtain ⟨hv,hb⟩:=hb
  refine (BCall.plain (L0z b sh st _ _ rfl rfl hb)).mono ?_
  rintro r ⟨r0,H',⟨rfl,rfl⟩,rfl⟩
  rw [if_pos hv]
  simp [AV.ren,nthH,List.map_map,Function.comp_def]


set_option maxHeartbeats 64000000 in
theorem lFEf_ok (bs:List Int) (hn:bs.length ≤ 9223372036854775807) (hb:∀ x ∈ bs,0 ≤ x ∧ x ≤ 255):PCall Tryz.prog 5 [.rows false (UL bs) bs.length] (fun r=>r=.bool true):=by
  refine Axz l5_eq rfl ?_
  by_cases h:bs.length ≤ 1048576
  · have q:bs.length ≤ 1099511627776 ∧ ∀ x ∈ bs,0 ≤ x ∧ x ≤ 255:=⟨by omega,hb⟩
    (repeat' (first
 | (first|refine Agz ?_|refine Abz ?_)
 | ((first|refine Ahz ?_|refine Aez ?_|refine Aoz ?_);simp (disch:=omega) only [push_cast,seval,l5r0,l5r1,l5r2,l5r3,l5r4,l5r5,l5r6,l5r7,l5r8,l5r9,l5r10,l5r11,l5r12a,l5r12b,l5r12,l5r13a,l5r13b,l5r13,l5r14a,l5r14b,l5r14,l5r15,l5r16,l5r17a,l5r17b,l5r17,l5r18,l5r19,l5r20,l5r21,Aaz,bne_self_eq_false,decide_true])
 | ((first|refine Amz (fun h=>?_) (fun h=>?_))<;>(try simp only [h])<;>(try simp only [bitvec_to_nat] at h)<;>(try simp only [h])<;>(first|(exfalso;omega)|(exfalso;simp_all;done)|(simp (disch:=omega) only [push_cast,seval,Aaz,bne_self_eq_false,decide_true])|skip))
 | ((first|((with_reducible refine Alz (f:=21) true ?_);simp (disch:=omega) only [push_cast,seval,Aaz,bne_self_eq_false,decide_true];(refine Akz (Ajz (drawFE_ok _ _ ?_ ?_)) ?_;(iterate 2 (exact sd));rintro _ _ ⟨⟨cs,es,id,x,⟨hs1,hs2,hs3,hs4,hs5⟩,⟨hk1,hk2,hol,hq1⟩,rfl⟩,rfl⟩)))<;>(try simp (disch:=omega) only [push_cast,seval,Aaz,bne_self_eq_false,decide_true]))
 | ((first|refine Alz false ?_);simp (disch:=omega) only [push_cast,seval,Aaz,bne_self_eq_false,decide_true])
 | ((first|((first|refine Akz (Ajz (iFEP_ok _ _ _ _ _ _ ?_ ?_ ?_)) ?_|refine Aiz (Ajz (iFEP_ok _ _ _ _ _ _ ?_ ?_ ?_)) ⟨_,_,rfl,rfl⟩ ?_);(iterate 3 (exact sd));rintro _ _ ⟨rfl,rfl⟩)|((first|refine Akz (Ajz (sFEP_ok _ _ _ _ _ _ ?_ ?_ ?_)) ?_|refine Aiz (Ajz (sFEP_ok _ _ _ _ _ _ ?_ ?_ ?_)) ⟨_,_,rfl,rfl⟩ ?_);(iterate 3 (exact sd));rintro _ _ ⟨rfl,rfl⟩)|((first|refine Akz (Ajz (eqBufS_ok _ _ _ _ _ _ ?_ ?_ ?_ ?_ ?_)) ?_|refine Aiz (Ajz (eqBufS_ok _ _ _ _ _ _ ?_ ?_ ?_ ?_ ?_)) ⟨_,_,rfl,rfl⟩ ?_);(iterate 5 (exact sd));rintro _ _ ⟨rfl,rfl⟩)|((first|refine Akz (Ajz (iOpenP_ok _ _ _ _ ?_ ?_ ?_)) ?_|refine Aiz (Ajz (iOpenP_ok _ _ _ _ ?_ ?_ ?_)) ⟨_,_,rfl,rfl⟩ ?_);(iterate 3 (exact sd));rintro _ _ ⟨rfl,rfl⟩))<;>(try simp (disch:=omega) only [push_cast,seval,Aaz,bne_self_eq_false,decide_true]))))
    · (refine Afz ⟨.inr rfl,_,rfl,?_⟩;try simp (disch:=omega) only [push_cast,seval,beq_self_eq_true])
      all_goals (try simp)
    · have hv:vB cs es=true:=by unfold xfG at h;simp only [Bool.and_eq_true] at h;exact h.1.1
      have hv2:=vB_xf h
      obtain ⟨q,p,b,xx,y,rfl,hq,he,hvv,hL60,hfill⟩:=xf_load h
      have hO:opensA cs es=opensT es es.length:=by unfold opensA;rw [if_pos hv]
      have hel:=fun c=>Azz c es
      have hil:q * 5 + 5 ≤ es.length * 5:=by omega
      have h3:=Hnz he
      rw [hO] at hol
      rw [h] at hq1
      simp only [Dcz,hO] at hq1 ⊢
      have hk60:=bothL_le (offs b xx y) (offs b xx y)
      generalize hC:xfC cs es (q:Int) x=C at *
      generalize hK:bothL (offs b xx y) (offs b xx y)=K at *
      have hxy:=Czz hs1.2.2 he
      have qv:vV b xx y=true ∧ xx.length ≤ 1099511627776 ∧ y.length ≤ 1099511627776:=⟨hvv,hxy⟩
      simp (disch:=omega) only [push_cast,seval,Aaz,hel,hil,h3,hvv,hK,MVL_true,Int.toNat_natCast]
      (repeat' (first
 | (first|refine Agz ?_|refine Abz ?_)
 | ((first|refine Ahz ?_);simp (disch:=omega) only [push_cast,seval,l5r0,l5r1,l5r2,l5r3,l5r4,l5r5,l5r6,l5r7,l5r8,l5r9,l5r10,l5r11,l5r12a,l5r12b,l5r12,l5r13a,l5r13b,l5r13,l5r14a,l5r14b,l5r14,l5r15,l5r16,l5r17a,l5r17b,l5r17,l5r18,l5r19,l5r20,l5r21,Aaz,hel,hil,h3,hvv,hK,MVL_true])
 | ((first|refine Alz false ?_);simp (disch:=omega) only [push_cast,seval,Aaz,hel,hil,h3,hvv,hK,MVL_true])
 | ((first|((first|refine Akz (Ajz (iCeP_ok _ _ _ _ _ ?_ ?_ ?_)) ?_|refine Aiz (Ajz (iCeP_ok _ _ _ _ _ ?_ ?_ ?_)) ⟨_,_,rfl,rfl⟩ ?_);(iterate 3 (exact sd));rintro _ _ ⟨rfl,rfl⟩))<;>(try simp (disch:=omega) only [push_cast,seval,Aaz,hel,hil,h3,hvv,hK,MVL_true]))))
      refine Ckz (fun i:Nat=>mkS [(3,.ref 48 2 0),(5,.int .i64 x),(6,.ref 96 2 0),(10,.rows true (IL (opensT es es.length)) (opensT es es.length).length),(11,.rows true (IL K) K.length),(12,.int .i64 i)] [(48,[.rows true (IL cs) cs.length,.rows true (EL false es) es.length]),(96,[.rows true (IL C) C.length,.rows true (EL true es) es.length])]) (fun i=>i ≤ (opensT es es.length).length) (fun i=>(opensT es es.length).length - i) 0 (Nat.zero_le _) ?_ ?_
      · refine SubW.of ?_
        (refine Sub.of_lists ?_ ?_ ?_ ?_ ?_<;>simp [Vw.mkS,Vw.lk,Vw.hk,AV.inn,innL,Apz,Anz,Aqz,-List.map_set,-List.getD_eq_getElem?_getD,Aaz])
      · intro i hi
        by_cases hlt:i < (opensT es es.length).length
        · obtain ⟨q',p',b',x',y',hg,hq',he'⟩:=opens_get hlt
          have hil':q' * 5 + 5 ≤ es.length * 5:=by omega
          have h3':=Hnz he'
          have hl1:=loadA_at hv hq' he'
          have hl2:=loadA_at hv2 hq' he'
          have hsee:=Gcz hv he'
          obtain ⟨g1,g2,g3⟩:=Eiz.1 hsee
          have hxy':=Czz hs1.2.2 he'
          have qv':vV b' x' y'=true ∧ x'.length ≤ 1099511627776 ∧ y'.length ≤ 1099511627776:=⟨g2,hxy'⟩
          have ha60:=(see_prX hsee).1
          have htl1:=takesL_length cs (offs b' x' y')
          have htl2:=takesL_length C (offs b' x' y')
          have hat1:∀ k,k < (offs b' x' y').length → (takesL cs (offs b' x' y')).getD k 0=cs.getD ((offs b' x' y').getD k 0).toNat 0:=fun k hk=>Gmz hk
          have hat2:∀ k,k < (offs b' x' y').length → (takesL C (offs b' x' y')).getD k 0=C.getD ((offs b' x' y').getD k 0).toNat 0:=fun k hk=>Gmz hk
          have hrg:∀ k,k < (offs b' x' y').length → 0 ≤ (offs b' x' y').getD k 0 ∧ (offs b' x' y').getD k 0 ≤ 59:=fun k hk=>by
            have:=g3 _ (Cez hk)
            have:=(Iuz hv).1
            omega
          generalize hT1:takesL cs (offs b' x' y')=T1 at *
          generalize hT2:takesL C (offs b' x' y')=T2 at *
          generalize hA:offs b' x' y'=A at *
          (repeat' (first
 | (first|refine Agz ?_|refine Abz ?_)
 | ((first|refine Ahz ?_|refine Awz (mid:=l5r12a) (post:=l5r12b) mixed (by decide) ?_|refine Awz (mid:=l5r13a) (post:=l5r13b) mixed (by decide) ?_|refine Awz (mid:=l5r14a) (post:=l5r14b) mixed (by decide) ?_|refine Aez ?_|refine Aoz ?_);simp (disch:=omega) only [push_cast,seval,l5r0,l5r1,l5r2,l5r3,l5r4,l5r5,l5r6,l5r7,l5r8,l5r9,l5r10,l5r11,l5r12a,l5r12b,l5r12,l5r13a,l5r13b,l5r13,l5r14a,l5r14b,l5r14,l5r15,l5r16,l5r17a,l5r17b,l5r17,l5r18,l5r19,l5r20,l5r21,Aaz,hel,hg,hil',h3',hl1,hl2,g2,hA,hT1,hT2,MVL_true,Int.toNat_natCast])
 | ((first|refine Amz (fun h=>?_) (fun h=>?_))<;>(try simp only [h])<;>(try simp only [bitvec_to_nat] at h)<;>(try simp only [h])<;>(first|(exfalso;omega)|(exfalso;simp_all;done)|(simp (disch:=omega) only [push_cast,seval,Aaz,hel,hg,hil',h3',hl1,hl2,g2,hA,hT1,hT2,MVL_true,Int.toNat_natCast])|skip))
 | ((first|refine Alz false ?_);simp (disch:=omega) only [push_cast,seval,Aaz,hel,hg,hil',h3',hl1,hl2,g2,hA,hT1,hT2,MVL_true,Int.toNat_natCast])
 | ((first | ((first | refine Akz (Ajz (iOfP_ok _ _ _ _ _ ?_ ?_ ?_)) ?_ | refine Aiz (Ajz (iOfP_ok _ _ _ _ _ ?_ ?_ ?_)) ⟨_,_,rfl,rfl⟩ ?_); (iterate 3 (exact sd)); rintro _ _ ⟨rfl,rfl⟩) | ((first | refine Akz (Ajz (iLEP_ok _ _ _ _ _ ?_ ?_ ?_)) ?_ | refine Aiz (Ajz (iLEP_ok _ _ _ _ _ ?_ ?_ ?_)) ⟨_,_,rfl,rfl⟩ ?_); (iterate 3 (exact sd)); rintro _ _ ⟨rfl,rfl⟩)) <;> (try simp (disch := omega) only [push_cast,seval,Aaz,hel,hg,hil',h3',hl1,hl2,g2,hA,hT1,hT2,MVL_true,Int.toNat_natCast]))))
          refine Ckz (fun k:Nat=>mkS [(3,.ref 48 2 0),(5,.int .i64 x),(6,.ref 96 2 0),(10,.rows true (IL (opensT es es.length)) (opensT es es.length).length),(11,.rows true (IL K) K.length),(12,.int .i64 i),(13,.rows true (IL A) A.length),(14,.rows true (IL T1) T1.length),(15,.rows true (IL T2) T2.length),(16,.int .i64 k)] [(48,[.rows true (IL cs) cs.length,.rows true (EL false es) es.length]),(96,[.rows true (IL C) C.length,.rows true (EL true es) es.length])]) (fun k=>k ≤ A.length) (fun k=>A.length - k) 0 (Nat.zero_le _) ?_ ?_
          · refine SubW.of ?_
            (refine Sub.of_lists ?_ ?_ ?_ ?_ ?_<;>simp [Vw.mkS,Vw.lk,Vw.hk,AV.inn,innL,Apz,Anz,Aqz,-List.map_set,-List.getD_eq_getElem?_getD,Aaz])
          · intro k hk
            by_cases hlk:k < A.length
            · have a1:=hat1 k hlk
              have a2:=hat2 k hlk
              have hc9:=hrg k hlk
              have hf:=hfill (A.getD k 0) hc9.1 hc9.2
              by_cases hm:A.getD k 0 ∈ K
              · have hd:decide (A.getD k 0 ∈ K)=true:=decide_eq_true hm
                have a3:=hf.1 hm
                rw [a3] at a2
                clear hf hfill
                (repeat' (first
 | (first|refine Agz ?_|refine Abz ?_)
 | ((first|refine Ahz ?_|refine Awz (mid:=l5r17a) (post:=l5r17b) mixed (by decide) ?_|refine Aez ?_|refine Aoz ?_);simp (disch:=omega) only [push_cast,seval,l5r0,l5r1,l5r2,l5r3,l5r4,l5r5,l5r6,l5r7,l5r8,l5r9,l5r10,l5r11,l5r12a,l5r12b,l5r12,l5r13a,l5r13b,l5r13,l5r14a,l5r14b,l5r14,l5r15,l5r16,l5r17a,l5r17b,l5r17,l5r18,l5r19,l5r20,l5r21,Aaz,hd,a2,decide_false])
 | ((first|refine Amz (fun h=>?_) (fun h=>?_))<;>(try simp only [h])<;>(try simp only [bitvec_to_nat] at h)<;>(try simp only [h])<;>(first|(exfalso;omega)|(exfalso;simp_all;done)|(simp (disch:=omega) only [push_cast,seval,Aaz,hd,a2,decide_false])|skip))
 | ((first|refine A2z false ?_);simp (disch:=omega) only [push_cast,seval,Aaz,hd,a2,decide_false])
 | ((first | ((first | refine Akz (Ajz (Iqz _ _ _ ?_ ?_)) ?_ | refine Aiz (Ajz (Iqz _ _ _ ?_ ?_)) ⟨_,_,rfl,rfl⟩ ?_); (iterate 2 (exact sd)); rintro _ _ ⟨rfl,rfl⟩)) <;> (try simp (disch := omega) only [push_cast,seval,Aaz,hd,a2,decide_false]))))
                refine ⟨k + 1,by omega,by omega,SubW.of ?_⟩
                (refine Sub.of_lists ?_ ?_ ?_ ?_ ?_<;>simp [Vw.mkS,Vw.lk,Vw.hk,AV.inn,innL,Apz,Anz,Aqz,-List.map_set,-List.getD_eq_getElem?_getD,Aaz])
              · have hd:decide (A.getD k 0 ∈ K)=false:=decide_eq_false hm
                have a3:=hf.2 hm
                rw [a3,← a1] at a2
                clear hf hfill
                (repeat' (first
 | (first|refine Agz ?_|refine Abz ?_)
 | ((first|refine Ahz ?_|refine Awz (mid:=l5r17a) (post:=l5r17b) mixed (by decide) ?_|refine Aez ?_|refine Aoz ?_);simp (disch:=omega) only [push_cast,seval,l5r0,l5r1,l5r2,l5r3,l5r4,l5r5,l5r6,l5r7,l5r8,l5r9,l5r10,l5r11,l5r12a,l5r12b,l5r12,l5r13a,l5r13b,l5r13,l5r14a,l5r14b,l5r14,l5r15,l5r16,l5r17a,l5r17b,l5r17,l5r18,l5r19,l5r20,l5r21,Aaz,hd,a2,decide_false])
 | ((first|refine Amz (fun h=>?_) (fun h=>?_))<;>(try simp only [h])<;>(try simp only [bitvec_to_nat] at h)<;>(try simp only [h])<;>(first|(exfalso;omega)|(exfalso;simp_all;done)|(simp (disch:=omega) only [push_cast,seval,Aaz,hd,a2,decide_false])|skip))
 | ((first|refine A2z false ?_);simp (disch:=omega) only [push_cast,seval,Aaz,hd,a2,decide_false])
 | ((first | ((first | refine Akz (Ajz (Iqz _ _ _ ?_ ?_)) ?_ | refine Aiz (Ajz (Iqz _ _ _ ?_ ?_)) ⟨_,_,rfl,rfl⟩ ?_); (iterate 2 (exact sd)); rintro _ _ ⟨rfl,rfl⟩)) <;> (try simp (disch := omega) only [push_cast,seval,Aaz,hd,a2,decide_false]))))
                refine ⟨k + 1,by omega,by omega,SubW.of ?_⟩
                (refine Sub.of_lists ?_ ?_ ?_ ?_ ?_<;>simp [Vw.mkS,Vw.lk,Vw.hk,AV.inn,innL,Apz,Anz,Aqz,-List.map_set,-List.getD_eq_getElem?_getD,Aaz])
            · have e:k=A.length:=by omega
              subst e
              clear hfill
              (repeat' (first
 | (first|refine Agz ?_|refine Abz ?_)
 | ((first|refine Ahz ?_|refine Aez ?_|refine A1z ?_);simp (disch:=omega) only [push_cast,seval,l5r0,l5r1,l5r2,l5r3,l5r4,l5r5,l5r6,l5r7,l5r8,l5r9,l5r10,l5r11,l5r12a,l5r12b,l5r12,l5r13a,l5r13b,l5r13,l5r14a,l5r14b,l5r14,l5r15,l5r16,l5r17a,l5r17b,l5r17,l5r18,l5r19,l5r20,l5r21,Aaz,decide_false])
 | ((first | refine Amz (fun h => ?_) (fun h => ?_)) <;> (try simp only [h]) <;> (try simp only [bitvec_to_nat] at h) <;> (try simp only [h]) <;> (first | (exfalso; omega) | (focus (exfalso; simp_all; done)) | (simp (disch := omega) only [push_cast,seval,Aaz,decide_false]) | skip))))
              refine ⟨i + 1,by omega,by omega,SubW.of ?_⟩
              (refine Sub.of_lists ?_ ?_ ?_ ?_ ?_<;>simp [Vw.mkS,Vw.lk,Vw.hk,AV.inn,innL,Apz,Anz,Aqz,-List.map_set,-List.getD_eq_getElem?_getD,Aaz])
        · have e:i=(opensT es es.length).length:=by omega
          subst e
          clear hfill
          (repeat' (first
 | (first|refine Agz ?_|refine Abz ?_)
 | ((first|refine Ahz ?_|refine Aez ?_|refine A1z ?_);simp (disch:=omega) only [push_cast,seval,l5r0,l5r1,l5r2,l5r3,l5r4,l5r5,l5r6,l5r7,l5r8,l5r9,l5r10,l5r11,l5r12a,l5r12b,l5r12,l5r13a,l5r13b,l5r13,l5r14a,l5r14b,l5r14,l5r15,l5r16,l5r17a,l5r17b,l5r17,l5r18,l5r19,l5r20,l5r21,Aaz,hv2,hel])
 | ((first|refine Amz (fun h=>?_) (fun h=>?_))<;>(try simp only [h])<;>(try simp only [bitvec_to_nat] at h)<;>(try simp only [h])<;>(first|(exfalso;omega)|(exfalso;simp_all;done)|(simp (disch:=omega) only [push_cast,seval,Aaz,hv2,hel])|skip))
 | ((first|refine Alz false ?_);simp (disch:=omega) only [push_cast,seval,Aaz,hv2,hel])
 | ((first | ((first | refine Akz (Ajz (Dnz _ _ _ _ ?_ ?_ ?_)) ?_ | refine Aiz (Ajz (Dnz _ _ _ _ ?_ ?_ ?_)) ⟨_,_,rfl,rfl⟩ ?_); (iterate 3 (exact sd)); rintro _ _ ⟨rfl,rfl⟩)) <;> (try simp (disch := omega) only [push_cast,seval,Aaz,hv2,hel]))))
          all_goals ((refine Afz ⟨.inr rfl,_,rfl,?_⟩;try simp (disch:=omega) only [push_cast,seval]))
          all_goals (try rfl)
    all_goals ((refine Afz ⟨.inr rfl,_,rfl,?_⟩;try simp (disch:=omega) only [push_cast,seval,beq_self_eq_true]))
    all_goals (try simp)
  · (repeat' (first
 | (first|refine Agz ?_|refine Abz ?_)
 | ((first|refine Ahz ?_|refine Aez ?_);simp (disch:=omega) only [push_cast,seval,l5r0,l5r1,l5r2,l5r3,l5r4,l5r5,l5r6,l5r7,l5r8,l5r9,l5r10,l5r11,l5r12a,l5r12b,l5r12,l5r13a,l5r13b,l5r13,l5r14a,l5r14b,l5r14,l5r15,l5r16,l5r17a,l5r17b,l5r17,l5r18,l5r19,l5r20,l5r21,Aaz])
 | ((first|refine Amz (fun h=>?_) (fun h=>?_))<;>(try simp only [h])<;>(try simp only [bitvec_to_nat] at h)<;>(try simp only [h])<;>(first|(exfalso;omega)|(exfalso;simp_all;done)|(simp (disch:=omega) only [push_cast,seval,Aaz])|skip))
 | (refine Afz ⟨.inr rfl,_,rfl,?_⟩;(try simp (disch:=omega) only [push_cast,seval,Aaz]))))

end Go.Proofs.YtkpcjppnjmhanaaGreatDoor
namespace Go.Proofs.YtkpcjppnjmhanaaGreatDoor
open VwM Vw Go
variable [SentA]

end Go.Proofs.YtkpcjppnjmhanaaGreatDoor
namespace Go.Proofs.YtkpcjppnjmhanaaGreatDoor
open VwM Vw Go
variable [SentA]

end Go.Proofs.YtkpcjppnjmhanaaGreatDoor
namespace Go.Proofs.YtkpcjppnjmhanaaGreatDoor
open VwM Vw Go
variable [SentA]

end Go.Proofs.YtkpcjppnjmhanaaGreatDoor
namespace Go.Proofs.YtkpcjppnjmhanaaGreatDoor
open VwM Vw Go
variable [SentA]

end Go.Proofs.YtkpcjppnjmhanaaGreatDoor
namespace Go.Proofs.YtkpcjppnjmhanaaGreatDoor
open VwM Vw Go
variable [SentA]

end Go.Proofs.YtkpcjppnjmhanaaGreatDoor
namespace Go.Proofs.YtkpcjppnjmhanaaGreatDoor
open VwM Vw Go
variable [SentA]

end Go.Proofs.YtkpcjppnjmhanaaGreatDoor
