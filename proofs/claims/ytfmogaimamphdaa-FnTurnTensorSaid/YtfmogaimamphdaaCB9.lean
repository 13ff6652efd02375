/- Texts of this verifier. -/
import Derived.Test.YtfmogaimamphdaaCB8
import Derived.Test.YtfmogaimamphdaaCM1
import Derived.Test.YtfmogaimamphdaaCW3
set_option linter.unusedSimpArgs false
set_option linter.unusedVariables false
set_option maxRecDepth 4000
set_option maxHeartbeats 4000000
namespace Go.Proofs.Ytfmogaimamphdaa
open VwM Vw Go

/-- Labels that agree with extents are agreed on. -/
theorem ex_of {ts:List Tn} {ls:List (List Int)} (f:Int → Int) (hv:ts.all vT=true) (h1:1 ≤ ts.length ∧ ts.length ≤ 3) (hlen:ls.length=ts.length)
    (hl:∀ (i:Nat) (t:Tn) (l:List Int),ts[i]?=some t → ls[i]?=some l → l.length=t.1.length ∧ (∀ x ∈ l,0 ≤ x ∧ x ≤ 4) ∧ ∀ j,j < l.length → f (l.getD j 0)=t.1.getD j 0):∃ e,exO ts ls=some e:=by
  have hok:labOk ts ls=true:=by
    unfold labOk
    rw [List.all_eq_true]
    intro p hp
    obtain ⟨i,hi⟩:=List.mem_iff_getElem?.1 hp
    obtain ⟨a,b⟩:=List.getElem?_zip_eq_some.1 hi
    have:=hl i p.2 p.1 b a
    rw [Bool.and_eq_true,decide_eq_true_eq,Bdz]
    exact ⟨this.1,this.2.1⟩
  obtain ⟨e,he⟩:=extG_ok (f:=fun k=>f (k:Int)) (prsOf ts ls) (e:=ext0) (fun p hp=>by
    obtain ⟨i,t,l,j,ht,hl2,hj,_,rfl⟩:=mem_prs hp
    obtain ⟨a,b,c⟩:=hl i t l ht hl2
    have hb:=b _ (A2z hj)
    refine ⟨by rw [B4z];simp only;omega,?_⟩
    simp only
    rw [show (((l.getD j 0).toNat:Nat):Int)=l.getD j 0 by omega]
    exact c j hj) (fun k hk h0=>by
    rw [B4z] at hk
    have:k=0 ∨ k=1 ∨ k=2 ∨ k=3 ∨ k=4:=by omega
    rcases this with rfl|rfl|rfl|rfl|rfl<;>exact absurd h0 (by decide))
  refine ⟨e,?_⟩
  unfold exO
  rw [if_pos (by rw [hv];simp [h1,hlen])]
  unfold exT
  rw [if_pos hok]
  exact he
theorem one_of {t:Tn} {l:List Int} (f:Int → Int) (hv:vT t=true) (h1:l.length=t.1.length) (h2:∀ x ∈ l,0 ≤ x ∧ x ≤ 4) (h3:∀ j,j < l.length → f (l.getD j 0)=t.1.getD j 0):∃ e,exO [t] [l]=some e :=
  ex_of f (by simp [hv]) (by simp) rfl fun i t' l' ht hl=>by
    match i,ht,hl with
    | 0,ht,hl=>simp only [List.getElem?_cons_zero,Option.some.injEq] at ht hl;subst ht hl;exact ⟨h1,h2,h3⟩
/-- The space of labels,those of the result first. -/
theorem sp_out {ts:List Tn} {ls:List (List Int)} {e out:List Int} (hC:CtOk ts ls e) (ho:∀ x ∈ out,x ∈ ls.flatten) (hon:out.Nodup):pr (spE e)=pr (out.map (gE e)) * pr ((sumd ls out).map (gE e)):=by
  rw [spE_lbS (U:=ls.flatten) hC.len hC.un (fun k hk hm=>by have:=(hC.used _ hm).2.1;unfold gE at this;rwa [Int.toNat_natCast] at this),Gnz ((outk hC ho hon).map (gE e)),List.map_append,pr_append]
theorem sumd_all {ls:List (List Int)} {out:List Int} (h:∀ x ∈ ls.flatten,x ∈ out):sumd ls out=[]:=by
  refine List.eq_nil_iff_forall_not_mem.2 fun x hx=>?_
  have:=Egz.1 hx
  exact this.2 (h x this.1.2)
/-- A tensor with its dimensions in another order. -/
def turnT (t:Tn) (order:List Int):Tn:=(permL t.1 order,takesL t.2 (offs 0 (permL t.1 order) (permL (rowS t.1) order)))
theorem Gaz {sh order:List Int} (hs:vSh sh=true) (ho:isOrd order sh.length):∀ x ∈ offs 0 (permL sh order) (permL (rowS sh) order),0 ≤ x ∧ x < pr sh:=fun x hx=>by
  have h0:=(A5z hs).2.1
  have h:=(offs_perm (b:=0) (st:=rowS sh) (A5z hs).1 ho).mem_iff.1 hx
  rw [Inz hs,Cdz] at h
  omega
theorem Ifz {t:Tn} {order:List Int} (hv:vT t=true) (ho:isOrd order t.1.length):vT (turnT t order)=true:=by
  obtain ⟨h1,h2,h3⟩:=B6z.1 hv
  refine B6z.2 ⟨D6z (Bqz ho) h1,?_,fun x hx=>?_⟩
  · show ((takesL t.2 _).length:Int)=pr (permL t.1 order)
    rw [takesL_length,Buz]
    have:=(A5z (D6z (Bqz ho) h1)).2.1
    omega
  · obtain ⟨y,hy,rfl⟩:=List.mem_map.1 hx
    have:=Gaz h1 ho y hy
    exact h3 _ (A2z (by omega))
theorem turn_ct {t:Tn} {order:List Int} (hv:vT t=true) (ho:isOrd order t.1.length):ctT [t] [nums 0 1 t.1.length] order=some (turnT t order):=by
  obtain ⟨h1,h2,h3⟩:=B6z.1 hv
  have hg:=A5z h1
  have h4:=hg.1.2
  obtain ⟨e,he⟩:=one_of (t:=t) (l:=nums 0 1 t.1.length) (fun x=>t.1.getD x.toNat 0) hv (by simp) (fun x hx=>by have:=Cdz.1 hx;omega) (fun j hj=>by
    rw [B3z] at hj
    simp only [Clz _ _ _ _ hj]
    congr 1;omega)
  have hC:=ctOk_of he
  have hlab:=hC.lab 0 t (nums 0 1 t.1.length) rfl rfl
  have hge:∀ d:Nat,d < t.1.length → gE e d=t.1.getD d 0:=fun d hd=>by
    have:=hlab.2.2.2 d (by simpa using hd)
    rw [Clz _ _ _ _ hd] at this
    rw [← this];congr 1;omega
  have hO:order.map (gE e)=permL t.1 order:=List.map_congr_left fun x hx=>by
    have hr:=ho.2.1 x hx
    rw [← hge x.toNat (by omega)]
    congr 1;omega
  have hfl:∀ x,x ∈ [nums 0 1 t.1.length].flatten ↔ x ∈ order:=fun x=>by
    rw [show [nums 0 1 t.1.length].flatten=nums 0 1 t.1.length by simp]
    exact (ho.perm.mem_iff).symm
  have hsd:=sumd_all (ls:=[nums 0 1 t.1.length]) (out:=order) fun x hx=>(hfl x).1 hx
  have hvs:vSh (permL t.1 order)=true:=D6z (Bqz ho) h1
  have hsp:=sp_out hC (fun x hx=>(hfl x).2 hx) ho.2.2
  rw [hsd,hO] at hsp
  have hp1:pr (List.map (gE e) [])=1:=rfl
  have hpm:=Gnz (Bqz ho)
  have hcc:ctC order e=true:=by
    unfold ctC
    rw [hO,hvs,Bdz.2 fun x hx=>by have:=ho.2.1 x hx;omega]
    rw [hsp,hp1]
    simp only [Bool.true_and,Bool.and_true,Bool.and_eq_true,decide_eq_true_eq]
    exact ⟨ho.2.2,by omega⟩
  have hvp:=A5z hvs
  have hW:ctW [t] [nums 0 1 t.1.length] order e=turnT t order:=by
    unfold ctW turnT
    rw [hO]
    congr 1
    refine Bgz (by rw [Fyz,takesL_length,Buz]) fun p hp=>?_
    rw [Fyz] at hp
    have hpo:p < (offs 0 (permL t.1 order) (permL (rowS t.1) order)).length:=by rw [Buz];exact hp
    rw [Gjz hpo,Fgz hp]
    have hin:=Gaz h1 ho _ (A2z hpo)
    rw [Fgz hp] at hin
    have hcv:(ctV [t] [nums 0 1 t.1.length] order e (pr (permL t.1 order)).toNat).getD p 0=w64 (ctE [t] [nums 0 1 t.1.length] order e p):=by unfold ctV;simp [List.getD,hp]
    have hdot:dot (fun d=>gE (wayK e order Z5 p) ((nums 0 1 t.1.length).getD d 0)) (rowS t.1) t.1.length=cellK 0 (permL t.1 order) (permL (rowS t.1) order) p:=by
      unfold cellK
      rw [Ayz,ho.1,Hbz ho,Int.zero_add]
      refine Cnz fun d hd=>?_
      obtain ⟨i1,i2⟩:=Diz ho hd
      have hi:order[invO order d]?=some (d:Int):=by
        have hlt:invO order d < order.length:=by rw [ho.1];exact i1
        rw [List.getElem?_eq_getElem hlt]
        rw [List.getD,List.getElem?_eq_getElem hlt,Option.getD_some] at i2
        rw [i2]
      rw [Clz _ _ _ _ hd,show (0:Int) + (d:Int) * 1=d by omega,wayK_at ho.2.2 (Hlz rfl fun x hx=>by have:=ho.2.1 x hx;omega) hi,hO]
    have hcE:ctE [t] [nums 0 1 t.1.length] order e p=t.2.getD (cellK 0 (permL t.1 order) (permL (rowS t.1) order) p).toNat 0:=by
      unfold ctE
      rw [hsd]
      show gP [t] [nums 0 1 t.1.length] (wayK e order Z5 p)=_
      rw [← hdot]
      simp [gP,prodL,tv]
    rw [hcv,hcE]
    exact w64_id (by have:=h3 _ (A2z (xs:=t.2) (j:=(cellK 0 (permL t.1 order) (permL (rowS t.1) order) p).toNat) (by omega));omega)
  rw [ctT_yes he hcc (by rw [hW];exact Ifz hv ho),hW]

end Go.Proofs.Ytfmogaimamphdaa
set_option linter.unusedSimpArgs false
set_option linter.unusedVariables false
set_option maxRecDepth 4000
set_option maxHeartbeats 4000000
namespace Go.Proofs.Ytfmogaimamphdaa
open VwM Vw Go

def ordB (order:List Int) (n:Nat):Bool:=decide (order.length=n) && allI order 0 ((n:Int) - 1) && decide order.Nodup
def ttT (t:Tn) (order:List Int):Tn:=if (vT t && ordB order t.1.length)=true then turnT t order else ([],[])
theorem Hrz {t:Tn} {order:List Int} (h:(vT t && ordB order t.1.length)=false):ttT t order=([],[]):=by unfold ttT;rw [h];rfl
theorem Giz {t:Tn} {order:List Int} (h1:vT t=true) (h2:ordB order t.1.length=true):ttT t order=turnT t order:=by unfold ttT;rw [h1,h2];rfl
theorem turnT_len {t:Tn} {order:List Int} (h1:vT t=true) (h2:isOrd order t.1.length):(turnT t order).1.length=t.1.length ∧ (turnT t order).1.length ≤ 4 ∧ (turnT t order).2.length ≤ 60:=by
  have hv:=B6z.1 (Ifz h1 h2)
  have hg:=A5z hv.1
  have hl:(turnT t order).1.length=t.1.length:=by show (permL t.1 order).length=_;rw [Ayz,h2.1]
  exact ⟨hl,hg.1.2,by have:=hv.2.1;have:=hg.2;omega⟩
theorem row_okV {sh order:List Int} (hs:vSh sh=true) (ho:isOrd order sh.length):okV 0 (permL sh order) (permL (rowS sh) order) ∧ (permL (rowS sh) order).length=(permL sh order).length:=by
  have hg:=(A5z hs).1
  have hp:=A5z (D6z (Bqz ho) hs)
  refine ⟨⟨⟨hp.1,hp.2.2⟩,by omega,by rw [Ayz,Ayz];exact Nat.le_refl _,fun i hi=>?_⟩,by rw [Ayz,Ayz]⟩
  rw [Ayz] at hi
  rw [Ccz _ _ hi]
  have hx:=ho.2.1 _ (A2z hi)
  have:=rowS_bound hg (order.getD i 0).toNat (by omega)
  omega


theorem sloadX_ok (mem:List Int) (b:Int) (sh st:List Int) (q n m:Nat) (hq:mem.length=q) (hn:sh.length=n) (hm:st.length=m) (hb:okV b sh st ∧ st.length=sh.length ∧ mem.length ≤ 60 ∧ ∀ x ∈ offs b sh st,0 ≤ x ∧ x < mem.length):BCall Try.prog 46 [.rows false (IL mem) q,.agg [.int .i64 b,.rows false (IL sh) n,.rows false (IL st) m]] [] (OI (takesL mem (offs b sh st))):=by
  subst hq hn hm
  obtain ⟨f1,f2,f6,f7⟩:=hb
  have f3:=f1.1.1
  have f5:=f1.1.2
  have f4:=(B2z f3).1
  have hat:∀ k,k < (offs b sh st).length → 0 ≤ (offs b sh st).getD k 0 ∧ (offs b sh st).getD k 0 ≤ (mem.length:Int) - 1:=fun k hk=>by have:=f7 _ (A2z hk);omega
  have hol:=Buz b sh st
  clear f7
  generalize hL:offs b sh st=L at *
  refine A8z (pins:=[]) (pin:=0) l46_eq rfl rfl rfl ?_
  (repeat' (first
 | (first|refine Akz ?_|refine Aez ?_)
 | ((first|refine Alz ?_|refine Adz ?_|refine Afz ?_|refine Agz ?_);simp (disch:=omega) only [push_cast,seval,l46r0,l46r1,l46r2,l46r3,l46r4,l46r5,l46r6,l46r7,hL])
 | ((first|refine Aaz ?_ ?_|refine Acz ?_ ?_|refine Abz ?_ ?_)<;>intro h<;>(try simp only [h])<;>(try simp only [bitvec_to_nat] at h)<;>(try simp only [h])<;>(first|(exfalso;omega)|(exfalso;simp_all;done)|(simp (disch:=omega) only [push_cast,seval,hL])|skip))
 | ((first|refine Apz false ?_|refine qcallD_of false ?_);simp (disch:=omega) only [push_cast,seval,hL])
 | ((first|((first|refine call0D (Cbz _ _ _ _ _ ?_ ?_ ?_) ?_|refine qcall0D (Cbz _ _ _ _ _ ?_ ?_ ?_) ⟨_,_,rfl,rfl⟩ ?_);(iterate 3 (exact sd));rintro _ _ ⟨rfl,rfl⟩))<;>(try simp (disch:=omega) only [push_cast,seval,hL]))
 | (refine Ahz ⟨.inr rfl,[128],[],_,by decide,rfl,?_⟩;(try simp (disch:=omega) only [push_cast,seval,↓Amz,↓Aiz,↓List.map_cons,↓List.map_nil,hL]);(first|done|(show AV.own _ _ _=_ ∧ _)))
 | (refine Ahz ⟨.inr rfl,[160],[],_,by decide,rfl,?_⟩;(try simp (disch:=omega) only [push_cast,seval,↓Amz,↓Aiz,↓List.map_cons,↓List.map_nil,hL]);(first|done|(show AV.own _ _ _=_ ∧ _)))
 | (refine Ahz ⟨.inr rfl,[400],[],_,by decide,rfl,?_⟩;(try simp (disch:=omega) only [push_cast,seval,↓Amz,↓Aiz,↓List.map_cons,↓List.map_nil,hL]);(first|done|(show AV.own _ _ _=_ ∧ _)))
 | (refine Ahz ⟨.inr rfl,[416],[],_,by decide,rfl,?_⟩;(try simp (disch:=omega) only [push_cast,seval,↓Amz,↓Aiz,↓List.map_cons,↓List.map_nil,hL]);(first|done|(show AV.own _ _ _=_ ∧ _)))))
  refine A1z (fun k:Nat=>mkS [(0,RI mem),(5,.own 128 k 1),(6,.own 160 L.length 1),(7,.int .i64 k)] [(128,IL (takesL mem (L.take k))),(160,IL L)])
    (fun k=>k ≤ L.length) (fun k=>L.length - k) 0 (Nat.zero_le _) ?_ ?_
  · have e0:takesL mem []=[]:=rfl
    (refine Sub.of_lists ?_ ?_ ?_ ?_ ?_<;>simp [Vw.mkS,Vw.lk,Vw.hk,AV.inn,innL,Aqz,Anz,Asz,-List.map_set,-List.getD_eq_getElem?_getD,e0])
  · intro k hk
    have e1:(takesL mem (L.take k)).length=k:=by rw [takesL_length];simp;omega
    by_cases hlt:k < L.length
    · obtain ⟨h1,h2⟩:=hat k hlt
      have e2:takesL mem (L.take (k + 1))=takesL mem (L.take k) ++ [mem.getD (L.getD k 0).toNat 0]:=by rw [Bez L k hlt];simp [takesL]
      (repeat' (first
 | (first|refine Akz ?_|refine Aez ?_)
 | ((first|refine Alz ?_|refine Adz ?_|refine Afz ?_|refine Agz ?_);simp (disch:=omega) only [push_cast,seval,l46r0,l46r1,l46r2,l46r3,l46r4,l46r5,l46r6,l46r7,e1])
 | ((first|refine Aaz ?_ ?_|refine Acz ?_ ?_|refine Abz ?_ ?_)<;>intro h<;>(try simp only [h])<;>(try simp only [bitvec_to_nat] at h)<;>(try simp only [h])<;>(first|(exfalso;omega)|(exfalso;simp_all;done)|(simp (disch:=omega) only [push_cast,seval,e1])|skip))
 | ((first|refine Apz false ?_|refine qcallD_of false ?_);simp (disch:=omega) only [push_cast,seval,e1])
 | ((first|((first|refine call0D (Cbz _ _ _ _ _ ?_ ?_ ?_) ?_|refine qcall0D (Cbz _ _ _ _ _ ?_ ?_ ?_) ⟨_,_,rfl,rfl⟩ ?_);(iterate 3 (exact sd));rintro _ _ ⟨rfl,rfl⟩))<;>(try simp (disch:=omega) only [push_cast,seval,e1]))
 | (refine Ahz ⟨.inr rfl,[128],[],_,by decide,rfl,?_⟩;(try simp (disch:=omega) only [push_cast,seval,↓Amz,↓Aiz,↓List.map_cons,↓List.map_nil,e1]))))
      refine ⟨k + 1,by omega,by omega,?_⟩
      (refine Sub.of_lists ?_ ?_ ?_ ?_ ?_<;>simp [Vw.mkS,Vw.lk,Vw.hk,AV.inn,innL,Aqz,Anz,Asz,-List.map_set,-List.getD_eq_getElem?_getD,e2])
    · (repeat' (first
 | (first|refine Akz ?_|refine Aez ?_)
 | ((first|refine Alz ?_|refine Adz ?_|refine Afz ?_|refine Agz ?_);simp (disch:=omega) only [push_cast,seval,l46r0,l46r1,l46r2,l46r3,l46r4,l46r5,l46r6,l46r7,e1])
 | ((first|refine Aaz ?_ ?_|refine Acz ?_ ?_|refine Abz ?_ ?_)<;>intro h<;>(try simp only [h])<;>(try simp only [bitvec_to_nat] at h)<;>(try simp only [h])<;>(first|(exfalso;omega)|(exfalso;simp_all;done)|(simp (disch:=omega) only [push_cast,seval,e1])|skip))
 | ((first|refine Apz false ?_|refine qcallD_of false ?_);simp (disch:=omega) only [push_cast,seval,e1])
 | ((first|((first|refine call0D (Cbz _ _ _ _ _ ?_ ?_ ?_) ?_|refine qcall0D (Cbz _ _ _ _ _ ?_ ?_ ?_) ⟨_,_,rfl,rfl⟩ ?_);(iterate 3 (exact sd));rintro _ _ ⟨rfl,rfl⟩))<;>(try simp (disch:=omega) only [push_cast,seval,e1]))
 | (refine Ahz ⟨.inr rfl,[128],[],_,by decide,rfl,?_⟩;(try simp (disch:=omega) only [push_cast,seval,↓Amz,↓Aiz,↓List.map_cons,↓List.map_nil,e1]))))
      have:k=L.length:=by omega
      subst this
      simp [OI,takesL_length]


set_option maxHeartbeats 16000000 in
theorem sTT_ok (a1 a2 order:List Int) (n1 n2 m:Nat) (h1:a1.length=n1) (h2:a2.length=n2) (hm:order.length=m) (hb:(n1 ≤ 1099511627776 ∧ n2 ≤ 1099511627776) ∧ m ≤ 1099511627776) :
    BCall Try.prog 22 [.agg [.rows false (IL a1) n1,.rows false (IL a2) n2],.rows false (IL order) m] [] (OT (ttT (a1,a2) order).1 (ttT (a1,a2) order).2):=by
  subst h1 h2 hm
  obtain ⟨⟨hb1,hb2⟩,hb3⟩:=hb
  refine A8z (pins:=[]) (pin:=0) l22_eq rfl rfl rfl ?_
  cases hv:vT (a1,a2) with
  | false =>
    rw [Hrz (by rw [hv];rfl)]
    (repeat' (first
 | (first|refine Akz ?_|refine Aez ?_)
 | ((first|refine Alz ?_|refine Arz (mid:=l22r3a) (post:=l22r3b) Axz (by decide) ?_|refine Arz (mid:=l22r4a) (post:=l22r4b) Axz (by decide) ?_|refine Adz ?_|refine Afz ?_|refine Agz ?_);simp (disch:=omega) only [push_cast,seval,l22r0,l22r1,l22r2,l22r3a,l22r3b,l22r3,l22r4a,l22r4b,l22r4,hv])
 | ((first|refine Aaz ?_ ?_|refine Acz ?_ ?_|refine Abz ?_ ?_)<;>intro h<;>(try simp only [h])<;>(try simp only [bitvec_to_nat] at h)<;>(try simp only [h])<;>(first|(exfalso;omega)|(exfalso;simp_all;done)|(simp (disch:=omega) only [push_cast,seval,hv])|skip))
 | ((first|refine Apz false ?_|refine qcallD_of false ?_);simp (disch:=omega) only [push_cast,seval,hv])
 | ((first|((first|refine call0D (BCall.ofP (Hsz _ _ _ _ ?_ ?_ ?_)) ?_|refine qcall0D (BCall.ofP (Hsz _ _ _ _ ?_ ?_ ?_)) ⟨_,_,rfl,rfl⟩ ?_);(iterate 3 (exact sd));rintro _ _ ⟨rfl,rfl⟩)|((first|refine call0D (BCall.ofP (svalidOrder_ok _ _ _ ?_ ?_)) ?_|refine qcall0D (BCall.ofP (svalidOrder_ok _ _ _ ?_ ?_)) ⟨_,_,rfl,rfl⟩ ?_);(iterate 2 (exact sd));rintro _ _ ⟨rfl,rfl⟩)|((first|refine call0D (srowStrides_ok _ _ ?_ ?_) ?_|refine qcall0D (srowStrides_ok _ _ ?_ ?_) ⟨_,_,rfl,rfl⟩ ?_);(iterate 2 (exact sd));rintro _ _ ⟨rfl,rfl⟩)|((first|refine call0D (spermuted_ok _ _ _ _ _ _ _ ?_ ?_ ?_ ?_) ?_|refine qcall0D (spermuted_ok _ _ _ _ _ _ _ ?_ ?_ ?_ ?_) ⟨_,_,rfl,rfl⟩ ?_);(iterate 4 (exact sd));rintro _ _ ⟨rfl,rfl⟩)|((first|refine call0D (copyInts_ok _ _ ?_ ?_) ?_|refine qcall0D (copyInts_ok _ _ ?_ ?_) ⟨_,_,rfl,rfl⟩ ?_);(iterate 2 (exact sd));rintro _ _ ⟨rfl,rfl⟩)|((first|refine call0D (sloadX_ok _ _ _ _ _ _ _ ?_ ?_ ?_ ?_) ?_|refine qcall0D (sloadX_ok _ _ _ _ _ _ _ ?_ ?_ ?_ ?_) ⟨_,_,rfl,rfl⟩ ?_);(iterate 4 (exact sd));rintro _ _ ⟨rfl,rfl⟩))<;>(try simp (disch:=omega) only [push_cast,seval,hv]))
 | (refine Ahz ⟨.inr rfl,[16000,16016],[(16000,1),(16016,1)],_,by decide,rfl,?_⟩;(try simp (disch:=omega) only [push_cast,seval,↓Amz,↓Aiz,↓List.map_cons,↓List.map_nil,hv]))))
    all_goals exact ⟨rfl,rfl⟩
  | true =>
    obtain ⟨hs,hlen,_⟩:=B6z.1 hv
    simp only at hs hlen
    have hg:=A5z hs
    have h4:a1.length ≤ 4:=hg.1.2
    have hq0:order.length ≤ 1099511627776 ∧ a1.length ≤ 1000:=by omega
    cases ho:(decide (order.length=a1.length) && allI order 0 ((a1.length:Int) - 1) && decide order.Nodup) with
    | false =>
      rw [Hrz (by rw [hv];exact ho)]
      (repeat' (first
 | (first|refine Akz ?_|refine Aez ?_)
 | ((first|refine Alz ?_|refine Arz (mid:=l22r3a) (post:=l22r3b) Axz (by decide) ?_|refine Arz (mid:=l22r4a) (post:=l22r4b) Axz (by decide) ?_|refine Adz ?_|refine Afz ?_|refine Agz ?_);simp (disch:=omega) only [push_cast,seval,l22r0,l22r1,l22r2,l22r3a,l22r3b,l22r3,l22r4a,l22r4b,l22r4,hv,ho])
 | ((first|refine Aaz ?_ ?_|refine Acz ?_ ?_|refine Abz ?_ ?_)<;>intro h<;>(try simp only [h])<;>(try simp only [bitvec_to_nat] at h)<;>(try simp only [h])<;>(first|(exfalso;omega)|(exfalso;simp_all;done)|(simp (disch:=omega) only [push_cast,seval,hv,ho])|skip))
 | ((first|refine Apz false ?_|refine qcallD_of false ?_);simp (disch:=omega) only [push_cast,seval,hv,ho])
 | ((first|((first|refine call0D (BCall.ofP (Hsz _ _ _ _ ?_ ?_ ?_)) ?_|refine qcall0D (BCall.ofP (Hsz _ _ _ _ ?_ ?_ ?_)) ⟨_,_,rfl,rfl⟩ ?_);(iterate 3 (exact sd));rintro _ _ ⟨rfl,rfl⟩)|((first|refine call0D (BCall.ofP (svalidOrder_ok _ _ _ ?_ ?_)) ?_|refine qcall0D (BCall.ofP (svalidOrder_ok _ _ _ ?_ ?_)) ⟨_,_,rfl,rfl⟩ ?_);(iterate 2 (exact sd));rintro _ _ ⟨rfl,rfl⟩)|((first|refine call0D (srowStrides_ok _ _ ?_ ?_) ?_|refine qcall0D (srowStrides_ok _ _ ?_ ?_) ⟨_,_,rfl,rfl⟩ ?_);(iterate 2 (exact sd));rintro _ _ ⟨rfl,rfl⟩)|((first|refine call0D (spermuted_ok _ _ _ _ _ _ _ ?_ ?_ ?_ ?_) ?_|refine qcall0D (spermuted_ok _ _ _ _ _ _ _ ?_ ?_ ?_ ?_) ⟨_,_,rfl,rfl⟩ ?_);(iterate 4 (exact sd));rintro _ _ ⟨rfl,rfl⟩)|((first|refine call0D (copyInts_ok _ _ ?_ ?_) ?_|refine qcall0D (copyInts_ok _ _ ?_ ?_) ⟨_,_,rfl,rfl⟩ ?_);(iterate 2 (exact sd));rintro _ _ ⟨rfl,rfl⟩)|((first|refine call0D (sloadX_ok _ _ _ _ _ _ _ ?_ ?_ ?_ ?_) ?_|refine qcall0D (sloadX_ok _ _ _ _ _ _ _ ?_ ?_ ?_ ?_) ⟨_,_,rfl,rfl⟩ ?_);(iterate 4 (exact sd));rintro _ _ ⟨rfl,rfl⟩))<;>(try simp (disch:=omega) only [push_cast,seval,hv,ho]))
 | (refine Ahz ⟨.inr rfl,[16000,16016],[(16000,1),(16016,1)],_,by decide,rfl,?_⟩;(try simp (disch:=omega) only [push_cast,seval,↓Amz,↓Aiz,↓List.map_cons,↓List.map_nil,hv,ho]))))
      all_goals exact ⟨rfl,rfl⟩
    | true =>
      have hO:=Gdz ho
      rw [Giz hv ho]
      have hrl:=Dez a1
      have hok:=row_okV hs hO
      have hix:=Gaz hs hO
      have l1:=Ayz a1 order
      have l2:=Ayz (rowS a1) order
      have hT:turnT (a1,a2) order=(permL a1 order,takesL a2 (offs 0 (permL a1 order) (permL (rowS a1) order))):=rfl
      have q1:(a1.length ≤ 4 ∧ (rowS a1).length=a1.length ∧ order.length=a1.length) ∧ ∀ x ∈ order,0 ≤ x ∧ x ≤ (a1.length:Int) - 1:=⟨⟨h4,hrl,hO.1⟩,hO.2.1⟩
      have q2:okV 0 (permL a1 order) (permL (rowS a1) order) ∧ (permL (rowS a1) order).length=(permL a1 order).length ∧ a2.length ≤ 60 ∧ ∀ x ∈ offs 0 (permL a1 order) (permL (rowS a1) order),0 ≤ x ∧ x < a2.length:=⟨hok.1,hok.2,by omega,fun x hx=>by have:=hix x hx;omega⟩
      have q3:=hg.1
      rw [hT]
      (repeat' (first
 | (first|refine Akz ?_|refine Aez ?_)
 | ((first|refine Alz ?_|refine Arz (mid:=l22r3a) (post:=l22r3b) Axz (by decide) ?_|refine Arz (mid:=l22r4a) (post:=l22r4b) Axz (by decide) ?_|refine Adz ?_|refine Afz ?_|refine Agz ?_);simp (disch:=omega) only [push_cast,seval,l22r0,l22r1,l22r2,l22r3a,l22r3b,l22r3,l22r4a,l22r4b,l22r4,hv,ho,hrl])
 | ((first|refine Aaz ?_ ?_|refine Acz ?_ ?_|refine Abz ?_ ?_)<;>intro h<;>(try simp only [h])<;>(try simp only [bitvec_to_nat] at h)<;>(try simp only [h])<;>(first|(exfalso;omega)|(exfalso;simp_all;done)|(simp (disch:=omega) only [push_cast,seval,hv,ho,hrl])|skip))
 | ((first|refine Apz false ?_|refine qcallD_of false ?_);simp (disch:=omega) only [push_cast,seval,hv,ho,hrl])
 | ((first|((first|refine call0D (BCall.ofP (Hsz _ _ _ _ ?_ ?_ ?_)) ?_|refine qcall0D (BCall.ofP (Hsz _ _ _ _ ?_ ?_ ?_)) ⟨_,_,rfl,rfl⟩ ?_);(iterate 3 (exact sd));rintro _ _ ⟨rfl,rfl⟩)|((first|refine call0D (BCall.ofP (svalidOrder_ok _ _ _ ?_ ?_)) ?_|refine qcall0D (BCall.ofP (svalidOrder_ok _ _ _ ?_ ?_)) ⟨_,_,rfl,rfl⟩ ?_);(iterate 2 (exact sd));rintro _ _ ⟨rfl,rfl⟩)|((first|refine call0D (srowStrides_ok _ _ ?_ ?_) ?_|refine qcall0D (BCall.ofP (plainI (srowStrides_ok _ _ ?_ ?_))) ⟨_,_,rfl,rfl⟩ ?_);(iterate 2 (exact sd));rintro _ _ ⟨rfl,rfl⟩)|((first|refine call0D (spermuted_ok _ _ _ _ _ _ _ ?_ ?_ ?_ ?_) ?_|refine qcall0D (spermuted_ok _ _ _ _ _ _ _ ?_ ?_ ?_ ?_) ⟨_,_,rfl,rfl⟩ ?_);(iterate 4 (exact sd));rintro _ _ ⟨rfl,rfl⟩)|((first|refine call0D (copyInts_ok _ _ ?_ ?_) ?_|refine qcall0D (copyInts_ok _ _ ?_ ?_) ⟨_,_,rfl,rfl⟩ ?_);(iterate 2 (exact sd));rintro _ _ ⟨rfl,rfl⟩)|((first|refine call0D (sloadX_ok _ _ _ _ _ _ _ ?_ ?_ ?_ ?_) ?_|refine qcall0D (sloadX_ok _ _ _ _ _ _ _ ?_ ?_ ?_ ?_) ⟨_,_,rfl,rfl⟩ ?_);(iterate 4 (exact sd));rintro _ _ ⟨rfl,rfl⟩))<;>(try simp (disch:=omega) only [push_cast,seval,hv,ho,hrl]))
 | (refine Ahz ⟨.inr rfl,[448,512],[],_,by decide,rfl,?_⟩;(try simp (disch:=omega) only [push_cast,seval,↓Amz,↓Aiz,↓List.map_cons,↓List.map_nil,hv,ho,hrl]))))
      all_goals simp [OT,takesL_length,Ayz]


set_option maxHeartbeats 16000000 in
theorem iTT_ok (a1 a2 order:List Int) (n1 n2 m:Nat) (h1:a1.length=n1) (h2:a2.length=n2) (hm:order.length=m) (hb:(n1 ≤ 1099511627776 ∧ n2 ≤ 1099511627776) ∧ m ≤ 1099511627776) :
    BCall Try.prog 11 [.agg [.rows false (IL a1) n1,.rows false (IL a2) n2],.rows false (IL order) m] [] (OT (ttT (a1,a2) order).1 (ttT (a1,a2) order).2):=by
  subst h1 h2 hm
  obtain ⟨⟨hb1,hb2⟩,hb3⟩:=hb
  refine A8z (pins:=[]) (pin:=0) l11_eq rfl rfl rfl ?_
  cases hv:vT (a1,a2) with
  | false =>
    rw [Hrz (by rw [hv];rfl)]
    (repeat' (first
 | (first|refine Akz ?_|refine Aez ?_)
 | ((first|refine Alz ?_|refine Adz ?_|refine Afz ?_|refine Agz ?_);simp (disch:=omega) only [push_cast,seval,l11r0,l11r1,l11r2,l11r3,l11r4,l11r5,hv])
 | ((first|refine Aaz ?_ ?_|refine Acz ?_ ?_|refine Abz ?_ ?_)<;>intro h<;>(try simp only [h])<;>(try simp only [bitvec_to_nat] at h)<;>(try simp only [h])<;>(first|(exfalso;omega)|(exfalso;simp_all;done)|(simp (disch:=omega) only [push_cast,seval,hv])|skip))
 | ((first|refine Apz false ?_|refine qcallD_of false ?_);simp (disch:=omega) only [push_cast,seval,hv])
 | ((first|((first|refine call0D (BCall.ofP (ivT_ok _ _ _ _ ?_ ?_ ?_)) ?_|refine qcall0D (BCall.ofP (ivT_ok _ _ _ _ ?_ ?_ ?_)) ⟨_,_,rfl,rfl⟩ ?_);(iterate 3 (exact sd));rintro _ _ ⟨rfl,rfl⟩)|((first|refine call0D (BCall.ofP (isOrder_ok _ _ _ ?_ ?_)) ?_|refine qcall0D (BCall.ofP (isOrder_ok _ _ _ ?_ ?_)) ⟨_,_,rfl,rfl⟩ ?_);(iterate 2 (exact sd));rintro _ _ ⟨rfl,rfl⟩)|((first|refine call0D (BCall.ofP (progression_ok _ _ _ ?_ ?_)) ?_|refine qcall0D (BCall.ofP (progression_ok _ _ _ ?_ ?_)) ⟨_,_,rfl,rfl⟩ ?_);(iterate 2 (exact sd));rintro _ _ ⟨rfl,rfl⟩)|((first|refine call0D (inumbers_ok _ _ _ ?_) ?_|refine qcall0D (inumbers_ok _ _ _ ?_) ⟨_,_,rfl,rfl⟩ ?_);(exact sd);rintro _ _ ⟨rfl,rfl⟩)|((first|refine call0D (inumU_ok _ ?_) ?_|refine qcall0D (inumU_ok _ ?_) ⟨_,_,rfl,rfl⟩ ?_);(exact sd);rintro _ _ ⟨rfl,rfl⟩)|((first|refine call0D (iCon1_ok _ _ _ _ _ _ _ _ ?_ ?_) ?_|refine qcall0D (iCon1_ok _ _ _ _ _ _ _ _ ?_ ?_) ⟨_,_,rfl,rfl⟩ ?_);(iterate 2 (exact sd));rintro _ _ ⟨rfl,rfl⟩))<;>(try simp (disch:=omega) only [push_cast,seval,hv]))
 | (refine Ahz ⟨.inr rfl,[16000,16016],[(16000,1),(16016,1)],_,by decide,rfl,?_⟩;(try simp (disch:=omega) only [push_cast,seval,↓Amz,↓Aiz,↓List.map_cons,↓List.map_nil,hv]))))
    all_goals exact ⟨rfl,rfl⟩
  | true =>
    obtain ⟨hs,hlen,_⟩:=B6z.1 hv
    simp only at hs hlen
    have hg:=A5z hs
    have h4:a1.length ≤ 4:=hg.1.2
    have hq0:order.length ≤ 1099511627776 ∧ a1.length ≤ 1000:=by omega
    cases ho:(decide (order.length=a1.length) && allI order 0 ((a1.length:Int) - 1) && decide order.Nodup) with
    | false =>
      rw [Hrz (by rw [hv];exact ho)]
      (repeat' (first
 | (first|refine Akz ?_|refine Aez ?_)
 | ((first|refine Alz ?_|refine Adz ?_|refine Afz ?_|refine Agz ?_);simp (disch:=omega) only [push_cast,seval,l11r0,l11r1,l11r2,l11r3,l11r4,l11r5,hv,ho])
 | ((first|refine Aaz ?_ ?_|refine Acz ?_ ?_|refine Abz ?_ ?_)<;>intro h<;>(try simp only [h])<;>(try simp only [bitvec_to_nat] at h)<;>(try simp only [h])<;>(first|(exfalso;omega)|(exfalso;simp_all;done)|(simp (disch:=omega) only [push_cast,seval,hv,ho])|skip))
 | ((first|refine Apz false ?_|refine qcallD_of false ?_);simp (disch:=omega) only [push_cast,seval,hv,ho])
 | ((first|((first|refine call0D (BCall.ofP (ivT_ok _ _ _ _ ?_ ?_ ?_)) ?_|refine qcall0D (BCall.ofP (ivT_ok _ _ _ _ ?_ ?_ ?_)) ⟨_,_,rfl,rfl⟩ ?_);(iterate 3 (exact sd));rintro _ _ ⟨rfl,rfl⟩)|((first|refine call0D (BCall.ofP (isOrder_ok _ _ _ ?_ ?_)) ?_|refine qcall0D (BCall.ofP (isOrder_ok _ _ _ ?_ ?_)) ⟨_,_,rfl,rfl⟩ ?_);(iterate 2 (exact sd));rintro _ _ ⟨rfl,rfl⟩)|((first|refine call0D (BCall.ofP (progression_ok _ _ _ ?_ ?_)) ?_|refine qcall0D (BCall.ofP (progression_ok _ _ _ ?_ ?_)) ⟨_,_,rfl,rfl⟩ ?_);(iterate 2 (exact sd));rintro _ _ ⟨rfl,rfl⟩)|((first|refine call0D (inumbers_ok _ _ _ ?_) ?_|refine qcall0D (inumbers_ok _ _ _ ?_) ⟨_,_,rfl,rfl⟩ ?_);(exact sd);rintro _ _ ⟨rfl,rfl⟩)|((first|refine call0D (inumU_ok _ ?_) ?_|refine qcall0D (inumU_ok _ ?_) ⟨_,_,rfl,rfl⟩ ?_);(exact sd);rintro _ _ ⟨rfl,rfl⟩)|((first|refine call0D (iCon1_ok _ _ _ _ _ _ _ _ ?_ ?_) ?_|refine qcall0D (iCon1_ok _ _ _ _ _ _ _ _ ?_ ?_) ⟨_,_,rfl,rfl⟩ ?_);(iterate 2 (exact sd));rintro _ _ ⟨rfl,rfl⟩))<;>(try simp (disch:=omega) only [push_cast,seval,hv,ho]))
 | (refine Ahz ⟨.inr rfl,[16000,16016],[(16000,1),(16016,1)],_,by decide,rfl,?_⟩;(try simp (disch:=omega) only [push_cast,seval,↓Amz,↓Aiz,↓List.map_cons,↓List.map_nil,hv,ho]))))
      all_goals exact ⟨rfl,rfl⟩
    | true =>
      have hO:=Gdz ho
      rw [Giz hv ho]
      have hct:=turn_ct hv hO
      simp only at hct
      have hN:=nums_len 0 1 a1.length
      have ho1:=hO.1
      generalize turnT (a1,a2) order=T at *
      generalize hNN:nums 0 1 a1.length=N at *
      have hP:(1:Int) ≤ a1.length → -1000000 ≤ ((a1.length:Int) - 1) * 1 ∧ ((a1.length:Int) - 1) * 1 ≤ 1000000:=fun _=>by omega
      have q1:(-100000:Int) ≤ 0 ∧ (0:Int) ≤ 100000 ∧ (-100000:Int) ≤ 1 ∧ (1:Int) ≤ 100000 ∧ (-1000:Int) ≤ a1.length ∧ (a1.length:Int) ≤ 1000:=by omega
      (repeat' (first
 | (first|refine Akz ?_|refine Aez ?_)
 | ((first|refine Alz ?_|refine Adz ?_|refine Afz ?_|refine Agz ?_);simp (disch:=omega) only [push_cast,seval,l11r0,l11r1,l11r2,l11r3,l11r4,l11r5,hv,ho,hNN,hN,hct,t0,Option.getD_some,Option.isSome_some])
 | ((first|refine Aaz ?_ ?_|refine Acz ?_ ?_|refine Abz ?_ ?_)<;>intro h<;>(try simp only [h])<;>(try simp only [bitvec_to_nat] at h)<;>(try simp only [h])<;>(first|(exfalso;omega)|(exfalso;simp_all;done)|(simp (disch:=omega) only [push_cast,seval,hv,ho,hNN,hN,hct,t0,Option.getD_some,Option.isSome_some])|skip))
 | ((first|refine Apz false ?_|refine qcallD_of false ?_);simp (disch:=omega) only [push_cast,seval,hv,ho,hNN,hN,hct,t0,Option.getD_some,Option.isSome_some])
 | ((first|((first|refine call0D (BCall.ofP (ivT_ok _ _ _ _ ?_ ?_ ?_)) ?_|refine qcall0D (BCall.ofP (ivT_ok _ _ _ _ ?_ ?_ ?_)) ⟨_,_,rfl,rfl⟩ ?_);(iterate 3 (exact sd));rintro _ _ ⟨rfl,rfl⟩)|((first|refine call0D (BCall.ofP (isOrder_ok _ _ _ ?_ ?_)) ?_|refine qcall0D (BCall.ofP (isOrder_ok _ _ _ ?_ ?_)) ⟨_,_,rfl,rfl⟩ ?_);(iterate 2 (exact sd));rintro _ _ ⟨rfl,rfl⟩)|((first|refine call0D (BCall.ofP (progression_ok _ _ _ ?_ ?_)) ?_|refine qcall0D (BCall.ofP (progression_ok _ _ _ ?_ ?_)) ⟨_,_,rfl,rfl⟩ ?_);(iterate 2 (exact sd));rintro _ _ ⟨rfl,rfl⟩)|((first|refine call0D (inumbers_ok _ _ _ ?_) ?_|refine qcall0D (inumbers_ok _ _ _ ?_) ⟨_,_,rfl,rfl⟩ ?_);(exact sd);rintro _ _ ⟨rfl,rfl⟩)|((first|refine call0D (inumU_ok _ ?_) ?_|refine qcall0D (inumU_ok _ ?_) ⟨_,_,rfl,rfl⟩ ?_);(exact sd);rintro _ _ ⟨rfl,rfl⟩)|((first|refine call0D (iCon1_ok _ _ _ _ _ _ _ _ ?_ ?_) ?_|refine qcall0D (iCon1_ok _ _ _ _ _ _ _ _ ?_ ?_) ⟨_,_,rfl,rfl⟩ ?_);(iterate 2 (exact sd));rintro _ _ ⟨rfl,rfl⟩))<;>(try simp (disch:=omega) only [push_cast,seval,hv,ho,hNN,hN,hct,t0,Option.getD_some,Option.isSome_some]))
 | (refine Ahz ⟨.inr rfl,[496,497],[],_,by decide,rfl,?_⟩;(try simp (disch:=omega) only [push_cast,seval,↓Amz,↓Aiz,↓List.map_cons,↓List.map_nil,hv,ho,hNN,hN,hct,t0,Option.getD_some,Option.isSome_some]))))
      all_goals exact ⟨rfl,rfl⟩

end Go.Proofs.Ytfmogaimamphdaa
set_option linter.unusedSimpArgs false
set_option linter.unusedVariables false
set_option maxRecDepth 4000
set_option maxHeartbeats 4000000
namespace Go.Proofs.Ytfmogaimamphdaa
open VwM Vw Go

/-- What a draw of tensors with labels is sure to be. -/
def prodF (ts:List Tn) (ls:List (List Int)) (out:List Int):Prop:=(1 ≤ ts.length ∧ ts.length ≤ 3 ∧ ls.length=ts.length) ∧ (∀ t ∈ ts,t.1.length ≤ 5 ∧ t.2.length ≤ 61 ∧ ∀ v ∈ t.2,-9 ≤ v ∧ v ≤ 9) ∧ (∀ l ∈ ls,l.length ≤ 4 ∧ ∀ x ∈ l,0 ≤ x ∧ x ≤ 4) ∧ out.length ≤ 6
structure POk (e:List Int) (many:Int) (p:Int) (ts:List Tn) (ls:List (List Int)) (all:List Int) (q:Int):Prop where
  n:(ts.length:Int) ≤ many
  t:∀ t ∈ ts,t.1.length ≤ 4 ∧ t.2.length ≤ 60 ∧ ∀ v ∈ t.2,-9 ≤ v ∧ v ≤ 9
  l:∀ l ∈ ls,l.length ≤ 3 ∧ ∀ x ∈ l,0 ≤ x ∧ x ≤ 4
  a:all.length ≤ 3 * ts.length ∧ ∀ x ∈ all,0 ≤ x ∧ x ≤ 4
  q1:p ≤ q
  q2:q ≤ p + 10 + 100 * ts.length
theorem mem_ins {xs:List Int} {k:Nat} {x v:Int} (h:v ∈ ins xs k x):v=x ∨ v ∈ xs:=by
  unfold ins at h
  rcases List.mem_append.1 h with h|h
  · exact .inr (List.mem_of_mem_take h)
  · rcases List.mem_cons.1 h with h|h
    · exact .inl h
    · exact .inr (List.mem_of_mem_drop h)


theorem Brz (xs:List Int) (n:Nat) (k:Int) (x:Int) (hn:xs.length=n) (hb:0 ≤ k ∧ k ≤ n ∧ n ≤ 1099511000000):BCall Try.prog 41 [.rows false (IL xs) n,.int .i64 k,.int .i64 x] [] (OI (ins xs k.toNat x)):=by
  obtain ⟨m,rfl⟩:∃ m:Nat,k=m:=⟨k.toNat,by omega⟩
  exact sinsert_ok xs n m x hn ⟨by omega,hb.2.2⟩

end Go.Proofs.Ytfmogaimamphdaa
set_option linter.unusedSimpArgs false
set_option linter.unusedVariables false
set_option maxRecDepth 4000
set_option maxHeartbeats 4000000
namespace Go.Proofs.Ytfmogaimamphdaa
open VwM Vw Go

end Go.Proofs.Ytfmogaimamphdaa
set_option linter.unusedSimpArgs false
set_option linter.unusedVariables false
set_option maxRecDepth 4000
set_option maxHeartbeats 4000000
namespace Go.Proofs.Ytfmogaimamphdaa
open VwM Vw Go

end Go.Proofs.Ytfmogaimamphdaa
set_option linter.unusedSimpArgs false
set_option linter.unusedVariables false
set_option maxRecDepth 4000
set_option maxHeartbeats 4000000
namespace Go.Proofs.Ytfmogaimamphdaa
open VwM Vw Go

theorem ctC_parts {out e:List Int} (h:ctC out e=true):allI out 0 4=true ∧ out.Nodup ∧ vSh (out.map (gE e))=true ∧ pr (spE e) ≤ 4000:=by
  unfold ctC at h
  simp only [Bool.and_eq_true,decide_eq_true_eq] at h
  exact ⟨h.1.1.1,h.1.1.2,h.1.2,h.2⟩
theorem ct_some {ts:List Tn} {ls:List (List Int)} {out:List Int} {o:Tn} (h:ctT ts ls out=some o):∃ e,exO ts ls=some e ∧ ctC out e=true ∧ vT (ctW ts ls out e)=true ∧ o=ctW ts ls out e:=by
  unfold ctT at h
  cases he:exO ts ls with
  | none=>rw [he] at h;cases h
  | some e =>
    rw [he] at h
    simp only [Option.bind_some] at h
    split at h
    · rename_i hc
      injection h with h
      rw [Bool.and_eq_true] at hc
      exact ⟨e,rfl,hc.1,hc.2,h.symm⟩
    · cases h

end Go.Proofs.Ytfmogaimamphdaa
set_option linter.unusedSimpArgs false
set_option linter.unusedVariables false
set_option maxRecDepth 4000
set_option maxHeartbeats 4000000
namespace Go.Proofs.Ytfmogaimamphdaa
open VwM Vw Go

theorem lequT_ok (s t s' t':List Int) (n m n' m':Nat) (h:(s.length=n ∧ t.length=m) ∧ s'.length=n' ∧ t'.length=m') (hb:(n ≤ 1099511627776 ∧ m ≤ 1099511627776) ∧ n' ≤ 1099511627776 ∧ m' ≤ 1099511627776):PCall Try.prog 10 [.agg [.rows false (IL s) n,.rows false (IL t) m],.agg [.rows false (IL s') n',.rows false (IL t') m']] (fun r=>r=.bool (decide (s=s') && decide (t=t'))):=by
  obtain ⟨⟨rfl,rfl⟩,rfl,rfl⟩:=h
  refine A0z l10_eq rfl ?_
  (repeat' (first
 | (first|refine Akz ?_|refine Aez ?_)
 | ((first|refine Alz ?_|refine Adz ?_|refine Afz ?_|refine Agz ?_);simp (disch:=omega) only [push_cast,seval,l10r0,l10r1])
 | ((first|refine Aaz ?_ ?_|refine Acz ?_ ?_|refine Abz ?_ ?_)<;>intro h<;>(try simp only [h])<;>(try simp only [bitvec_to_nat] at h)<;>(try simp only [h])<;>(first|(exfalso;omega)|(exfalso;simp_all;done)|(simp (disch:=omega) only [push_cast,seval])|skip))
 | ((first|refine Apz false ?_|refine qcallD_of false ?_);simp (disch:=omega) only [push_cast,seval])
 | ((first|((first|refine call0D (BCall.ofP (F8z _ _ _ _ ?_ ?_ ?_)) ?_|refine qcall0D (BCall.ofP (F8z _ _ _ _ ?_ ?_ ?_)) ⟨_,_,rfl,rfl⟩ ?_);(iterate 3 (exact sd));rintro _ _ ⟨rfl,rfl⟩))<;>(try simp (disch:=omega) only [push_cast,seval]))
 | (refine Ahz ⟨.inr rfl,_,rfl,?_⟩;(try simp (disch:=omega) only [push_cast,seval]))))
  all_goals (first|rfl|(simp_all;done)|(simp_all;omega)|(simp;omega)|(simp;grind)|(simp_all;grind)|skip)


end Go.Proofs.Ytfmogaimamphdaa
set_option linter.unusedSimpArgs false
set_option linter.unusedVariables false
set_option maxRecDepth 4000
set_option maxHeartbeats 4000000
namespace Go.Proofs.Ytfmogaimamphdaa
open VwM Vw Go

theorem perm_map (f:Int → Int) {out order:List Int} (ho:isOrd order out.length):(permL out order).map f=permL (out.map f) order:=by
  unfold permL
  rw [List.map_map]
  refine List.map_congr_left fun x hx=>?_
  have:=ho.2.1 x hx
  simp only [Function.comp_def]
  simp [List.getD,show x.toNat < out.length by omega]
/-- With the labels of the result turned,the result is turned. -/
theorem ct_perm {ts:List Tn} {ls:List (List Int)} {e out order:List Int} {o:Tn} (h:exO ts ls=some e) (hct:ctT ts ls out=some o) (ho:isOrd order out.length):ctT ts ls (permL out order)=some (turnT o order):=by
  have hC:=ctOk_of h
  obtain ⟨e2,h2,hc,hv,hoe⟩:=ct_some hct
  rw [h] at h2
  injection h2 with h2
  subst h2
  obtain ⟨c1,c2,c3,c4⟩:=ctC_parts hc
  have hpm:=Bqz ho
  have hmm:∀ x,x ∈ permL out order ↔ x ∈ out:=fun x=>hpm.mem_iff
  have hS:(permL out order).map (gE e)=permL (out.map (gE e)) order:=perm_map (gE e) ho
  have ho2:isOrd order (out.map (gE e)).length:=by rw [List.length_map];exact ho
  have hnd:(permL out order).Nodup:=(hpm.nodup_iff).2 c2
  have hcc:ctC (permL out order) e=true:=by
    unfold ctC
    rw [hS,D6z (Bqz ho2) c3,Bdz.2 fun x hx=>Bdz.1 c1 x ((hmm x).1 hx)]
    simp only [Bool.true_and,Bool.and_true,Bool.and_eq_true,decide_eq_true_eq]
    exact ⟨hnd,c4⟩
  have hW:ctW ts ls (permL out order) e=turnT o order:=by
    rw [hoe]
    unfold ctW turnT
    simp only
    rw [hS]
    congr 1
    have hvs:=D6z (Bqz ho2) c3
    refine Bgz (by rw [Fyz,takesL_length,Buz]) fun p hp=>?_
    rw [Fyz] at hp
    have hpo:p < (offs 0 (permL (out.map (gE e)) order) (permL (rowS (out.map (gE e))) order)).length:=by rw [Buz];exact hp
    have hin:=Gaz c3 ho2 _ (A2z hpo)
    rw [Gjz hpo]
    rw [Fgz hp] at hin ⊢
    generalize hK:cellK 0 (permL (out.map (gE e)) order) (permL (rowS (out.map (gE e))) order) p=K at *
    have g1:(ctV ts ls (permL out order) e (pr (permL (out.map (gE e)) order)).toNat).getD p 0=w64 (ctE ts ls (permL out order) e p):=by unfold ctV;simp [List.getD,hp]
    have g2:(ctV ts ls out e (pr (out.map (gE e))).toNat).getD K.toNat 0=w64 (ctE ts ls out e K.toNat):=by unfold ctV;simp [List.getD,show K.toNat < (pr (out.map (gE e))).toNat by omega]
    rw [g1,g2]
    congr 1
    unfold ctE
    have hsd:sumd ls (permL out order)=sumd ls out:=by
      unfold sumd wiL
      exact List.filter_congr fun x _=>by simp [hmm x]
    rw [hsd,show ((K.toNat:Nat):Int)=K by omega]
    congr 1
    have hO5:∀ x ∈ out,0 ≤ x ∧ x ≤ 4:=fun x hx=>Bdz.1 c1 x hx
    have hO5':∀ x ∈ permL out order,0 ≤ x ∧ x ≤ 4:=fun x hx=>hO5 x ((hmm x).1 hx)
    have hdi:=Dkz (A5z hvs).1 (Int.natCast_nonneg p) (by have:=(A5z hvs).2.1;omega)
    have hix:=isIx_permL ho2 hdi
    -- the index that has the rank K
    have hfi:∀ d,d < out.length → ((List.range out.length).map fun d=>dig (permL (out.map (gE e)) order) p (invO order d)).getD d 0=dig (permL (out.map (gE e)) order) p (invO order d):=fun d hd=>by simp [List.getD,hd]
    have hvi:vIx (out.map (gE e)) ((List.range out.length).map fun d=>dig (permL (out.map (gE e)) order) p (invO order d))=true:=Faz.2 ⟨by simp,fun i hi=>by
      have hi':i < out.length:=by simpa using hi
      rw [hfi i hi']
      have hh:=hix i (by rw [List.length_map];exact hi')
      exact ⟨hh.1,by have:=hh.2;simp only at this;omega⟩⟩
    have hur:=unr_rank c3 hvi
    have hrk:rankD (out.map (gE e)) ((List.range out.length).map fun d=>dig (permL (out.map (gE e)) order) p (invO order d))=K:=by
      unfold rankD
      rw [if_pos ⟨c3,hvi⟩,← hK]
      unfold cellK
      rw [Ayz,ho.1,List.length_map,Hbz ho,Int.zero_add]
      exact Cnz fun d hd=>hfi d hd
    rw [hrk] at hur
    have hdg:∀ d,d < out.length → dig (out.map (gE e)) K d=dig (permL (out.map (gE e)) order) p (invO order d):=fun d hd=>by
      have e1:(unr (out.map (gE e)) K).getD d 0=dig (out.map (gE e)) K d:=by simp [unr,List.getD,hd]
      rw [← e1,hur.1,hfi d hd]
    refine Bgz (by rw [Cpz,Cpz]) fun c hc5=>?_
    rw [Cpz] at hc5
    have a0:∀ L k,(wayK e L Z5 k).getD c 0=gE (wayK e L Z5 k) (c:Int):=fun L k=>by unfold gE;rw [Int.toNat_natCast]
    rw [a0,a0]
    by_cases hm:(c:Int) ∈ out
    · obtain ⟨i,hi,hic⟩:=Dgz.1 hm
      obtain ⟨j1,j2⟩:=Diz ho hi
      have hoi:out[i]?=some (c:Int):=by rw [← hic];simp [List.getD,hi]
      have hoj:(permL out order)[invO order i]?=some (c:Int):=by
        have hlt:invO order i < (permL out order).length:=by rw [Ayz,ho.1];exact j1
        have:=Ccz out order (k:=invO order i) (by rw [ho.1];exact j1)
        rw [j2,Int.toNat_natCast,hic] at this
        rw [← this];simp [List.getD,hlt]
      rw [wayK_at hnd (Hlz rfl hO5') hoj,wayK_at c2 (Hlz rfl hO5) hoi,hS,hdg i hi]
    · rw [Iez (Int.natCast_nonneg c) (Hlz rfl hO5') (fun h=>hm ((hmm _).1 h)),Iez (Int.natCast_nonneg c) (Hlz rfl hO5) hm]
  unfold ctT
  rw [h]
  simp only [Option.bind_some]
  rw [hcc,hW,Ifz (by rw [hoe];exact hv) (by rw [hoe];exact ho2)]
  rfl


theorem ordB_of {order:List Int} {n:Nat} (h:isOrd order n):ordB order n=true:=by
  unfold ordB
  rw [Bdz.2 fun x hx=>h.2.1 x hx]
  simp [h.1,h.2.2]

end Go.Proofs.Ytfmogaimamphdaa
set_option linter.unusedSimpArgs false
set_option linter.unusedVariables false
set_option maxRecDepth 4000
set_option maxHeartbeats 4000000
namespace Go.Proofs.Ytfmogaimamphdaa
open VwM Vw Go

def dbl (y:List Int) (k:Nat):List Int:=(y.take k).map (fun v=>2 * v) ++ y.drop k
end Go.Proofs.Ytfmogaimamphdaa
set_option linter.unusedSimpArgs false
set_option linter.unusedVariables false
set_option maxRecDepth 4000
set_option maxHeartbeats 4000000
namespace Go.Proofs.Ytfmogaimamphdaa
open VwM Vw Go

end Go.Proofs.Ytfmogaimamphdaa
set_option linter.unusedSimpArgs false
set_option linter.unusedVariables false
set_option maxRecDepth 4000
set_option maxHeartbeats 4000000
namespace Go.Proofs.Ytfmogaimamphdaa
open VwM Vw Go

end Go.Proofs.Ytfmogaimamphdaa
set_option linter.unusedSimpArgs false
set_option linter.unusedVariables false
set_option maxRecDepth 4000
set_option maxHeartbeats 4000000
namespace Go.Proofs.Ytfmogaimamphdaa
open VwM Vw Go

theorem sumT_b {xs:List Int} (hb:∀ x ∈ xs,-1000000 ≤ x ∧ x ≤ 1000000):∀ k:Nat,-1000000 * (k:Int) ≤ sumT xs k ∧ sumT xs k ≤ 1000000 * k
  | 0=>by simp [sumT]
  | k + 1=>by
    have ih:=sumT_b hb k
    have h1:-1000000 ≤ xs.getD k 0 ∧ xs.getD k 0 ≤ 1000000:=by
      by_cases hlt:k < xs.length
      · exact hb _ (A2z hlt)
      · rw [List.getD_eq_getElem?_getD,List.getElem?_eq_none (by omega)];simp
    simp only [sumT]
    push_cast
    omega
theorem totalB_ok (xs:List Int) (n:Nat) (hn:xs.length=n) (hb:n ≤ 100 ∧ ∀ x ∈ xs,-1000000 ≤ x ∧ x ≤ 1000000):PCall Try.prog 18 [.rows false (IL xs) n] (fun r=>r=.int .i64 (sumT xs n)):=by
  subst hn
  obtain ⟨hb1,hb2⟩:=hb
  refine A0z l18_eq rfl ?_
  (repeat' (first
 | (first|refine Akz ?_|refine Aez ?_)
 | ((first|refine Alz ?_|refine Adz ?_|refine Afz ?_|refine Agz ?_);simp (disch:=omega) only [push_cast,seval,l18r0,l18r1,l18r2,l18r3,l18r4,l18r5,l18r6])
 | ((first|refine Aaz ?_ ?_|refine Acz ?_ ?_|refine Abz ?_ ?_)<;>intro h<;>(try simp only [h])<;>(try simp only [bitvec_to_nat] at h)<;>(try simp only [h])<;>(first|(exfalso;omega)|(exfalso;simp_all;done)|(simp (disch:=omega) only [push_cast,seval])|skip))
 | (refine Ahz ⟨.inr rfl,_,rfl,?_⟩;(try simp (disch:=omega) only [push_cast,seval]))))
  refine A1z (fun k:Nat=>mkS [(0,RI xs),(3,.int .i64 (sumT xs k)),(4,.int .i64 k)] []) (fun k=>k ≤ xs.length) (fun k=>xs.length - k) 0 (Nat.zero_le _) ?_ ?_
  · have e0:sumT xs 0=0:=rfl
    (refine Sub.of_lists ?_ ?_ ?_ ?_ ?_<;>simp [Vw.mkS,Vw.lk,Vw.hk,AV.inn,innL,Aqz,Anz,Asz,-List.map_set,-List.getD_eq_getElem?_getD,e0])
  · intro k hk
    have b1:=sumT_b hb2 k
    by_cases hlt:k < xs.length
    · have hx:=hb2 _ (A2z hlt)
      have e1:sumT xs (k + 1)=sumT xs k + xs.getD k 0:=rfl
      generalize hA:sumT xs k=A at *
      (repeat' (first
 | (first|refine Akz ?_|refine Aez ?_)
 | ((first|refine Alz ?_|refine Adz ?_|refine Afz ?_|refine Agz ?_);simp (disch:=omega) only [push_cast,seval,l18r0,l18r1,l18r2,l18r3,l18r4,l18r5,l18r6])
 | ((first|refine Aaz ?_ ?_|refine Acz ?_ ?_|refine Abz ?_ ?_)<;>intro h<;>(try simp only [h])<;>(try simp only [bitvec_to_nat] at h)<;>(try simp only [h])<;>(first|(exfalso;omega)|(exfalso;simp_all;done)|(simp (disch:=omega) only [push_cast,seval])|skip))
 | (refine Ahz ⟨.inr rfl,_,rfl,?_⟩;(try simp (disch:=omega) only [push_cast,seval]))))
      refine ⟨k + 1,by omega,by omega,?_⟩
      (refine Sub.of_lists ?_ ?_ ?_ ?_ ?_<;>simp [Vw.mkS,Vw.lk,Vw.hk,AV.inn,innL,Aqz,Anz,Asz,-List.map_set,-List.getD_eq_getElem?_getD,e1,hA])
    · have e:k=xs.length:=by omega
      subst e
      (repeat' (first
 | (first|refine Akz ?_|refine Aez ?_)
 | ((first|refine Alz ?_|refine Adz ?_|refine Afz ?_|refine Agz ?_);simp (disch:=omega) only [push_cast,seval,l18r0,l18r1,l18r2,l18r3,l18r4,l18r5,l18r6])
 | ((first|refine Aaz ?_ ?_|refine Acz ?_ ?_|refine Abz ?_ ?_)<;>intro h<;>(try simp only [h])<;>(try simp only [bitvec_to_nat] at h)<;>(try simp only [h])<;>(first|(exfalso;omega)|(exfalso;simp_all;done)|(simp (disch:=omega) only [push_cast,seval])|skip))
 | (refine Ahz ⟨.inr rfl,_,rfl,?_⟩;(try simp (disch:=omega) only [push_cast,seval]))))

end Go.Proofs.Ytfmogaimamphdaa
set_option linter.unusedSimpArgs false
set_option linter.unusedVariables false
set_option maxRecDepth 4000
set_option maxHeartbeats 4000000
namespace Go.Proofs.Ytfmogaimamphdaa
open VwM Vw Go

/-- The product of two matrices,value by value. -/
def mmV (a b:List Int) (M K i j:Nat):Int:=sumN M fun l=>a.getD (i * M + l) 0 * b.getD (l * K + j) 0
def mmL (a b:List Int) (N M K:Nat):List Int:=(List.range (N * K)).map fun p=>w64 (mmV a b M K (p / K) (p % K))
/-- A turned matrix,value by value. -/
def tL (v:List Int) (N M:Nat):List Int:=(List.range (M * N)).map fun p=>v.getD (p % N * M + p / N) 0
end Go.Proofs.Ytfmogaimamphdaa
