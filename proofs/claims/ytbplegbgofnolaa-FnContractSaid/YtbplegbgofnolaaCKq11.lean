import Derived.Test.YtbplegbgofnolaaCKq10
import Derived.Test.YtbplegbgofnolaaCM1
import Derived.Test.YtbplegbgofnolaaCW3
set_option linter.unusedSimpArgs false
set_option linter.unusedVariables false
set_option maxRecDepth 4000
set_option maxHeartbeats 4000000
namespace Go.Proofs.Ytbplegbgofnolaa
open VwM Vw Go

/-- Labels that agree with extents are agreed on. -/
theorem ex_of {ts:List Tn} {ls:List (List Int)} (f:Int → Int) (hv:ts.all vT=true) (h1:1 ≤ ts.length ∧ ts.length ≤ 3) (hlen:ls.length=ts.length)
    (hl:∀ (i:Nat) (t:Tn) (l:List Int),ts[i]?=some t → ls[i]?=some l → l.length=t.1.length ∧ (∀ x ∈ l,0 ≤ x ∧ x ≤ 4) ∧ ∀ j,j < l.length → f (l.getD j 0)=t.1.getD j 0):∃ e,exO ts ls=some e:=by
  have hok:labOk ts ls=true:=by
    unfold labOk
    rw [List.all_eq_true]
    intro p hp
    obtain ⟨i,hi⟩:=List.mem_iff_getElem?.1 hp
    obtain ⟨a,b⟩:=List.getElem?_zip_eq_some.1 hi
    have:=hl i p.2 p.1 b a
    rw [Bool.and_eq_true,decide_eq_true_eq,Bcz]
    exact ⟨this.1,this.2.1⟩
  obtain ⟨e,he⟩:=extG_ok (f:=fun k=>f (k:Int)) (prsOf ts ls) (e:=ext0) (fun p hp=>by
    obtain ⟨i,t,l,j,ht,hl2,hj,_,rfl⟩:=mem_prs hp
    obtain ⟨a,b,c⟩:=hl i t l ht hl2
    have hb:=b _ (A4z hj)
    refine ⟨by rw [B5z];simp only;omega,?_⟩
    simp only
    rw [show (((l.getD j 0).toNat:Nat):Int)=l.getD j 0 by omega]
    exact c j hj) (fun k hk h0=>by
    rw [B5z] at hk
    have:k=0 ∨ k=1 ∨ k=2 ∨ k=3 ∨ k=4:=by omega
    rcases this with rfl|rfl|rfl|rfl|rfl<;>exact absurd h0 (by decide))
  refine ⟨e,?_⟩
  unfold exO
  rw [if_pos (by rw [hv];simp [h1,hlen])]
  unfold exT
  rw [if_pos hok]
  exact he
theorem one_of {t:Tn} {l:List Int} (f:Int → Int) (hv:vT t=true) (h1:l.length=t.1.length) (h2:∀ x ∈ l,0 ≤ x ∧ x ≤ 4) (h3:∀ j,j < l.length → f (l.getD j 0)=t.1.getD j 0):∃ e,exO [t] [l]=some e :=
  ex_of f (by simp [hv]) (by simp) rfl fun i t' l' ht hl=>by
    match i,ht,hl with
    | 0,ht,hl=>simp only [List.getElem?_cons_zero,Option.some.injEq] at ht hl;subst ht hl;exact ⟨h1,h2,h3⟩
/-- The space of labels,those of the result first. -/
theorem sp_out {ts:List Tn} {ls:List (List Int)} {e out:List Int} (hC:CtOk ts ls e) (ho:∀ x ∈ out,x ∈ ls.flatten) (hon:out.Nodup):pr (spE e)=pr (out.map (gE e)) * pr ((sumd ls out).map (gE e)):=by
  rw [spE_lbS (U:=ls.flatten) hC.len hC.un (fun k hk hm=>by have:=(hC.used _ hm).2.1;unfold gE at this;rwa [Int.toNat_natCast] at this),Gpz ((outk hC ho hon).map (gE e)),List.map_append,pr_append]
theorem sumd_all {ls:List (List Int)} {out:List Int} (h:∀ x ∈ ls.flatten,x ∈ out):sumd ls out=[]:=by
  refine List.eq_nil_iff_forall_not_mem.2 fun x hx=>?_
  have:=Cvz.1 hx
  exact this.2 (h x this.1.2)
/-- A tensor with its dimensions in another order. -/
def turnT (t:Tn) (order:List Int):Tn:=(permL t.1 order,takesL t.2 (offs 0 (permL t.1 order) (permL (rowS t.1) order)))
theorem Inz {sh order:List Int} (hs:vSh sh=true) (ho:isOrd order sh.length):∀ x ∈ offs 0 (permL sh order) (permL (rowS sh) order),0 ≤ x ∧ x < pr sh:=fun x hx=>by
  have h0:=(A7z hs).2.1
  have h:=(offs_perm (b:=0) (st:=rowS sh) (A7z hs).1 ho).mem_iff.1 hx
  rw [offs_row hs,Clz] at h
  omega
theorem turn_vT {t:Tn} {order:List Int} (hv:vT t=true) (ho:isOrd order t.1.length):vT (turnT t order)=true:=by
  obtain ⟨h1,h2,h3⟩:=C2z.1 hv
  refine C2z.2 ⟨E5z (B7z ho) h1,?_,fun x hx=>?_⟩
  · show ((takesL t.2 _).length:Int)=pr (permL t.1 order)
    rw [takesL_length,Cjz]
    have:=(A7z (E5z (B7z ho) h1)).2.1
    omega
  · obtain ⟨y,hy,rfl⟩:=List.mem_map.1 hx
    have:=Inz h1 ho y hy
    exact h3 _ (A4z (by omega))
theorem turn_ct {t:Tn} {order:List Int} (hv:vT t=true) (ho:isOrd order t.1.length):ctT [t] [nums 0 1 t.1.length] order=some (turnT t order):=by
  obtain ⟨h1,h2,h3⟩:=C2z.1 hv
  have hg:=A7z h1
  have h4:=hg.1.2
  obtain ⟨e,he⟩:=one_of (t:=t) (l:=nums 0 1 t.1.length) (fun x=>t.1.getD x.toNat 0) hv (by simp) (fun x hx=>by have:=Clz.1 hx;omega) (fun j hj=>by
    rw [Ckz] at hj
    simp only [Czz _ _ _ _ hj]
    congr 1;omega)
  have hC:=Hgz he
  have hlab:=hC.lab 0 t (nums 0 1 t.1.length) rfl rfl
  have hge:∀ d:Nat,d < t.1.length → gE e d=t.1.getD d 0:=fun d hd=>by
    have:=hlab.2.2.2 d (by simpa using hd)
    rw [Czz _ _ _ _ hd] at this
    rw [← this];congr 1;omega
  have hO:order.map (gE e)=permL t.1 order:=List.map_congr_left fun x hx=>by
    have hr:=ho.2.1 x hx
    rw [← hge x.toNat (by omega)]
    congr 1;omega
  have hfl:∀ x,x ∈ [nums 0 1 t.1.length].flatten ↔ x ∈ order:=fun x=>by
    rw [show [nums 0 1 t.1.length].flatten=nums 0 1 t.1.length by simp]
    exact (ho.perm.mem_iff).symm
  have hsd:=sumd_all (ls:=[nums 0 1 t.1.length]) (out:=order) fun x hx=>(hfl x).1 hx
  have hvs:vSh (permL t.1 order)=true:=E5z (B7z ho) h1
  have hsp:=sp_out hC (fun x hx=>(hfl x).2 hx) ho.2.2
  rw [hsd,hO] at hsp
  have hp1:pr (List.map (gE e) [])=1:=rfl
  have hpm:=Gpz (B7z ho)
  have hcc:ctC order e=true:=by
    unfold ctC
    rw [hO,hvs,Bcz.2 fun x hx=>by have:=ho.2.1 x hx;omega]
    rw [hsp,hp1]
    simp only [Bool.true_and,Bool.and_true,Bool.and_eq_true,decide_eq_true_eq]
    exact ⟨ho.2.2,by omega⟩
  have hvp:=A7z hvs
  have hW:ctW [t] [nums 0 1 t.1.length] order e=turnT t order:=by
    unfold ctW turnT
    rw [hO]
    congr 1
    refine B2z (by rw [Ezz,takesL_length,Cjz]) fun p hp=>?_
    rw [Ezz] at hp
    have hpo:p < (offs 0 (permL t.1 order) (permL (rowS t.1) order)).length:=by rw [Cjz];exact hp
    rw [Gjz hpo,Fdz hp]
    have hin:=Inz h1 ho _ (A4z hpo)
    rw [Fdz hp] at hin
    have hcv:(ctV [t] [nums 0 1 t.1.length] order e (pr (permL t.1 order)).toNat).getD p 0=w64 (ctE [t] [nums 0 1 t.1.length] order e p):=by unfold ctV;simp [List.getD,hp]
    have hdot:dot (fun d=>gE (wayK e order Z5 p) ((nums 0 1 t.1.length).getD d 0)) (rowS t.1) t.1.length=cellK 0 (permL t.1 order) (permL (rowS t.1) order) p:=by
      unfold cellK
      rw [B0z,ho.1,Hfz ho,Int.zero_add]
      refine Cfz fun d hd=>?_
      obtain ⟨i1,i2⟩:=G6z ho hd
      have hi:order[invO order d]?=some (d:Int):=by
        have hlt:invO order d < order.length:=by rw [ho.1];exact i1
        rw [List.getElem?_eq_getElem hlt]
        rw [List.getD,List.getElem?_eq_getElem hlt,Option.getD_some] at i2
        rw [i2]
      rw [Czz _ _ _ _ hd,show (0:Int) + (d:Int) * 1=d by omega,Iiz ho.2.2 (Fez rfl fun x hx=>by have:=ho.2.1 x hx;omega) hi,hO]
    have hcE:ctE [t] [nums 0 1 t.1.length] order e p=t.2.getD (cellK 0 (permL t.1 order) (permL (rowS t.1) order) p).toNat 0:=by
      unfold ctE
      rw [hsd]
      show gP [t] [nums 0 1 t.1.length] (wayK e order Z5 p)=_
      rw [← hdot]
      simp [gP,prodL,tv]
    rw [hcv,hcE]
    exact w64_id (by have:=h3 _ (A4z (xs:=t.2) (j:=(cellK 0 (permL t.1 order) (permL (rowS t.1) order) p).toNat) (by omega));omega)
  rw [ctT_yes he hcc (by rw [hW];exact turn_vT hv ho),hW]

end Go.Proofs.Ytbplegbgofnolaa
