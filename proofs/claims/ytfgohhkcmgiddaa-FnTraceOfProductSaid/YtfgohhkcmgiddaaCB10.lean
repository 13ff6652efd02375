/- Texts of this verifier. -/
import Derived.Test.YtfgohhkcmgiddaaCB9
import Derived.Test.YtfgohhkcmgiddaaCM1
import Derived.Test.YtfgohhkcmgiddaaCW3
set_option linter.unusedSimpArgs false
set_option linter.unusedVariables false
set_option maxRecDepth 4000
set_option maxHeartbeats 4000000
namespace Go.Proofs.Ytfgohhkcmgiddaa
open VwM Vw Go

/-- The product of two matrices,the trace of one: contractions with labels that are written down. -/
abbrev mmT (a b:Tn):Option Tn:=ctT [a,b] [[0,1],[1,2]] [0,2]
abbrev trT (t:Tn):Option Tn:=ctT [t] [[0,0]] []
abbrev bTn (t:Tn):Prop:=t.1.length ≤ 1099511627776 ∧ t.2.length ≤ 1099511627776
theorem ctT_vT {ts:List Tn} {ls:List (List Int)} {out:List Int} {t:Tn} (h:ctT ts ls out=some t):vT t=true:=by
  unfold ctT at h
  cases he:exO ts ls with
  | none=>rw [he] at h;cases h
  | some e =>
    rw [he] at h
    simp only [Option.bind_some] at h
    split at h
    · rename_i hc
      injection h with h
      rw [Bool.and_eq_true] at hc
      rw [← h];exact hc.2
    · cases h
theorem trT_one {t v:Tn} (h:trT t=some v):∃ x,v.2=[x]:=by
  have h2:=h
  unfold trT ctT at h
  cases he:exO [t] [[0,0]] with
  | none=>rw [he] at h;cases h
  | some e =>
    rw [he] at h
    simp only [Option.bind_some] at h
    split at h
    · injection h with h
      have h3:=(B5z.1 (ctT_vT h2)).2.1
      have h4:v.1=[]:=by rw [← h];rfl
      rw [h4] at h3
      have h5:v.2.length=1:=by have:pr ([]:List Int)=1:=rfl;omega
      match hv:v.2,h5 with
 | [x],_=>exact ⟨x,rfl⟩
    · cases h
theorem zcT1 (z:AV):zcells [z] 2=[z,z]:=by simp [zcells,List.range_succ]
theorem zcT2 (x y:AV):zcells [x,y] 2=[x,y,x,y]:=by simp [zcells,List.range_succ]


theorem sConM_ok (a1 a2 b1 b2:List Int) (n1 n2 m1 m2:Nat) (hn:(a1.length=n1 ∧ a2.length=n2) ∧ b1.length=m1 ∧ b2.length=m2) (hb:(n1 ≤ 1099511627776 ∧ n2 ≤ 1099511627776) ∧ m1 ≤ 1099511627776 ∧ m2 ≤ 1099511627776) :
    BCall Try.prog 14 [.rows false [.rows false (IL a1) n1,.rows false (IL a2) n2,.rows false (IL b1) m1,.rows false (IL b2) m2] 2,.rows false [.rows false [.int .i64 0,.int .i64 1] 2,.rows false [.int .i64 1,.int .i64 2] 2] 2,.rows false [.int .i64 0,.int .i64 2] 2] [] (OTn (mmT (a1,a2) (b1,b2))):=by
  obtain ⟨⟨rfl,rfl⟩,rfl,rfl⟩:=hn
  exact sCon_ok [(a1,a2),(b1,b2)] [[0,1],[1,2]] [0,2] 2 2 2 rfl rfl rfl ⟨by omega,by simp;omega,by simp⟩


set_option maxHeartbeats 8000000 in
theorem sMM_ok (a1 a2 b1 b2:List Int) (n1 n2 m1 m2:Nat) (hn:(a1.length=n1 ∧ a2.length=n2) ∧ b1.length=m1 ∧ b2.length=m2) (hb:(n1 ≤ 1099511627776 ∧ n2 ≤ 1099511627776) ∧ m1 ≤ 1099511627776 ∧ m2 ≤ 1099511627776) :
    BCall Try.prog 7 [.agg [.rows false (IL a1) n1,.rows false (IL a2) n2],.agg [.rows false (IL b1) m1,.rows false (IL b2) m2]] [] (OTn (mmT (a1,a2) (b1,b2))):=by
  refine A7z (pins:=[]) (pin:=0) l7_eq rfl rfl rfl ?_
  (repeat' (first
 | (first|refine Akz ?_|refine Aez ?_)
 | ((first|refine Alz ?_|refine Adz ?_|refine Agz ?_|refine Ahz ?_);simp (disch:=omega) only [push_cast,seval,l7r0,l7r1,zcT1,zcT2,hn,hb])
 | ((first|refine Aaz ?_ ?_|refine Acz ?_ ?_|refine Abz ?_ ?_)<;>intro h<;>(try simp only [h])<;>(try simp only [bitvec_to_nat] at h)<;>(try simp only [h])<;>(first|(exfalso;omega)|(exfalso;simp_all;done)|(simp (disch:=omega) only [push_cast,seval,zcT1,zcT2,hn,hb])|skip))
 | ((first|refine Apz false ?_|refine qcallD_of false ?_);simp (disch:=omega) only [push_cast,seval,zcT1,zcT2,hn,hb])
 | ((first|((first|refine call0D (sConM_ok _ _ _ _ _ _ _ _ ?_ ?_) ?_|refine qcall0D (sConM_ok _ _ _ _ _ _ _ _ ?_ ?_) ⟨_,_,rfl,rfl⟩ ?_);(iterate 2 (exact sd));rintro _ _ ⟨rfl,rfl⟩))<;>(try simp (disch:=omega) only [push_cast,seval,zcT1,zcT2,hn,hb]))
 | (refine Aiz ⟨.inr rfl,[208,209],[],_,by decide,rfl,?_⟩;(try simp (disch:=omega) only [push_cast,seval,↓Aqz,↓Amz,↓List.map_cons,↓List.map_nil,zcT1,zcT2,hn,hb]))))
  all_goals exact ⟨rfl,rfl⟩


theorem iConM_ok (a1 a2 b1 b2:List Int) (n1 n2 m1 m2:Nat) (hn:(a1.length=n1 ∧ a2.length=n2) ∧ b1.length=m1 ∧ b2.length=m2) (hb:(n1 ≤ 1099511627776 ∧ n2 ≤ 1099511627776) ∧ m1 ≤ 1099511627776 ∧ m2 ≤ 1099511627776) :
    BCall Try.prog 10 [.rows false [.rows false (IL a1) n1,.rows false (IL a2) n2,.rows false (IL b1) m1,.rows false (IL b2) m2] 2,.rows false [.rows false [.int .i64 0,.int .i64 1] 2,.rows false [.int .i64 1,.int .i64 2] 2] 2,.rows false [.int .i64 0,.int .i64 2] 2] [] (OTn (mmT (a1,a2) (b1,b2))):=by
  obtain ⟨⟨rfl,rfl⟩,rfl,rfl⟩:=hn
  exact Jbz [(a1,a2),(b1,b2)] [[0,1],[1,2]] [0,2] 2 2 2 rfl rfl rfl ⟨by omega,by simp;omega,by simp⟩


set_option maxHeartbeats 8000000 in
theorem iMM_ok (a1 a2 b1 b2:List Int) (n1 n2 m1 m2:Nat) (hn:(a1.length=n1 ∧ a2.length=n2) ∧ b1.length=m1 ∧ b2.length=m2) (hb:(n1 ≤ 1099511627776 ∧ n2 ≤ 1099511627776) ∧ m1 ≤ 1099511627776 ∧ m2 ≤ 1099511627776) :
    BCall Try.prog 6 [.agg [.rows false (IL a1) n1,.rows false (IL a2) n2],.agg [.rows false (IL b1) m1,.rows false (IL b2) m2]] [] (OTn (mmT (a1,a2) (b1,b2))):=by
  refine A7z (pins:=[]) (pin:=0) l6_eq rfl rfl rfl ?_
  (repeat' (first
 | (first|refine Akz ?_|refine Aez ?_)
 | ((first|refine Alz ?_|refine Adz ?_|refine Agz ?_|refine Ahz ?_);simp (disch:=omega) only [push_cast,seval,l6r0,l6r1,zcT1,zcT2,hn,hb])
 | ((first|refine Aaz ?_ ?_|refine Acz ?_ ?_|refine Abz ?_ ?_)<;>intro h<;>(try simp only [h])<;>(try simp only [bitvec_to_nat] at h)<;>(try simp only [h])<;>(first|(exfalso;omega)|(exfalso;simp_all;done)|(simp (disch:=omega) only [push_cast,seval,zcT1,zcT2,hn,hb])|skip))
 | ((first|refine Apz false ?_|refine qcallD_of false ?_);simp (disch:=omega) only [push_cast,seval,zcT1,zcT2,hn,hb])
 | ((first|((first|refine call0D (iConM_ok _ _ _ _ _ _ _ _ ?_ ?_) ?_|refine qcall0D (iConM_ok _ _ _ _ _ _ _ _ ?_ ?_) ⟨_,_,rfl,rfl⟩ ?_);(iterate 2 (exact sd));rintro _ _ ⟨rfl,rfl⟩))<;>(try simp (disch:=omega) only [push_cast,seval,zcT1,zcT2,hn,hb]))
 | (refine Aiz ⟨.inr rfl,[208,209],[],_,by decide,rfl,?_⟩;(try simp (disch:=omega) only [push_cast,seval,↓Aqz,↓Amz,↓List.map_cons,↓List.map_nil,zcT1,zcT2,hn,hb]))))
  all_goals exact ⟨rfl,rfl⟩


def OTr (o:Option Tn):AV:=.tup [.int .i64 ((t0 o).2.getD 0 0),.bool o.isSome]


theorem Glz (a1 a2:List Int) (n1 n2:Nat) (hn:a1.length=n1 ∧ a2.length=n2) (hb:n1 ≤ 1099511627776 ∧ n2 ≤ 1099511627776) :
    BCall Try.prog 10 [.rows false [.rows false (IL a1) n1,.rows false (IL a2) n2] 1,.rows false [.rows false [.int .i64 0,.int .i64 0] 2] 1,.rows false [] 0] [] (OTn (trT (a1,a2))):=by
  obtain ⟨rfl,rfl⟩:=hn
  exact Jbz [(a1,a2)] [[0,0]] [] 1 1 0 rfl rfl rfl ⟨by omega,by simp;omega,by simp⟩


set_option maxHeartbeats 8000000 in
theorem iTr_ok (a1 a2:List Int) (n1 n2:Nat) (hn:a1.length=n1 ∧ a2.length=n2) (hb:n1 ≤ 1099511627776 ∧ n2 ≤ 1099511627776) :
    PCall Try.prog 11 [.agg [.rows false (IL a1) n1,.rows false (IL a2) n2]] (fun r=>r=OTr (trT (a1,a2))):=by
  refine A1z l11_eq rfl ?_
  cases hv:trT (a1,a2) with
  | none =>
    (repeat' (first
 | (first|refine Akz ?_|refine Aez ?_)
 | ((first|refine Alz ?_|refine Adz ?_|refine Agz ?_|refine Ahz ?_);simp (disch:=omega) only [push_cast,seval,l11r0,l11r1,l11r2,l11r3,l11r4,zcT1,zcT2,hn,hb,hv,t0,OTr,Option.isSome_none])
 | ((first|refine Aaz ?_ ?_|refine Acz ?_ ?_|refine Abz ?_ ?_)<;>intro h<;>(try simp only [h])<;>(try simp only [bitvec_to_nat] at h)<;>(try simp only [h])<;>(first|(exfalso;omega)|(exfalso;simp_all;done)|(simp (disch:=omega) only [push_cast,seval,zcT1,zcT2,hn,hb,hv,t0,OTr,Option.isSome_none])|skip))
 | ((first|refine Apz false ?_|refine qcallD_of false ?_);simp (disch:=omega) only [push_cast,seval,zcT1,zcT2,hn,hb,hv,t0,OTr,Option.isSome_none])
 | ((first|((first|refine call0D (Glz _ _ _ _ ?_ ?_) ?_|refine qcall0D (Glz _ _ _ _ ?_ ?_) ⟨_,_,rfl,rfl⟩ ?_);(iterate 2 (exact sd));rintro _ _ ⟨rfl,rfl⟩))<;>(try simp (disch:=omega) only [push_cast,seval,zcT1,zcT2,hn,hb,hv,t0,OTr,Option.isSome_none]))
 | (refine Aiz ⟨.inr rfl,_,rfl,?_⟩;(try simp (disch:=omega) only [push_cast,seval,zcT1,zcT2,hn,hb,hv,t0,OTr,Option.isSome_none]))))
    all_goals rfl
  | some t =>
    obtain ⟨x,hx⟩:=trT_one hv
    have h1:(t0 (some t)).2=[x]:=hx
    (repeat' (first
 | (first|refine Akz ?_|refine Aez ?_)
 | ((first|refine Alz ?_|refine Adz ?_|refine Agz ?_|refine Ahz ?_);simp (disch:=omega) only [push_cast,seval,l11r0,l11r1,l11r2,l11r3,l11r4,zcT1,zcT2,hn,hb,hv,h1,hx,t0,OTr,Option.isSome_some])
 | ((first|refine Aaz ?_ ?_|refine Acz ?_ ?_|refine Abz ?_ ?_)<;>intro h<;>(try simp only [h])<;>(try simp only [bitvec_to_nat] at h)<;>(try simp only [h])<;>(first|(exfalso;omega)|(exfalso;simp_all;done)|(simp (disch:=omega) only [push_cast,seval,zcT1,zcT2,hn,hb,hv,h1,hx,t0,OTr,Option.isSome_some])|skip))
 | ((first|refine Apz false ?_|refine qcallD_of false ?_);simp (disch:=omega) only [push_cast,seval,zcT1,zcT2,hn,hb,hv,h1,hx,t0,OTr,Option.isSome_some])
 | ((first|((first|refine call0D (Glz _ _ _ _ ?_ ?_) ?_|refine qcall0D (Glz _ _ _ _ ?_ ?_) ⟨_,_,rfl,rfl⟩ ?_);(iterate 2 (exact sd));rintro _ _ ⟨rfl,rfl⟩))<;>(try simp (disch:=omega) only [push_cast,seval,zcT1,zcT2,hn,hb,hv,h1,hx,t0,OTr,Option.isSome_some]))
 | (refine Aiz ⟨.inr rfl,_,rfl,?_⟩;(try simp (disch:=omega) only [push_cast,seval,zcT1,zcT2,hn,hb,hv,h1,hx,t0,OTr,Option.isSome_some]))))
    all_goals rfl

end Go.Proofs.Ytfgohhkcmgiddaa
set_option linter.unusedSimpArgs false
set_option linter.unusedVariables false
set_option maxRecDepth 4000
set_option maxHeartbeats 4000000
namespace Go.Proofs.Ytfgohhkcmgiddaa
open VwM Vw Go

def sdT (t:Tn) (d:Int):Option Tn:=if vT t=true ∧ 0 ≤ d ∧ d < t.1.length then ctT [t] [nums 0 1 t.1.length] (wo (nums 0 1 t.1.length) d.toNat) else none
theorem numU_v:∀ n:Nat,n < 5 → vR (pS 0 n) (pE 0 1 n) (pC 1 n)=true ∧ nums (pS 0 n) (pC 1 n) (cntN (pS 0 n) (pE 0 1 n) (pC 1 n))=nums 0 1 n:=by decide
theorem nums_len (a c:Int) (n:Nat):(nums a c n).length=n:=by simp [nums]


theorem inumU_ok (n:Nat) (hb:n ≤ 4):BCall Try.prog 19 [rng (pS 0 n) (pE 0 1 n) (pC 1 n)] [] (OI (nums 0 1 n)):=by
  have h:=numU_v n (by omega)
  have h2:=inumbers_ok _ _ _ h.1
  rw [h.2] at h2
  exact h2


theorem iCon1_ok (a1 a2 l out:List Int) (n1 n2 m q:Nat) (hn:(a1.length=n1 ∧ a2.length=n2) ∧ l.length=m ∧ out.length=q) (hb:(n1 ≤ 1099511627776 ∧ n2 ≤ 1099511627776) ∧ m ≤ 1099511627776 ∧ q ≤ 1048576) :
    BCall Try.prog 10 [.rows false [.rows false (IL a1) n1,.rows false (IL a2) n2] 1,.rows false [.rows false (IL l) m] 1,.rows false (IL out) q] [] (OTn (ctT [(a1,a2)] [l] out)):=by
  obtain ⟨⟨rfl,rfl⟩,rfl,rfl⟩:=hn
  exact Jbz [(a1,a2)] [l] out 1 1 _ rfl rfl rfl ⟨by omega,by simp;omega,by simp;omega⟩


end Go.Proofs.Ytfgohhkcmgiddaa
set_option linter.unusedSimpArgs false
set_option linter.unusedVariables false
set_option maxRecDepth 4000
set_option maxHeartbeats 4000000
namespace Go.Proofs.Ytfgohhkcmgiddaa
open VwM Vw Go

/-- Labels that agree with extents are agreed on. -/
theorem ex_of {ts:List Tn} {ls:List (List Int)} (f:Int → Int) (hv:ts.all vT=true) (h1:1 ≤ ts.length ∧ ts.length ≤ 3) (hlen:ls.length=ts.length)
    (hl:∀ (i:Nat) (t:Tn) (l:List Int),ts[i]?=some t → ls[i]?=some l → l.length=t.1.length ∧ (∀ x ∈ l,0 ≤ x ∧ x ≤ 4) ∧ ∀ j,j < l.length → f (l.getD j 0)=t.1.getD j 0):∃ e,exO ts ls=some e:=by
  have hok:labOk ts ls=true:=by
    unfold labOk
    rw [List.all_eq_true]
    intro p hp
    obtain ⟨i,hi⟩:=List.mem_iff_getElem?.1 hp
    obtain ⟨a,b⟩:=List.getElem?_zip_eq_some.1 hi
    have:=hl i p.2 p.1 b a
    rw [Bool.and_eq_true,decide_eq_true_eq,Bdz]
    exact ⟨this.1,this.2.1⟩
  obtain ⟨e,he⟩:=extG_ok (f:=fun k=>f (k:Int)) (prsOf ts ls) (e:=ext0) (fun p hp=>by
    obtain ⟨i,t,l,j,ht,hl2,hj,_,rfl⟩:=mem_prs hp
    obtain ⟨a,b,c⟩:=hl i t l ht hl2
    have hb:=b _ (A5z hj)
    refine ⟨by rw [Buz];simp only;omega,?_⟩
    simp only
    rw [show (((l.getD j 0).toNat:Nat):Int)=l.getD j 0 by omega]
    exact c j hj) (fun k hk h0=>by
    rw [Buz] at hk
    have:k=0 ∨ k=1 ∨ k=2 ∨ k=3 ∨ k=4:=by omega
    rcases this with rfl|rfl|rfl|rfl|rfl<;>exact absurd h0 (by decide))
  refine ⟨e,?_⟩
  unfold exO
  rw [if_pos (by rw [hv];simp [h1,hlen])]
  unfold exT
  rw [if_pos hok]
  exact he
theorem one_of {t:Tn} {l:List Int} (f:Int → Int) (hv:vT t=true) (h1:l.length=t.1.length) (h2:∀ x ∈ l,0 ≤ x ∧ x ≤ 4) (h3:∀ j,j < l.length → f (l.getD j 0)=t.1.getD j 0):∃ e,exO [t] [l]=some e :=
  ex_of f (by simp [hv]) (by simp) rfl fun i t' l' ht hl=>by
    match i,ht,hl with
    | 0,ht,hl=>simp only [List.getElem?_cons_zero,Option.some.injEq] at ht hl;subst ht hl;exact ⟨h1,h2,h3⟩
/-- The space of labels,those of the result first. -/
theorem sp_out {ts:List Tn} {ls:List (List Int)} {e out:List Int} (hC:CtOk ts ls e) (ho:∀ x ∈ out,x ∈ ls.flatten) (hon:out.Nodup):pr (spE e)=pr (out.map (gE e)) * pr ((sumd ls out).map (gE e)):=by
  rw [spE_lbS (U:=ls.flatten) hC.len hC.un (fun k hk hm=>by have:=(hC.used _ hm).2.1;unfold gE at this;rwa [Int.toNat_natCast] at this),Gzz ((outk hC ho hon).map (gE e)),List.map_append,pr_append]
theorem sumd_all {ls:List (List Int)} {out:List Int} (h:∀ x ∈ ls.flatten,x ∈ out):sumd ls out=[]:=by
  refine List.eq_nil_iff_forall_not_mem.2 fun x hx=>?_
  have:=Cmz.1 hx
  exact this.2 (h x this.1.2)
/-- A tensor with its dimensions in another order. -/
def turnT (t:Tn) (order:List Int):Tn:=(permL t.1 order,takesL t.2 (offs 0 (permL t.1 order) (permL (rowS t.1) order)))
theorem turn_idx {sh order:List Int} (hs:vSh sh=true) (ho:isOrd order sh.length):∀ x ∈ offs 0 (permL sh order) (permL (rowS sh) order),0 ≤ x ∧ x < pr sh:=fun x hx=>by
  have h0:=(A9z hs).2.1
  have h:=(offs_perm (b:=0) (st:=rowS sh) (A9z hs).1 ho).mem_iff.1 hx
  rw [offs_row hs,Coz] at h
  omega
theorem Guz {t:Tn} {order:List Int} (hv:vT t=true) (ho:isOrd order t.1.length):vT (turnT t order)=true:=by
  obtain ⟨h1,h2,h3⟩:=B5z.1 hv
  refine B5z.2 ⟨Iqz (Cnz ho) h1,?_,fun x hx=>?_⟩
  · show ((takesL t.2 _).length:Int)=pr (permL t.1 order)
    rw [takesL_length,Dgz]
    have:=(A9z (Iqz (Cnz ho) h1)).2.1
    omega
  · obtain ⟨y,hy,rfl⟩:=List.mem_map.1 hx
    have:=turn_idx h1 ho y hy
    exact h3 _ (A5z (by omega))
theorem turn_ct {t:Tn} {order:List Int} (hv:vT t=true) (ho:isOrd order t.1.length):ctT [t] [nums 0 1 t.1.length] order=some (turnT t order):=by
  obtain ⟨h1,h2,h3⟩:=B5z.1 hv
  have hg:=A9z h1
  have h4:=hg.1.2
  obtain ⟨e,he⟩:=one_of (t:=t) (l:=nums 0 1 t.1.length) (fun x=>t.1.getD x.toNat 0) hv (by simp) (fun x hx=>by have:=Coz.1 hx;omega) (fun j hj=>by
    rw [B8z] at hj
    simp only [Cuz _ _ _ _ hj]
    congr 1;omega)
  have hC:=E3z he
  have hlab:=hC.lab 0 t (nums 0 1 t.1.length) rfl rfl
  have hge:∀ d:Nat,d < t.1.length → gE e d=t.1.getD d 0:=fun d hd=>by
    have:=hlab.2.2.2 d (by simpa using hd)
    rw [Cuz _ _ _ _ hd] at this
    rw [← this];congr 1;omega
  have hO:order.map (gE e)=permL t.1 order:=List.map_congr_left fun x hx=>by
    have hr:=ho.2.1 x hx
    rw [← hge x.toNat (by omega)]
    congr 1;omega
  have hfl:∀ x,x ∈ [nums 0 1 t.1.length].flatten ↔ x ∈ order:=fun x=>by
    rw [show [nums 0 1 t.1.length].flatten=nums 0 1 t.1.length by simp]
    exact (ho.perm.mem_iff).symm
  have hsd:=sumd_all (ls:=[nums 0 1 t.1.length]) (out:=order) fun x hx=>(hfl x).1 hx
  have hvs:vSh (permL t.1 order)=true:=Iqz (Cnz ho) h1
  have hsp:=sp_out hC (fun x hx=>(hfl x).2 hx) ho.2.2
  rw [hsd,hO] at hsp
  have hp1:pr (List.map (gE e) [])=1:=rfl
  have hpm:=Gzz (Cnz ho)
  have hcc:ctC order e=true:=by
    unfold ctC
    rw [hO,hvs,Bdz.2 fun x hx=>by have:=ho.2.1 x hx;omega]
    rw [hsp,hp1]
    simp only [Bool.true_and,Bool.and_true,Bool.and_eq_true,decide_eq_true_eq]
    exact ⟨ho.2.2,by omega⟩
  have hvp:=A9z hvs
  have hW:ctW [t] [nums 0 1 t.1.length] order e=turnT t order:=by
    unfold ctW turnT
    rw [hO]
    congr 1
    refine B1z (by rw [Hoz,takesL_length,Dgz]) fun p hp=>?_
    rw [Hoz] at hp
    have hpo:p < (offs 0 (permL t.1 order) (permL (rowS t.1) order)).length:=by rw [Dgz];exact hp
    rw [takesL_getD hpo,G6z hp]
    have hin:=turn_idx h1 ho _ (A5z hpo)
    rw [G6z hp] at hin
    have hcv:(ctV [t] [nums 0 1 t.1.length] order e (pr (permL t.1 order)).toNat).getD p 0=w64 (ctE [t] [nums 0 1 t.1.length] order e p):=by unfold ctV;simp [List.getD,hp]
    have hdot:dot (fun d=>gE (wayK e order Z5 p) ((nums 0 1 t.1.length).getD d 0)) (rowS t.1) t.1.length=cellK 0 (permL t.1 order) (permL (rowS t.1) order) p:=by
      unfold cellK
      rw [B0z,ho.1,dot_permL ho,Int.zero_add]
      refine Cfz fun d hd=>?_
      obtain ⟨i1,i2⟩:=invO_lt ho hd
      have hi:order[invO order d]?=some (d:Int):=by
        have hlt:invO order d < order.length:=by rw [ho.1];exact i1
        rw [List.getElem?_eq_getElem hlt]
        rw [List.getD,List.getElem?_eq_getElem hlt,Option.getD_some] at i2
        rw [i2]
      rw [Cuz _ _ _ _ hd,show (0:Int) + (d:Int) * 1=d by omega,Frz ho.2.2 (Fiz rfl fun x hx=>by have:=ho.2.1 x hx;omega) hi,hO]
    have hcE:ctE [t] [nums 0 1 t.1.length] order e p=t.2.getD (cellK 0 (permL t.1 order) (permL (rowS t.1) order) p).toNat 0:=by
      unfold ctE
      rw [hsd]
      show gP [t] [nums 0 1 t.1.length] (wayK e order Z5 p)=_
      rw [← hdot]
      simp [gP,prodL,tv]
    rw [hcv,hcE]
    exact w64_id (by have:=h3 _ (A5z (xs:=t.2) (j:=(cellK 0 (permL t.1 order) (permL (rowS t.1) order) p).toNat) (by omega));omega)
  rw [ctT_yes he hcc (by rw [hW];exact Guz hv ho),hW]

end Go.Proofs.Ytfgohhkcmgiddaa
set_option linter.unusedSimpArgs false
set_option linter.unusedVariables false
set_option maxRecDepth 4000
set_option maxHeartbeats 4000000
namespace Go.Proofs.Ytfgohhkcmgiddaa
open VwM Vw Go

def ordB (order:List Int) (n:Nat):Bool:=decide (order.length=n) && allI order 0 ((n:Int) - 1) && decide order.Nodup
def ttT (t:Tn) (order:List Int):Tn:=if (vT t && ordB order t.1.length)=true then turnT t order else ([],[])
theorem ttT_no {t:Tn} {order:List Int} (h:(vT t && ordB order t.1.length)=false):ttT t order=([],[]):=by unfold ttT;rw [h];rfl
theorem ttT_yes {t:Tn} {order:List Int} (h1:vT t=true) (h2:ordB order t.1.length=true):ttT t order=turnT t order:=by unfold ttT;rw [h1,h2];rfl
theorem turnT_len {t:Tn} {order:List Int} (h1:vT t=true) (h2:isOrd order t.1.length):(turnT t order).1.length=t.1.length ∧ (turnT t order).1.length ≤ 4 ∧ (turnT t order).2.length ≤ 60:=by
  have hv:=B5z.1 (Guz h1 h2)
  have hg:=A9z hv.1
  have hl:(turnT t order).1.length=t.1.length:=by show (permL t.1 order).length=_;rw [B0z,h2.1]
  exact ⟨hl,hg.1.2,by have:=hv.2.1;have:=hg.2;omega⟩
set_option maxHeartbeats 16000000 in
theorem iTT_ok (a1 a2 order:List Int) (n1 n2 m:Nat) (h1:a1.length=n1) (h2:a2.length=n2) (hm:order.length=m) (hb:(n1 ≤ 1099511627776 ∧ n2 ≤ 1099511627776) ∧ m ≤ 1099511627776) :
    BCall Try.prog 9 [.agg [.rows false (IL a1) n1,.rows false (IL a2) n2],.rows false (IL order) m] [] (OT (ttT (a1,a2) order).1 (ttT (a1,a2) order).2):=by
  subst h1 h2 hm
  obtain ⟨⟨hb1,hb2⟩,hb3⟩:=hb
  refine A7z (pins:=[]) (pin:=0) l9_eq rfl rfl rfl ?_
  cases hv:vT (a1,a2) with
  | false =>
    rw [ttT_no (by rw [hv];rfl)]
    (repeat' (first
 | (first|refine Akz ?_|refine Aez ?_)
 | ((first|refine Alz ?_|refine Adz ?_|refine Agz ?_|refine Ahz ?_);simp (disch:=omega) only [push_cast,seval,l9r0,l9r1,l9r2,l9r3,l9r4,l9r5,hv])
 | ((first|refine Aaz ?_ ?_|refine Acz ?_ ?_|refine Abz ?_ ?_)<;>intro h<;>(try simp only [h])<;>(try simp only [bitvec_to_nat] at h)<;>(try simp only [h])<;>(first|(exfalso;omega)|(exfalso;simp_all;done)|(simp (disch:=omega) only [push_cast,seval,hv])|skip))
 | ((first|refine Apz false ?_|refine qcallD_of false ?_);simp (disch:=omega) only [push_cast,seval,hv])
 | ((first|((first|refine call0D (BCall.ofP (ivT_ok _ _ _ _ ?_ ?_ ?_)) ?_|refine qcall0D (BCall.ofP (ivT_ok _ _ _ _ ?_ ?_ ?_)) ⟨_,_,rfl,rfl⟩ ?_);(iterate 3 (exact sd));rintro _ _ ⟨rfl,rfl⟩)|((first|refine call0D (BCall.ofP (isOrder_ok _ _ _ ?_ ?_)) ?_|refine qcall0D (BCall.ofP (isOrder_ok _ _ _ ?_ ?_)) ⟨_,_,rfl,rfl⟩ ?_);(iterate 2 (exact sd));rintro _ _ ⟨rfl,rfl⟩)|((first|refine call0D (BCall.ofP (progression_ok _ _ _ ?_ ?_)) ?_|refine qcall0D (BCall.ofP (progression_ok _ _ _ ?_ ?_)) ⟨_,_,rfl,rfl⟩ ?_);(iterate 2 (exact sd));rintro _ _ ⟨rfl,rfl⟩)|((first|refine call0D (inumbers_ok _ _ _ ?_) ?_|refine qcall0D (inumbers_ok _ _ _ ?_) ⟨_,_,rfl,rfl⟩ ?_);(exact sd);rintro _ _ ⟨rfl,rfl⟩)|((first|refine call0D (inumU_ok _ ?_) ?_|refine qcall0D (inumU_ok _ ?_) ⟨_,_,rfl,rfl⟩ ?_);(exact sd);rintro _ _ ⟨rfl,rfl⟩)|((first|refine call0D (iCon1_ok _ _ _ _ _ _ _ _ ?_ ?_) ?_|refine qcall0D (iCon1_ok _ _ _ _ _ _ _ _ ?_ ?_) ⟨_,_,rfl,rfl⟩ ?_);(iterate 2 (exact sd));rintro _ _ ⟨rfl,rfl⟩))<;>(try simp (disch:=omega) only [push_cast,seval,hv]))
 | (refine Aiz ⟨.inr rfl,[16000,16016],[(16000,1),(16016,1)],_,by decide,rfl,?_⟩;(try simp (disch:=omega) only [push_cast,seval,↓Aqz,↓Amz,↓List.map_cons,↓List.map_nil,hv]))))
    all_goals exact ⟨rfl,rfl⟩
  | true =>
    obtain ⟨hs,hlen,_⟩:=B5z.1 hv
    simp only at hs hlen
    have hg:=A9z hs
    have h4:a1.length ≤ 4:=hg.1.2
    have hq0:order.length ≤ 1099511627776 ∧ a1.length ≤ 1000:=by omega
    cases ho:(decide (order.length=a1.length) && allI order 0 ((a1.length:Int) - 1) && decide order.Nodup) with
    | false =>
      rw [ttT_no (by rw [hv];exact ho)]
      (repeat' (first
 | (first|refine Akz ?_|refine Aez ?_)
 | ((first|refine Alz ?_|refine Adz ?_|refine Agz ?_|refine Ahz ?_);simp (disch:=omega) only [push_cast,seval,l9r0,l9r1,l9r2,l9r3,l9r4,l9r5,hv,ho])
 | ((first|refine Aaz ?_ ?_|refine Acz ?_ ?_|refine Abz ?_ ?_)<;>intro h<;>(try simp only [h])<;>(try simp only [bitvec_to_nat] at h)<;>(try simp only [h])<;>(first|(exfalso;omega)|(exfalso;simp_all;done)|(simp (disch:=omega) only [push_cast,seval,hv,ho])|skip))
 | ((first|refine Apz false ?_|refine qcallD_of false ?_);simp (disch:=omega) only [push_cast,seval,hv,ho])
 | ((first|((first|refine call0D (BCall.ofP (ivT_ok _ _ _ _ ?_ ?_ ?_)) ?_|refine qcall0D (BCall.ofP (ivT_ok _ _ _ _ ?_ ?_ ?_)) ⟨_,_,rfl,rfl⟩ ?_);(iterate 3 (exact sd));rintro _ _ ⟨rfl,rfl⟩)|((first|refine call0D (BCall.ofP (isOrder_ok _ _ _ ?_ ?_)) ?_|refine qcall0D (BCall.ofP (isOrder_ok _ _ _ ?_ ?_)) ⟨_,_,rfl,rfl⟩ ?_);(iterate 2 (exact sd));rintro _ _ ⟨rfl,rfl⟩)|((first|refine call0D (BCall.ofP (progression_ok _ _ _ ?_ ?_)) ?_|refine qcall0D (BCall.ofP (progression_ok _ _ _ ?_ ?_)) ⟨_,_,rfl,rfl⟩ ?_);(iterate 2 (exact sd));rintro _ _ ⟨rfl,rfl⟩)|((first|refine call0D (inumbers_ok _ _ _ ?_) ?_|refine qcall0D (inumbers_ok _ _ _ ?_) ⟨_,_,rfl,rfl⟩ ?_);(exact sd);rintro _ _ ⟨rfl,rfl⟩)|((first|refine call0D (inumU_ok _ ?_) ?_|refine qcall0D (inumU_ok _ ?_) ⟨_,_,rfl,rfl⟩ ?_);(exact sd);rintro _ _ ⟨rfl,rfl⟩)|((first|refine call0D (iCon1_ok _ _ _ _ _ _ _ _ ?_ ?_) ?_|refine qcall0D (iCon1_ok _ _ _ _ _ _ _ _ ?_ ?_) ⟨_,_,rfl,rfl⟩ ?_);(iterate 2 (exact sd));rintro _ _ ⟨rfl,rfl⟩))<;>(try simp (disch:=omega) only [push_cast,seval,hv,ho]))
 | (refine Aiz ⟨.inr rfl,[16000,16016],[(16000,1),(16016,1)],_,by decide,rfl,?_⟩;(try simp (disch:=omega) only [push_cast,seval,↓Aqz,↓Amz,↓List.map_cons,↓List.map_nil,hv,ho]))))
      all_goals exact ⟨rfl,rfl⟩
    | true =>
      have hO:=isOrd_of ho
      rw [ttT_yes hv ho]
      have hct:=turn_ct hv hO
      simp only at hct
      have hN:=nums_len 0 1 a1.length
      have ho1:=hO.1
      generalize turnT (a1,a2) order=T at *
      generalize hNN:nums 0 1 a1.length=N at *
      have hP:(1:Int) ≤ a1.length → -1000000 ≤ ((a1.length:Int) - 1) * 1 ∧ ((a1.length:Int) - 1) * 1 ≤ 1000000:=fun _=>by omega
      have q1:(-100000:Int) ≤ 0 ∧ (0:Int) ≤ 100000 ∧ (-100000:Int) ≤ 1 ∧ (1:Int) ≤ 100000 ∧ (-1000:Int) ≤ a1.length ∧ (a1.length:Int) ≤ 1000:=by omega
      (repeat' (first
 | (first|refine Akz ?_|refine Aez ?_)
 | ((first|refine Alz ?_|refine Adz ?_|refine Agz ?_|refine Ahz ?_);simp (disch:=omega) only [push_cast,seval,l9r0,l9r1,l9r2,l9r3,l9r4,l9r5,hv,ho,hNN,hN,hct,t0,Option.getD_some,Option.isSome_some])
 | ((first|refine Aaz ?_ ?_|refine Acz ?_ ?_|refine Abz ?_ ?_)<;>intro h<;>(try simp only [h])<;>(try simp only [bitvec_to_nat] at h)<;>(try simp only [h])<;>(first|(exfalso;omega)|(exfalso;simp_all;done)|(simp (disch:=omega) only [push_cast,seval,hv,ho,hNN,hN,hct,t0,Option.getD_some,Option.isSome_some])|skip))
 | ((first|refine Apz false ?_|refine qcallD_of false ?_);simp (disch:=omega) only [push_cast,seval,hv,ho,hNN,hN,hct,t0,Option.getD_some,Option.isSome_some])
 | ((first|((first|refine call0D (BCall.ofP (ivT_ok _ _ _ _ ?_ ?_ ?_)) ?_|refine qcall0D (BCall.ofP (ivT_ok _ _ _ _ ?_ ?_ ?_)) ⟨_,_,rfl,rfl⟩ ?_);(iterate 3 (exact sd));rintro _ _ ⟨rfl,rfl⟩)|((first|refine call0D (BCall.ofP (isOrder_ok _ _ _ ?_ ?_)) ?_|refine qcall0D (BCall.ofP (isOrder_ok _ _ _ ?_ ?_)) ⟨_,_,rfl,rfl⟩ ?_);(iterate 2 (exact sd));rintro _ _ ⟨rfl,rfl⟩)|((first|refine call0D (BCall.ofP (progression_ok _ _ _ ?_ ?_)) ?_|refine qcall0D (BCall.ofP (progression_ok _ _ _ ?_ ?_)) ⟨_,_,rfl,rfl⟩ ?_);(iterate 2 (exact sd));rintro _ _ ⟨rfl,rfl⟩)|((first|refine call0D (inumbers_ok _ _ _ ?_) ?_|refine qcall0D (inumbers_ok _ _ _ ?_) ⟨_,_,rfl,rfl⟩ ?_);(exact sd);rintro _ _ ⟨rfl,rfl⟩)|((first|refine call0D (inumU_ok _ ?_) ?_|refine qcall0D (inumU_ok _ ?_) ⟨_,_,rfl,rfl⟩ ?_);(exact sd);rintro _ _ ⟨rfl,rfl⟩)|((first|refine call0D (iCon1_ok _ _ _ _ _ _ _ _ ?_ ?_) ?_|refine qcall0D (iCon1_ok _ _ _ _ _ _ _ _ ?_ ?_) ⟨_,_,rfl,rfl⟩ ?_);(iterate 2 (exact sd));rintro _ _ ⟨rfl,rfl⟩))<;>(try simp (disch:=omega) only [push_cast,seval,hv,ho,hNN,hN,hct,t0,Option.getD_some,Option.isSome_some]))
 | (refine Aiz ⟨.inr rfl,[496,497],[],_,by decide,rfl,?_⟩;(try simp (disch:=omega) only [push_cast,seval,↓Aqz,↓Amz,↓List.map_cons,↓List.map_nil,hv,ho,hNN,hN,hct,t0,Option.getD_some,Option.isSome_some]))))
      all_goals exact ⟨rfl,rfl⟩

end Go.Proofs.Ytfgohhkcmgiddaa
set_option linter.unusedSimpArgs false
set_option linter.unusedVariables false
set_option maxRecDepth 4000
set_option maxHeartbeats 4000000
namespace Go.Proofs.Ytfgohhkcmgiddaa
open VwM Vw Go

/-- What a draw of tensors with labels is sure to be. -/
def prodF (ts:List Tn) (ls:List (List Int)) (out:List Int):Prop:=(1 ≤ ts.length ∧ ts.length ≤ 3 ∧ ls.length=ts.length) ∧ (∀ t ∈ ts,t.1.length ≤ 5 ∧ t.2.length ≤ 61 ∧ ∀ v ∈ t.2,-9 ≤ v ∧ v ≤ 9) ∧ (∀ l ∈ ls,l.length ≤ 4 ∧ ∀ x ∈ l,0 ≤ x ∧ x ≤ 4) ∧ out.length ≤ 6
structure POk (e:List Int) (many:Int) (p:Int) (ts:List Tn) (ls:List (List Int)) (all:List Int) (q:Int):Prop where
  n:(ts.length:Int) ≤ many
  t:∀ t ∈ ts,t.1.length ≤ 4 ∧ t.2.length ≤ 60 ∧ ∀ v ∈ t.2,-9 ≤ v ∧ v ≤ 9
  l:∀ l ∈ ls,l.length ≤ 3 ∧ ∀ x ∈ l,0 ≤ x ∧ x ≤ 4
  a:all.length ≤ 3 * ts.length ∧ ∀ x ∈ all,0 ≤ x ∧ x ≤ 4
  q1:p ≤ q
  q2:q ≤ p + 10 + 100 * ts.length
end Go.Proofs.Ytfgohhkcmgiddaa
set_option linter.unusedSimpArgs false
set_option linter.unusedVariables false
set_option maxRecDepth 4000
set_option maxHeartbeats 4000000
namespace Go.Proofs.Ytfgohhkcmgiddaa
open VwM Vw Go

end Go.Proofs.Ytfgohhkcmgiddaa
set_option linter.unusedSimpArgs false
set_option linter.unusedVariables false
set_option maxRecDepth 4000
set_option maxHeartbeats 4000000
namespace Go.Proofs.Ytfgohhkcmgiddaa
open VwM Vw Go

end Go.Proofs.Ytfgohhkcmgiddaa
set_option linter.unusedSimpArgs false
set_option linter.unusedVariables false
set_option maxRecDepth 4000
set_option maxHeartbeats 4000000
namespace Go.Proofs.Ytfgohhkcmgiddaa
open VwM Vw Go

theorem Jhz {ts:List Tn} {ls:List (List Int)} {out:List Int} {o:Tn} (h:ctT ts ls out=some o):∃ e,exO ts ls=some e ∧ ctC out e=true ∧ vT (ctW ts ls out e)=true ∧ o=ctW ts ls out e:=by
  unfold ctT at h
  cases he:exO ts ls with
  | none=>rw [he] at h;cases h
  | some e =>
    rw [he] at h
    simp only [Option.bind_some] at h
    split at h
    · rename_i hc
      injection h with h
      rw [Bool.and_eq_true] at hc
      exact ⟨e,rfl,hc.1,hc.2,h.symm⟩
    · cases h

end Go.Proofs.Ytfgohhkcmgiddaa
set_option linter.unusedSimpArgs false
set_option linter.unusedVariables false
set_option maxRecDepth 4000
set_option maxHeartbeats 4000000
namespace Go.Proofs.Ytfgohhkcmgiddaa
open VwM Vw Go

theorem lequT_ok (s t s' t':List Int) (n m n' m':Nat) (h:(s.length=n ∧ t.length=m) ∧ s'.length=n' ∧ t'.length=m') (hb:(n ≤ 1099511627776 ∧ m ≤ 1099511627776) ∧ n' ≤ 1099511627776 ∧ m' ≤ 1099511627776):PCall Try.prog 8 [.agg [.rows false (IL s) n,.rows false (IL t) m],.agg [.rows false (IL s') n',.rows false (IL t') m']] (fun r=>r=.bool (decide (s=s') && decide (t=t'))):=by
  obtain ⟨⟨rfl,rfl⟩,rfl,rfl⟩:=h
  refine A1z l8_eq rfl ?_
  (repeat' (first
 | (first|refine Akz ?_|refine Aez ?_)
 | ((first|refine Alz ?_|refine Adz ?_|refine Agz ?_|refine Ahz ?_);simp (disch:=omega) only [push_cast,seval,l8r0,l8r1])
 | ((first|refine Aaz ?_ ?_|refine Acz ?_ ?_|refine Abz ?_ ?_)<;>intro h<;>(try simp only [h])<;>(try simp only [bitvec_to_nat] at h)<;>(try simp only [h])<;>(first|(exfalso;omega)|(exfalso;simp_all;done)|(simp (disch:=omega) only [push_cast,seval])|skip))
 | ((first|refine Apz false ?_|refine qcallD_of false ?_);simp (disch:=omega) only [push_cast,seval])
 | ((first|((first|refine call0D (BCall.ofP (Gez _ _ _ _ ?_ ?_ ?_)) ?_|refine qcall0D (BCall.ofP (Gez _ _ _ _ ?_ ?_ ?_)) ⟨_,_,rfl,rfl⟩ ?_);(iterate 3 (exact sd));rintro _ _ ⟨rfl,rfl⟩))<;>(try simp (disch:=omega) only [push_cast,seval]))
 | (refine Aiz ⟨.inr rfl,_,rfl,?_⟩;(try simp (disch:=omega) only [push_cast,seval]))))
  all_goals (first|rfl|(simp_all;done)|(simp_all;omega)|(simp;omega)|(simp;grind)|(simp_all;grind)|skip)


theorem Azz (t:Tn):t0 (some t)=t:=rfl





end Go.Proofs.Ytfgohhkcmgiddaa
set_option linter.unusedSimpArgs false
set_option linter.unusedVariables false
set_option maxRecDepth 4000
set_option maxHeartbeats 4000000
namespace Go.Proofs.Ytfgohhkcmgiddaa
open VwM Vw Go

theorem ordB_of {order:List Int} {n:Nat} (h:isOrd order n):ordB order n=true:=by
  unfold ordB
  rw [Bdz.2 fun x hx=>h.2.1 x hx]
  simp [h.1,h.2.2]

end Go.Proofs.Ytfgohhkcmgiddaa
set_option linter.unusedSimpArgs false
set_option linter.unusedVariables false
set_option maxRecDepth 4000
set_option maxHeartbeats 4000000
namespace Go.Proofs.Ytfgohhkcmgiddaa
open VwM Vw Go

theorem good2 {a b:Int} (ha:0 ≤ a ∧ a ≤ 4) (hb:0 ≤ b ∧ b ≤ 4):good4 [a,b] ∧ pr [a,b] ≤ 60 ∧ 0 ≤ pr [a,b]:=by
  have hp:pr [a,b]=a * b:=by simp [pr]
  have h1:0 ≤ a * b:=Int.mul_nonneg ha.1 hb.1
  have h2:a * b ≤ 4 * 4:=Int.mul_le_mul ha.2 hb.2 hb.1 (by omega)
  exact ⟨⟨fun x hx=>by simp only [List.mem_cons,List.not_mem_nil,or_false] at hx;omega,by simp⟩,by omega,by omega⟩


theorem H4z (bs:List Int) (p:Int) (a b:Int) (hb:okB bs) (hp:0 ≤ p ∧ p ≤ 900000) (hab:(0 ≤ a ∧ a ≤ 4) ∧ 0 ≤ b ∧ b ≤ 4):BCall Try.prog 27 [.ref 0 2 0,.own 1 2 1] [RD bs p,[.int .i64 a,.int .i64 b]] (fun r H'=>∃ (y:List Int) (q:Int),y.length ≤ 61 ∧ (p ≤ q ∧ q ≤ p + 60) ∧ r=.agg [.own 2 2 1,.own 3 y.length 1] ∧ H'=[RD bs q,IL [a,b],IL [a,b],IL y]):=by
  obtain ⟨g1,g2,g3⟩:=good2 hab.1 hab.2
  refine (F9z bs p [a,b] 2 rfl hb ⟨hp,g1,g2⟩).mono ?_
  rintro r H' ⟨y,q,⟨h1,h2⟩,hq,hr,hH⟩
  exact ⟨y,q,by omega,hq,hr,hH⟩


set_option maxHeartbeats 16000000 in
theorem matr_ok (bs:List Int) (p:Int) (hb:okB bs) (hp:0 ≤ p ∧ p ≤ 600000):BCall Try.prog 12 [.ref 0 2 0] [RD bs p] (fun r H'=>∃ x1 y1 x2 y2 q,((x1.length ≤ 5 ∧ y1.length ≤ 61) ∧ x2.length ≤ 5 ∧ y2.length ≤ 61) ∧ (p ≤ q ∧ q ≤ p + 1000) ∧ r=.tup [.agg [.own 1 x1.length 1,.own 2 y1.length 1],.agg [.own 3 x2.length 1,.own 4 y2.length 1]] ∧ H'=[RD bs q,IL x1,IL y1,IL x2,IL y2]):=by
  refine A7z (pins:=[0]) (pin:=1) l12_eq rfl rfl rfl ?_
  (repeat' (first
 | (first|refine Akz ?_|refine Aez ?_)
 | ((first|refine Alz ?_|refine Cwz (mid:=l12r8a) (post:=l12r8b) [32] Axz (by decide) ?_|refine Adz ?_|refine Agz ?_|refine Ahz ?_);simp (disch:=omega) only [push_cast,seval,l12r0,l12r1,l12r2,l12r3,l12r4,l12r5,l12r6,l12r7,l12r8a,l12r8b,l12r8])
 | ((first|refine Aaz ?_ ?_|refine Acz ?_ ?_|refine Abz ?_ ?_)<;>intro h<;>(try simp only [h])<;>(try simp only [bitvec_to_nat] at h)<;>(try simp only [h])<;>(first|(exfalso;omega)|(exfalso;simp_all;done)|(simp (disch:=omega) only [push_cast,seval])|skip))
 | ((first|((with_reducible refine callD_ids (f:=26) (args:=[Operand.tmp 9,Operand.tmp 10]) [0,160] true ?_);simp (disch:=omega) only [push_cast,seval];(refine Dpz (id:=0) (id':=160) (by decide) (Fhz _ _ _ _ ?_ ?_ ?_ ?_ ?_) (by (simp (disch:=omega) only [push_cast,seval])<;>rfl) (by (simp (disch:=omega) only [push_cast,seval])<;>rfl) ?_;(iterate 5 (exact sd));rintro _ _ ⟨x,hx,hx0,rfl,rfl⟩))|((with_reducible refine callD_ids (f:=26) (args:=[Operand.tmp 12,Operand.tmp 13]) [0,208] true ?_);simp (disch:=omega) only [push_cast,seval];(refine Dpz (id:=0) (id':=208) (by decide) (Fhz _ _ _ _ ?_ ?_ ?_ ?_ ?_) (by (simp (disch:=omega) only [push_cast,seval])<;>rfl) (by (simp (disch:=omega) only [push_cast,seval])<;>rfl) ?_;(iterate 5 (exact sd));rintro _ _ ⟨x,hx,hx0,rfl,rfl⟩))|((with_reducible refine callD_ids (f:=26) (args:=[Operand.tmp 15,Operand.tmp 16]) [0,256] true ?_);simp (disch:=omega) only [push_cast,seval];(refine Dpz (id:=0) (id':=256) (by decide) (Fhz _ _ _ _ ?_ ?_ ?_ ?_ ?_) (by (simp (disch:=omega) only [push_cast,seval])<;>rfl) (by (simp (disch:=omega) only [push_cast,seval])<;>rfl) ?_;(iterate 5 (exact sd));rintro _ _ ⟨x,hx,hx0,rfl,rfl⟩))|((with_reducible refine callD_ids (f:=26) [0] true ?_);simp (disch:=omega) only [push_cast,seval];(refine Cyz (id:=0) (Dwz _ _ _ _ ?_ ?_ ?_ ?_ ?_) (by (simp (disch:=omega) only [push_cast,seval])<;>rfl) ?_;(iterate 5 (exact sd));rintro _ _ ⟨x,hx,hx0,rfl,rfl⟩))|((with_reducible refine qcallI_of (f:=26) [0] true ?_);simp (disch:=omega) only [push_cast,seval];(refine Ctz (id:=0) (Dwz _ _ _ _ ?_ ?_ ?_ ?_ ?_) (by (simp (disch:=omega) only [push_cast,seval])<;>rfl) (by decide) (by simp only [Ddz,Eqz];exact ⟨_,_,_,List.mem_cons_self,by omega,rfl,rfl⟩) ?_;(iterate 5 (exact sd));rintro _ _ ⟨x,hx,hx0,rfl,rfl⟩))|((with_reducible refine callD_ids (f:=27) (args:=[Operand.tmp 18,Operand.tmp 21]) [0,336] true ?_);simp (disch:=omega) only [push_cast,seval];(refine Dpz (id:=0) (id':=336) (by decide) (H4z _ _ _ _ ?_ ?_ ?_) (by (simp (disch:=omega) only [push_cast,seval])<;>rfl) (by (simp (disch:=omega) only [push_cast,seval])<;>rfl) ?_;(iterate 3 (exact sd));rintro _ _ ⟨y,q,hy1,hq,rfl,rfl⟩))|((with_reducible refine callD_ids (f:=27) (args:=[Operand.tmp 23,Operand.tmp 26]) [0,416] true ?_);simp (disch:=omega) only [push_cast,seval];(refine Dpz (id:=0) (id':=416) (by decide) (H4z _ _ _ _ ?_ ?_ ?_) (by (simp (disch:=omega) only [push_cast,seval])<;>rfl) (by (simp (disch:=omega) only [push_cast,seval])<;>rfl) ?_;(iterate 3 (exact sd));rintro _ _ ⟨y,q,hy1,hq,rfl,rfl⟩))|((with_reducible refine callD_ids (f:=28) [0] true ?_);simp (disch:=omega) only [push_cast,seval];(refine Cyz (id:=0) (B3z _ _ _ ?_ ?_) (by (simp (disch:=omega) only [push_cast,seval])<;>rfl) ?_;(iterate 2 (exact sd));rintro _ _ ⟨x,hx0,hx1,rfl,rfl⟩))|((with_reducible refine qcallI_of (f:=28) [0] true ?_);simp (disch:=omega) only [push_cast,seval];(refine Ctz (id:=0) (B3z _ _ _ ?_ ?_) (by (simp (disch:=omega) only [push_cast,seval])<;>rfl) (by decide) ⟨_,_,0,by omega,Or.inr (Or.inr rfl),rfl,rfl⟩ ?_;(iterate 2 (exact sd));rintro _ _ ⟨x,hx0,hx1,rfl,rfl⟩))|((with_reducible refine callD_ids (f:=29) [0] true ?_);simp (disch:=omega) only [push_cast,seval];(refine Cyz (id:=0) (Ixz _ _ ?_ ?_) (by (simp (disch:=omega) only [push_cast,seval])<;>rfl) ?_;(iterate 2 (exact sd));rintro _ _ ⟨x1,y1,q,⟨⟨hx1,hx2⟩,hy1,hy2⟩,hq,rfl,rfl⟩)))<;>(try simp (disch:=omega) only [push_cast,seval]))))
  · (refine Aiz ⟨.inr rfl,[352,353,512,513],[],_,by decide,rfl,?_⟩;(try simp (disch:=omega) only [push_cast,seval,↓Aqz,↓Amz,↓List.map_cons,↓List.map_nil]))
    exact ⟨[_,_],_,x1,y1,q,⟨⟨by simp,by assumption⟩,hx1,hy1⟩,by omega,rfl,rfl⟩
  · (refine Aiz ⟨.inr rfl,[352,353,432,433],[],_,by decide,rfl,?_⟩;(try simp (disch:=omega) only [push_cast,seval,↓Aqz,↓Amz,↓List.map_cons,↓List.map_nil]))
    exact ⟨[_,_],_,[_,_],y,q + 1,⟨⟨by simp,by assumption⟩,by simp,hy1⟩,by omega,rfl,rfl⟩


set_option maxHeartbeats 8000000 in
theorem drawMMB_ok (bs:List Int) (n:Nat) (hn:bs.length=n) (hb:n ≤ 1099511627776 ∧ ∀ x ∈ bs,0 ≤ x ∧ x ≤ 255):BCall Try.prog 5 [.rows false (UL bs) n] [] (fun r H'=>∃ (x1 y1 x2 y2:List Int),((x1.length ≤ 5 ∧ y1.length ≤ 61) ∧ x2.length ≤ 5 ∧ y2.length ≤ 61) ∧ r=.tup [.agg [.own 0 x1.length 1,.own 1 y1.length 1],.agg [.own 2 x2.length 1,.own 3 y2.length 1]] ∧ H'=[IL x1,IL y1,IL x2,IL y2]):=by
  refine A7z (pins:=[]) (pin:=0) l5_eq rfl rfl rfl ?_
  (repeat' (first
 | (first|refine Akz ?_|refine Aez ?_)
 | ((first|refine Alz ?_|refine Adz ?_|refine Agz ?_|refine Ahz ?_);simp (disch:=omega) only [push_cast,seval,l5r0,l5r1])
 | ((first|refine Aaz ?_ ?_|refine Acz ?_ ?_|refine Abz ?_ ?_)<;>intro h<;>(try simp only [h])<;>(try simp only [bitvec_to_nat] at h)<;>(try simp only [h])<;>(first|(exfalso;omega)|(exfalso;simp_all;done)|(simp (disch:=omega) only [push_cast,seval])|skip))
 | ((first|((with_reducible refine Apz (f:=13) true ?_);simp (disch:=omega) only [push_cast,seval];(refine call0D (newReader_ok _ _ ?_ ?_) ?_;(iterate 2 (exact sd));rintro _ _ ⟨bs0,hbs0,rfl,rfl⟩))|((with_reducible refine callD_ids (f:=12) [80] true ?_);simp (disch:=omega) only [push_cast,seval];(refine Cyz (id:=80) (matr_ok _ _ ?_ ?_) (by (simp (disch:=omega) only [push_cast,seval])<;>rfl) ?_;(iterate 2 (exact sd));rintro _ _ ⟨x1,y1,x2,y2,q,hxy,hq,rfl,rfl⟩)))<;>(try simp (disch:=omega) only [push_cast,seval]))))
  all_goals ((refine Aiz ⟨.inr rfl,[96,97,98,99],[],_,by decide,rfl,?_⟩;(try simp (disch:=omega) only [push_cast,seval,↓Aqz,↓Amz,↓List.map_cons,↓List.map_nil]));exact ⟨x1,y1,x2,y2,hxy,rfl,rfl⟩)
theorem Bhz (bs:List Int) (n:Nat) (hn:bs.length=n) (hb:n ≤ 1099511627776 ∧ ∀ x ∈ bs,0 ≤ x ∧ x ≤ 255):PCall Try.prog 5 [.rows false (UL bs) n] (fun r=>∃ (x1 y1 x2 y2:List Int),((x1.length ≤ 5 ∧ y1.length ≤ 61) ∧ x2.length ≤ 5 ∧ y2.length ≤ 61) ∧ r=.tup [.agg [.rows true (IL x1) x1.length,.rows true (IL y1) y1.length],.agg [.rows true (IL x2) x2.length,.rows true (IL y2) y2.length]]):=by
  refine (BCall.plain (drawMMB_ok bs n hn hb)).mono ?_
  rintro r ⟨r0,H',⟨x1,y1,x2,y2,h1,rfl,rfl⟩,rfl⟩
  refine ⟨x1,y1,x2,y2,h1,?_⟩
  simp [AV.ren,nthH,List.map_map,Function.comp_def]

end Go.Proofs.Ytfgohhkcmgiddaa
set_option linter.unusedSimpArgs false
set_option linter.unusedVariables false
set_option maxRecDepth 4000
set_option maxHeartbeats 4000000
namespace Go.Proofs.Ytfgohhkcmgiddaa
open VwM Vw Go

theorem ord2:isOrd [1,0] 2:=⟨rfl,by decide,by decide⟩
/-- The trace is the sum of the diagonal. -/
theorem tr_sum {t v:Tn} (h:trT t=some v):vT t=true ∧ vT v=true ∧ ∃ n:Nat,t.1=[(n:Int),(n:Int)] ∧ n ≤ 60 ∧ v.2.getD 0 0=w64 (sumN n fun i=>t.2.getD (i * n + i) 0):=by
  obtain ⟨e,he,hc,hv,ho⟩:=Jhz h
  have hC:=E3z he
  have hvt:vT t=true:=by have:=(Goz he).1;simpa using this
  obtain ⟨⟨hs,hlen⟩,hl,hl5,hge⟩:=hC.lab 0 t [0,0] rfl rfl
  have h0:=hge 0 (by simp)
  have h1:=hge 1 (by simp)
  have hu:=(hC.used 0 (by simp)).2
  obtain ⟨x,y⟩:=t
  match x,hl,h0,h1,hlen,hs,hvt with
  | [a,b],_,h0,h1,hlen,hs,hvt =>
    simp only [List.getD_cons_zero,List.getD_cons_succ] at h0 h1
    obtain ⟨n,hn⟩:∃ n:Nat,gE e 0=n:=⟨(gE e 0).toNat,by omega⟩
    refine ⟨hvt,by rw [ho];exact hv,n,by rw [← h0,← h1,hn],by omega,?_⟩
    rw [ho]
    have hsd:sumd [[0,0]] []=[0]:=by decide
    have e1:(ctW [([a,b],y)] [[0,0]] [] e).2.getD 0 0=w64 (ctE [([a,b],y)] [[0,0]] [] e 0):=rfl
    rw [e1]
    congr 1
    unfold ctE
    rw [hsd]
    show sumN (gE e 0).toNat _=_
    rw [hn,Int.toNat_natCast]
    refine Ayz fun i hi=>?_
    have hr:rowS [a,b]=[b,1]:=by simp [rowS,List.range_succ,pr]
    have hb:b=n:=by rw [← h1,hn]
    show y.getD (dot (fun d=>gE ((Z5).set 0 (i:Int)) (([0,0]:List Int).getD d 0)) (rowS [a,b]) 2).toNat 0 * 1=_
    have hd:dot (fun d=>gE ((Z5).set 0 (i:Int)) (([0,0]:List Int).getD d 0)) [b,1] 2=((i * n + i:Nat):Int):=by
      rw [hb]
      simp [dot,gE]
    rw [hr,hd,Int.toNat_natCast,Int.mul_one]
theorem iTT10_ok (a1 a2:List Int) (n1 n2:Nat) (h:a1.length=n1 ∧ a2.length=n2) (hb:n1 ≤ 1099511627776 ∧ n2 ≤ 1099511627776) :
    BCall Try.prog 9 [.agg [.rows false (IL a1) n1,.rows false (IL a2) n2],.rows false [.int .i64 1,.int .i64 0] 2] [] (OT (ttT (a1,a2) [1,0]).1 (ttT (a1,a2) [1,0]).2) :=
  iTT_ok a1 a2 [1,0] n1 n2 2 h.1 h.2 rfl ⟨hb,by omega⟩

end Go.Proofs.Ytfgohhkcmgiddaa
set_option linter.unusedSimpArgs false
set_option linter.unusedVariables false
set_option maxRecDepth 4000
set_option maxHeartbeats 4000000
namespace Go.Proofs.Ytfgohhkcmgiddaa
open VwM Vw Go

theorem dig20 {N K:Nat} {p:Nat} (hp:p < N * K):dig [(N:Int),(K:Int)] p 0=((p / K:Nat):Int):=by
  have h1:p / K < N:=Nat.div_lt_of_lt_mul (by rw [Nat.mul_comm];exact hp)
  show ((p:Int).tdiv (K:Int)).tmod (N:Int)=_
  rw [← Int.ofNat_tdiv,← Int.ofNat_tmod,Nat.mod_eq_of_lt h1]
theorem dig21 {N K:Nat} {p:Nat}:dig [(N:Int),(K:Int)] p 1=((p % K:Nat):Int):=by
  show (p:Int).tmod (K:Int)=_
  rw [← Int.ofNat_tmod]
theorem pr2 (a b:Int):pr [a,b]=a * b:=by simp [pr]
theorem row2 (a b:Int):rowS [a,b]=[b,1]:=by simp [rowS,List.range_succ,pr]
theorem Cez {j M l:Nat} (h:l < M):(j * M + l) / M=j ∧ (j * M + l) % M=l:=by
  have h0:0 < M:=by omega
  rw [Nat.mul_comm]
  exact ⟨by rw [Nat.mul_add_div h0,Nat.div_eq_of_lt h,Nat.add_zero],by rw [Nat.mul_add_mod,Nat.mod_eq_of_lt h]⟩
/-- The product of two matrices,value by value. -/
def mmV (a b:List Int) (M K i j:Nat):Int:=sumN M fun l=>a.getD (i * M + l) 0 * b.getD (l * K + j) 0
def mmL (a b:List Int) (N M K:Nat):List Int:=(List.range (N * K)).map fun p=>w64 (mmV a b M K (p / K) (p % K))
theorem mmL_at {a b:List Int} {N M K p:Nat} (hp:p < N * K):(mmL a b N M K).getD p 0=w64 (mmV a b M K (p / K) (p % K)):=by simp [mmL,List.getD,hp]
theorem I6z {a b:Tn} {e:List Int} (he:exO [a,b] [[0,1],[1,2]]=some e):∃ N M K:Nat,a.1=[(N:Int),(M:Int)] ∧ b.1=[(M:Int),(K:Int)] ∧ vT a=true ∧ vT b=true ∧ gE e 0=N ∧ gE e 1=M ∧ gE e 2=K:=by
  have hC:=E3z he
  have hv:=(Goz he).1
  simp only [List.all_cons,List.all_nil,Bool.and_true,Bool.and_eq_true] at hv
  have a1:=(hC.lab 0 a [0,1] rfl rfl).2
  have b1:=(hC.lab 1 b [1,2] rfl rfl).2
  obtain ⟨x,y⟩:=a
  obtain ⟨x',y'⟩:=b
  match x,x',a1,b1,hv with
  | [p,q],[r,s],a1,b1,hv =>
    have e0:=a1.2.2 0 (by simp)
    have e1:=a1.2.2 1 (by simp)
    have e2:=b1.2.2 0 (by simp)
    have e3:=b1.2.2 1 (by simp)
    simp only [List.getD_cons_zero,List.getD_cons_succ] at e0 e1 e2 e3
    have u0:=(hC.used 0 (by simp)).2
    have u1:=(hC.used 1 (by simp)).2
    have u2:=(hC.used 2 (by simp)).2
    refine ⟨(gE e 0).toNat,(gE e 1).toNat,(gE e 2).toNat,?_,?_,hv.1,hv.2,by omega,by omega,by omega⟩
    · simp only [List.cons.injEq,and_true];omega
    · simp only [List.cons.injEq,and_true];omega
theorem mm_ex {a b:Tn} {N M K:Nat} (ha:a.1=[(N:Int),(M:Int)]) (hb:b.1=[(M:Int),(K:Int)]) (va:vT a=true) (vb:vT b=true):∃ e,exO [a,b] [[0,1],[1,2]]=some e :=
  ex_of (fun x=>if x=0 then N else if x=1 then M else K) (by simp [va,vb]) (by simp) rfl fun i t l ht hl=>by
    match i,ht,hl with
    | 0,ht,hl =>
      simp only [List.getElem?_cons_zero,Option.some.injEq] at ht hl
      subst ht hl
      refine ⟨by rw [ha];rfl,by decide,fun j hj=>?_⟩
      rw [ha]
      have:j=0 ∨ j=1:=by simp at hj;omega
      rcases this with rfl|rfl<;>simp
    | 1,ht,hl =>
      simp only [List.getElem?_cons_zero,List.getElem?_cons_succ,Option.some.injEq] at ht hl
      subst ht hl
      refine ⟨by rw [hb];rfl,by decide,fun j hj=>?_⟩
      rw [hb]
      have:j=0 ∨ j=1:=by simp at hj;omega
      rcases this with rfl|rfl<;>simp
theorem mm_ctW {a b:Tn} {N M K:Nat} {e:List Int} (ha:a.1=[(N:Int),(M:Int)]) (hb:b.1=[(M:Int),(K:Int)]) (h0:gE e 0=N) (h1:gE e 1=M) (h2:gE e 2=K):ctW [a,b] [[0,1],[1,2]] [0,2] e=([(N:Int),(K:Int)],mmL a.2 b.2 N M K):=by
  have hO:[0,2].map (gE e)=[(N:Int),(K:Int)]:=by simp [h0,h2]
  unfold ctW
  rw [hO]
  congr 1
  have hn:(pr [(N:Int),(K:Int)]).toNat=N * K:=by rw [pr2,← Int.natCast_mul,Int.toNat_natCast]
  rw [hn]
  unfold ctV mmL
  refine List.map_congr_left fun p hp=>?_
  rw [List.mem_range] at hp
  congr 1
  unfold ctE
  have hsd:sumd [[0,1],[1,2]] [0,2]=[1]:=by decide
  rw [hsd]
  have hn2:([0,2]:List Int).Nodup:=by decide
  have w0:=Frz (e:=e) (w:=Z5) (k:=(p:Int)) hn2 (Fiz rfl (by decide)) (i:=0) (x:=0) rfl
  have w2:=Frz (e:=e) (w:=Z5) (k:=(p:Int)) hn2 (Fiz rfl (by decide)) (i:=1) (x:=2) rfl
  rw [hO] at w0 w2
  rw [dig20 hp] at w0
  rw [dig21] at w2
  have wl:(wayK e [0,2] Z5 p).length=5:=by rw [Clz];rfl
  generalize wayK e [0,2] Z5 p=W at *
  show sumN (gE e 1).toNat _=mmV a.2 b.2 M K (p / K) (p % K)
  rw [h1,Int.toNat_natCast]
  unfold mmV
  refine Ayz fun l hl=>?_
  show gP [a,b] [[0,1],[1,2]] (W.set 1 (l:Int))=_
  have gs:∀ y:Int,0 ≤ y → gE (W.set 1 (l:Int)) y=if y=1 then (l:Int) else gE W y:=fun y hy=>Elz (w:=W) (x:=1) ⟨by decide,by show 1 < W.length;omega⟩ hy
  have g0:gE (W.set 1 (l:Int)) 0=((p / K:Nat):Int):=(gs 0 (by decide)).trans ((if_neg (by decide)).trans w0)
  have g1:gE (W.set 1 (l:Int)) 1=(l:Int):=(gs 1 (by decide)).trans (if_pos rfl)
  have g2:gE (W.set 1 (l:Int)) 2=((p % K:Nat):Int):=(gs 2 (by decide)).trans ((if_neg (by decide)).trans w2)
  show tv a [0,1] (W.set 1 (l:Int)) * (tv b [1,2] (W.set 1 (l:Int)) * 1)=_
  have t1:tv a [0,1] (W.set 1 (l:Int))=a.2.getD (p / K * M + l) 0:=by
    unfold tv
    rw [ha,row2]
    have:dot (fun d=>gE (W.set 1 (l:Int)) (([0,1]:List Int).getD d 0)) [(M:Int),1] 2=((p / K * M + l:Nat):Int):=by
      simp only [dot,List.getD_cons_zero,List.getD_cons_succ,g0,g1]
      push_cast
      omega
    show a.2.getD (dot _ _ 2).toNat 0=_
    rw [this,Int.toNat_natCast]
  have t2:tv b [1,2] (W.set 1 (l:Int))=b.2.getD (l * K + p % K) 0:=by
    unfold tv
    rw [hb,row2]
    have:dot (fun d=>gE (W.set 1 (l:Int)) (([1,2]:List Int).getD d 0)) [(K:Int),1] 2=((l * K + p % K:Nat):Int):=by
      simp only [dot,List.getD_cons_zero,List.getD_cons_succ,g1,g2]
      push_cast
      omega
    show b.2.getD (dot _ _ 2).toNat 0=_
    rw [this,Int.toNat_natCast]
  rw [t1,t2,Int.mul_one]
/-- When the product of two matrices is possible,and what it is. -/
theorem mm_form {a b:Tn} {N M K:Nat} (ha:a.1=[(N:Int),(M:Int)]) (hb:b.1=[(M:Int),(K:Int)]) (va:vT a=true) (vb:vT b=true):mmT a b=if (vT ([(N:Int),(K:Int)],mmL a.2 b.2 N M K) && decide (N * K * M ≤ 4000))=true then some ([(N:Int),(K:Int)],mmL a.2 b.2 N M K) else none:=by
  obtain ⟨e,he⟩:=mm_ex ha hb va vb
  obtain ⟨N',M',K',ha',hb',_,_,h0,h1,h2⟩:=I6z he
  rw [ha] at ha'
  rw [hb] at hb'
  simp only [List.cons.injEq,and_true] at ha' hb'
  obtain rfl:N=N':=by omega
  obtain rfl:M=M':=by omega
  obtain rfl:K=K':=by omega
  have hW:=mm_ctW ha hb h0 h1 h2
  have hC:=E3z he
  have hsp:=sp_out hC (out:=[0,2]) (by decide) (by decide)
  have hsd:sumd [[0,1],[1,2]] [0,2]=[1]:=by decide
  have hO:[0,2].map (gE e)=[(N:Int),(K:Int)]:=by simp [h0,h2]
  rw [hsd,hO,pr2] at hsp
  have hp1:pr (([1]:List Int).map (gE e))=M:=by simp [pr,h1]
  rw [hp1,← Int.natCast_mul,← Int.natCast_mul] at hsp
  unfold mmT ctT
  rw [he]
  simp only [Option.bind_some]
  rw [hW]
  cases hvt:vT ([(N:Int),(K:Int)],mmL a.2 b.2 N M K) with
  | false=>simp
  | true =>
    have hvs:=(B5z.1 hvt).1
    simp only at hvs
    have hcc:ctC [0,2] e=decide (N * K * M ≤ 4000):=by
      unfold ctC
      rw [hO,hvs,hsp]
      have:(allI [0,2] 0 4 && decide ([0,2]:List Int).Nodup)=true:=by decide
      rw [this]
      simp only [Bool.true_and]
      congr 1
      apply propext
      omega
    rw [hcc]
    simp
/-- A turned matrix,value by value. -/
def tL (v:List Int) (N M:Nat):List Int:=(List.range (M * N)).map fun p=>v.getD (p % N * M + p / N) 0
theorem tL_at {v:List Int} {N M j i:Nat} (hj:j < M) (hi:i < N):(tL v N M).getD (j * N + i) 0=v.getD (i * M + j) 0:=by
  have hlt:j * N + i < M * N:=by
    have:(j + 1) * N ≤ M * N:=Nat.mul_le_mul_right N hj
    rw [Nat.succ_mul] at this
    omega
  obtain ⟨h1,h2⟩:=Cez (j:=j) hi
  simp [tL,List.getD,hlt,h1,h2]
theorem Isz {t:Tn} {N M:Nat} (h:t.1=[(N:Int),(M:Int)]) (hv:vT t=true):turnT t [1,0]=([(M:Int),(N:Int)],tL t.2 N M):=by
  unfold turnT
  rw [h,row2]
  have h1:permL [(N:Int),(M:Int)] [1,0]=[(M:Int),(N:Int)]:=rfl
  have h2:permL [(M:Int),(1:Int)] [1,0]=[1,(M:Int)]:=rfl
  rw [h1,h2]
  congr 1
  have hn:(pr [(M:Int),(N:Int)]).toNat=M * N:=by rw [pr2,← Int.natCast_mul,Int.toNat_natCast]
  unfold takesL offs tL
  rw [hn,List.map_map]
  refine List.map_congr_left fun p hp=>?_
  rw [List.mem_range] at hp
  simp only [Function.comp_def]
  have:cellK 0 [(M:Int),(N:Int)] [1,(M:Int)] p=((p % N * M + p / N:Nat):Int):=by
    unfold cellK
    show 0 + dot (dig [(M:Int),(N:Int)] p) [1,(M:Int)] 2=_
    simp only [dot,List.getD_cons_zero,List.getD_cons_succ]
    rw [dig20 hp,dig21]
    push_cast
    omega
  rw [this,Int.toNat_natCast]
theorem mm_turn {a b o:Tn} (h:mmT a b=some o):(vT a=true ∧ ordB [1,0] a.1.length=true) ∧ (vT b=true ∧ ordB [1,0] b.1.length=true) ∧ (vT o=true ∧ ordB [1,0] o.1.length=true) ∧ mmT (turnT b [1,0]) (turnT a [1,0])=some (turnT o [1,0]):=by
  obtain ⟨e,he,_⟩:=Jhz h
  obtain ⟨N,M,K,ha,hb,va,vb,_⟩:=I6z he
  rw [mm_form ha hb va vb] at h
  split at h
  case isFalse=>cases h
  rename_i hc
  injection h with h
  rw [Bool.and_eq_true,decide_eq_true_eq] at hc
  obtain ⟨hvo,hcost⟩:=hc
  rw [h] at hvo
  have ho1:o.1=[(N:Int),(K:Int)]:=by rw [← h]
  have q:=ordB_of ord2
  refine ⟨⟨va,by rw [ha];exact q⟩,⟨vb,by rw [hb];exact q⟩,⟨hvo,by rw [ho1];exact q⟩,?_⟩
  have hta:=Isz ha va
  have htb:=Isz hb vb
  have hto:=Isz ho1 hvo
  have vta:=Guz va (order:=[1,0]) (by rw [ha];exact ord2)
  have vtb:=Guz vb (order:=[1,0]) (by rw [hb];exact ord2)
  have vto:=Guz hvo (order:=[1,0]) (by rw [ho1];exact ord2)
  rw [mm_form (N:=K) (M:=M) (K:=N) (by rw [htb]) (by rw [hta]) vtb vta]
  have hL:mmL (turnT b [1,0]).2 (turnT a [1,0]).2 K M N=tL o.2 N K:=by
    rw [hta,htb]
    unfold tL mmL
    refine List.map_congr_left fun p hp=>?_
    rw [List.mem_range] at hp
    have hN:0 < N:=by
      rcases Nat.eq_zero_or_pos N with h0|h0
      · subst h0;simp at hp
      · exact h0
    have hi:p % N < N:=Nat.mod_lt _ hN
    have hj:p / N < K:=Nat.div_lt_of_lt_mul (by rw [Nat.mul_comm];exact hp)
    have hlt:p % N * K + p / N < N * K:=by
      have:(p % N + 1) * K ≤ N * K:=Nat.mul_le_mul_right K hi
      rw [Nat.succ_mul] at this
      omega
    rw [← h]
    simp only
    rw [mmL_at hlt,(Cez hj).1,(Cez hj).2]
    congr 1
    unfold mmV
    refine Ayz fun l hl=>?_
    rw [Int.mul_comm]
    congr 1
    · exact tL_at hl hi
    · exact tL_at hj hl
  rw [hL]
  rw [hto] at vto ⊢
  rw [vto,show K * N * M=N * K * M by rw [Nat.mul_comm K N]]
  simp [hcost]

end Go.Proofs.Ytfgohhkcmgiddaa
