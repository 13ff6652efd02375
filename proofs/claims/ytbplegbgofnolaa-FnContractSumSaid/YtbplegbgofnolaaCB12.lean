/- Texts of this verifier. -/
import Derived.Test.YtbplegbgofnolaaCB11
import Derived.Test.YtbplegbgofnolaaCM1
import Derived.Test.YtbplegbgofnolaaCW3
set_option linter.unusedSimpArgs false
set_option linter.unusedVariables false
set_option maxRecDepth 4000
set_option maxHeartbeats 4000000
namespace Go.Proofs.Ytbplegbgofnolaa
open VwM Vw Go

theorem ren_TL3 {ρ:Nat → Option Nat} {Zh:Nat → Option (List AV)} {b0:Bool} (ts:List Tn):(TL true ts).map (AV.ren ρ Zh b0 some 3)=TL true ts:=ren_TLs true ts
theorem ren_LL3 {ρ:Nat → Option Nat} {Zh:Nat → Option (List AV)} {b0:Bool} (ls:List (List Int)):(LL true ls).map (AV.ren ρ Zh b0 some 3)=LL true ls:=ren_LLs true ls

end Go.Proofs.Ytbplegbgofnolaa
set_option linter.unusedSimpArgs false
set_option linter.unusedVariables false
set_option maxRecDepth 4000
set_option maxHeartbeats 4000000
namespace Go.Proofs.Ytbplegbgofnolaa
open VwM Vw Go

theorem prodF_c {ts:List Tn} {ls:List (List Int)} {out:List Int} (h:prodF ts ls out):ts.length ≤ 1048576 ∧ ls.length ≤ 1048576 ∧ out.length ≤ 1048576 ∧ (∀ t ∈ ts,t.1.length ≤ 1048576 ∧ t.2.length ≤ 1048576) ∧ ∀ l ∈ ls,l.length ≤ 1048576:=by
  obtain ⟨h1,h2,h3,h4⟩:=h
  exact ⟨by omega,by omega,by omega,fun t ht=>by have:=h2 t ht;omega,fun l hl=>by have:=h3 l hl;omega⟩


end Go.Proofs.Ytbplegbgofnolaa
set_option linter.unusedSimpArgs false
set_option linter.unusedVariables false
set_option maxRecDepth 4000
set_option maxHeartbeats 4000000
namespace Go.Proofs.Ytbplegbgofnolaa
open VwM Vw Go

theorem ctC_parts {out e:List Int} (h:ctC out e=true):allI out 0 4=true ∧ out.Nodup ∧ vSh (out.map (gE e))=true ∧ pr (spE e) ≤ 4000:=by
  unfold ctC at h
  simp only [Bool.and_eq_true,decide_eq_true_eq] at h
  exact ⟨h.1.1.1,h.1.1.2,h.1.2,h.2⟩
theorem ct_some {ts:List Tn} {ls:List (List Int)} {out:List Int} {o:Tn} (h:ctT ts ls out=some o):∃ e,exO ts ls=some e ∧ ctC out e=true ∧ vT (ctW ts ls out e)=true ∧ o=ctW ts ls out e:=by
  unfold ctT at h
  cases he:exO ts ls with
  | none=>rw [he] at h;cases h
  | some e =>
    rw [he] at h
    simp only [Option.bind_some] at h
    split at h
    · rename_i hc
      injection h with h
      rw [Bool.and_eq_true] at hc
      exact ⟨e,rfl,hc.1,hc.2,h.symm⟩
    · cases h

end Go.Proofs.Ytbplegbgofnolaa
set_option linter.unusedSimpArgs false
set_option linter.unusedVariables false
set_option maxRecDepth 4000
set_option maxHeartbeats 4000000
namespace Go.Proofs.Ytbplegbgofnolaa
open VwM Vw Go

theorem lequT_ok (s t s' t':List Int) (n m n' m':Nat) (h:(s.length=n ∧ t.length=m) ∧ s'.length=n' ∧ t'.length=m') (hb:(n ≤ 1099511627776 ∧ m ≤ 1099511627776) ∧ n' ≤ 1099511627776 ∧ m' ≤ 1099511627776):PCall Try.prog 19 [.agg [.rows false (IL s) n,.rows false (IL t) m],.agg [.rows false (IL s') n',.rows false (IL t') m']] (fun r=>r=.bool (decide (s=s') && decide (t=t'))):=by
  obtain ⟨⟨rfl,rfl⟩,rfl,rfl⟩:=h
  refine A1z l19_eq rfl ?_
  (repeat' (first
 | (first|refine Alz ?_|refine Agz ?_)
 | ((first|refine Anz ?_|refine Afz ?_|refine Ahz ?_|refine Aiz ?_);simp (disch:=omega) only [push_cast,seval,l19r0,l19r1])
 | ((first|refine Acz ?_ ?_|refine Aez ?_ ?_|refine Adz ?_ ?_)<;>intro h<;>(try simp only [h])<;>(try simp only [bitvec_to_nat] at h)<;>(try simp only [h])<;>(first|(exfalso;omega)|(exfalso;simp_all;done)|(simp (disch:=omega) only [push_cast,seval])|skip))
 | ((first|refine Aqz false ?_|refine qcallD_of false ?_);simp (disch:=omega) only [push_cast,seval])
 | ((first|((first|refine call0D (BCall.ofP (Fyz _ _ _ _ ?_ ?_ ?_)) ?_|refine qcall0D (BCall.ofP (Fyz _ _ _ _ ?_ ?_ ?_)) ⟨_,_,rfl,rfl⟩ ?_);(iterate 3 (exact sd));rintro _ _ ⟨rfl,rfl⟩))<;>(try simp (disch:=omega) only [push_cast,seval]))
 | (refine Ajz ⟨.inr rfl,_,rfl,?_⟩;(try simp (disch:=omega) only [push_cast,seval]))))
  all_goals (first|rfl|(simp_all;done)|(simp_all;omega)|(simp;omega)|(simp;grind)|(simp_all;grind)|skip)


set_option maxHeartbeats 8000000 in
theorem drawCtB_ok (bs:List Int) (n:Nat) (hn:bs.length=n) (hb:n ≤ 1099511627776 ∧ ∀ x ∈ bs,0 ≤ x ∧ x ≤ 255):BCall Try.prog 20 [.rows false (UL bs) n] [] (fun r H'=>∃ (ts:List Tn) (ls:List (List Int)) (out:List Int),prodF ts ls out ∧ r=.tup [.own 0 ts.length 2,.own 1 ls.length 1,.own 2 out.length 1] ∧ H'=[TL true ts,LL true ls,IL out]):=by
  refine A6z (pins:=[]) (pin:=0) l20_eq rfl rfl rfl ?_
  (repeat' (first
 | (first|refine Alz ?_|refine Agz ?_)
 | ((first|refine Anz ?_|refine Afz ?_|refine Ahz ?_|refine Aiz ?_);simp (disch:=omega) only [push_cast,seval,l20r0,l20r1,l20r2,Abz,Aaz])
 | ((first|refine Acz ?_ ?_|refine Aez ?_ ?_|refine Adz ?_ ?_)<;>intro h<;>(try simp only [h])<;>(try simp only [bitvec_to_nat] at h)<;>(try simp only [h])<;>(first|(exfalso;omega)|(exfalso;simp_all;done)|(simp (disch:=omega) only [push_cast,seval,Abz,Aaz])|skip))
 | ((first|((with_reducible refine Aqz (f:=44) true ?_);simp (disch:=omega) only [push_cast,seval,Abz,Aaz];(refine call0D (newReader_ok _ _ ?_ ?_) ?_;(iterate 2 (exact sd));rintro _ _ ⟨bs0,hbs0,rfl,rfl⟩))|((with_reducible refine callD_ids (f:=46) (args:=[Operand.tmp 9,Operand.tmp 10]) [112,160] true ?_);simp (disch:=omega) only [push_cast,seval,Abz,Aaz];(refine Axz (id:=112) (id':=160) (by decide) (Azz _ _ _ _ ?_ ?_ ?_ ?_ ?_) (by (simp (disch:=omega) only [push_cast,seval,Abz,Aaz])<;>rfl) (by (simp (disch:=omega) only [push_cast,seval,Abz,Aaz])<;>rfl) ?_;(iterate 5 (exact sd));rintro _ _ ⟨x,hx,hx0,rfl,rfl⟩))|((with_reducible refine callD_ids (f:=46) [112] true ?_);simp (disch:=omega) only [push_cast,seval,Abz,Aaz];(refine A9z (id:=112) (Bez _ _ _ _ ?_ ?_ ?_ ?_ ?_) (by (simp (disch:=omega) only [push_cast,seval,Abz,Aaz])<;>rfl) ?_;(iterate 5 (exact sd));rintro _ _ ⟨x,hx,hx0,rfl,rfl⟩))|((with_reducible refine qcallI_of (f:=46) [112] true ?_);simp (disch:=omega) only [push_cast,seval,Abz,Aaz];(refine Bbz (id:=112) (Bez _ _ _ _ ?_ ?_ ?_ ?_ ?_) (by (simp (disch:=omega) only [push_cast,seval,Abz,Aaz])<;>rfl) (by decide) (by simp only [Bkz,Bwz];exact ⟨_,_,_,List.mem_cons_self,by omega,rfl,rfl⟩) ?_;(iterate 5 (exact sd));rintro _ _ ⟨x,hx,hx0,rfl,rfl⟩))|((with_reducible refine callD_ids (f:=45) [112] true ?_);simp (disch:=omega) only [push_cast,seval,Abz,Aaz];(refine A9z (id:=112) (prodOf_ok _ _ _ ?_ ?_) (by (simp (disch:=omega) only [push_cast,seval,Abz,Aaz])<;>rfl) ?_;(iterate 2 (exact sd));rintro _ _ ⟨ts,ls,out,q,hpf,hq,rfl,rfl⟩)))<;>(try simp (disch:=omega) only [push_cast,seval,Abz,Aaz]))))
  all_goals ((refine Ajz ⟨.inr rfl,[192,193,194],[],_,by decide,rfl,?_⟩;(try simp (disch:=omega) only [push_cast,seval,↓Apz,↓Amz,↓List.map_cons,↓List.map_nil,Abz,Aaz]));exact ⟨ts,ls,out,hpf,rfl,rfl⟩)
theorem C5z (bs:List Int) (n:Nat) (hn:bs.length=n) (hb:n ≤ 1099511627776 ∧ ∀ x ∈ bs,0 ≤ x ∧ x ≤ 255):PCall Try.prog 20 [.rows false (UL bs) n] (fun r=>∃ (ts:List Tn) (ls:List (List Int)) (out:List Int),prodF ts ls out ∧ r=.tup [.rows true (TL true ts) ts.length,.rows true (LL true ls) ls.length,.rows true (IL out) out.length]):=by
  refine (BCall.plain (drawCtB_ok bs n hn hb)).mono ?_
  rintro r ⟨r0,H',⟨ts,ls,out,hpf,rfl,rfl⟩,rfl⟩
  refine ⟨ts,ls,out,hpf,?_⟩
  simp [AV.ren,nthH,Caz,Cbz,List.map_map,Function.comp_def,ren_TL3,ren_LL3]


theorem prodF_q {ts:List Tn} {ls:List (List Int)} {out:List Int} (h:prodF ts ls out):(ts.length ≤ 1048576 ∧ ls.length ≤ 1048576 ∧ out.length ≤ 1048576) ∧ (∀ t ∈ ts,t.1.length ≤ 1099511627776 ∧ t.2.length ≤ 1099511627776) ∧ ∀ l ∈ ls,l.length ≤ 1099511627776:=by
  obtain ⟨h1,h2,h3,h4⟩:=prodF_c h
  exact ⟨⟨h1,h2,h3⟩,fun t ht=>by have:=h4.1 t ht;omega,fun l hl=>by have:=h4.2 l hl;omega⟩
theorem B1z (t:Tn):t0 (some t)=t:=rfl





end Go.Proofs.Ytbplegbgofnolaa
set_option linter.unusedSimpArgs false
set_option linter.unusedVariables false
set_option maxRecDepth 4000
set_option maxHeartbeats 4000000
namespace Go.Proofs.Ytbplegbgofnolaa
open VwM Vw Go

end Go.Proofs.Ytbplegbgofnolaa
set_option linter.unusedSimpArgs false
set_option linter.unusedVariables false
set_option maxRecDepth 4000
set_option maxHeartbeats 4000000
namespace Go.Proofs.Ytbplegbgofnolaa
open VwM Vw Go

def dbl (y:List Int) (k:Nat):List Int:=(y.take k).map (fun v=>2 * v) ++ y.drop k
end Go.Proofs.Ytbplegbgofnolaa
set_option linter.unusedSimpArgs false
set_option linter.unusedVariables false
set_option maxRecDepth 4000
set_option maxHeartbeats 4000000
namespace Go.Proofs.Ytbplegbgofnolaa
open VwM Vw Go

end Go.Proofs.Ytbplegbgofnolaa
set_option linter.unusedSimpArgs false
set_option linter.unusedVariables false
set_option maxRecDepth 4000
set_option maxHeartbeats 4000000
namespace Go.Proofs.Ytbplegbgofnolaa
open VwM Vw Go

end Go.Proofs.Ytbplegbgofnolaa
set_option linter.unusedSimpArgs false
set_option linter.unusedVariables false
set_option maxRecDepth 4000
set_option maxHeartbeats 4000000
namespace Go.Proofs.Ytbplegbgofnolaa
open VwM Vw Go

theorem w64_sumN (f:Nat → Int):∀ n,w64 (sumN n fun p=>w64 (f p))=w64 (sumN n f)
  | 0=>rfl
  | n + 1=>by
    have ih:=w64_sumN f n
    simp only [sumN]
    rw [F1z,← Eyz,ih,Eyz]
theorem sumN_sumT (xs:List Int):∀ n,sumN n (fun i=>xs.getD i 0)=sumT xs n
  | 0=>rfl
  | n + 1=>by simp only [sumN,sumT,sumN_sumT xs n]
/-- The sum of a tensor over all its labels. -/
theorem one_total {t:Tn} {e:List Int} (h:exO [t] [nums 0 1 t.1.length]=some e):(nums 0 1 t.1.length).map (gE e)=t.1 ∧ SS e (lbS [nums 0 1 t.1.length].flatten) Z5 (gP [t] [nums 0 1 t.1.length])=sumT t.2 t.2.length:=by
  have hC:=Fpz h
  obtain ⟨⟨hs,hlen⟩,hl,hl5,hge⟩:=hC.lab 0 t _ rfl rfl
  have hm:(nums 0 1 t.1.length).map (gE e)=t.1:=by
    refine Fjz (by simp) fun j hj=>?_
    have hj':j < t.1.length:=by simpa using hj
    rw [← hge j (by simpa using hj')]
    simp [List.getD,hj']
  refine ⟨hm,?_⟩
  have hp:(lbS [nums 0 1 t.1.length].flatten).Perm (nums 0 1 t.1.length):=by
    rw [List.perm_ext_iff_of_nodup (Cnz _) (C2z _)]
    intro x
    rw [Cwz]
    constructor
    · intro hx;simpa using hx.2
    · intro hx;exact ⟨hl5 x hx,by simpa using hx⟩
  rw [G8z hp (fun x hx=>(E7z _ x hx).1) (Cnz _),← Dmz e _ _ Z5 (fun x hx=>⟨(hl5 x hx).1,(hC.used x (by simpa using hx)).2.1⟩) (C2z _),hm,show (pr t.1).toNat=t.2.length by omega,← sumN_sumT]
  refine Bdz fun k hk=>?_
  have hg:=(Baz hs).1
  have hr:=Iaz hs (k:=(k:Int)) (Int.natCast_nonneg k) (by omega)
  unfold rankD at hr
  rw [if_pos ⟨hs,F2z hg (Int.natCast_nonneg k) (by omega)⟩] at hr
  have hd:dot (fun d=>gE (wayK e (nums 0 1 t.1.length) Z5 k) ((nums 0 1 t.1.length).getD d 0)) (rowS t.1) t.1.length=k:=by
    refine Eq.trans (C6z fun d hd=>?_) hr
    have hi:(nums 0 1 t.1.length)[d]?=some ((nums 0 1 t.1.length).getD d 0):=by simp [List.getD,hd]
    rw [wayK_at (C2z _) (Gnz rfl hl5) hi,hm]
    simp [unr,List.getD,hd]
  show t.2.getD (dot (fun d=>gE (wayK e (nums 0 1 t.1.length) Z5 k) ((nums 0 1 t.1.length).getD d 0)) (rowS t.1) t.1.length).toNat 0 * 1=_
  rw [hd,Int.toNat_natCast,Int.mul_one]
end Go.Proofs.Ytbplegbgofnolaa
set_option linter.unusedSimpArgs false
set_option linter.unusedVariables false
set_option maxRecDepth 4000
set_option maxHeartbeats 4000000
namespace Go.Proofs.Ytbplegbgofnolaa
open VwM Vw Go

/-- The product of two matrices,value by value. -/
def mmV (a b:List Int) (M K i j:Nat):Int:=sumN M fun l=>a.getD (i * M + l) 0 * b.getD (l * K + j) 0
def mmL (a b:List Int) (N M K:Nat):List Int:=(List.range (N * K)).map fun p=>w64 (mmV a b M K (p / K) (p % K))
/-- A turned matrix,value by value. -/
def tL (v:List Int) (N M:Nat):List Int:=(List.range (M * N)).map fun p=>v.getD (p % N * M + p / N) 0
end Go.Proofs.Ytbplegbgofnolaa
set_option linter.unusedSimpArgs false
set_option linter.unusedVariables false
set_option maxRecDepth 4000
set_option maxHeartbeats 4000000
namespace Go.Proofs.Ytbplegbgofnolaa
open VwM Vw Go

/-- The order that turns back,as far as it is known. -/
def agT (order:List Int) (n k:Nat):List Int:=(List.range n).map fun d=>if invO order d < k then (invO order d:Int) else 0
end Go.Proofs.Ytbplegbgofnolaa
set_option linter.unusedSimpArgs false
set_option linter.unusedVariables false
set_option maxRecDepth 4000
set_option maxHeartbeats 4000000
namespace Go.Proofs.Ytbplegbgofnolaa
open VwM Vw Go

/-- The way of a rank,the first label apart. -/
theorem way_cons {e L w:List Int} {x:Int} {a b q:Nat} (hx:0 ≤ x) (ha:(a:Int) < gE e x) (hL:∀ y ∈ L,0 ≤ y ∧ 0 < gE e y) (hn:x ∉ L) (hq:pr (L.map (gE e))=q) (hb:b < q):wayK e (x :: L) w ((a * q + b:Nat):Int)=(wayK e L w b).set x.toNat a:=by
  have hb':(b:Int) < pr (L.reverse.map (gE e)):=by rw [List.map_reverse,D3z];omega
  have hk:=H0z e L.reverse w b a (fun y hy=>(hL y (by simpa using hy)).2) hb'
  rw [List.map_reverse,D3z,hq] at hk
  have e1:((a * q + b:Nat):Int)=(a:Int) * q + b:=by push_cast
  unfold wayK
  rw [List.reverse_cons,Fdz,e1,hk.1]
  show (wkS e w b L.reverse).1.set x.toNat ((a:Int).tmod (gE e x))=_
  rw [Int.tmod_eq_of_lt (by omega) ha]
theorem one_at {t:Tn} {e:List Int} (h:exO [t] [nums 0 1 t.1.length]=some e) {k:Nat} (hk:k < t.2.length):gP [t] [nums 0 1 t.1.length] (wayK e (nums 0 1 t.1.length) Z5 k)=t.2.getD k 0:=by
  have hC:=Fpz h
  obtain ⟨⟨hs,hlen⟩,hl,hl5,hge⟩:=hC.lab 0 t _ rfl rfl
  obtain ⟨hm,_⟩:=one_total h
  have hg:=(Baz hs).1
  have hr:=Iaz hs (k:=(k:Int)) (Int.natCast_nonneg k) (by omega)
  unfold rankD at hr
  rw [if_pos ⟨hs,F2z hg (Int.natCast_nonneg k) (by omega)⟩] at hr
  have hd:dot (fun d=>gE (wayK e (nums 0 1 t.1.length) Z5 k) ((nums 0 1 t.1.length).getD d 0)) (rowS t.1) t.1.length=k:=by
    refine Eq.trans (C6z fun d hd=>?_) hr
    have hi:(nums 0 1 t.1.length)[d]?=some ((nums 0 1 t.1.length).getD d 0):=by simp [List.getD,hd]
    rw [wayK_at (C2z _) (Gnz rfl hl5) hi,hm]
    simp [unr,List.getD,hd]
  show t.2.getD (dot (fun d=>gE (wayK e (nums 0 1 t.1.length) Z5 k) ((nums 0 1 t.1.length).getD d 0)) (rowS t.1) t.1.length).toNat 0 * 1=_
  rw [hd,Int.toNat_natCast,Int.mul_one]
/-- Sums can be done later. -/
theorem ct_sum {ts:List Tn} {ls:List (List Int)} {c:Int} {out:List Int} {o:Tn} (h:ctT ts ls (c :: out)=some o):ctT ts ls out=sdT o 0:=by
  obtain ⟨e,he,hc,hv,ho⟩:=ct_some h
  have hC:=Fpz he
  obtain ⟨c1,c2,c3,c4⟩:=ctC_parts hc
  have hvo:vT o=true:=by rw [ho];exact hv
  have hvp:=C9z.1 hvo
  have ho1:o.1=gE e c :: out.map (gE e):=by rw [ho];rfl
  have ho2:o.2=ctV ts ls (c :: out) e (pr ((c :: out).map (gE e))).toNat:=by rw [ho];rfl
  have hgo:=Baz hvp.1
  have h4:=hgo.1.2
  have hol:0 < o.1.length:=by rw [ho1];simp
  obtain ⟨e2,he2⟩:=one_of (t:=o) (l:=nums 0 1 o.1.length) (fun x=>o.1.getD x.toNat 0) hvo (by simp) (fun x hx=>by have:=Hnz.1 hx;omega) (fun j hj=>by
    rw [Dez] at hj
    simp only [nums_getD _ _ _ _ hj]
    congr 1;omega)
  have hC2:=Fpz he2
  obtain ⟨hm2,_⟩:=one_total he2
  have hat:=fun k hk=>one_at he2 (k:=k) hk
  have hnd:=C2z o.1.length
  have hnm:=fun x=>Hnz (n:=o.1.length) (x:=x)
  have hsd:sdT o 0=ctT [o] [nums 0 1 o.1.length] ((nums 0 1 o.1.length).drop 1):=by
    unfold sdT
    rw [if_pos ⟨hvo,by omega,by omega⟩]
    simp [wo]
  have hz:(nums 0 1 o.1.length).getD 0 0=0:=by rw [nums_getD _ _ _ _ hol];rfl
  have hsp2:=sp_out hC2 (out:=nums 0 1 o.1.length) (fun x hx=>by simpa using hx) hnd
  have hs0:=sumd_all (ls:=[nums 0 1 o.1.length]) (out:=nums 0 1 o.1.length) (fun x hx=>by simpa using hx)
  rw [hs0,hm2] at hsp2
  have hp1:pr (List.map (gE e2) [])=1:=rfl
  rw [hp1,Int.mul_one] at hsp2
  generalize hN:nums 0 1 o.1.length=N at *
  obtain ⟨T,rfl⟩:∃ T,N=0 :: T:=by
    cases N with
    | nil=>have h9:=congrArg List.length hN;rw [Dez,List.length_nil] at h9;omega
    | cons z T=>exact ⟨T,by simp only [List.getD_cons_zero] at hz;rw [hz]⟩
  rw [hsd]
  simp only [List.drop_succ_cons,List.drop_zero]
  rw [List.map_cons,ho1,List.cons.injEq] at hm2
  obtain ⟨m1,m2⟩:=hm2
  rw [List.nodup_cons] at hnd c2
  have hT5:∀ x ∈ T,0 ≤ x ∧ x ≤ 4:=fun x hx=>by have:=(hnm x).1 (by simp [hx]);omega
  have hO5:∀ x ∈ c :: out,0 ≤ x ∧ x ≤ 4:=fun x hx=>Bpz.1 c1 x hx
  have hc5:=hO5 c (by simp)
  have hO5':∀ x ∈ out,0 ≤ x ∧ x ≤ 4:=fun x hx=>hO5 x (by simp [hx])
  have hou:=Idz hC c1 c3
  have k1:ctC out e=vSh (out.map (gE e)):=by
    unfold ctC
    rw [Bpz.2 hO5']
    simp [c2.2,c4]
  have k2:ctC T e2=vSh (out.map (gE e)):=by
    unfold ctC
    rw [Bpz.2 hT5,m2,hsp2]
    have:pr o.1 ≤ 4000:=by omega
    simp [hnd.2,this]
  unfold ctT
  rw [he,he2]
  simp only [Option.bind_some]
  rw [k1,k2]
  cases hvs:vSh (out.map (gE e)) with
  | false=>simp
  | true =>
    have hgs:=(Baz hvs).2
    have hW:ctW ts ls out e=ctW [o] [0 :: T] T e2:=by
      unfold ctW
      rw [m2]
      congr 1
      unfold ctV
      refine List.map_congr_left fun p hp=>?_
      rw [List.mem_range] at hp
      obtain ⟨q,hq⟩:∃ q:Nat,pr (out.map (gE e))=q:=⟨(pr (out.map (gE e))).toNat,by omega⟩
      have hpq:p < q:=by omega
      have hpos:=H4z hC (fun x hx=>hou x (by simp [hx])) hq hpq
      have hpos2:∀ y ∈ T,0 < gE e2 y:=fun y hy=>by
        obtain ⟨i,hi,rfl⟩:=Ctz.1 hy
        have e5:(T.map (gE e2)).getD i 0=gE e2 (T.getD i 0):=by simp [List.getD,hi]
        rw [← e5,m2]
        have hi2:i < out.length:=by have:=congrArg List.length m2;simp at this;omega
        have e6:(out.map (gE e)).getD i 0=gE e (out.getD i 0):=by simp [List.getD,hi2]
        rw [e6]
        exact hpos _ (A7z hi2)
      obtain ⟨m,hm⟩:∃ m:Nat,gE e c=m:=⟨(gE e c).toNat,by have:=(hC.used c (hou c (by simp))).2;omega⟩
      have hlen:o.2.length=m * q:=by
        rw [ho2,G2z,List.map_cons,B0z,hm,hq,← Int.natCast_mul,Int.toNat_natCast]
      -- what the first asks for
      have hpm:(sumd ls out).Perm (c :: sumd ls (c :: out)):=by
        rw [List.perm_ext_iff_of_nodup (B7z _ _) (List.nodup_cons.2 ⟨fun hx=>(Byz.1 hx).2 (by simp),B7z _ _⟩)]
        intro x
        rw [List.mem_cons,Byz,Byz,List.mem_cons,not_or]
        constructor
        · rintro ⟨h1,h2⟩
          by_cases hxc:x=c
          · exact .inl hxc
          · exact .inr ⟨h1,hxc,h2⟩
        · rintro (rfl|⟨h1,h2⟩)
          · exact ⟨⟨hc5,hou _ (by simp)⟩,c2.1⟩
          · exact ⟨h1,h2.2⟩
      have l1:ctE ts ls out e p=sumN m fun a=>ctE ts ls (c :: out) e (a * q + p):=by
        unfold ctE
        rw [G8z hpm (fun x hx=>(Byz.1 hx).1.1.1) (B7z _ _)]
        show sumN (gE e c).toNat _=_
        rw [hm,Int.toNat_natCast]
        refine Bdz fun a ha=>?_
        rw [way_cons (q:=q) hc5.1 (by omega) (fun y hy=>⟨(hO5' y hy).1,hpos y hy⟩) c2.1 hq hpq]
      have hpm2:(sumd [0 :: T] T).Perm [0]:=by
        rw [List.perm_ext_iff_of_nodup (B7z _ _) (by simp)]
        intro x
        rw [Byz]
        simp only [List.flatten_cons,List.flatten_nil,List.append_nil,List.mem_cons,List.not_mem_nil,or_false]
        constructor
        · rintro ⟨⟨_,h1⟩,h2⟩;exact h1.resolve_right h2
        · rintro rfl;exact ⟨⟨by omega,.inl rfl⟩,hnd.1⟩
      have l2:ctE [o] [0 :: T] T e2 p=sumN m fun a=>w64 (ctE ts ls (c :: out) e (a * q + p)):=by
        unfold ctE
        rw [G8z hpm2 (fun x hx=>(Byz.1 hx).1.1.1) (B7z _ _)]
        show sumN (gE e2 0).toNat _=_
        rw [m1,hm,Int.toNat_natCast]
        refine Bdz fun a ha=>?_
        have hap:a * q + p < m * q:=by
          have:(a + 1) * q ≤ m * q:=Nat.mul_le_mul_right q ha
          rw [Nat.succ_mul] at this
          omega
        have hwc:=way_cons (e:=e2) (L:=T) (w:=Z5) (x:=0) (a:=a) (b:=p) (q:=q) (by omega) (by rw [m1,hm];omega) (fun y hy=>⟨(hT5 y hy).1,hpos2 y hy⟩) hnd.1 (by rw [m2];exact hq) hpq
        have ha2:=hat (a * q + p) (by rw [hlen];exact hap)
        rw [hwc] at ha2
        refine Eq.trans ha2 ?_
        rw [ho2]
        unfold ctV ctE
        have hlt:a * q + p < (pr ((c :: out).map (gE e))).toNat:=by rw [ho2,G2z] at hlen;omega
        simp only [List.getD_eq_getElem?_getD,List.getElem?_map,List.getElem?_range hlt,Option.map_some,Option.getD_some]
      rw [l1,l2,w64_sumN]
    rw [hW]
theorem ct_none1 {ts:List Tn} {ls:List (List Int)} {o:Tn} (h:ctT ts ls []=some o):o.2.length=1:=by
  obtain ⟨e,he,hc,hv,ho⟩:=ct_some h
  have h3:=(C9z.1 hv).2.1
  have h4:(ctW ts ls [] e).1=[]:=rfl
  rw [h4] at h3
  have h5:pr ([]:List Int)=1:=rfl
  rw [ho]
  omega






set_option maxHeartbeats 32000000 in
theorem fSum_ok (bs:List Int) (hl:bs.length ≤ 9223372036854775807) (hb:∀ x ∈ bs,0 ≤ x ∧ x ≤ 255):PCall Try.prog 6 [.rows false (UL bs) bs.length] (fun r=>r=.bool true):=by
  refine A1z l6_eq rfl ?_
  by_cases h:bs.length ≤ 1048576
  · have q:bs.length ≤ 1099511627776 ∧ ∀ x ∈ bs,0 ≤ x ∧ x ≤ 255:=⟨by omega,hb⟩
    (repeat' (first
 | (refine awp_joinL (c1:=.reg l6r3) (fun x:List Tn × List (List Int) × List Int=>mkS [(3,.rows true (TL true x.1) x.1.length),(4,.rows true (LL true x.2.1) x.2.1.length),(5,.rows true (IL x.2.2) x.2.2.length)] []) (fun x=>prodF x.1 x.2.1 x.2.2) ?_ ?_)
 | (first|refine Alz ?_|refine Agz ?_)
 | ((first|refine Anz ?_|refine Afz ?_|refine Ahz ?_|refine Aiz ?_);simp (disch:=omega) only [push_cast,seval,l6r0,l6r1,l6r2,l6r3,l6r4,l6r5,l6r6,l6r7,l6r8,l6r9,l6r10,l6r11,l6r12,Abz,Aaz])
 | ((first|refine Acz ?_ ?_|refine Aez ?_ ?_|refine Adz ?_ ?_)<;>intro h<;>(try simp only [h])<;>(try simp only [bitvec_to_nat] at h)<;>(try simp only [h])<;>(first|(exfalso;omega)|(exfalso;simp_all;done)|(simp (disch:=omega) only [push_cast,seval,Abz,Aaz])|skip))
 | ((first|refine Aqz false ?_|refine qcallD_of false ?_);simp (disch:=omega) only [push_cast,seval,Abz,Aaz])
 | ((first|(refine call0D (BCall.ofP (C5z _ _ ?_ ?_)) ?_;(iterate 2 (exact sd));rintro _ _ ⟨⟨ts,ls,out,hpf,rfl⟩,rfl⟩)|((first|refine call0D (iCon_ok _ _ _ _ _ _ ?_ ?_ ?_ ?_) ?_|refine qcall0D (iCon_ok _ _ _ _ _ _ ?_ ?_ ?_ ?_) ⟨_,_,rfl,rfl⟩ ?_);(iterate 4 (exact sd));rintro _ _ ⟨rfl,rfl⟩)|((first|refine call0D (sCon_ok _ _ _ _ _ _ ?_ ?_ ?_ ?_) ?_|refine qcall0D (sCon_ok _ _ _ _ _ _ ?_ ?_ ?_ ?_) ⟨_,_,rfl,rfl⟩ ?_);(iterate 4 (exact sd));rintro _ _ ⟨rfl,rfl⟩)|((first|refine call0D (BCall.ofP (lequT_ok _ _ _ _ _ _ _ _ ?_ ?_)) ?_|refine qcall0D (BCall.ofP (lequT_ok _ _ _ _ _ _ _ _ ?_ ?_)) ⟨_,_,rfl,rfl⟩ ?_);(iterate 2 (exact sd));rintro _ _ ⟨rfl,rfl⟩)|((first|refine call0D (iSD_ok _ _ _ _ _ ?_ ?_ ?_) ?_|refine qcall0D (iSD_ok _ _ _ _ _ ?_ ?_ ?_) ⟨_,_,rfl,rfl⟩ ?_);(iterate 3 (exact sd));rintro _ _ ⟨rfl,rfl⟩))<;>(try simp (disch:=omega) only [push_cast,seval,Abz,Aaz]))
 | (refine Ajz ⟨.inr rfl,_,rfl,?_⟩;(try simp (disch:=omega) only [push_cast,seval,Abz,Aaz]))))
    · exact exSub3 (by (refine Sub.of_lists ?_ ?_ ?_ ?_ ?_<;>simp [Vw.mkS,Vw.lk,Vw.hk,AV.inn,innL,Arz,Akz,Atz,-List.map_set,-List.getD_eq_getElem?_getD,Abz,Aaz])) hpf
    · refine ⟨?_⟩
      rintro ⟨ts,ls,out⟩ hpf
      try simp only at hpf ⊢
      have hq:=prodF_q hpf
      obtain ⟨⟨hn1,hn3,hn5⟩,_⟩:=id hpf
      have hC:(t0 (ctT ts ls out)).1.length ≤ 60 ∧ (t0 (ctT ts ls out)).2.length ≤ 60:=ctT_short
      cases hct:ctT ts ls out with
 | none =>
        rw [hct] at hC
        obtain ⟨⟨Q,R⟩,hP⟩:∃ p:Tn,t0 none=p:=⟨_,rfl⟩
        rw [hP] at hC
        simp only at hC
        obtain ⟨hC1,hC2⟩:=hC
        (repeat' (first
 | (first|refine Alz ?_|refine Agz ?_)
 | ((first|refine Anz ?_|refine Afz ?_|refine Ahz ?_|refine Aiz ?_);simp (disch:=omega) only [push_cast,seval,l6r0,l6r1,l6r2,l6r3,l6r4,l6r5,l6r6,l6r7,l6r8,l6r9,l6r10,l6r11,l6r12,hct,hP,Option.isSome_none,decide_true,Abz,Aaz])
 | ((first|refine Acz ?_ ?_|refine Aez ?_ ?_|refine Adz ?_ ?_)<;>intro h<;>(try simp only [h])<;>(try simp only [bitvec_to_nat] at h)<;>(try simp only [h])<;>(first|(exfalso;omega)|(exfalso;simp_all;done)|(simp (disch:=omega) only [push_cast,seval,hct,hP,Option.isSome_none,decide_true,Abz,Aaz])|skip))
 | ((first|refine Aqz false ?_|refine qcallD_of false ?_);simp (disch:=omega) only [push_cast,seval,hct,hP,Option.isSome_none,decide_true,Abz,Aaz])
 | ((first|(refine call0D (BCall.ofP (C5z _ _ ?_ ?_)) ?_;(iterate 2 (exact sd));rintro _ _ ⟨⟨ts,ls,out,hpf,rfl⟩,rfl⟩)|((first|refine call0D (iCon_ok _ _ _ _ _ _ ?_ ?_ ?_ ?_) ?_|refine qcall0D (iCon_ok _ _ _ _ _ _ ?_ ?_ ?_ ?_) ⟨_,_,rfl,rfl⟩ ?_);(iterate 4 (exact sd));rintro _ _ ⟨rfl,rfl⟩)|((first|refine call0D (sCon_ok _ _ _ _ _ _ ?_ ?_ ?_ ?_) ?_|refine qcall0D (sCon_ok _ _ _ _ _ _ ?_ ?_ ?_ ?_) ⟨_,_,rfl,rfl⟩ ?_);(iterate 4 (exact sd));rintro _ _ ⟨rfl,rfl⟩)|((first|refine call0D (BCall.ofP (lequT_ok _ _ _ _ _ _ _ _ ?_ ?_)) ?_|refine qcall0D (BCall.ofP (lequT_ok _ _ _ _ _ _ _ _ ?_ ?_)) ⟨_,_,rfl,rfl⟩ ?_);(iterate 2 (exact sd));rintro _ _ ⟨rfl,rfl⟩)|((first|refine call0D (iSD_ok _ _ _ _ _ ?_ ?_ ?_) ?_|refine qcall0D (iSD_ok _ _ _ _ _ ?_ ?_ ?_) ⟨_,_,rfl,rfl⟩ ?_);(iterate 3 (exact sd));rintro _ _ ⟨rfl,rfl⟩))<;>(try simp (disch:=omega) only [push_cast,seval,hct,hP,Option.isSome_none,decide_true,Abz,Aaz]))
 | (refine Ajz ⟨.inr rfl,_,rfl,?_⟩;(try simp (disch:=omega) only [push_cast,seval,hct,hP,Option.isSome_none,decide_true,Abz,Aaz]))))
        all_goals (try simp)
 | some o =>
        rw [hct] at hC
        cases out with
        | nil =>
          have h1:=ct_none1 hct
          obtain ⟨Q,R⟩:=o
          simp only [B1z] at hC h1
          obtain ⟨hC1,hC2⟩:=hC
          obtain ⟨E,hE⟩:∃ E:List Int,E=[]:=⟨_,rfl⟩
          have hEl:E.length=0:=by rw [hE];rfl
          have q4:(ts.length ≤ 1048576 ∧ ls.length ≤ 1048576 ∧ 0 ≤ 1048576) ∧ (∀ t ∈ ts,t.1.length ≤ 1099511627776 ∧ t.2.length ≤ 1099511627776) ∧ ∀ l ∈ ls,l.length ≤ 1099511627776:=⟨⟨hq.1.1,hq.1.2.1,by omega⟩,hq.2⟩
          rw [← hE] at hct hq ⊢
          clear hE hpf
          (repeat' (first
 | (first|refine Alz ?_|refine Agz ?_)
 | ((first|refine Anz ?_|refine Afz ?_|refine Ahz ?_|refine Aiz ?_);simp (disch:=omega) only [push_cast,seval,l6r0,l6r1,l6r2,l6r3,l6r4,l6r5,l6r6,l6r7,l6r8,l6r9,l6r10,l6r11,l6r12,hct,h1,hEl,B1z,Option.isSome_some,decide_true,Abz,Aaz])
 | ((first|refine Acz ?_ ?_|refine Aez ?_ ?_|refine Adz ?_ ?_)<;>intro h<;>(try simp only [h])<;>(try simp only [bitvec_to_nat] at h)<;>(try simp only [h])<;>(first|(exfalso;omega)|(exfalso;simp_all;done)|(simp (disch:=omega) only [push_cast,seval,hct,h1,hEl,B1z,Option.isSome_some,decide_true,Abz,Aaz])|skip))
 | ((first|refine Aqz false ?_|refine qcallD_of false ?_);simp (disch:=omega) only [push_cast,seval,hct,h1,hEl,B1z,Option.isSome_some,decide_true,Abz,Aaz])
 | ((first|(refine call0D (BCall.ofP (C5z _ _ ?_ ?_)) ?_;(iterate 2 (exact sd));rintro _ _ ⟨⟨ts,ls,out,hpf,rfl⟩,rfl⟩)|((first|refine call0D (iCon_ok _ _ _ _ _ _ ?_ ?_ ?_ ?_) ?_|refine qcall0D (iCon_ok _ _ _ _ _ _ ?_ ?_ ?_ ?_) ⟨_,_,rfl,rfl⟩ ?_);(iterate 4 (exact sd));rintro _ _ ⟨rfl,rfl⟩)|((first|refine call0D (sCon_ok _ _ _ _ _ _ ?_ ?_ ?_ ?_) ?_|refine qcall0D (sCon_ok _ _ _ _ _ _ ?_ ?_ ?_ ?_) ⟨_,_,rfl,rfl⟩ ?_);(iterate 4 (exact sd));rintro _ _ ⟨rfl,rfl⟩)|((first|refine call0D (BCall.ofP (lequT_ok _ _ _ _ _ _ _ _ ?_ ?_)) ?_|refine qcall0D (BCall.ofP (lequT_ok _ _ _ _ _ _ _ _ ?_ ?_)) ⟨_,_,rfl,rfl⟩ ?_);(iterate 2 (exact sd));rintro _ _ ⟨rfl,rfl⟩)|((first|refine call0D (iSD_ok _ _ _ _ _ ?_ ?_ ?_) ?_|refine qcall0D (iSD_ok _ _ _ _ _ ?_ ?_ ?_) ⟨_,_,rfl,rfl⟩ ?_);(iterate 3 (exact sd));rintro _ _ ⟨rfl,rfl⟩))<;>(try simp (disch:=omega) only [push_cast,seval,hct,h1,hEl,B1z,Option.isSome_some,decide_true,Abz,Aaz]))
 | (refine Ajz ⟨.inr rfl,_,rfl,?_⟩; (try simp (disch := omega) only [push_cast,seval,hct,h1,hEl,B1z,Option.isSome_some,decide_true,Abz,Aaz]))))
          all_goals (try simp [h1])
        | cons c r =>
          have hsm:=ct_sum hct
          have hC2':(t0 (ctT ts ls r)).1.length ≤ 60 ∧ (t0 (ctT ts ls r)).2.length ≤ 60:=ctT_short
          rw [hsm] at hC2'
          obtain ⟨Q,R⟩:=o
          simp only [B1z] at hC
          obtain ⟨hC1,hC2⟩:=hC
          obtain ⟨⟨Q2,R2⟩,hP⟩:∃ p:Tn,t0 (sdT (Q,R) 0)=p:=⟨_,rfl⟩
          obtain ⟨ok2,hok⟩:∃ b:Bool,(sdT (Q,R) 0).isSome=b:=⟨_,rfl⟩
          rw [hP] at hC2'
          simp only at hC2'
          obtain ⟨hC3,hC4⟩:=hC2'
          obtain ⟨O,hO⟩:∃ O:List Int,O=c :: r:=⟨_,rfl⟩
          have hOl:O.length=r.length + 1:=by rw [hO];rfl
          have hdr:List.drop 1 (IL O)=IL r:=by rw [hO];rfl
          have hdr2:List.take r.length (IL r)=IL r:=List.take_of_length_le (by simp [IL])
          have q3:(ts.length ≤ 1048576 ∧ ls.length ≤ 1048576 ∧ r.length ≤ 1048576) ∧ (∀ t ∈ ts,t.1.length ≤ 1099511627776 ∧ t.2.length ≤ 1099511627776) ∧ ∀ l ∈ ls,l.length ≤ 1099511627776:=⟨⟨hq.1.1,hq.1.2.1,by have:=hq.1.2.2;simp only [List.length_cons] at this;omega⟩,hq.2⟩
          have q4:(ts.length ≤ 1048576 ∧ ls.length ≤ 1048576 ∧ r.length + 1 ≤ 1048576) ∧ (∀ t ∈ ts,t.1.length ≤ 1099511627776 ∧ t.2.length ≤ 1099511627776) ∧ ∀ l ∈ ls,l.length ≤ 1099511627776:=⟨⟨hq.1.1,hq.1.2.1,by have:=hq.1.2.2;simp only [List.length_cons] at this;omega⟩,hq.2⟩
          rw [← hO] at hct hq ⊢
          clear hO hpf
          cases ok2 with
          | false =>
            (repeat' (first
 | (first|refine Alz ?_|refine Agz ?_)
 | ((first|refine Anz ?_|refine Afz ?_|refine Ahz ?_|refine Aiz ?_);simp (disch:=omega) only [push_cast,seval,l6r0,l6r1,l6r2,l6r3,l6r4,l6r5,l6r6,l6r7,l6r8,l6r9,l6r10,l6r11,l6r12,hct,hsm,hP,hok,hOl,hdr,hdr2,B1z,Option.isSome_some,decide_true,Abz,Aaz])
 | ((first|refine Acz ?_ ?_|refine Aez ?_ ?_|refine Adz ?_ ?_)<;>intro h<;>(try simp only [h])<;>(try simp only [bitvec_to_nat] at h)<;>(try simp only [h])<;>(first|(exfalso;omega)|(exfalso;simp_all;done)|(simp (disch:=omega) only [push_cast,seval,hct,hsm,hP,hok,hOl,hdr,hdr2,B1z,Option.isSome_some,decide_true,Abz,Aaz])|skip))
 | ((first|refine Aqz false ?_|refine qcallD_of false ?_);simp (disch:=omega) only [push_cast,seval,hct,hsm,hP,hok,hOl,hdr,hdr2,B1z,Option.isSome_some,decide_true,Abz,Aaz])
 | ((first|(refine call0D (BCall.ofP (C5z _ _ ?_ ?_)) ?_;(iterate 2 (exact sd));rintro _ _ ⟨⟨ts,ls,out,hpf,rfl⟩,rfl⟩)|((first|refine call0D (iCon_ok _ _ _ _ _ _ ?_ ?_ ?_ ?_) ?_|refine qcall0D (iCon_ok _ _ _ _ _ _ ?_ ?_ ?_ ?_) ⟨_,_,rfl,rfl⟩ ?_);(iterate 4 (exact sd));rintro _ _ ⟨rfl,rfl⟩)|((first|refine call0D (sCon_ok _ _ _ _ _ _ ?_ ?_ ?_ ?_) ?_|refine qcall0D (sCon_ok _ _ _ _ _ _ ?_ ?_ ?_ ?_) ⟨_,_,rfl,rfl⟩ ?_);(iterate 4 (exact sd));rintro _ _ ⟨rfl,rfl⟩)|((first|refine call0D (BCall.ofP (lequT_ok _ _ _ _ _ _ _ _ ?_ ?_)) ?_|refine qcall0D (BCall.ofP (lequT_ok _ _ _ _ _ _ _ _ ?_ ?_)) ⟨_,_,rfl,rfl⟩ ?_);(iterate 2 (exact sd));rintro _ _ ⟨rfl,rfl⟩)|((first|refine call0D (iSD_ok _ _ _ _ _ ?_ ?_ ?_) ?_|refine qcall0D (iSD_ok _ _ _ _ _ ?_ ?_ ?_) ⟨_,_,rfl,rfl⟩ ?_);(iterate 3 (exact sd));rintro _ _ ⟨rfl,rfl⟩))<;>(try simp (disch:=omega) only [push_cast,seval,hct,hsm,hP,hok,hOl,hdr,hdr2,B1z,Option.isSome_some,decide_true,Abz,Aaz]))
 | (refine Ajz ⟨.inr rfl,_,rfl,?_⟩; (try simp (disch := omega) only [push_cast,seval,hct,hsm,hP,hok,hOl,hdr,hdr2,B1z,Option.isSome_some,decide_true,Abz,Aaz]))))
            all_goals (try simp)
          | true =>
            (repeat' (first
 | (first|refine Alz ?_|refine Agz ?_)
 | ((first|refine Anz ?_|refine Afz ?_|refine Ahz ?_|refine Aiz ?_);simp (disch:=omega) only [push_cast,seval,l6r0,l6r1,l6r2,l6r3,l6r4,l6r5,l6r6,l6r7,l6r8,l6r9,l6r10,l6r11,l6r12,hct,hsm,hP,hok,hOl,hdr,hdr2,B1z,Option.isSome_some,decide_true,Abz,Aaz])
 | ((first|refine Acz ?_ ?_|refine Aez ?_ ?_|refine Adz ?_ ?_)<;>intro h<;>(try simp only [h])<;>(try simp only [bitvec_to_nat] at h)<;>(try simp only [h])<;>(first|(exfalso;omega)|(exfalso;simp_all;done)|(simp (disch:=omega) only [push_cast,seval,hct,hsm,hP,hok,hOl,hdr,hdr2,B1z,Option.isSome_some,decide_true,Abz,Aaz])|skip))
 | ((first|refine Aqz false ?_|refine qcallD_of false ?_);simp (disch:=omega) only [push_cast,seval,hct,hsm,hP,hok,hOl,hdr,hdr2,B1z,Option.isSome_some,decide_true,Abz,Aaz])
 | ((first|(refine call0D (BCall.ofP (C5z _ _ ?_ ?_)) ?_;(iterate 2 (exact sd));rintro _ _ ⟨⟨ts,ls,out,hpf,rfl⟩,rfl⟩)|((first|refine call0D (iCon_ok _ _ _ _ _ _ ?_ ?_ ?_ ?_) ?_|refine qcall0D (iCon_ok _ _ _ _ _ _ ?_ ?_ ?_ ?_) ⟨_,_,rfl,rfl⟩ ?_);(iterate 4 (exact sd));rintro _ _ ⟨rfl,rfl⟩)|((first|refine call0D (sCon_ok _ _ _ _ _ _ ?_ ?_ ?_ ?_) ?_|refine qcall0D (sCon_ok _ _ _ _ _ _ ?_ ?_ ?_ ?_) ⟨_,_,rfl,rfl⟩ ?_);(iterate 4 (exact sd));rintro _ _ ⟨rfl,rfl⟩)|((first|refine call0D (BCall.ofP (lequT_ok _ _ _ _ _ _ _ _ ?_ ?_)) ?_|refine qcall0D (BCall.ofP (lequT_ok _ _ _ _ _ _ _ _ ?_ ?_)) ⟨_,_,rfl,rfl⟩ ?_);(iterate 2 (exact sd));rintro _ _ ⟨rfl,rfl⟩)|((first|refine call0D (iSD_ok _ _ _ _ _ ?_ ?_ ?_) ?_|refine qcall0D (iSD_ok _ _ _ _ _ ?_ ?_ ?_) ⟨_,_,rfl,rfl⟩ ?_);(iterate 3 (exact sd));rintro _ _ ⟨rfl,rfl⟩))<;>(try simp (disch:=omega) only [push_cast,seval,hct,hsm,hP,hok,hOl,hdr,hdr2,B1z,Option.isSome_some,decide_true,Abz,Aaz]))
 | (refine Ajz ⟨.inr rfl,_,rfl,?_⟩; (try simp (disch := omega) only [push_cast,seval,hct,hsm,hP,hok,hOl,hdr,hdr2,B1z,Option.isSome_some,decide_true,Abz,Aaz]))))
            all_goals (try simp)
  · (repeat' (first
 | (first|refine Alz ?_|refine Agz ?_)
 | ((first|refine Anz ?_|refine Afz ?_|refine Ahz ?_|refine Aiz ?_);simp (disch:=omega) only [push_cast,seval,l6r0,l6r1,l6r2,l6r3,l6r4,l6r5,l6r6,l6r7,l6r8,l6r9,l6r10,l6r11,l6r12])
 | ((first|refine Acz ?_ ?_|refine Aez ?_ ?_|refine Adz ?_ ?_)<;>intro h<;>(try simp only [h])<;>(try simp only [bitvec_to_nat] at h)<;>(try simp only [h])<;>(first|(exfalso;omega)|(exfalso;simp_all;done)|(simp (disch:=omega) only [push_cast,seval])|skip))
 | ((first|refine Aqz false ?_|refine qcallD_of false ?_);simp (disch:=omega) only [push_cast,seval])
 | ((first|(refine call0D (BCall.ofP (C5z _ _ ?_ ?_)) ?_;(iterate 2 (exact sd));rintro _ _ ⟨⟨ts,ls,out,hpf,rfl⟩,rfl⟩)|((first|refine call0D (iCon_ok _ _ _ _ _ _ ?_ ?_ ?_ ?_) ?_|refine qcall0D (iCon_ok _ _ _ _ _ _ ?_ ?_ ?_ ?_) ⟨_,_,rfl,rfl⟩ ?_);(iterate 4 (exact sd));rintro _ _ ⟨rfl,rfl⟩)|((first|refine call0D (sCon_ok _ _ _ _ _ _ ?_ ?_ ?_ ?_) ?_|refine qcall0D (sCon_ok _ _ _ _ _ _ ?_ ?_ ?_ ?_) ⟨_,_,rfl,rfl⟩ ?_);(iterate 4 (exact sd));rintro _ _ ⟨rfl,rfl⟩)|((first|refine call0D (BCall.ofP (lequT_ok _ _ _ _ _ _ _ _ ?_ ?_)) ?_|refine qcall0D (BCall.ofP (lequT_ok _ _ _ _ _ _ _ _ ?_ ?_)) ⟨_,_,rfl,rfl⟩ ?_);(iterate 2 (exact sd));rintro _ _ ⟨rfl,rfl⟩)|((first|refine call0D (iSD_ok _ _ _ _ _ ?_ ?_ ?_) ?_|refine qcall0D (iSD_ok _ _ _ _ _ ?_ ?_ ?_) ⟨_,_,rfl,rfl⟩ ?_);(iterate 3 (exact sd));rintro _ _ ⟨rfl,rfl⟩))<;>(try simp (disch:=omega) only [push_cast,seval]))
 | (refine Ajz ⟨.inr rfl,_,rfl,?_⟩;(try simp (disch:=omega) only [push_cast,seval]))))

end Go.Proofs.Ytbplegbgofnolaa
