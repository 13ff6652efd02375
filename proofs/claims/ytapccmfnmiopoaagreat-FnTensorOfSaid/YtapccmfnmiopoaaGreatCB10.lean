/- Texts of this verifier. -/
import Derived.Test.YtapccmfnmiopoaaGreatCB9
import Derived.Test.YtapccmfnmiopoaaGreatCM1
import Derived.Test.YtapccmfnmiopoaaGreatCW3
set_option maxHeartbeats 4000000
set_option linter.unusedSimpArgs false
set_option linter.unusedVariables false
set_option maxRecDepth 4000
namespace Go.Proofs.YtapccmfnmiopoaaGreat
open VwM Vw Go

theorem waysOfZ_ok (e L:List Int)(m:Nat)(hm:L.length=m)(he:e.length=5)(hb:m≤6∧(∀ x∈L,0≤x∧x≤4)∧∀ x∈L,0≤gE e x∧gE e x≤60):BCall Tryz.prog 78 [.agg (IL e),.rows false (IL L) m,.agg [.int .i64 0,.int .i64 0,.int .i64 0,.int .i64 0,.int .i64 0]] [] (fun r H'=>r=.own 0 (pr (L.map (gE e))).toNat 5∧H'=[IL (waysF e L Zv5 (pr (L.map (gE e))).toNat)]):=waysOf_ok e Zv5 L m hm ⟨he,rfl⟩ hb


def ctV (ts:List Tn)(ls:List (List Int))(out e:List Int)(n:Nat):List Int:=(List.range n).map fun p=>w64 (ctE ts ls out e p)
theorem K4z (ts:List Tn)(ls:List (List Int))(out e:List Int)(n:Nat):(ctV ts ls out e n).length=n:=by simp [ctV]
theorem ctV_succ (ts:List Tn)(ls:List (List Int))(out e:List Int)(n:Nat):ctV ts ls out e (n+1)=ctV ts ls out e n++[w64 (ctE ts ls out e n)]:=by simp [ctV,List.range_succ]
theorem facs_take {ts:List Tn}{ls:List (List Int)}{i:Nat}{t:Tn}{l:List Int}(ht:ts[i]?=some t)(hl:ls[i]?=some l):(facs ts ls).take (i+1)=(facs ts ls).take i++[(t.2,lbS l,fsT l (rowS t.1) t.1.length)]:=by
 rw [List.take_add_one,facs_get ht hl];rfl
theorem FC_snoc (g:Nat)(b1 b2:Bool)(fs:List Fc)(f:Fc):FC g b1 b2 fs++[.clo (.func g) [.agg (.rows b1 (IL f.1) f.1.length::.rows b2 (IL f.2.1) f.2.1.length::IL f.2.2)] []]=FC g b1 b2 (fs++[f]):=by rw [FC_append];rfl


set_option maxHeartbeats 32000000 in
theorem icontr_ok (ts:List Tn)(ls:List (List Int))(out e:List Int)(n m q:Nat)(hn:ts.length=n)(hm:ls.length=m)(hq:out.length=q)
  (hb:CtOk ts ls e∧(n≤1000∧q≤6)∧(∀ x∈out,x∈ls.flatten)∧(∀ t∈ts,t.1.length≤1000∧t.2.length≤1000)∧∀ l∈ls,l.length≤1000) :
  BCall Tryz.prog 57 [.agg (IL e),.rows false (TL false ts) n,.rows false (LL false ls) m,.rows false (IL out) q] [] (OI (ctV ts ls out e (pr (out.map (gE e))).toNat)):=by
 subst hn hm hq
 obtain ⟨hC,⟨hb1,hb2⟩,ho,hb3,hb4⟩:=hb
 have h5:=hC.len
 have hlen:=hC.num
 have htl:=Eyz false ts
 have hll:=Dsz false ls
 have hO:∀ x∈out,(0≤x∧x≤4):=fun x hx=>(hC.used x (ho x hx)).1
 have hO2:∀ x∈out,0≤gE e x∧gE e x≤60:=fun x hx=>(hC.used x (ho x hx)).2
 have hp0:0≤pr (out.map (gE e)):=Eez fun z hz=>by obtain ⟨y,hy,rfl⟩:=List.mem_map.1 hz;exact (hO2 y hy).1
 have hp9:=Efz (xs:=out.map (gE e)) ⟨fun x hx=>by obtain ⟨y,hy,rfl⟩:=List.mem_map.1 hx;exact hO2 y hy,by simpa using hb2⟩
 obtain ⟨N,hN⟩:∃ N:Nat,pr (out.map (gE e))=N:=⟨(pr (out.map (gE e))).toNat,by omega⟩
 have hNN:(pr (out.map (gE e))).toNat=N:=by omega
 rw [hNN]
 have hfl:=facs_len hlen
 refine Awz (pins:=[]) (pin:=0) l57_eq rfl rfl rfl ?_
 (repeat' (first
 | (first|refine Afz ?_|refine Aaz ?_)
 | ((first|refine Agz ?_);simp (disch:=omega) only [push_cast,seval,h5,Aqz,A2z])
 | (refine Acz ⟨.inr rfl,[880],[],_,by decide,rfl,?_⟩;(try simp (disch:=omega) only [push_cast,seval,↓Adz,↓Abz,↓List.map_cons,↓List.map_nil,h5,Aqz,A2z]))))
 refine Exz (fun k:Nat=>mkS [(2,.rows false (LL false ls) ls.length),(3,.rows false (IL out) out.length),(4,.ref 64 5 0),(9,.own 512 k 1),(16,.rows false (TL false ts) ts.length),(17,.int .i64 ts.length),(18,.int .i64 k)] [(64,IL e),(512,FC 76 false true ((facs ts ls).take k))]) (fun k=>k≤ts.length) (fun k=>ts.length-k) 0 (Nat.zero_le _) ?_ ?_
 ·refine SubW.adopt [9] 512 1 (by simp [Vw.hk]) (SubW.of ?_)
  simp only [adL,List.map_cons,List.map_nil,adA,List.contains_cons,List.contains_nil]
  have e0:FC 76 false true []=[]:=rfl
  (refine Sub.of_lists ?_ ?_ ?_ ?_ ?_<;>simp [Vw.mkS,Vw.lk,Vw.hk,AV.inn,innL,Ajz,Ahz,Alz,-List.map_set,-List.getD_eq_getElem?_getD,e0,Arz,Amz])
 ·intro k hk
  have hfk:((facs ts ls).take k).length=k:=by rw [List.length_take,hfl];omega
  have hFl:=I4z 76 false true ((facs ts ls).take k)
  rw [hfk] at hFl
  by_cases hlt:k<ts.length
  ·obtain ⟨t,ht⟩:=Hmz hlt
   obtain ⟨l,hl⟩:=Hmz (show k<ls.length by omega)
   have hdt:=TL_drop false ts k ht
   have hdl:=K8z false ls k hl
   have hk1:k+1≤ts.length:=by omega
   have hkl:k+1≤ls.length:=by omega
   have hbt:=hb3 t (List.mem_of_getElem? ht)
   have hbl:=hb4 l (List.mem_of_getElem? hl)
   obtain ⟨⟨c1,c2⟩,c3,c4,c5⟩:=hC.lab k t l ht hl
   have q1:vSh t.1=true∧l.length=t.1.length∧t.2.length≤1099511627776∧∀ x∈l,0≤x∧x≤4:=⟨c1,c3,by omega,c4⟩
   have hsn:=facs_take ht hl
   have hsn2:=FC_snoc 76 false true ((facs ts ls).take k) (t.2,lbS l,fsT l (rowS t.1) t.1.length)
   rw [← hsn] at hsn2
   generalize hU:FC 76 false true ((facs ts ls).take k)=U at *
   (repeat' ((first
 | (first|refine Afz ?_|refine Aaz ?_)
 | (first|refine Agz ?_|refine Cgz (mid:=l57r5a) (post:=l57r5b) [] Bfz (by decide) ?_|refine Aez ?_|refine Aoz ?_)
 | ((first|refine Aiz (fun h=>?_) (fun h=>?_))<;>(try simp only [h])<;>(try simp only [bitvec_to_nat] at h)<;>(try simp only [h])<;>(first|(exfalso;omega)|(exfalso;simp_all;done)|skip))
 | (first|((with_reducible refine A7z (f:=75) true ?_);simp (disch:=omega) only [push_cast,seval,hdt,hdl,htl,hll,hk1,hkl,h5,Aqz,hFl];(refine Asz (Apz (factOf_ok _ _ _ _ _ ?_ ?_ ?_ ?_)) ⟨_,_,rfl,rfl⟩ ?_;(iterate 4 (exact sd));rintro _ _ ⟨rfl,rfl⟩)))
 | (refine Acz ⟨.inr rfl,[880],[],_,by decide,rfl,?_⟩;(try simp (disch:=omega) only [push_cast,seval,↓Adz,↓Abz,↓List.map_cons,↓List.map_nil,hdt,hdl,htl,hll,hk1,hkl,h5,Aqz,hFl])))<;>(try simp (disch:=omega) only [push_cast,seval,hdt,hdl,htl,hll,hk1,hkl,h5,Aqz,hFl])))
   refine ⟨k+1,by omega,by omega,SubW.of ?_⟩
   (refine Sub.of_lists ?_ ?_ ?_ ?_ ?_<;>simp [Vw.mkS,Vw.lk,Vw.hk,AV.inn,innL,Ajz,Ahz,Alz,-List.map_set,-List.getD_eq_getElem?_getD,hsn2,Arz,Amz,Fzz])
  ·have ek:k=ts.length:=by omega
   have htk:(facs ts ls).take k=facs ts ls:=List.take_of_length_le (by omega)
   rw [htk] at hFl ⊢
   have hS:∀ x∈sumd ls out,(0≤x∧x≤4):=fun x hx=>(Fbz.1 hx).1.1
   have hS2:∀ x∈sumd ls out,0≤gE e x∧gE e x≤60:=fun x hx=>(hC.used x (Fbz.1 hx).1.2).2
   have hSl:(sumd ls out).length≤5:=by
    have h1:=wiL_len (lbS ls.flatten) out
    have h2:=Ekz ls.flatten 5
    show (wiL (lbS ls.flatten) out).length≤5
    have h3:(lbS ls.flatten).length≤5:=h2
    omega
   have hs9:=Efz (xs:=(sumd ls out).map (gE e)) ⟨fun x hx=>by obtain ⟨y,hy,rfl⟩:=List.mem_map.1 hx;exact hS2 y hy,by simp;omega⟩
   obtain ⟨N2,hN2⟩:∃ N2:Nat,(pr ((sumd ls out).map (gE e))).toNat=N2:=⟨_,rfl⟩
   have hN2b:N2≤46656000000:=by omega
   have q1:ls.length≤1099511627776∧(∀ l∈ls,l.length≤1099511627776)∧∀ l∈ls,∀ x∈l,0≤x∧x≤4:=⟨by omega,fun l hl=>by have:=hb4 l hl;omega,fun l hl x hx=>(hC.used x (List.mem_flatten.2 ⟨l,hl,hx⟩)).1⟩
   have q2:out.length≤6∧(∀ x∈out,0≤x∧x≤4)∧∀ x∈out,0≤gE e x∧gE e x≤60:=⟨hb2,hO,hO2⟩
   have q3:(sumd ls out).length≤6∧(∀ x∈sumd ls out,0≤x∧x≤4)∧∀ x∈sumd ls out,0≤gE e x∧gE e x≤60:=⟨by omega,hS,hS2⟩
   have q4:(lbS ls.flatten).length≤1099511627776∧out.length≤1099511627776:=⟨by have h3:(lbS ls.flatten).length≤5:=Ekz ls.flatten 5;omega,by omega⟩
   have hsd:wiL (lbS ls.flatten) out=sumd ls out:=rfl
   have hFL:∀ p,innL p (FC 76 false true (facs ts ls))=true:=fun p=>Fzz 76 false true p _
   have hWl:=C6z e out Zv5 rfl N
   generalize hF:FC 76 false true (facs ts ls)=F at *
   (repeat' ((first
 | (first|refine Afz ?_|refine Aaz ?_)
 | (first|refine Agz ?_|refine Aez ?_|refine Atz ?_)
 | ((first|refine Aiz (fun h=>?_) (fun h=>?_))<;>(try simp only [h])<;>(try simp only [bitvec_to_nat] at h)<;>(try simp only [h])<;>(first|(exfalso;omega)|(exfalso;simp_all;done)|skip))
 | (first|refine Anz false ?_)
 | (first|(refine Akz (D0z _ _ ?_ ?_) ?_;(iterate 2 (exact sd));rintro _ _ ⟨rfl,rfl⟩)|(refine Akz (iwithout_ok _ _ _ _ ?_ ?_ ?_) ?_;(iterate 3 (exact sd));rintro _ _ ⟨rfl,rfl⟩)|(refine Akz (waysOfZ_ok _ _ _ ?_ ?_ ?_) ?_;(iterate 3 (exact sd));rintro _ _ ⟨rfl,rfl⟩))
 | (refine Acz ⟨.inr rfl,[880],[],_,by decide,rfl,?_⟩;(try simp (disch:=omega) only [push_cast,seval,↓Adz,↓Abz,↓List.map_cons,↓List.map_nil,h5,Aqz,A2z,hNN,hN2,hsd,hFl,hWl])))<;>(try simp (disch:=omega) only [push_cast,seval,h5,Aqz,A2z,hNN,hN2,hsd,hFl,hWl])))
   refine Exz (fun j:Nat=>mkS [(4,.ref 64 5 0),(9,.own 512 ts.length 1),(12,.own 592 (sumd ls out).length 1),(13,.own 880 j 1),(41,.own 656 N 5),(42,.int .i64 N),(43,.int .i64 j)] [(64,IL e),(512,F),(592,IL (sumd ls out)),(656,IL (waysF e out Zv5 N)),(880,IL (ctV ts ls out e j))]) (fun j=>j≤N) (fun j=>N-j) 0 (Nat.zero_le _) ?_ ?_
   ·refine SubW.adopt [13] 880 1 (by simp [Vw.hk]) (SubW.of ?_)
    simp only [adL,List.map_cons,List.map_nil,adA,List.contains_cons,List.contains_nil]
    have e0:IL (ctV ts ls out e 0)=[]:=rfl
    rw [← ek]
    (refine Sub.of_lists ?_ ?_ ?_ ?_ ?_<;>simp [Vw.mkS,Vw.lk,Vw.hk,AV.inn,innL,Ajz,Ahz,Alz,-List.map_set,-List.getD_eq_getElem?_getD,e0,hFL])
   ·intro j hj
    have hVl:=K4z ts ls out e j
    by_cases hjl:j<N
    ·have hwk:(waysT e out Zv5 N)[j]?=some (wayK e out Zv5 j):=by simp [waysT,hjl]
     have hwt5:∀ v∈waysT e out Zv5 N,v.length=5:=fun v hv=>by obtain ⟨i,_,rfl⟩:=List.mem_map.1 hv;rw [Ezz];rfl
     have hd5:((IL (waysF e out Zv5 N)).drop (j*5)).take 5=IL (wayK e out Zv5 j):=Hdz hwt5 hwk
     have hk5:(wayK e out Zv5 j).length=5:=by rw [Ezz];rfl
     have hsum:=prog_sum hC ho hN hjl
     have hpos:=used_pos hC ho hN hjl
     have hwo:∀ x∈out,fitW e (wayK e out Zv5 j) x:=fun x hx=>wayK_in (Int.natCast_nonneg _) (nums5 rfl hO) hpos hx
     rw [hN2] at hsum
     have q5:e.length=5∧(wayK e out Zv5 j).length=5:=⟨h5,hk5⟩
     have hW2l:=C6z e (sumd ls out) (wayK e out Zv5 j) hk5 N2
     have q6:(N2≤1099511627776∧ts.length≤1099511627776)∧(∀ w∈waysT e (sumd ls out) (wayK e out Zv5 j) N2,w.length=5)∧∀ w∈waysT e (sumd ls out) (wayK e out Zv5 j) N2,∀ f∈facs ts ls,fcOk f w:=by
      refine ⟨⟨by omega,by omega⟩,fun w hw=>by obtain ⟨i,_,rfl⟩:=List.mem_map.1 hw;rw [Ezz];exact hk5,fun w hw=>?_⟩
      obtain ⟨i,hi,rfl⟩:=List.mem_map.1 hw
      have hi2:=List.mem_range.1 hi
      refine facs_ok hC (fit_two hC ho hk5 hwo (by rw [Ezz];exact hk5) (fun y hy hn=>wayK_out hy (nums5 hk5 hS) hn) (fun x hx=>wayK_in (Int.natCast_nonneg _) (nums5 hk5 hS) (fun y hy=>?_) hx)) (fun t ht=>by have:=hb3 t ht;omega)
      have:=Dnz (xs:=(sumd ls out).map (gE e)) (by omega) (fun z hz=>by obtain ⟨y,hy,rfl⟩:=List.mem_map.1 hz;exact (hS2 y hy).1)
      exact this _ (List.mem_map.2 ⟨y,hy,rfl⟩)
     have hWT2:=waysT_len e (sumd ls out) (wayK e out Zv5 j) N2
     have hnx:=ctV_succ ts ls out e j
     have hs5:=fun a b c d f=>set5I hk5 a b c d f
     subst hF
     generalize hV:ctV ts ls out e j=V at *
     (repeat' ((first
 | (first|refine Afz ?_|refine Aaz ?_)
 | (first|refine Agz ?_|refine Aez ?_|refine Aoz ?_)
 | ((first|refine Aiz (fun h=>?_) (fun h=>?_))<;>(try simp only [h])<;>(try simp only [bitvec_to_nat] at h)<;>(try simp only [h])<;>(first|(exfalso;omega)|(exfalso;simp_all;done)|skip))
 | (first|refine Anz false ?_)
 | (first|(refine Akz (waysOf_ok _ _ _ _ ?_ ?_ ?_) ?_;(iterate 3 (exact sd));rintro _ _ ⟨rfl,rfl⟩)|(refine Akz (Apz (sopW_ok _ _ _ _ ?_ ?_ ?_)) ?_;(iterate 3 (exact sd));rintro _ _ ⟨rfl,rfl⟩))
 | (refine Acz ⟨.inr rfl,[880],[],_,by decide,rfl,?_⟩; (try simp (disch := omega) only [push_cast,seval,↓Adz,↓Abz,↓List.map_cons,↓List.map_nil,h5,hk5,Aqz,A2z,hd5,hs5,hNN,hN2,hsd,hFl,hWl,hW2l,hVl,hsum])))<;>(try simp (disch:=omega) only [push_cast,seval,h5,hk5,Aqz,A2z,hd5,hs5,hNN,hN2,hsd,hFl,hWl,hW2l,hVl,hsum])))
     refine ⟨j+1,by omega,by omega,SubW.of ?_⟩
     rw [hnx]
     (refine Sub.of_lists ?_ ?_ ?_ ?_ ?_<;>simp [Vw.mkS,Vw.lk,Vw.hk,AV.inn,innL,Ajz,Ahz,Alz,-List.map_set,-List.getD_eq_getElem?_getD,hFL])
    ·have ej:j=N:=by omega
     subst ej
     generalize hV:ctV ts ls out e j=V at *
     (repeat' (first
 | (first|refine Afz ?_|refine Aaz ?_)
 | ((first|refine Agz ?_|refine Aez ?_|refine Atz ?_);simp (disch:=omega) only [push_cast,seval,h5,Aqz,A2z,hNN,hFl,hWl,hVl])
 | ((first|refine Aiz (fun h=>?_) (fun h=>?_))<;>(try simp only [h])<;>(try simp only [bitvec_to_nat] at h)<;>(try simp only [h])<;>(first|(exfalso;omega)|(exfalso;simp_all;done)|(simp (disch:=omega) only [push_cast,seval,h5,Aqz,A2z,hNN,hFl,hWl,hVl])|skip))
 | (refine Acz ⟨.inr rfl,[880],[],_,by decide,rfl,?_⟩; (try simp (disch := omega) only [push_cast,seval,↓Adz,↓Abz,↓List.map_cons,↓List.map_nil,h5,Aqz,A2z,hNN,hFl,hWl,hVl]))))
     all_goals exact ⟨by rw [hVl],rfl⟩

end Go.Proofs.YtapccmfnmiopoaaGreat
namespace Go.Proofs.YtapccmfnmiopoaaGreat
open VwM Vw Go

theorem ctOk_of {ts:List Tn}{ls:List (List Int)}{e:List Int}(h:exO ts ls=some e):CtOk ts ls e:=by
 obtain ⟨f1,f2,f3,f4,f5,f6,f7,f8⟩:=exO_facts h
 refine ⟨f1,f8,fun i t l ht hl=>?_,fun x hx=>?_,f2⟩
 ·have hv:=Dtz.1 (f7 t (List.mem_of_getElem? ht))
  exact ⟨⟨hv.1,hv.2.1⟩,(f6 i t l ht hl).1,fun x hx=>f5 x (List.mem_flatten.2 ⟨l,List.mem_of_getElem? hl,hx⟩),(f6 i t l ht hl).2⟩
 ·have hr:=f5 x hx
  refine ⟨hr,?_⟩
  obtain ⟨c,rfl⟩:∃ c:Nat,x=c:=⟨x.toNat,by omega⟩
  have:=f3 c (by omega) hx
  unfold gE;rw [Int.toNat_natCast];exact this
end Go.Proofs.YtapccmfnmiopoaaGreat
namespace Go.Proofs.YtapccmfnmiopoaaGreat
open VwM Vw Go

def ctC (out e:List Int):Bool:=(allI out 0 4&&decide out.Nodup)&&vSh (out.map (gE e))&&decide (pr (spE e)≤4000)
def ctW (ts:List Tn)(ls:List (List Int))(out e:List Int):Tn:=(out.map (gE e),ctV ts ls out e (pr (out.map (gE e))).toNat)
def ctT (ts:List Tn)(ls:List (List Int))(out:List Int):Option Tn:=(exO ts ls).bind fun e=>if (ctC out e&&vT (ctW ts ls out e))=true then some (ctW ts ls out e) else none
def t0 (o:Option Tn):Tn:=o.getD ([],[])
theorem ctT_none {ts:List Tn}{ls:List (List Int)}{out:List Int}(h:exO ts ls=none):ctT ts ls out=none:=by unfold ctT;rw [h];rfl
theorem ctT_no {ts:List Tn}{ls:List (List Int)}{out e:List Int}(h:exO ts ls=some e)(h2:(ctC out e&&vT (ctW ts ls out e))=false):ctT ts ls out=none:=by unfold ctT;rw [h];simp only [Option.bind_some];rw [h2];rfl
theorem ctT_yes {ts:List Tn}{ls:List (List Int)}{out e:List Int}(h:exO ts ls=some e)(h2:ctC out e=true)(h3:vT (ctW ts ls out e)=true):ctT ts ls out=some (ctW ts ls out e):=by unfold ctT;rw [h];simp only [Option.bind_some];rw [h2,h3];rfl
/-- All labels of a good result are used. -/
theorem out_used {ts:List Tn}{ls:List (List Int)}{out e:List Int}(hC:CtOk ts ls e)(h1:allI out 0 4=true)(h2:vSh (out.map (gE e))=true):∀ x∈out,x∈ls.flatten:=fun x hx=>by
 have hr:=Boz.1 h1 x hx
 refine Classical.byContradiction fun hn=>?_
 obtain ⟨c,rfl⟩:∃ c:Nat,x=c:=⟨x.toNat,by omega⟩
 have h3:=hC.un c (by omega) hn
 have h4:=(A5z h2).1.1 (gE e c) (List.mem_map.2 ⟨_,hx,rfl⟩)
 unfold gE at h4;rw [Int.toNat_natCast] at h4
 omega
theorem space_le {ts:List Tn}{ls:List (List Int)}{e:List Int}(hC:CtOk ts ls e):∀ x∈e,x≤60:=fun y hy=>by
 obtain ⟨c,hc,rfl⟩:=Goz.1 hy
 by_cases hm:(c:Int)∈ls.flatten
 ·have:=(hC.used _ hm).2;unfold gE at this;rw [Int.toNat_natCast] at this;omega
 ·have:=hC.un c (by have:=hC.len;omega) hm;omega
theorem space_bound {ts:List Tn}{ls:List (List Int)}{e:List Int}(hC:CtOk ts ls e):0≤pr (spE e)∧pr (spE e)≤46656000000:=Efz ⟨fun z hz=>by
  obtain ⟨y,hy,rfl⟩:=List.mem_map.1 hz
  have:=space_le hC y hy
  split<;>omega,by rw [spE_length,hC.len];omega⟩
theorem lbS_short {out:List Int}(h:∀ x∈out,0≤x∧x≤4):((lbS out).length:Int)<out.length↔¬ out.Nodup:=by
 constructor
 ·intro hlt hn
  have hp:(lbS out).Perm out:=by
   rw [List.perm_ext_iff_of_nodup (Elz out) hn]
   exact fun a=>by rw [Ehz];exact ⟨fun h=>h.2,fun ha=>⟨h a ha,ha⟩⟩
  have:=hp.length_eq
  omega
 ·intro hn
  refine Classical.byContradiction fun hge=>hn ?_
  have hsub:∀ {A B:List Int},A.Nodup→(∀ x∈A,x∈B)→A.length ≥ B.length→B.Nodup:=by
   intro A
   induction A with
 | nil=>intro B _ _ hl;have:B=[]:=List.eq_nil_of_length_eq_zero (by simpa using hl);subst this;exact List.nodup_nil
 | cons a A ih =>
    intro B hA hs hl
    rw [List.nodup_cons] at hA
    have haB:=hs a (by simp)
    have hpm:=List.perm_cons_erase haB
    have hle:(B.erase a).length+1=B.length:=by have:=hpm.length_eq;simp at this;omega
    have:=ih (B:=B.erase a) hA.2 (fun x hx=>(List.mem_erase_of_ne (by intro e;apply hA.1;rw [← e];assumption)).2 (hs x (by simp [hx]))) (by simp at hl;omega)
    rw [hpm.nodup_iff,List.nodup_cons]
    refine ⟨fun hm=>?_,this⟩
    -- a stands twice in B: then A's members and one more lie in B.erase a
    have hcount:A.length+1≤(B.erase a).length:=by
     have h2:∀ {A B:List Int},A.Nodup→(∀ x∈A,x∈B)→A.length≤B.length:=by
      intro A
      induction A with
      | nil=>intro B _ _;simp
      | cons c A ih2 =>
       intro B hA hs
       rw [List.nodup_cons] at hA
       have hc:=hs c (by simp)
       have hpm2:=List.perm_cons_erase hc
       have hl2:=hpm2.length_eq
       have:=ih2 (B:=B.erase c) hA.2 (fun x hx=>(List.mem_erase_of_ne (by intro e;apply hA.1;rw [← e];assumption)).2 (hs x (by simp [hx])))
       simp at hl2 ⊢
       omega
     have:=h2 (A:=a::A) (B:=B.erase a) (List.nodup_cons.2 hA) (fun x hx=>by
      rcases List.mem_cons.1 hx with rfl|hx
      ·exact hm
      ·exact (List.mem_erase_of_ne (by intro e;apply hA.1;rw [← e];assumption)).2 (hs x (by simp [hx])))
     simpa using this
    simp at hl
    omega
  exact hsub (Elz out) (fun x hx=>(Ehz.1 hx).2) (by omega)


/-- What a contraction yields: a tensor,whether it is possible. -/
abbrev OTn (o:Option Tn):AV→List (List AV)→Prop:=fun r H'=>r=.tup [.agg [.own 0 (t0 o).1.length 1,.own 1 (t0 o).2.length 1],.bool o.isSome]∧H'=[IL (t0 o).1,IL (t0 o).2]
set_option maxHeartbeats 32000000 in
theorem iCon_ok (ts:List Tn)(ls:List (List Int))(out:List Int)(n m q:Nat)(hn:ts.length=n)(hm:ls.length=m)(hq:out.length=q)
  (hb:(n≤1048576∧m≤1048576∧q≤1048576)∧(∀ t∈ts,t.1.length≤1099511627776∧t.2.length≤1099511627776)∧∀ l∈ls,l.length≤1099511627776) :
  BCall Tryz.prog 29 [.rows false (TL false ts) n,.rows false (LL false ls) m,.rows false (IL out) q] [] (OTn (ctT ts ls out)):=by
 subst hn hm hq
 obtain ⟨⟨hb0,hb1,hb2⟩,hb3,hb4⟩:=hb
 refine Awz (pins:=[]) (pin:=0) l29_eq rfl rfl rfl ?_
 have q1:ts.length≤1099511627776∧ls.length≤1099511627776∧out.length≤1099511627776∧(∀ t∈ts,t.1.length≤1099511627776∧t.2.length≤1099511627776)∧∀ l∈ls,l.length≤1099511627776:=⟨by omega,by omega,by omega,hb3,hb4⟩
 have hxp:=exP_eq ts ls out
 have s5:=fun (g:List Int) (hg:g.length=5) a b c d f=>set5I hg a b c d f
 have t5:=fun (g:List Int) (hg:g.length=5)=>A2z hg
 cases hx0:exP ts ls out with
 | none =>
  have hno:ctT ts ls out=none:=by
   cases ha:allI out 0 4 with
 | false =>
    cases he:exO ts ls with
    | none=>exact ctT_none he
    | some e=>exact ctT_no he (by unfold ctC;rw [ha];rfl)
 | true=>rw [hx0,if_pos ha] at hxp;exact ctT_none hxp.symm
  rw [hno]
  rw [hx0] at hxp
  have hxp:=hx0
  (repeat' ((first
 | (first|refine Afz ?_|refine Aaz ?_)
 | (first|refine Agz ?_|refine Aez ?_)
 | (first|refine Anz false ?_)
 | (first|(refine Akz (Apz (Ckz _ _ _ _ _ _ ?_ ?_ ?_ ?_)) ?_;(iterate 4 (exact sd));rintro _ _ ⟨⟨g,hg5,rfl⟩,rfl⟩;(try simp only [hxp,Option.getD_none,Option.getD_some] at hg5)))
 | (refine Acz ⟨.inr rfl,[16000,16016],[(16000,1),(16016,1)],_,by decide,rfl,?_⟩;(try simp (disch:=omega) only [push_cast,seval,↓Adz,↓Abz,↓List.map_cons,↓List.map_nil,hxp,set5,tak5,Cez,s5,t5,Aqz,Option.isSome_none,Option.getD_none,Arz,Amz])))<;>(try simp (disch:=omega) only [push_cast,seval,hxp,set5,tak5,Cez,s5,t5,Aqz,Option.isSome_none,Option.getD_none,Arz,Amz])))
  all_goals exact ⟨rfl,rfl⟩
 | some e =>
  rw [hx0] at hxp
  have ha:allI out 0 4=true:=by
   cases ha:allI out 0 4 with
 | false=>rw [ha] at hxp;cases hxp
 | true=>rfl
  rw [if_pos ha] at hxp
  have hx:=hxp.symm
  have hxp:=hx0
  have hC:=ctOk_of hx
  have h5:=hC.len
  have hO:=Boz.1 ha
  have q2:out.length≤1099511627776∧∀ x∈out,0≤x∧x≤4:=⟨by omega,hO⟩
  have hcost:pr ((lbS ls.flatten).map (gE e))=pr (spE e):=(spE_lbS h5 hC.un (fun k hk hm=>by have:=(hC.used _ hm).2.1;unfold gE at this;rw [Int.toNat_natCast] at this;exact this)).symm
  have q3:e.length=5∧ls.length≤1099511627776∧(∀ l∈ls,l.length≤1099511627776)∧(∀ l∈ls,∀ x∈l,0≤x∧x≤4)∧∀ l∈ls,∀ x∈l,0≤gE e x∧gE e x≤60:=⟨h5,by omega,hb4,fun l hl x hx=>(hC.used x (List.mem_flatten.2 ⟨l,hl,hx⟩)).1,fun l hl x hx=>(hC.used x (List.mem_flatten.2 ⟨l,hl,hx⟩)).2⟩
  have hsp:=space_bound hC
  have hsh:=lbS_short hO
  have s5e:=fun a b c d f=>set5I h5 a b c d f
  have t5e:=A2z h5
  by_cases hn:out.Nodup
  ·have hge:¬ (((lbS out).length:Int)<out.length):=fun h=>hsh.1 h hn
   have hlb:(lbS out).length≤5:=Ekz out 5
   by_cases hc:pr (spE e)≤4000
   ·have hOl:(out.map (gE e)).length=out.length:=List.length_map _
    have q4:e.length=5∧out.length≤1099511627776∧∀ x∈out,0≤x∧x≤4:=⟨h5,by omega,hO⟩
    cases hvs:vSh (out.map (gE e)) with
    | false =>
     have hno:=ctT_no (ts:=ts) (ls:=ls) (out:=out) (e:=e) hx (by unfold ctC;rw [hvs];simp)
     rw [hno]
     generalize hOS:out.map (gE e)=OS at *
     have q5:OS.length≤1099511627776:=by omega
     (repeat' ((first
 | (first|refine Afz ?_|refine Aaz ?_)
 | (first|refine Agz ?_|refine Aez ?_|refine Aoz ?_)
 | ((first|refine Aiz (fun h=>?_) (fun h=>?_))<;>(try simp only [h])<;>(try simp only [bitvec_to_nat] at h)<;>(try simp only [h])<;>(first|(exfalso;omega)|(exfalso;simp_all;done)|skip))
 | (first|refine Anz false ?_)
 | (first|(refine Akz (Apz (Ckz _ _ _ _ _ _ ?_ ?_ ?_ ?_)) ?_;(iterate 4 (exact sd));rintro _ _ ⟨⟨g,hg5,rfl⟩,rfl⟩;(try simp only [hxp,Option.getD_none,Option.getD_some] at hg5))|(refine Akz (B7z _ _ ?_ ?_) ?_;(iterate 2 (exact sd));rintro _ _ ⟨rfl,rfl⟩)|(refine Akz (Apz (Gyz _ _ _ ?_ ?_)) ?_;(iterate 2 (exact sd));rintro _ _ ⟨rfl,rfl⟩)|(refine Akz (E4z _ _ _ ?_ ?_) ?_;(iterate 2 (exact sd));rintro _ _ ⟨rfl,rfl⟩)|(refine Akz (Apz (Baz _ _ ?_ ?_)) ?_;(iterate 2 (exact sd));rintro _ _ ⟨rfl,rfl⟩))
 | (refine Acz ⟨.inr rfl,[16000,16016],[(16000,1),(16016,1)],_,by decide,rfl,?_⟩; (try simp (disch := omega) only [push_cast,seval,↓Adz,↓Abz,↓List.map_cons,↓List.map_nil,hxp,hge,hcost,hc,hvs,hOS,hOl,s5e,t5e,h5,Aqz,Cez,Option.isSome_none,Option.isSome_some,Option.getD_some,Arz,Amz])))<;>(try simp (disch:=omega) only [push_cast,seval,hxp,hge,hcost,hc,hvs,hOS,hOl,s5e,t5e,h5,Aqz,Cez,Option.isSome_none,Option.isSome_some,Option.getD_some,Arz,Amz])))
     all_goals exact ⟨rfl,rfl⟩
    | true =>
     have ho:=out_used hC ha hvs
     have hgs:=A5z hvs
     have hcc:ctC out e=true:=by unfold ctC;rw [ha,hvs];simp [hn,hc]
     obtain ⟨hv1,⟨hv2,hv3⟩,hv4,_⟩:=exO_some hx
     have hb3':∀ t∈ts,t.1.length≤1000∧t.2.length≤1000:=fun t ht=>by
      have h1:=Dtz.1 (List.all_eq_true.1 hv1 t ht)
      have h2:=A5z h1.1
      have h3:=h2.1.2
      have h4:=h1.2.1
      omega
     have hb4':∀ l∈ls,l.length≤1000:=fun l hl=>by
      obtain ⟨i,hi⟩:=List.mem_iff_getElem?.1 hl
      have hil:=(List.getElem?_eq_some_iff.1 hi).1
      have hit:ts[i]?=some (ts[i]'(by omega)):=List.getElem?_eq_getElem _
      have h1:=(hC.lab i _ l hit hi).2.1
      have h2:=hb3' _ (List.mem_of_getElem? hit)
      omega
     have hVl:=K4z ts ls out e (pr (out.map (gE e))).toNat
     have hW:ctW ts ls out e=(out.map (gE e),ctV ts ls out e (pr (out.map (gE e))).toNat):=rfl
     have hyes:=fun h=>ctT_yes (ts:=ts) (ls:=ls) (out:=out) (e:=e) hx hcc h
     have hnot:=fun h=>ctT_no (ts:=ts) (ls:=ls) (out:=out) (e:=e) hx h
     rw [hcc,Bool.true_and] at hnot
     have hN60:(pr (out.map (gE e))).toNat≤60:=by omega
     have hol:out.length≤4:=by have:=hgs.1.2;omega
     have q6:CtOk ts ls e∧(ts.length≤1000∧out.length≤6)∧(∀ x∈out,x∈ls.flatten)∧(∀ t∈ts,t.1.length≤1000∧t.2.length≤1000)∧∀ l∈ls,l.length≤1000:=⟨hC,⟨by omega,by omega⟩,ho,hb3',hb4'⟩
     rw [hW] at hyes hnot
     generalize hOS:out.map (gE e)=OS at *
     generalize hV:ctV ts ls out e (pr OS).toNat=V at *
     generalize hNN:(pr OS).toNat=N at *
     have q7:OS.length≤1099511627776:=by omega
     have q8:OS.length≤1099511627776∧V.length≤1099511627776:=⟨by omega,by omega⟩
     have q9:out.length≤1099511627776∧N≤1099511627776:=⟨by omega,by omega⟩
     cases hvt:vT (OS,V) with
     | false =>
      rw [hnot hvt]
      (repeat' ((first
 | (first|refine Afz ?_|refine Aaz ?_)
 | (first|refine Agz ?_|refine Aez ?_|refine Aoz ?_)
 | ((first|refine Aiz (fun h=>?_) (fun h=>?_))<;>(try simp only [h])<;>(try simp only [bitvec_to_nat] at h)<;>(try simp only [h])<;>(first|(exfalso;omega)|(exfalso;simp_all;done)|skip))
 | (first|refine Anz false ?_)
 | (first|(refine Akz (Apz (Ckz _ _ _ _ _ _ ?_ ?_ ?_ ?_)) ?_;(iterate 4 (exact sd));rintro _ _ ⟨⟨g,hg5,rfl⟩,rfl⟩;(try simp only [hxp,Option.getD_none,Option.getD_some] at hg5))|(refine Akz (B7z _ _ ?_ ?_) ?_;(iterate 2 (exact sd));rintro _ _ ⟨rfl,rfl⟩)|(refine Akz (Apz (Gyz _ _ _ ?_ ?_)) ?_;(iterate 2 (exact sd));rintro _ _ ⟨rfl,rfl⟩)|(refine Akz (E4z _ _ _ ?_ ?_) ?_;(iterate 2 (exact sd));rintro _ _ ⟨rfl,rfl⟩)|(refine Akz (Apz (Baz _ _ ?_ ?_)) ?_;(iterate 2 (exact sd));rintro _ _ ⟨rfl,rfl⟩)|(refine Akz (icontr_ok _ _ _ _ _ _ _ ?_ ?_ ?_ ?_) ?_;(iterate 4 (exact sd));rintro _ _ ⟨rfl,rfl⟩)|(refine Akz (Apz (Emz _ _ _ _ ?_ ?_ ?_)) ?_;(iterate 3 (exact sd));rintro _ _ ⟨rfl,rfl⟩))
 | (refine Acz ⟨.inr rfl,[16000,16016],[(16000,1),(16016,1)],_,by decide,rfl,?_⟩; (try simp (disch := omega) only [push_cast,seval,↓Adz,↓Abz,↓List.map_cons,↓List.map_nil,hxp,hge,hcost,hc,hvs,hvt,hOS,hOl,hV,hVl,hNN,s5e,t5e,h5,Aqz,Cez,Option.isSome_none,Option.isSome_some,Option.getD_some,Arz,Amz])))<;>(try simp (disch:=omega) only [push_cast,seval,hxp,hge,hcost,hc,hvs,hvt,hOS,hOl,hV,hVl,hNN,s5e,t5e,h5,Aqz,Cez,Option.isSome_none,Option.isSome_some,Option.getD_some,Arz,Amz])))
      all_goals exact ⟨rfl,rfl⟩
     | true =>
      rw [hyes hvt]
      (repeat' ((first
 | (first|refine Afz ?_|refine Aaz ?_)
 | (first|refine Agz ?_|refine Aez ?_|refine Aoz ?_)
 | ((first|refine Aiz (fun h=>?_) (fun h=>?_))<;>(try simp only [h])<;>(try simp only [bitvec_to_nat] at h)<;>(try simp only [h])<;>(first|(exfalso;omega)|(exfalso;simp_all;done)|skip))
 | (first|refine Anz false ?_)
 | (first|(refine Akz (Apz (Ckz _ _ _ _ _ _ ?_ ?_ ?_ ?_)) ?_;(iterate 4 (exact sd));rintro _ _ ⟨⟨g,hg5,rfl⟩,rfl⟩;(try simp only [hxp,Option.getD_none,Option.getD_some] at hg5))|(refine Akz (B7z _ _ ?_ ?_) ?_;(iterate 2 (exact sd));rintro _ _ ⟨rfl,rfl⟩)|(refine Akz (Apz (Gyz _ _ _ ?_ ?_)) ?_;(iterate 2 (exact sd));rintro _ _ ⟨rfl,rfl⟩)|(refine Akz (E4z _ _ _ ?_ ?_) ?_;(iterate 2 (exact sd));rintro _ _ ⟨rfl,rfl⟩)|(refine Akz (Apz (Baz _ _ ?_ ?_)) ?_;(iterate 2 (exact sd));rintro _ _ ⟨rfl,rfl⟩)|(refine Akz (icontr_ok _ _ _ _ _ _ _ ?_ ?_ ?_ ?_) ?_;(iterate 4 (exact sd));rintro _ _ ⟨rfl,rfl⟩)|(refine Akz (Apz (Emz _ _ _ _ ?_ ?_ ?_)) ?_;(iterate 3 (exact sd));rintro _ _ ⟨rfl,rfl⟩))
 | (refine Acz ⟨.inr rfl,[608,784],[],_,by decide,rfl,?_⟩; (try simp (disch := omega) only [push_cast,seval,↓Adz,↓Abz,↓List.map_cons,↓List.map_nil,hxp,hge,hcost,hc,hvs,hvt,hOS,hOl,hV,hVl,hNN,s5e,t5e,h5,Aqz,Cez,Option.isSome_none,Option.isSome_some,Option.getD_some,Arz,Amz])))<;>(try simp (disch:=omega) only [push_cast,seval,hxp,hge,hcost,hc,hvs,hvt,hOS,hOl,hV,hVl,hNN,s5e,t5e,h5,Aqz,Cez,Option.isSome_none,Option.isSome_some,Option.getD_some,Arz,Amz])))
      all_goals exact ⟨by simp only [t0,Option.getD_some,Option.isSome_some,hOl,hVl],rfl⟩
   ·have hno:=ctT_no (ts:=ts) (ls:=ls) (out:=out) (e:=e) hx (by unfold ctC;rw [show decide (pr (spE e)≤4000)=false by simpa using hc];simp)
    rw [hno]
    (repeat' ((first
 | (first|refine Afz ?_|refine Aaz ?_)
 | (first|refine Agz ?_|refine Aez ?_)
 | ((first|refine Aiz (fun h=>?_) (fun h=>?_))<;>(try simp only [h])<;>(try simp only [bitvec_to_nat] at h)<;>(try simp only [h])<;>(first|(exfalso;omega)|(exfalso;simp_all;done)|skip))
 | (first|refine Anz false ?_)
 | (first|(refine Akz (Apz (Ckz _ _ _ _ _ _ ?_ ?_ ?_ ?_)) ?_;(iterate 4 (exact sd));rintro _ _ ⟨⟨g,hg5,rfl⟩,rfl⟩;(try simp only [hxp,Option.getD_none,Option.getD_some] at hg5))|(refine Akz (B7z _ _ ?_ ?_) ?_;(iterate 2 (exact sd));rintro _ _ ⟨rfl,rfl⟩)|(refine Akz (Apz (Gyz _ _ _ ?_ ?_)) ?_;(iterate 2 (exact sd));rintro _ _ ⟨rfl,rfl⟩))
 | (refine Acz ⟨.inr rfl,[16000,16016],[(16000,1),(16016,1)],_,by decide,rfl,?_⟩;(try simp (disch:=omega) only [push_cast,seval,↓Adz,↓Abz,↓List.map_cons,↓List.map_nil,hxp,hge,hcost,hc,s5e,t5e,h5,Aqz,Cez,Option.isSome_none,Option.isSome_some,Option.getD_some,Arz,Amz])))<;>(try simp (disch:=omega) only [push_cast,seval,hxp,hge,hcost,hc,s5e,t5e,h5,Aqz,Cez,Option.isSome_none,Option.isSome_some,Option.getD_some,Arz,Amz])))
    all_goals exact ⟨rfl,rfl⟩
  ·have hlt:=hsh.2 hn
   have hno:=ctT_no (ts:=ts) (ls:=ls) (out:=out) (e:=e) hx (by unfold ctC;rw [show decide out.Nodup=false by simpa using hn];simp)
   rw [hno]
   have hll:=Ekz out 5
   (repeat' ((first
 | (first|refine Afz ?_|refine Aaz ?_)
 | (first|refine Agz ?_|refine Aez ?_)
 | (first|refine Anz false ?_)
 | (first|(refine Akz (Apz (Ckz _ _ _ _ _ _ ?_ ?_ ?_ ?_)) ?_;(iterate 4 (exact sd));rintro _ _ ⟨⟨g,hg5,rfl⟩,rfl⟩;(try simp only [hxp,Option.getD_none,Option.getD_some] at hg5))|(refine Akz (B7z _ _ ?_ ?_) ?_;(iterate 2 (exact sd));rintro _ _ ⟨rfl,rfl⟩))
 | (refine Acz ⟨.inr rfl,[16000,16016],[(16000,1),(16016,1)],_,by decide,rfl,?_⟩;(try simp (disch:=omega) only [push_cast,seval,↓Adz,↓Abz,↓List.map_cons,↓List.map_nil,hxp,hlt,s5e,t5e,h5,Aqz,Cez,Option.isSome_none,Option.isSome_some,Option.getD_some,Arz,Amz])))<;>(try simp (disch:=omega) only [push_cast,seval,hxp,hlt,s5e,t5e,h5,Aqz,Cez,Option.isSome_none,Option.isSome_some,Option.getD_some,Arz,Amz])))
   all_goals exact ⟨rfl,rfl⟩

end Go.Proofs.YtapccmfnmiopoaaGreat
namespace Go.Proofs.YtapccmfnmiopoaaGreat
open VwM Vw Go

theorem numU_v:∀ n:Nat,n<5→vR (pS 0 n) (pE 0 1 n) (pC 1 n)=true∧nums (pS 0 n) (pC 1 n) (cntN (pS 0 n) (pE 0 1 n) (pC 1 n))=nums 0 1 n:=by decide
theorem nums_len (a c:Int)(n:Nat):(nums a c n).length=n:=by simp [nums]


theorem inumU_ok (n:Nat)(hb:n≤4):BCall Tryz.prog 28 [rng (pS 0 n) (pE 0 1 n) (pC 1 n)] [] (OI (nums 0 1 n)):=by
 have h:=numU_v n (by omega)
 have h2:=inumbers_ok _ _ _ h.1
 rw [h.2] at h2
 exact h2


theorem iCon1_ok (a1 a2 l out:List Int)(n1 n2 m q:Nat)(hn:(a1.length=n1∧a2.length=n2)∧l.length=m∧out.length=q)(hb:(n1≤1099511627776∧n2≤1099511627776)∧m≤1099511627776∧q≤1048576) :
  BCall Tryz.prog 29 [.rows false [.rows false (IL a1) n1,.rows false (IL a2) n2] 1,.rows false [.rows false (IL l) m] 1,.rows false (IL out) q] [] (OTn (ctT [(a1,a2)] [l] out)):=by
 obtain ⟨⟨rfl,rfl⟩,rfl,rfl⟩:=hn
 exact iCon_ok [(a1,a2)] [l] out 1 1 _ rfl rfl rfl ⟨by omega,by simp;omega,by simp;omega⟩


end Go.Proofs.YtapccmfnmiopoaaGreat
namespace Go.Proofs.YtapccmfnmiopoaaGreat
open VwM Vw Go

/-- Labels that agree with extents are agreed on. -/
theorem ex_of {ts:List Tn}{ls:List (List Int)}(f:Int→Int)(hv:ts.all vT=true)(h1:1≤ts.length∧ts.length≤3)(hlen:ls.length=ts.length)
  (hl:∀ (i:Nat) (t:Tn) (l:List Int),ts[i]?=some t→ls[i]?=some l→l.length=t.1.length∧(∀ x∈l,0≤x∧x≤4)∧∀ j,j<l.length→f (l.getD j 0)=t.1.getD j 0):∃ e,exO ts ls=some e:=by
 have hok:labOk ts ls=true:=by
  unfold labOk
  rw [List.all_eq_true]
  intro p hp
  obtain ⟨i,hi⟩:=List.mem_iff_getElem?.1 hp
  obtain ⟨a,b⟩:=List.getElem?_zip_eq_some.1 hi
  have:=hl i p.2 p.1 b a
  rw [Bool.and_eq_true,decide_eq_true_eq,Boz]
  exact ⟨this.1,this.2.1⟩
 obtain ⟨e,he⟩:=extG_ok (f:=fun k=>f (k:Int)) (prsOf ts ls) (e:=ext0) (fun p hp=>by
  obtain ⟨i,t,l,j,ht,hl2,hj,_,rfl⟩:=mem_prs hp
  obtain ⟨a,b,c⟩:=hl i t l ht hl2
  have hb:=b _ (Bcz hj)
  refine ⟨by rw [Ciz];simp only;omega,?_⟩
  simp only
  rw [show (((l.getD j 0).toNat:Nat):Int)=l.getD j 0 by omega]
  exact c j hj) (fun k hk h0=>by
  rw [Ciz] at hk
  have:k=0∨k=1∨k=2∨k=3∨k=4:=by omega
  rcases this with rfl|rfl|rfl|rfl|rfl<;>exact absurd h0 (by decide))
 refine ⟨e,?_⟩
 unfold exO
 rw [if_pos (by rw [hv];simp [h1,hlen])]
 unfold exT
 rw [if_pos hok]
 exact he
theorem one_of {t:Tn}{l:List Int}(f:Int→Int)(hv:vT t=true)(h1:l.length=t.1.length)(h2:∀ x∈l,0≤x∧x≤4)(h3:∀ j,j<l.length→f (l.getD j 0)=t.1.getD j 0):∃ e,exO [t] [l]=some e :=
 ex_of f (by simp [hv]) (by simp) rfl fun i t' l' ht hl=>by
  match i,ht,hl with
  | 0,ht,hl=>simp only [List.getElem?_cons_zero,Option.some.injEq] at ht hl;subst ht hl;exact ⟨h1,h2,h3⟩
/-- The space of labels,those of the result first. -/
theorem sp_out {ts:List Tn}{ls:List (List Int)}{e out:List Int}(hC:CtOk ts ls e)(ho:∀ x∈out,x∈ls.flatten)(hon:out.Nodup):pr (spE e)=pr (out.map (gE e))*pr ((sumd ls out).map (gE e)):=by
 rw [spE_lbS (U:=ls.flatten) hC.len hC.un (fun k hk hm=>by have:=(hC.used _ hm).2.1;unfold gE at this;rwa [Int.toNat_natCast] at this),Fvz ((outk hC ho hon).map (gE e)),List.map_append,pr_append]
theorem sumd_all {ls:List (List Int)}{out:List Int}(h:∀ x∈ls.flatten,x∈out):sumd ls out=[]:=by
 refine List.eq_nil_iff_forall_not_mem.2 fun x hx=>?_
 have:=Fbz.1 hx
 exact this.2 (h x this.1.2)
/-- A tensor with its dimensions in another order. -/
def turnT (t:Tn)(order:List Int):Tn:=(permL t.1 order,takesL t.2 (offs 0 (permL t.1 order) (permL (rowS t.1) order)))
theorem turn_idx {sh order:List Int}(hs:vSh sh=true)(ho:isOrd order sh.length):∀ x∈offs 0 (permL sh order) (permL (rowS sh) order),0≤x∧x<pr sh:=fun x hx=>by
 have h0:=(A5z hs).2.1
 have h:=(offs_perm (b:=0) (st:=rowS sh) (A5z hs).1 ho).mem_iff.1 hx
 rw [offs_row hs,Cbz] at h
 omega
theorem turn_vT {t:Tn}{order:List Int}(hv:vT t=true)(ho:isOrd order t.1.length):vT (turnT t order)=true:=by
 obtain ⟨h1,h2,h3⟩:=Dtz.1 hv
 refine Dtz.2 ⟨Hqz (Caz ho) h1,?_,fun x hx=>?_⟩
 ·show ((takesL t.2 _).length:Int)=pr (permL t.1 order)
  rw [takesL_length,Bjz]
  have:=(A5z (Hqz (Caz ho) h1)).2.1
  omega
 ·obtain ⟨y,hy,rfl⟩:=List.mem_map.1 hx
  have:=turn_idx h1 ho y hy
  exact h3 _ (Bcz (by omega))
theorem turn_ct {t:Tn}{order:List Int}(hv:vT t=true)(ho:isOrd order t.1.length):ctT [t] [nums 0 1 t.1.length] order=some (turnT t order):=by
 obtain ⟨h1,h2,h3⟩:=Dtz.1 hv
 have hg:=A5z h1
 have h4:=hg.1.2
 obtain ⟨e,he⟩:=one_of (t:=t) (l:=nums 0 1 t.1.length) (fun x=>t.1.getD x.toNat 0) hv (by simp) (fun x hx=>by have:=Cbz.1 hx;omega) (fun j hj=>by
  rw [Chz] at hj
  simp only [B6z _ _ _ _ hj]
  congr 1;omega)
 have hC:=ctOk_of he
 have hlab:=hC.lab 0 t (nums 0 1 t.1.length) rfl rfl
 have hge:∀ d:Nat,d<t.1.length→gE e d=t.1.getD d 0:=fun d hd=>by
  have:=hlab.2.2.2 d (by simpa using hd)
  rw [B6z _ _ _ _ hd] at this
  rw [← this];congr 1;omega
 have hO:order.map (gE e)=permL t.1 order:=List.map_congr_left fun x hx=>by
  have hr:=ho.2.1 x hx
  rw [← hge x.toNat (by omega)]
  congr 1;omega
 have hfl:∀ x,x∈[nums 0 1 t.1.length].flatten↔x∈order:=fun x=>by
  rw [show [nums 0 1 t.1.length].flatten=nums 0 1 t.1.length by simp]
  exact (ho.perm.mem_iff).symm
 have hsd:=sumd_all (ls:=[nums 0 1 t.1.length]) (out:=order) fun x hx=>(hfl x).1 hx
 have hvs:vSh (permL t.1 order)=true:=Hqz (Caz ho) h1
 have hsp:=sp_out hC (fun x hx=>(hfl x).2 hx) ho.2.2
 rw [hsd,hO] at hsp
 have hp1:pr (List.map (gE e) [])=1:=rfl
 have hpm:=Fvz (Caz ho)
 have hcc:ctC order e=true:=by
  unfold ctC
  rw [hO,hvs,Boz.2 fun x hx=>by have:=ho.2.1 x hx;omega]
  rw [hsp,hp1]
  simp only [Bool.true_and,Bool.and_true,Bool.and_eq_true,decide_eq_true_eq]
  exact ⟨ho.2.2,by omega⟩
 have hvp:=A5z hvs
 have hW:ctW [t] [nums 0 1 t.1.length] order e=turnT t order:=by
  unfold ctW turnT
  rw [hO]
  congr 1
  refine B2z (by rw [K4z,takesL_length,Bjz]) fun p hp=>?_
  rw [K4z] at hp
  have hpo:p<(offs 0 (permL t.1 order) (permL (rowS t.1) order)).length:=by rw [Bjz];exact hp
  rw [C7z hpo,Coz hp]
  have hin:=turn_idx h1 ho _ (Bcz hpo)
  rw [Coz hp] at hin
  have hcv:(ctV [t] [nums 0 1 t.1.length] order e (pr (permL t.1 order)).toNat).getD p 0=w64 (ctE [t] [nums 0 1 t.1.length] order e p):=by unfold ctV;simp [List.getD,hp]
  have hdot:dot (fun d=>gE (wayK e order Zv5 p) ((nums 0 1 t.1.length).getD d 0)) (rowS t.1) t.1.length=cellK 0 (permL t.1 order) (permL (rowS t.1) order) p:=by
   unfold cellK
   rw [A3z,ho.1,Iwz ho,Int.zero_add]
   refine Cfz fun d hd=>?_
   obtain ⟨i1,i2⟩:=Kxz ho hd
   have hi:order[invO order d]?=some (d:Int):=by
    have hlt:invO order d<order.length:=by rw [ho.1];exact i1
    rw [List.getElem?_eq_getElem hlt]
    rw [List.getD,List.getElem?_eq_getElem hlt,Option.getD_some] at i2
    rw [i2]
   rw [B6z _ _ _ _ hd,show (0:Int)+(d:Int)*1=d by omega,wayK_at ho.2.2 (nums5 rfl fun x hx=>by have:=ho.2.1 x hx;omega) hi,hO]
  have hcE:ctE [t] [nums 0 1 t.1.length] order e p=t.2.getD (cellK 0 (permL t.1 order) (permL (rowS t.1) order) p).toNat 0:=by
   unfold ctE
   rw [hsd]
   show gP [t] [nums 0 1 t.1.length] (wayK e order Zv5 p)=_
   rw [← hdot]
   simp [gP,prodL,tv]
  rw [hcv,hcE]
  exact w64_id (by have:=h3 _ (Bcz (xs:=t.2) (j:=(cellK 0 (permL t.1 order) (permL (rowS t.1) order) p).toNat) (by omega));omega)
 rw [ctT_yes he hcc (by rw [hW];exact turn_vT hv ho),hW]

end Go.Proofs.YtapccmfnmiopoaaGreat
namespace Go.Proofs.YtapccmfnmiopoaaGreat
open VwM Vw Go

def ordB (order:List Int)(n:Nat):Bool:=decide (order.length=n)&&allI order 0 ((n:Int)-1)&&decide order.Nodup
def ttT (t:Tn)(order:List Int):Tn:=if (vT t&&ordB order t.1.length)=true then turnT t order else ([],[])
theorem ttT_no {t:Tn}{order:List Int}(h:(vT t&&ordB order t.1.length)=false):ttT t order=([],[]):=by unfold ttT;rw [h];rfl
theorem ttT_yes {t:Tn}{order:List Int}(h1:vT t=true)(h2:ordB order t.1.length=true):ttT t order=turnT t order:=by unfold ttT;rw [h1,h2];rfl
set_option maxHeartbeats 16000000 in
theorem iTT_ok (a1 a2 order:List Int)(n1 n2 m:Nat)(h1:a1.length=n1)(h2:a2.length=n2)(hm:order.length=m)(hb:(n1≤1099511627776∧n2≤1099511627776)∧m≤1099511627776) :
  BCall Tryz.prog 13 [.agg [.rows false (IL a1) n1,.rows false (IL a2) n2],.rows false (IL order) m] [] (OT (ttT (a1,a2) order).1 (ttT (a1,a2) order).2):=by
 subst h1 h2 hm
 obtain ⟨⟨hb1,hb2⟩,hb3⟩:=hb
 refine Awz (pins:=[]) (pin:=0) l13_eq rfl rfl rfl ?_
 cases hv:vT (a1,a2) with
 | false =>
  rw [ttT_no (by rw [hv];rfl)]
  (repeat' ((first
 | (first|refine Afz ?_|refine Aaz ?_)
 | (first|refine Agz ?_|refine Aez ?_)
 | (first|refine Anz false ?_)
 | (first|(refine Akz (Apz (Emz _ _ _ _ ?_ ?_ ?_)) ?_;(iterate 3 (exact sd));rintro _ _ ⟨rfl,rfl⟩))
 | (refine Acz ⟨.inr rfl,[16000,16016],[(16000,1),(16016,1)],_,by decide,rfl,?_⟩;(try simp (disch:=omega) only [push_cast,seval,↓Adz,↓Abz,↓List.map_cons,↓List.map_nil,hv])))<;>(try simp (disch:=omega) only [push_cast,seval,hv])))
  all_goals exact ⟨rfl,rfl⟩
 | true =>
  obtain ⟨hs,hlen,_⟩:=Dtz.1 hv
  simp only at hs hlen
  have hg:=A5z hs
  have h4:a1.length≤4:=hg.1.2
  have hq0:order.length≤1099511627776∧a1.length≤1000:=by omega
  cases ho:(decide (order.length=a1.length)&&allI order 0 ((a1.length:Int)-1)&&decide order.Nodup) with
  | false =>
   rw [ttT_no (by rw [hv];exact ho)]
   (repeat' ((first
 | (first|refine Afz ?_|refine Aaz ?_)
 | (first|refine Agz ?_|refine Aez ?_)
 | (first|refine Anz false ?_)
 | (first|(refine Akz (Apz (Emz _ _ _ _ ?_ ?_ ?_)) ?_;(iterate 3 (exact sd));rintro _ _ ⟨rfl,rfl⟩)|(refine Akz (Apz (Fez _ _ _ ?_ ?_)) ?_;(iterate 2 (exact sd));rintro _ _ ⟨rfl,rfl⟩))
 | (refine Acz ⟨.inr rfl,[16000,16016],[(16000,1),(16016,1)],_,by decide,rfl,?_⟩;(try simp (disch:=omega) only [push_cast,seval,↓Adz,↓Abz,↓List.map_cons,↓List.map_nil,hv,ho])))<;>(try simp (disch:=omega) only [push_cast,seval,hv,ho])))
   all_goals exact ⟨rfl,rfl⟩
  | true =>
   have hO:=isOrd_of ho
   rw [ttT_yes hv ho]
   have hct:=turn_ct hv hO
   simp only at hct
   have hN:=nums_len 0 1 a1.length
   have ho1:=hO.1
   generalize turnT (a1,a2) order=T at *
   generalize hNN:nums 0 1 a1.length=N at *
   have hP:(1:Int)≤a1.length→-1000000≤((a1.length:Int)-1)*1∧((a1.length:Int)-1)*1≤1000000:=fun _=>by omega
   have q1:(-100000:Int)≤0∧(0:Int)≤100000∧(-100000:Int)≤1∧(1:Int)≤100000∧(-1000:Int)≤a1.length∧(a1.length:Int)≤1000:=by omega
   (repeat' ((first
 | (first|refine Afz ?_|refine Aaz ?_)
 | (first|refine Agz ?_|refine Aez ?_|refine Aoz ?_)
 | (first|refine Anz false ?_)
 | (first|(refine Akz (Apz (Emz _ _ _ _ ?_ ?_ ?_)) ?_;(iterate 3 (exact sd));rintro _ _ ⟨rfl,rfl⟩)|(refine Akz (Apz (Fez _ _ _ ?_ ?_)) ?_;(iterate 2 (exact sd));rintro _ _ ⟨rfl,rfl⟩)|(refine Akz (Apz (Jaz _ _ _ ?_ ?_)) ?_;(iterate 2 (exact sd));rintro _ _ ⟨rfl,rfl⟩)|(refine Akz (inumU_ok _ ?_) ?_;(exact sd);rintro _ _ ⟨rfl,rfl⟩)|(refine Akz (iCon1_ok _ _ _ _ _ _ _ _ ?_ ?_) ?_;(iterate 2 (exact sd));rintro _ _ ⟨rfl,rfl⟩))
 | (refine Acz ⟨.inr rfl,[496,497],[],_,by decide,rfl,?_⟩;(try simp (disch:=omega) only [push_cast,seval,↓Adz,↓Abz,↓List.map_cons,↓List.map_nil,hv,ho,hNN,hN,hct,t0,Option.getD_some,Option.isSome_some])))<;>(try simp (disch:=omega) only [push_cast,seval,hv,ho,hNN,hN,hct,t0,Option.getD_some,Option.isSome_some])))
   all_goals exact ⟨rfl,rfl⟩

end Go.Proofs.YtapccmfnmiopoaaGreat
namespace Go.Proofs.YtapccmfnmiopoaaGreat
open VwM Vw Go

set_option maxHeartbeats 8000000 in
theorem memView_ok (bs:List Int)(p:Int)(hb:okB bs)(hp:0≤p∧p≤600000):BCall Tryz.prog 14 [.ref 0 2 0] [RD bs p] (fun r H'=>∃ mem b sh st q,(1≤mem.length∧mem.length≤60∧good4 sh∧sh.length≤4∧st.length≤5)∧(p≤q∧q≤p+280)∧r=.tup [.own 1 mem.length 1,.agg [.int .i64 b,.own 2 sh.length 1,.own 3 st.length 1]]∧H'=[RD bs q,IL mem,IL sh,IL st]):=by
 refine Awz (pins:=[0]) (pin:=1) l14_eq rfl rfl rfl ?_
 (repeat' (first
 | (first|refine Afz ?_|refine Aaz ?_)
 | ((first|refine Agz ?_);simp (maxSteps:=400000) (disch:=omega) only [push_cast,seval])
 | ((first|((with_reducible refine A6z (f:=30) [0] true ?_);simp (maxSteps:=400000) (disch:=omega) only [push_cast,seval];(refine Dqz (id:=0) (someMem_ok _ _ ?_ ?_) (by (simp (maxSteps:=400000) (disch:=omega) only [push_cast,seval])<;>rfl) ?_;(iterate 2 (exact sd));rintro _ _ ⟨xs,q,⟨hxs,hxl⟩,hq,rfl,rfl⟩))|((with_reducible refine A6z (f:=31) [0] true ?_);simp (maxSteps:=400000) (disch:=omega) only [push_cast,seval];(refine Dqz (id:=0) (someView_ok _ _ ?_ ?_) (by (simp (maxSteps:=400000) (disch:=omega) only [push_cast,seval])<;>rfl) ?_;(iterate 2 (exact sd));rintro _ _ ⟨b,sh,st,q,⟨hl1,hl9,hl2⟩,hq,rfl,rfl⟩)))<;>(try simp (maxSteps:=400000) (disch:=omega) only [push_cast,seval]))
 | (refine Acz ⟨.inr rfl,[80,112,113],[],_,by decide,rfl,?_⟩;(try simp (maxSteps:=400000) (disch:=omega) only [push_cast,seval,↓Adz,↓Abz,↓List.map_cons,↓List.map_nil]))))
 exact ⟨_,_,_,_,_,⟨by assumption,by assumption,by assumption,by assumption,by assumption⟩,by omega,rfl,rfl⟩

end Go.Proofs.YtapccmfnmiopoaaGreat
