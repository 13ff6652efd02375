/- Texts of this verifier. -/
import Derived.Test.YtapccmfnmiopoaaGreatCB8
import Derived.Test.YtapccmfnmiopoaaGreatCM1
import Derived.Test.YtapccmfnmiopoaaGreatCW3
set_option maxHeartbeats 4000000
set_option linter.unusedSimpArgs false
set_option linter.unusedVariables false
set_option maxRecDepth 4000
namespace Go.Proofs.YtapccmfnmiopoaaGreat
open VwM Vw Go

theorem bwdC_ok (xs:List Int)(n:Nat)(hn:xs.length=n)(hb:n≤1099511627776):BCall Tryz.prog 94 [.rows false (IL xs) n] [] (fun r H'=>r=.clo (.func 103) [] [.ref 0 1 0]∧H'=[[.rows false (IL xs) n]]):=by
 subst hn
 refine Awz (pins:=[]) (pin:=0) l94_eq rfl rfl rfl ?_
 (repeat' (first
 | (first|refine Afz ?_|refine Aaz ?_)
 | ((first|refine Agz ?_);simp (disch:=omega) only [push_cast,seval])
 | (refine Acz ⟨.inr rfl,[16],[],_,by decide,rfl,?_⟩;(try simp (disch:=omega) only [push_cast,seval,↓Adz,↓Abz,↓List.map_cons,↓List.map_nil]))))
 all_goals exact ⟨rfl,rfl⟩


set_option maxHeartbeats 16000000 in
theorem waysOf_ok (e w L:List Int)(m:Nat)(hm:L.length=m)(he:e.length=5∧w.length=5)(hb:m≤6∧(∀ x∈L,0≤x∧x≤4)∧∀ x∈L,0≤gE e x∧gE e x≤60):BCall Tryz.prog 78 [.agg (IL e),.rows false (IL L) m,.agg (IL w)] [] (fun r H'=>r=.own 0 (pr (L.map (gE e))).toNat 5∧H'=[IL (waysF e L w (pr (L.map (gE e))).toNat)]):=by
 subst hm
 obtain ⟨h5,hw5⟩:=he
 obtain ⟨hb0,hb1,hb2⟩:=hb
 have hg9:good9 (L.map (gE e)):=⟨fun x hx=>by obtain ⟨y,hy,rfl⟩:=List.mem_map.1 hx;exact hb2 y hy,by simpa using hb0⟩
 have hp9:=Efz hg9
 obtain ⟨n,hn⟩:∃ n:Nat,pr (L.map (gE e))=n:=⟨(pr (L.map (gE e))).toNat,by omega⟩
 rw [hn,Int.toNat_natCast]
 refine Awz (pins:=[]) (pin:=0) l78_eq rfl rfl rfl ?_
 have q1:e.length=5∧L.length≤1099511627776∧∀ x∈L,0≤x∧x≤4:=⟨h5,by omega,hb1⟩
 (repeat' ((first
 | (first|refine Afz ?_|refine Aaz ?_)
 | (first|refine Agz ?_)
 | (first|refine Anz false ?_)
 | (first|(refine Akz (E4z _ _ _ ?_ ?_) ?_;(iterate 2 (exact sd));rintro _ _ ⟨rfl,rfl⟩)|(refine Akz (Apz (Fuz _ _ ?_ ?_)) ?_;(iterate 2 (exact sd));rintro _ _ ⟨rfl,rfl⟩))
 | (refine Acz ⟨.inr rfl,[256],[],_,by decide,rfl,?_⟩;(try simp (disch:=omega) only [push_cast,seval,↓Adz,↓Abz,↓List.map_cons,↓List.map_nil,h5,hw5,hn,J9z,A2z,B3z])))<;>(try simp (disch:=omega) only [push_cast,seval,h5,hw5,hn,J9z,A2z,B3z])))
 refine A0z (fun k:Nat=>mkS [(1,.rows false (IL L) L.length),(3,.ref 48 5 0),(5,.ref 80 5 0),(7,.ref 112 1 0),(18,.int .i64 n),(19,.int .i64 k)] [(48,IL e),(80,IL w),(112,[.own 256 n 5]),(256,IL (wyZ e L w k n))]) (fun k=>k≤n) (fun k=>n-k) 0 (Nat.zero_le _) ?_ ?_
 ·(refine Sub.of_lists ?_ ?_ ?_ ?_ ?_<;>simp [Vw.mkS,Vw.lk,Vw.hk,AV.inn,innL,Ajz,Ahz,Alz,-List.map_set,-List.getD_eq_getElem?_getD,wyZ_zero])
 ·intro k hk
  have hzl:=wyZ_len (e:=e) (L:=L) hw5 hk
  by_cases hkn:k<n
  ·have hpos:∀ x∈L,(0≤x∧x≤4)∧0<gE e x∧gE e x≤60:=fun x hx=>by
    have:=Dnz (xs:=L.map (gE e)) (by omega) (fun z hz=>by obtain ⟨y,hy,rfl⟩:=List.mem_map.1 hz;exact (hb2 y hy).1) _ (List.mem_map.2 ⟨x,hx,rfl⟩)
    exact ⟨hb1 x hx,this,(hb2 x hx).2⟩
   have hst:=wyZ_store (e:=e) (L:=L) (n:=n) hw5 hw5 hkn
   (repeat' ((first
 | (first|refine Afz ?_|refine Aaz ?_)
 | (first|refine Agz ?_|refine Aez ?_|refine Aoz ?_)
 | ((first|refine Aiz (fun h=>?_) (fun h=>?_))<;>(try simp only [h])<;>(try simp only [bitvec_to_nat] at h)<;>(try simp only [h])<;>(first|(exfalso;omega)|(exfalso;simp_all;done)|skip))
 | (first|((with_reducible refine Anz (f:=94) true ?_);simp (disch:=omega) only [push_cast,seval,h5,hw5,A2z,B3z,Aqz,hzl,hst];(refine Akz (bwdC_ok _ _ ?_ ?_) ?_;(iterate 2 (exact sd));rintro _ _ ⟨rfl,rfl⟩)))
 | (refine Acz ⟨.inr rfl,[256],[],_,by decide,rfl,?_⟩;(try simp (disch:=omega) only [push_cast,seval,↓Adz,↓Abz,↓List.map_cons,↓List.map_nil,h5,hw5,A2z,B3z,Aqz,hzl,hst])))<;>(try simp (disch:=omega) only [push_cast,seval,h5,hw5,A2z,B3z,Aqz,hzl,hst])))
   have hN:L.length≤1099511627776:=by omega
   refine awp_rf (ids:=[448]) (s1:=mkS [(1,.rows false (IL L) L.length),(3,.ref 48 5 0),(5,.ref 80 5 0),(7,.ref 112 1 0),(8,.ref 128 1 0),(9,.ref 144 1 0),(18,.int .i64 n),(19,.int .i64 k)] [(144,[.int .i64 k]),(256,IL (wy3 e L w k n w)),(128,[.int .i64 k]),(48,IL e),(80,IL w),(112,[.own 256 n 5])])
    (bwL e L hpos) (fun x=>[.int .i64 x.1.1,.int .i64 x.1.2]) [1,3,5,7,8,9,18,19]
    (fun _=>[(1,.rows false (IL L) L.length),(3,.ref 48 5 0),(5,.ref 80 5 0),(7,.ref 112 1 0),(8,.ref 128 1 0),(9,.ref 144 1 0),(18,.int .i64 n),(19,.int .i64 k)])
    (fun pre=>[(144,[.int .i64 (wkS e w k (pre.map (·.1.2))).2]),(256,IL (wy3 e L w k n (wkS e w k (pre.map (·.1.2))).1)),(128,[.int .i64 k]),(48,IL e),(80,IL w),(112,[.own 256 n 5])])
    rfl ?_ (fun id hid=>by simp only [List.mem_singleton] at hid;subst hid;rfl) (bwd_iter (fun x=>x.1.1) (fun x=>x.1.2) (bwL e L hpos) L L.length 448 _ rfl rfl hN (bwL_len e L hpos) (fun j h=>bwL_get e L hpos j h)) ⟨by decide,fun _=>rfl,rfl⟩ ?_ ?_ ?_ rfl rfl ?_ ?_
   ·(refine Sub.of_lists ?_ ?_ ?_ ?_ ?_<;>simp [Vw.mkS,Vw.lk,Vw.hk,AV.inn,innL,Ajz,Ahz,Alz,-List.map_set,-List.getD_eq_getElem?_getD])
   ·refine SubW.of ?_
    (refine Sub.of_lists ?_ ?_ ?_ ?_ ?_<;>simp [Vw.mkS,Vw.lk,Vw.hk,AV.inn,innL,Ajz,Ahz,Alz,-List.map_set,-List.getD_eq_getElem?_getD,wkS_nil])
   ·intro pre t ht
    simp only [List.mem_cons,List.not_mem_nil,or_false,not_or] at ht
    simp only [lk,if_neg ht.1,if_neg ht.2.1,if_neg ht.2.2.1,if_neg ht.2.2.2.1,if_neg ht.2.2.2.2.1,if_neg ht.2.2.2.2.2.1,if_neg ht.2.2.2.2.2.2.1,if_neg ht.2.2.2.2.2.2.2]
   ·intro pre
    refine plainS_lists fun p hp=>?_
    simp only [List.mem_cons,List.not_mem_nil,or_false] at hp
    rcases hp with rfl|rfl|rfl|rfl|rfl|rfl<;>first|exact spL_IL _|rfl
   ·rintro pre ⟨⟨xi,x⟩,hx1,hx2,hx3⟩ _
    simp only at hx1 hx2 hx3
    have hyl:=Kdz e w k (pre.map (·.1.2))
    have hrb:=wkS_bound e w k (pre.map (·.1.2)) (Int.natCast_nonneg _) (fun z hz=>by obtain ⟨q,_,rfl⟩:=List.mem_map.1 hz;exact q.2.2.1)
    have hsn:=wkS_snoc e w k (pre.map (·.1.2)) x
    rw [show pre.map (fun q:bwA e=>q.1.2)++[x]=(pre++[(⟨(xi,x),hx1,hx2,hx3⟩:bwA e)]).map (·.1.2) by simp] at hsn
    refine awp_mono (Q:=fun e' s''=>e'=.normal∧SubW 0 s'' (mkS [(1,.rows false (IL L) L.length),(3,.ref 48 5 0),(5,.ref 80 5 0),(7,.ref 112 1 0),(8,.ref 128 1 0),(9,.ref 144 1 0),(18,.int .i64 n),(19,.int .i64 k)] [(144,[.int .i64 (wkF e (wkS e w k (pre.map (·.1.2))) x).2]),(256,IL (wy3 e L w k n (wkF e (wkS e w k (pre.map (·.1.2))) x).1)),(128,[.int .i64 k]),(48,IL e),(80,IL w),(112,[.own 256 n 5])])) (fun e' s'' hh=>.inl ⟨hh.1,by simp only [hsn];exact hh.2⟩) ?_
    generalize hY:wkS e w k (pre.map (·.1.2))=Y at *
    obtain ⟨y,r⟩:=Y
    simp only at hyl hrb
    obtain ⟨c,rfl⟩:∃ c:Nat,x=c:=⟨x.toNat,by omega⟩
    have hc5:c<5:=by omega
    rw [hw5] at hyl
    have hge:gE e (c:Int)=e.getD c 0:=by unfold gE;rw [Int.toNat_natCast]
    have hwl:=wy3_len (e:=e) (L:=L) hw5 hyl hkn
    have hws:=wy3_set (e:=e) (L:=L) (k:=k) (n:=n) hw5 hyl c hc5 (r.tmod (gE e c))
    simp only [wkF,Int.toNat_natCast]
    rw [hge] at hx2 hx3 hws ⊢
    show awp _ _ _ _ (mkS ((11,.int .i64 (c:Int))::(29,.int .i64 xi)::(30,.int .i64 (c:Int))::[(1,.rows false (IL L) L.length),(3,.ref 48 5 0),(5,.ref 80 5 0),(7,.ref 112 1 0),(8,.ref 128 1 0),(9,.ref 144 1 0),(18,.int .i64 n),(19,.int .i64 k)]) _)
    have htd:0≤r.tdiv (e.getD c 0)∧r.tdiv (e.getD c 0)≤r:=⟨Int.tdiv_nonneg hrb.1 (by omega),by rw [Int.tdiv_eq_ediv_of_nonneg hrb.1];exact Int.ediv_le_self _ hrb.1⟩
    (repeat' (first
 | (first|refine Afz ?_|refine Aaz ?_)
 | ((first|refine Auz (mid:=l78r9a) (post:=l78r9b) Bfz (by decide) ?_|refine Auz (mid:=l78r10a) (post:=l78r10b) Bfz (by decide) ?_);simp (disch:=omega) only [push_cast,seval,h5,hw5,Aqz,hwl,hws,Ayz])))
    refine SubW.of ?_
    (refine Sub.of_lists ?_ ?_ ?_ ?_ ?_<;>simp [Vw.mkS,Vw.lk,Vw.hk,AV.inn,innL,Ajz,Ahz,Alz,-List.map_set,-List.getD_eq_getElem?_getD,hws,Ayz])
   ·(repeat' (first
 | (first|refine Afz ?_|refine Aaz ?_)
 | ((first|refine Agz ?_);simp (disch:=omega) only [push_cast,seval,h5,hw5,Aqz])))
    refine ⟨k+1,by omega,by omega,?_⟩
    have hfin:(wkS e w k ((bwL e L hpos).map (·.1.2))).1=wayK e L w k:=by rw [bwL_snd];rfl
    have hnx:=wyZ_next (e:=e) (L:=L) (w:=w) hkn
    (refine Sub.of_lists ?_ ?_ ?_ ?_ ?_<;>simp [Vw.mkS,Vw.lk,Vw.hk,AV.inn,innL,Ajz,Ahz,Alz,-List.map_set,-List.getD_eq_getElem?_getD,hfin,hnx])
  ·have hkn:k=n:=by omega
   subst hkn
   (repeat' (first
 | (first|refine Afz ?_|refine Aaz ?_)
 | ((first|refine Agz ?_|refine Aez ?_|refine Atz ?_);simp (disch:=omega) only [push_cast,seval,h5,hw5,A2z,B3z,Aqz,hzl])
 | ((first|refine Aiz (fun h=>?_) (fun h=>?_))<;>(try simp only [h])<;>(try simp only [bitvec_to_nat] at h)<;>(try simp only [h])<;>(first|(exfalso;omega)|(exfalso;simp_all;done)|(simp (disch:=omega) only [push_cast,seval,h5,hw5,A2z,B3z,Aqz,hzl])|skip))
 | (refine Acz ⟨.inr rfl,[256],[],_,by decide,rfl,?_⟩;(try simp (disch:=omega) only [push_cast,seval,↓Adz,↓Abz,↓List.map_cons,↓List.map_nil,h5,hw5,A2z,B3z,Aqz,hzl]))))
   all_goals (try simp [wyZ_all])

end Go.Proofs.YtapccmfnmiopoaaGreat
namespace Go.Proofs.YtapccmfnmiopoaaGreat
open VwM Vw Go

theorem tblAt_ok (e:List Int)(x:Int)(hb:e.length=5∧0≤x∧x≤4):PCall Tryz.prog 93 [.agg (IL e),.int .i64 x] (fun r=>r=.int .i64 (gE e x)):=by
 obtain ⟨h5,hx⟩:=hb
 obtain ⟨c,rfl⟩:∃ c:Nat,x=c:=⟨x.toNat,by omega⟩
 have hge:gE e (c:Int)=e.getD c 0:=by unfold gE;rw [Int.toNat_natCast]
 refine Axz l93_eq rfl ?_
 (repeat' (first
 | (first|refine Afz ?_|refine Aaz ?_)
 | ((first|refine Agz ?_);simp (disch:=omega) only [push_cast,seval,h5,Aqz,hge])
 | (refine Acz ⟨.inr rfl,_,rfl,?_⟩;(try simp (disch:=omega) only [push_cast,seval,h5,Aqz,hge]))))
theorem tblAtB_ok (e:List Int)(x:Int)(hb:e.length=5∧0≤x∧x≤4):BCall Tryz.prog 93 [.agg (IL e),.int .i64 x] [] (fun r H'=>r=.int .i64 (gE e x)∧H'=[]):=Apz (tblAt_ok e x hb)


set_option maxHeartbeats 8000000 in
theorem sopI_ok (xs a b:List Int)(n:Nat)(hn:xs.length=n)(hb:n≤1099511627776∧(a.length=5∧b.length=5)∧∀ x∈xs,0≤x∧x≤4):PCall Tryz.prog 92 [.rows false (IL xs) n,.rows false [.clo (.func 93) [.agg (IL a)] [],.clo (.func 93) [.agg (IL b)] []] 2] (fun r=>r=.int .i64 (w64 (sumL (xs.map fun x=>gE a x*gE b x)))):=by
 subst hn
 obtain ⟨hb0,⟨ha5,hb5⟩,hb1⟩:=hb
 refine Axz l92_eq rfl ?_
 (repeat' ((first
 | (first|refine Afz ?_|refine Aaz ?_)
 | (first|refine Agz ?_)
 | (first|(refine A8z (by kernel_rfl) (by (simp (disch:=omega) only [push_cast,seval])<;>rfl) ?_)|(refine A1z (t:=23) (sz:=1) (zs:=[.int .i64 0]) (by kernel_rfl) (by (simp (disch:=omega) only [push_cast,seval])<;>rfl) (by (simp (disch:=omega) only [push_cast,seval])<;>rfl) (by first|assumption|omega|(constructor<;>omega)) (by first|((simp (disch:=omega) only [push_cast,seval]);done)|((simp (disch:=omega) only [push_cast,seval]);exact ⟨rfl,by omega⟩)) ?_)|(refine A1z (t:=50) (sz:=2) (zs:=[.int .i64 0,.int .i64 0]) (by kernel_rfl) (by (simp (disch:=omega) only [push_cast,seval])<;>rfl) (by (simp (disch:=omega) only [push_cast,seval])<;>rfl) (by first|assumption|omega|(constructor<;>omega)) (by first|((simp (disch:=omega) only [push_cast,seval]);done)|((simp (disch:=omega) only [push_cast,seval]);exact ⟨rfl,by omega⟩)) ?_)|(refine Biz (len:=3) (by kernel_rfl) (by (simp (disch:=omega) only [push_cast,seval])<;>rfl) (by (simp (disch:=omega) only [push_cast,seval])<;>rfl) (by first|assumption|omega|(constructor<;>omega)) (by first|rfl|((simp (disch:=omega) only [push_cast,seval]);rfl)) ?_))
 | (refine Acz ⟨.inr rfl,_,rfl,?_⟩))<;>(try simp (disch:=omega) only [push_cast,seval])))
 refine A0z (fun k:Nat=>mkS [(1,.rows false [.clo (.func 93) [.agg (IL a)] [],.clo (.func 93) [.agg (IL b)] []] 2),(5,.int .i64 (w64 (sumL ((xs.take k).map fun x=>gE a x*gE b x)))),(11,RI xs),(12,.int .i64 xs.length),(13,.int .i64 k)] []) (fun k=>k≤xs.length) (fun k=>xs.length-k) 0 (Nat.zero_le _) ?_ ?_
 ·have e0:(0:Int)=w64 (sumL []):=by decide
  (refine Sub.of_lists ?_ ?_ ?_ ?_ ?_<;>simp [Vw.mkS,Vw.lk,Vw.hk,AV.inn,innL,Ajz,Ahz,Alz,-List.map_set,-List.getD_eq_getElem?_getD,e0])
 ·intro k hk
  by_cases hlt:k<xs.length
  ·have hx:=hb1 _ (Bcz hlt)
   have hxs:xs[k]?=some (xs.getD k 0):=by simp [List.getD,hlt]
   have hst:=sum_step (fun x=>gE a x*gE b x) xs hxs
   generalize hS:w64 (sumL ((xs.take k).map fun x=>gE a x*gE b x))=S at *
   generalize hX:xs.getD k 0=x at *
   (repeat' ((first
 | (first|refine Afz ?_|refine Aaz ?_)
 | (first|refine Agz ?_|refine Aez ?_|refine Aoz ?_)
 | ((first|refine Aiz (fun h=>?_) (fun h=>?_))<;>(try simp only [h])<;>(try simp only [bitvec_to_nat] at h)<;>(try simp only [h])<;>(first|(exfalso;omega)|(exfalso;simp_all;done)|skip))
 | (first|(refine A8z (by kernel_rfl) (by (simp (disch:=omega) only [push_cast,seval,hX])<;>rfl) ?_)|(refine A1z (t:=23) (sz:=1) (zs:=[.int .i64 0]) (by kernel_rfl) (by (simp (disch:=omega) only [push_cast,seval,hX])<;>rfl) (by (simp (disch:=omega) only [push_cast,seval,hX])<;>rfl) (by first|assumption|omega|(constructor<;>omega)) (by first|((simp (disch:=omega) only [push_cast,seval,hX]);done)|((simp (disch:=omega) only [push_cast,seval,hX]);exact ⟨rfl,by omega⟩)) ?_)|(refine A1z (t:=50) (sz:=2) (zs:=[.int .i64 0,.int .i64 0]) (by kernel_rfl) (by (simp (disch:=omega) only [push_cast,seval,hX])<;>rfl) (by (simp (disch:=omega) only [push_cast,seval,hX])<;>rfl) (by first|assumption|omega|(constructor<;>omega)) (by first|((simp (disch:=omega) only [push_cast,seval,hX]);done)|((simp (disch:=omega) only [push_cast,seval,hX]);exact ⟨rfl,by omega⟩)) ?_)|(refine Biz (len:=3) (by kernel_rfl) (by (simp (disch:=omega) only [push_cast,seval,hX])<;>rfl) (by (simp (disch:=omega) only [push_cast,seval,hX])<;>rfl) (by first|assumption|omega|(constructor<;>omega)) (by first|rfl|((simp (disch:=omega) only [push_cast,seval,hX]);rfl)) ?_)|(refine Bwz (f:=93) (by (simp (disch:=omega) only [push_cast,seval,hX])<;>rfl) (by kernel_rfl) ?_))
 | (refine Acz ⟨.inr rfl,_,rfl,?_⟩))<;>(try simp (disch:=omega) only [push_cast,seval,hX])))
   have hF:[AV.clo (Fn.func 93) [AV.agg (IL a)] [],AV.clo (Fn.func 93) [AV.agg (IL b)] []]=[AV.clo (Fn.func 93) [AV.agg (IL a)] [],AV.clo (Fn.func 93) [AV.agg (IL b)] []]:=rfl
   refine A0z (fun j:Nat=>mkS [(1,.rows false [.clo (.func 93) [.agg (IL a)] [],.clo (.func 93) [.agg (IL b)] []] 2),(5,.int .i64 S),(7,.int .i64 x),(8,.int .i64 (w64 (prodL (([gE a x,gE b x]:List Int).take j)))),(11,RI xs),(12,.int .i64 xs.length),(13,.int .i64 k),(17,.rows false [.clo (.func 93) [.agg (IL a)] [],.clo (.func 93) [.agg (IL b)] []] 2),(18,.int .i64 2),(19,.int .i64 j)] []) (fun j=>j≤2) (fun j=>2-j) 0 (Nat.zero_le _) ?_ ?_
   ·have e0:(1:Int)=w64 (prodL []):=by decide
    (refine Sub.of_lists ?_ ?_ ?_ ?_ ?_<;>simp [Vw.mkS,Vw.lk,Vw.hk,AV.inn,innL,Ajz,Ahz,Alz,-List.map_set,-List.getD_eq_getElem?_getD,e0])
   ·intro j hj
    have q1:a.length=5∧0≤x∧x≤4:=⟨ha5,hx⟩
    have q2:b.length=5∧0≤x∧x≤4:=⟨hb5,hx⟩
    have hj3:j=0∨j=1∨j=2:=by omega
    rcases hj3 with rfl|rfl|rfl
    ·have e1:w64 (prodL ([]:List Int))=1:=by decide
     (repeat' ((first
 | (first|refine Afz ?_|refine Aaz ?_)
 | (first|refine Agz ?_|refine Aez ?_|refine Aoz ?_)
 | (first|(refine A8z (by kernel_rfl) (by (simp (disch:=omega) only [push_cast,seval,e1])<;>rfl) ?_)|(refine A1z (t:=23) (sz:=1) (zs:=[.int .i64 0]) (by kernel_rfl) (by (simp (disch:=omega) only [push_cast,seval,e1])<;>rfl) (by (simp (disch:=omega) only [push_cast,seval,e1])<;>rfl) (by first|assumption|omega|(constructor<;>omega)) (by first|((simp (disch:=omega) only [push_cast,seval,e1]);done)|((simp (disch:=omega) only [push_cast,seval,e1]);exact ⟨rfl,by omega⟩)) ?_)|(refine A1z (t:=50) (sz:=2) (zs:=[.int .i64 0,.int .i64 0]) (by kernel_rfl) (by (simp (disch:=omega) only [push_cast,seval,e1])<;>rfl) (by (simp (disch:=omega) only [push_cast,seval,e1])<;>rfl) (by first|assumption|omega|(constructor<;>omega)) (by first|((simp (disch:=omega) only [push_cast,seval,e1]);done)|((simp (disch:=omega) only [push_cast,seval,e1]);exact ⟨rfl,by omega⟩)) ?_)|(refine Biz (len:=3) (by kernel_rfl) (by (simp (disch:=omega) only [push_cast,seval,e1])<;>rfl) (by (simp (disch:=omega) only [push_cast,seval,e1])<;>rfl) (by first|assumption|omega|(constructor<;>omega)) (by first|rfl|((simp (disch:=omega) only [push_cast,seval,e1]);rfl)) ?_)|(refine Bwz (f:=93) (by (simp (disch:=omega) only [push_cast,seval,e1])<;>rfl) (by kernel_rfl) ?_))
 | (first|((with_reducible refine Hez (f:=93) [] false ?_);simp (disch:=omega) only [push_cast,seval,e1];(refine callNA (by decide) (tblAtB_ok _ _ ?_) (by (simp (disch:=omega) only [push_cast,seval,e1])<;>rfl) ?_;(exact sd);rintro _ _ ⟨rfl,rfl⟩)))
 | (refine Acz ⟨.inr rfl,_,rfl,?_⟩; (try simp (disch := omega) only [push_cast,seval,e1])))<;>(try simp (disch:=omega) only [push_cast,seval,e1])))
     refine ⟨1,by omega,by omega,?_⟩
     have e2:IntKind.i64.wrap (gE a x)=w64 (prodL [gE a x]):=by simp [prodL]
     (refine Sub.of_lists ?_ ?_ ?_ ?_ ?_<;>simp [Vw.mkS,Vw.lk,Vw.hk,AV.inn,innL,Ajz,Ahz,Alz,-List.map_set,-List.getD_eq_getElem?_getD,e2])
    ·have e1:w64 (w64 (prodL (([gE a x,gE b x]:List Int).take 1))*gE b x)=w64 (prodL [gE a x,gE b x]):=by rw [w64_mull];simp [prodL,Int.mul_assoc]
     generalize hP:w64 (prodL (([gE a x,gE b x]:List Int).take 1))=P at *
     (repeat' ((first
 | (first|refine Afz ?_|refine Aaz ?_)
 | (first|refine Agz ?_|refine Aez ?_|refine Aoz ?_)
 | (first|(refine A8z (by kernel_rfl) (by (simp (disch:=omega) only [push_cast,seval])<;>rfl) ?_)|(refine A1z (t:=23) (sz:=1) (zs:=[.int .i64 0]) (by kernel_rfl) (by (simp (disch:=omega) only [push_cast,seval])<;>rfl) (by (simp (disch:=omega) only [push_cast,seval])<;>rfl) (by first|assumption|omega|(constructor<;>omega)) (by first|((simp (disch:=omega) only [push_cast,seval]);done)|((simp (disch:=omega) only [push_cast,seval]);exact ⟨rfl,by omega⟩)) ?_)|(refine A1z (t:=50) (sz:=2) (zs:=[.int .i64 0,.int .i64 0]) (by kernel_rfl) (by (simp (disch:=omega) only [push_cast,seval])<;>rfl) (by (simp (disch:=omega) only [push_cast,seval])<;>rfl) (by first|assumption|omega|(constructor<;>omega)) (by first|((simp (disch:=omega) only [push_cast,seval]);done)|((simp (disch:=omega) only [push_cast,seval]);exact ⟨rfl,by omega⟩)) ?_)|(refine Biz (len:=3) (by kernel_rfl) (by (simp (disch:=omega) only [push_cast,seval])<;>rfl) (by (simp (disch:=omega) only [push_cast,seval])<;>rfl) (by first|assumption|omega|(constructor<;>omega)) (by first|rfl|((simp (disch:=omega) only [push_cast,seval]);rfl)) ?_)|(refine Bwz (f:=93) (by (simp (disch:=omega) only [push_cast,seval])<;>rfl) (by kernel_rfl) ?_))
 | (first|((with_reducible refine Hez (f:=93) [] false ?_);simp (disch:=omega) only [push_cast,seval];(refine callNA (by decide) (tblAtB_ok _ _ ?_) (by (simp (disch:=omega) only [push_cast,seval])<;>rfl) ?_;(exact sd);rintro _ _ ⟨rfl,rfl⟩)))
 | (refine Acz ⟨.inr rfl,_,rfl,?_⟩; (try simp (disch := omega) only [push_cast,seval])))<;>(try simp (disch:=omega) only [push_cast,seval])))
     refine ⟨2,by omega,by omega,?_⟩
     (refine Sub.of_lists ?_ ?_ ?_ ?_ ?_<;>simp [Vw.mkS,Vw.lk,Vw.hk,AV.inn,innL,Ajz,Ahz,Alz,-List.map_set,-List.getD_eq_getElem?_getD,e1])
    ·have e1:w64 (S+w64 (prodL (([gE a x,gE b x]:List Int).take 2)))=w64 (sumL ((xs.take (k+1)).map fun x=>gE a x*gE b x)):=by rw [← hst];simp [prodL,w64_addr]
     generalize hP:w64 (prodL (([gE a x,gE b x]:List Int).take 2))=P at *
     (repeat' ((first
 | (first|refine Afz ?_|refine Aaz ?_)
 | (first|refine Agz ?_|refine Aez ?_|refine Atz ?_)
 | (first|(refine A8z (by kernel_rfl) (by (simp (disch:=omega) only [push_cast,seval])<;>rfl) ?_)|(refine A1z (t:=23) (sz:=1) (zs:=[.int .i64 0]) (by kernel_rfl) (by (simp (disch:=omega) only [push_cast,seval])<;>rfl) (by (simp (disch:=omega) only [push_cast,seval])<;>rfl) (by first|assumption|omega|(constructor<;>omega)) (by first|((simp (disch:=omega) only [push_cast,seval]);done)|((simp (disch:=omega) only [push_cast,seval]);exact ⟨rfl,by omega⟩)) ?_)|(refine A1z (t:=50) (sz:=2) (zs:=[.int .i64 0,.int .i64 0]) (by kernel_rfl) (by (simp (disch:=omega) only [push_cast,seval])<;>rfl) (by (simp (disch:=omega) only [push_cast,seval])<;>rfl) (by first|assumption|omega|(constructor<;>omega)) (by first|((simp (disch:=omega) only [push_cast,seval]);done)|((simp (disch:=omega) only [push_cast,seval]);exact ⟨rfl,by omega⟩)) ?_)|(refine Biz (len:=3) (by kernel_rfl) (by (simp (disch:=omega) only [push_cast,seval])<;>rfl) (by (simp (disch:=omega) only [push_cast,seval])<;>rfl) (by first|assumption|omega|(constructor<;>omega)) (by first|rfl|((simp (disch:=omega) only [push_cast,seval]);rfl)) ?_)|(refine Bwz (f:=93) (by (simp (disch:=omega) only [push_cast,seval])<;>rfl) (by kernel_rfl) ?_))
 | (refine Acz ⟨.inr rfl,_,rfl,?_⟩; (try simp (disch := omega) only [push_cast,seval])))<;>(try simp (disch:=omega) only [push_cast,seval])))
     refine ⟨k+1,by omega,by omega,?_⟩
     (refine Sub.of_lists ?_ ?_ ?_ ?_ ?_<;>simp [Vw.mkS,Vw.lk,Vw.hk,AV.inn,innL,Ajz,Ahz,Alz,-List.map_set,-List.getD_eq_getElem?_getD,e1])
  ·have e:k=xs.length:=by omega
   subst e
   (repeat' ((first
 | (first|refine Afz ?_|refine Aaz ?_)
 | (first|refine Agz ?_|refine Aez ?_|refine Atz ?_)
 | ((first|refine Aiz (fun h=>?_) (fun h=>?_))<;>(try simp only [h])<;>(try simp only [bitvec_to_nat] at h)<;>(try simp only [h])<;>(first|(exfalso;omega)|(exfalso;simp_all;done)|skip))
 | (first|(refine A8z (by kernel_rfl) (by (simp (disch:=omega) only [push_cast,seval])<;>rfl) ?_)|(refine A1z (t:=23) (sz:=1) (zs:=[.int .i64 0]) (by kernel_rfl) (by (simp (disch:=omega) only [push_cast,seval])<;>rfl) (by (simp (disch:=omega) only [push_cast,seval])<;>rfl) (by first|assumption|omega|(constructor<;>omega)) (by first|((simp (disch:=omega) only [push_cast,seval]);done)|((simp (disch:=omega) only [push_cast,seval]);exact ⟨rfl,by omega⟩)) ?_)|(refine A1z (t:=50) (sz:=2) (zs:=[.int .i64 0,.int .i64 0]) (by kernel_rfl) (by (simp (disch:=omega) only [push_cast,seval])<;>rfl) (by (simp (disch:=omega) only [push_cast,seval])<;>rfl) (by first|assumption|omega|(constructor<;>omega)) (by first|((simp (disch:=omega) only [push_cast,seval]);done)|((simp (disch:=omega) only [push_cast,seval]);exact ⟨rfl,by omega⟩)) ?_)|(refine Biz (len:=3) (by kernel_rfl) (by (simp (disch:=omega) only [push_cast,seval])<;>rfl) (by (simp (disch:=omega) only [push_cast,seval])<;>rfl) (by first|assumption|omega|(constructor<;>omega)) (by first|rfl|((simp (disch:=omega) only [push_cast,seval]);rfl)) ?_))
 | (refine Acz ⟨.inr rfl,_,rfl,?_⟩))<;>(try simp (disch:=omega) only [push_cast,seval])))
   simp


set_option maxHeartbeats 8000000 in
theorem factAt_ok (f:Fc)(w:List Int)(n m:Nat)(hb:(f.1.length=n∧f.2.1.length=m∧n≤1099511627776∧m≤1099511627776)∧(f.2.2.length=5∧w.length=5)∧(∀ x∈f.2.1,0≤x∧x≤4)∧0≤sumL (f.2.1.map fun x=>gE w x*gE f.2.2 x)∧sumL (f.2.1.map fun x=>gE w x*gE f.2.2 x)<f.1.length) :
  PCall Tryz.prog 76 [.agg (.rows false (IL f.1) n::.rows false (IL f.2.1) m::IL f.2.2),.agg (IL w)] (fun r=>r=.int .i64 (f.1.getD (sumL (f.2.1.map fun x=>gE w x*gE f.2.2 x)).toNat 0)):=by
 obtain ⟨vals,lab,st⟩:=f
 simp only at hb ⊢
 obtain ⟨⟨rfl,rfl,hb0,hb1⟩,⟨h5,hw5⟩,hb2,hb3,hb4⟩:=hb
 obtain ⟨i,hi⟩:∃ i:Nat,sumL (lab.map fun x=>gE w x*gE st x)=i:=⟨(sumL (lab.map fun x=>gE w x*gE st x)).toNat,by omega⟩
 have q1:lab.length≤1099511627776∧(w.length=5∧st.length=5)∧∀ x∈lab,0≤x∧x≤4:=⟨hb1,⟨hw5,h5⟩,hb2⟩
 rw [hi] at hb3 hb4 ⊢
 rw [Int.toNat_natCast]
 have hwi:w64 (i:Int)=i:=w64_id (by omega)
 have hii:i<vals.length:=by omega
 refine Axz l76_eq rfl ?_
 (repeat' ((first
 | (first|refine Afz ?_|refine Aaz ?_)
 | (first|refine Agz ?_|refine Cgz (mid:=l76r1a) (post:=l76r1b) [] Bfz (by decide) ?_)
 | (first|refine A7z false ?_)
 | (first|(refine Asz (Apz (sopI_ok _ _ _ _ ?_ ?_)) ⟨_,_,rfl,rfl⟩ ?_;(iterate 2 (exact sd));rintro _ _ ⟨rfl,rfl⟩))
 | (refine Acz ⟨.inr rfl,_,rfl,?_⟩))<;>(try simp (disch:=omega) only [push_cast,seval,h5,hw5,Aqz,A2z,hi,hwi])))
theorem factAtB_ok (f:Fc)(w:List Int)(n m:Nat)(hb:(f.1.length=n∧f.2.1.length=m∧n≤1099511627776∧m≤1099511627776)∧(f.2.2.length=5∧w.length=5)∧(∀ x∈f.2.1,0≤x∧x≤4)∧0≤sumL (f.2.1.map fun x=>gE w x*gE f.2.2 x)∧sumL (f.2.1.map fun x=>gE w x*gE f.2.2 x)<f.1.length) :
  BCall Tryz.prog 76 [.agg (.rows false (IL f.1) n::.rows false (IL f.2.1) m::IL f.2.2),.agg (IL w)] [] (fun r H'=>r=.int .i64 (f.1.getD (sumL (f.2.1.map fun x=>gE w x*gE f.2.2 x)).toNat 0)∧H'=[]):=Apz (factAt_ok f w n m hb)


set_option maxHeartbeats 8000000 in
theorem sopW_ok (ws:List (List Int))(fs:List Fc)(n m:Nat)(hn:ws.length=n)(hm:fs.length=m)(hb:(n≤1099511627776∧m≤1099511627776)∧(∀ w∈ws,w.length=5)∧∀ w∈ws,∀ f∈fs,fcOk f w):PCall Tryz.prog 79 [.rows false (IL ws.flatten) n,.rows false (FC 76 false false fs) m] (fun r=>r=.int .i64 (w64 (sumL (ws.map fun w=>prodL (fs.map fun f=>fcV f w))))):=by
 subst hn hm
 obtain ⟨⟨hb0,hb1⟩,hw,hf⟩:=hb
 have hwl:=flat5_len hw
 have hdr:∀ k w,ws[k]?=some w→((IL ws.flatten).drop (k*5)).take 5=IL w:=fun k w h=>Hdz hw h
 refine Axz l79_eq rfl ?_
 generalize ws.flatten=W at *
 (repeat' ((first
 | (first|refine Afz ?_|refine Aaz ?_)
 | (first|refine Agz ?_)
 | (first|(refine A8z (by kernel_rfl) (by (simp (disch:=omega) only [push_cast,seval])<;>rfl) ?_)|(refine A1z (t:=23) (sz:=1) (zs:=[.int .i64 0]) (by kernel_rfl) (by (simp (disch:=omega) only [push_cast,seval])<;>rfl) (by (simp (disch:=omega) only [push_cast,seval])<;>rfl) (by first|assumption|omega|(constructor<;>omega)) (by first|((simp (disch:=omega) only [push_cast,seval]);done)|((simp (disch:=omega) only [push_cast,seval]);exact ⟨rfl,by omega⟩)) ?_)|(refine A1z (t:=50) (sz:=2) (zs:=[.int .i64 0,.int .i64 0]) (by kernel_rfl) (by (simp (disch:=omega) only [push_cast,seval])<;>rfl) (by (simp (disch:=omega) only [push_cast,seval])<;>rfl) (by first|assumption|omega|(constructor<;>omega)) (by first|((simp (disch:=omega) only [push_cast,seval]);done)|((simp (disch:=omega) only [push_cast,seval]);exact ⟨rfl,by omega⟩)) ?_)|(refine Biz (len:=3) (by kernel_rfl) (by (simp (disch:=omega) only [push_cast,seval])<;>rfl) (by (simp (disch:=omega) only [push_cast,seval])<;>rfl) (by first|assumption|omega|(constructor<;>omega)) (by first|rfl|((simp (disch:=omega) only [push_cast,seval]);rfl)) ?_))
 | (refine Acz ⟨.inr rfl,_,rfl,?_⟩))<;>(try simp (disch:=omega) only [push_cast,seval])))
 refine A0z (fun k:Nat=>mkS [(1,.rows false (FC 76 false false fs) fs.length),(5,.int .i64 (w64 (sumL ((ws.take k).map fun w=>prodL (fs.map fun f=>fcV f w))))),(11,.rows false (IL W) ws.length),(12,.int .i64 ws.length),(13,.int .i64 k)] []) (fun k=>k≤ws.length) (fun k=>ws.length-k) 0 (Nat.zero_le _) ?_ ?_
 ·have e0:(0:Int)=w64 (sumL []):=by decide
  (refine Sub.of_lists ?_ ?_ ?_ ?_ ?_<;>simp [Vw.mkS,Vw.lk,Vw.hk,AV.inn,innL,Ajz,Ahz,Alz,-List.map_set,-List.getD_eq_getElem?_getD,e0,Fzz])
 ·intro k hk
  by_cases hlt:k<ws.length
  ·obtain ⟨w,hwk⟩:=Hmz hlt
   have hwm:=List.mem_of_getElem? hwk
   have hw5:=hw w hwm
   have hd:=hdr k w hwk
   have hst:=sum_step (fun w=>prodL (fs.map fun f=>fcV f w)) ws hwk
   generalize hS:w64 (sumL ((ws.take k).map fun w=>prodL (fs.map fun f=>fcV f w)))=S at *
   (repeat' ((first
 | (first|refine Afz ?_|refine Aaz ?_)
 | (first|refine Agz ?_|refine Aez ?_|refine Aoz ?_)
 | ((first|refine Aiz (fun h=>?_) (fun h=>?_))<;>(try simp only [h])<;>(try simp only [bitvec_to_nat] at h)<;>(try simp only [h])<;>(first|(exfalso;omega)|(exfalso;simp_all;done)|skip))
 | (first|(refine A8z (by kernel_rfl) (by (simp (disch:=omega) only [push_cast,seval,hd,hwl,Aqz,hw5,A2z])<;>rfl) ?_)|(refine A1z (t:=23) (sz:=1) (zs:=[.int .i64 0]) (by kernel_rfl) (by (simp (disch:=omega) only [push_cast,seval,hd,hwl,Aqz,hw5,A2z])<;>rfl) (by (simp (disch:=omega) only [push_cast,seval,hd,hwl,Aqz,hw5,A2z])<;>rfl) (by first|assumption|omega|(constructor<;>omega)) (by first|((simp (disch:=omega) only [push_cast,seval,hd,hwl,Aqz,hw5,A2z]);done)|((simp (disch:=omega) only [push_cast,seval,hd,hwl,Aqz,hw5,A2z]);exact ⟨rfl,by omega⟩)) ?_)|(refine A1z (t:=50) (sz:=2) (zs:=[.int .i64 0,.int .i64 0]) (by kernel_rfl) (by (simp (disch:=omega) only [push_cast,seval,hd,hwl,Aqz,hw5,A2z])<;>rfl) (by (simp (disch:=omega) only [push_cast,seval,hd,hwl,Aqz,hw5,A2z])<;>rfl) (by first|assumption|omega|(constructor<;>omega)) (by first|((simp (disch:=omega) only [push_cast,seval,hd,hwl,Aqz,hw5,A2z]);done)|((simp (disch:=omega) only [push_cast,seval,hd,hwl,Aqz,hw5,A2z]);exact ⟨rfl,by omega⟩)) ?_)|(refine Biz (len:=3) (by kernel_rfl) (by (simp (disch:=omega) only [push_cast,seval,hd,hwl,Aqz,hw5,A2z])<;>rfl) (by (simp (disch:=omega) only [push_cast,seval,hd,hwl,Aqz,hw5,A2z])<;>rfl) (by first|assumption|omega|(constructor<;>omega)) (by first|rfl|((simp (disch:=omega) only [push_cast,seval,hd,hwl,Aqz,hw5,A2z]);rfl)) ?_)|(refine Bwz (f:=76) (by (simp (disch:=omega) only [push_cast,seval,hd,hwl,Aqz,hw5,A2z])<;>rfl) (by kernel_rfl) ?_)|(refine Bwz (f:=93) (by (simp (disch:=omega) only [push_cast,seval,hd,hwl,Aqz,hw5,A2z])<;>rfl) (by kernel_rfl) ?_))
 | (refine Acz ⟨.inr rfl,_,rfl,?_⟩))<;>(try simp (disch:=omega) only [push_cast,seval,hd,hwl,Aqz,hw5,A2z])))
   refine A0z (fun j:Nat=>mkS [(1,.rows false (FC 76 false false fs) fs.length),(5,.int .i64 S),(7,.ref 112 5 0),(8,.int .i64 (w64 (prodL ((fs.take j).map fun f=>fcV f w)))),(11,.rows false (IL W) ws.length),(12,.int .i64 ws.length),(13,.int .i64 k),(17,.rows false (FC 76 false false fs) fs.length),(18,.int .i64 fs.length),(19,.int .i64 j)] [(112,IL w)]) (fun j=>j≤fs.length) (fun j=>fs.length-j) 0 (Nat.zero_le _) ?_ ?_
   ·have e0:(1:Int)=w64 (prodL []):=by decide
    have e5:=fun a b c d f=>set5I hw5 a b c d f
    (refine Sub.of_lists ?_ ?_ ?_ ?_ ?_<;>simp [Vw.mkS,Vw.lk,Vw.hk,AV.inn,innL,Ajz,Ahz,Alz,-List.map_set,-List.getD_eq_getElem?_getD,e0,e5,Fzz])
   ·intro j hj
    by_cases hjl:j<fs.length
    ·obtain ⟨f,hfj⟩:=Hmz hjl
     have hfo:=hf w hwm f (List.mem_of_getElem? hfj)
     have hfd:=FC_drop 76 false false fs j hfj
     have q1:(f.1.length=f.1.length∧f.2.1.length=f.2.1.length∧f.1.length≤1099511627776∧f.2.1.length≤1099511627776)∧(f.2.2.length=5∧w.length=5)∧(∀ x∈f.2.1,0≤x∧x≤4)∧0≤sumL (f.2.1.map fun x=>gE w x*gE f.2.2 x)∧sumL (f.2.1.map fun x=>gE w x*gE f.2.2 x)<f.1.length:=⟨⟨rfl,rfl,hfo.1⟩,⟨hfo.2.1,hw5⟩,hfo.2.2⟩
     have hpr:=prod_step (fun f=>fcV f w) fs hfj
     rw [show fcV f w=f.1.getD (sumL (f.2.1.map fun x=>gE w x*gE f.2.2 x)).toNat 0 from rfl] at hpr
     generalize hP:w64 (prodL ((fs.take j).map fun f=>fcV f w))=P at *
     rw [List.map_take] at hpr
     (repeat' ((first
 | (first|refine Afz ?_|refine Aaz ?_)
 | (first|refine Agz ?_|refine Aez ?_|refine Aoz ?_)
 | ((first|refine Aiz (fun h=>?_) (fun h=>?_))<;>(try simp only [h])<;>(try simp only [bitvec_to_nat] at h)<;>(try simp only [h])<;>(first|(exfalso;omega)|(exfalso;simp_all;done)|skip))
 | (first|(refine A8z (by kernel_rfl) (by (simp (disch:=omega) only [push_cast,seval,hfd,hw5,A2z,Aqz])<;>rfl) ?_)|(refine A1z (t:=23) (sz:=1) (zs:=[.int .i64 0]) (by kernel_rfl) (by (simp (disch:=omega) only [push_cast,seval,hfd,hw5,A2z,Aqz])<;>rfl) (by (simp (disch:=omega) only [push_cast,seval,hfd,hw5,A2z,Aqz])<;>rfl) (by first|assumption|omega|(constructor<;>omega)) (by first|((simp (disch:=omega) only [push_cast,seval,hfd,hw5,A2z,Aqz]);done)|((simp (disch:=omega) only [push_cast,seval,hfd,hw5,A2z,Aqz]);exact ⟨rfl,by omega⟩)) ?_)|(refine A1z (t:=50) (sz:=2) (zs:=[.int .i64 0,.int .i64 0]) (by kernel_rfl) (by (simp (disch:=omega) only [push_cast,seval,hfd,hw5,A2z,Aqz])<;>rfl) (by (simp (disch:=omega) only [push_cast,seval,hfd,hw5,A2z,Aqz])<;>rfl) (by first|assumption|omega|(constructor<;>omega)) (by first|((simp (disch:=omega) only [push_cast,seval,hfd,hw5,A2z,Aqz]);done)|((simp (disch:=omega) only [push_cast,seval,hfd,hw5,A2z,Aqz]);exact ⟨rfl,by omega⟩)) ?_)|(refine Biz (len:=3) (by kernel_rfl) (by (simp (disch:=omega) only [push_cast,seval,hfd,hw5,A2z,Aqz])<;>rfl) (by (simp (disch:=omega) only [push_cast,seval,hfd,hw5,A2z,Aqz])<;>rfl) (by first|assumption|omega|(constructor<;>omega)) (by first|rfl|((simp (disch:=omega) only [push_cast,seval,hfd,hw5,A2z,Aqz]);rfl)) ?_)|(refine Bwz (f:=76) (by (simp (disch:=omega) only [push_cast,seval,hfd,hw5,A2z,Aqz])<;>rfl) (by kernel_rfl) ?_)|(refine Bwz (f:=93) (by (simp (disch:=omega) only [push_cast,seval,hfd,hw5,A2z,Aqz])<;>rfl) (by kernel_rfl) ?_))
 | (first|((with_reducible refine Hez (f:=76) [] false ?_);simp (disch:=omega) only [push_cast,seval,hfd,hw5,A2z,Aqz];(refine callNA (by decide) (factAtB_ok _ _ _ _ ?_) (by (simp (disch:=omega) only [push_cast,seval,hfd,hw5,A2z,Aqz])<;>rfl) ?_;(exact sd);rintro _ _ ⟨rfl,rfl⟩)))
 | (refine Acz ⟨.inr rfl,_,rfl,?_⟩; (try simp (disch := omega) only [push_cast,seval,hfd,hw5,A2z,Aqz])))<;>(try simp (disch:=omega) only [push_cast,seval,hfd,hw5,A2z,Aqz])))
     refine ⟨j+1,by omega,by omega,?_⟩
     (refine Sub.of_lists ?_ ?_ ?_ ?_ ?_<;>simp [Vw.mkS,Vw.lk,Vw.hk,AV.inn,innL,Ajz,Ahz,Alz,-List.map_set,-List.getD_eq_getElem?_getD,hpr,Fzz])
    ·have ej:j=fs.length:=by omega
     rw [ej,List.take_length]
     have hst2:w64 (S+w64 (prodL (fs.map fun f=>fcV f w)))=w64 (sumL ((ws.take (k+1)).map fun w=>prodL (fs.map fun f=>fcV f w))):=hst
     generalize hP:w64 (prodL (fs.map fun f=>fcV f w))=P at *
     (repeat' ((first
 | (first|refine Afz ?_|refine Aaz ?_)
 | (first|refine Agz ?_|refine Aez ?_|refine Atz ?_)
 | ((first|refine Aiz (fun h=>?_) (fun h=>?_))<;>(try simp only [h])<;>(try simp only [bitvec_to_nat] at h)<;>(try simp only [h])<;>(first|(exfalso;omega)|(exfalso;simp_all;done)|skip))
 | (first|(refine A8z (by kernel_rfl) (by (simp (disch:=omega) only [push_cast,seval])<;>rfl) ?_)|(refine A1z (t:=23) (sz:=1) (zs:=[.int .i64 0]) (by kernel_rfl) (by (simp (disch:=omega) only [push_cast,seval])<;>rfl) (by (simp (disch:=omega) only [push_cast,seval])<;>rfl) (by first|assumption|omega|(constructor<;>omega)) (by first|((simp (disch:=omega) only [push_cast,seval]);done)|((simp (disch:=omega) only [push_cast,seval]);exact ⟨rfl,by omega⟩)) ?_)|(refine A1z (t:=50) (sz:=2) (zs:=[.int .i64 0,.int .i64 0]) (by kernel_rfl) (by (simp (disch:=omega) only [push_cast,seval])<;>rfl) (by (simp (disch:=omega) only [push_cast,seval])<;>rfl) (by first|assumption|omega|(constructor<;>omega)) (by first|((simp (disch:=omega) only [push_cast,seval]);done)|((simp (disch:=omega) only [push_cast,seval]);exact ⟨rfl,by omega⟩)) ?_)|(refine Biz (len:=3) (by kernel_rfl) (by (simp (disch:=omega) only [push_cast,seval])<;>rfl) (by (simp (disch:=omega) only [push_cast,seval])<;>rfl) (by first|assumption|omega|(constructor<;>omega)) (by first|rfl|((simp (disch:=omega) only [push_cast,seval]);rfl)) ?_)|(refine Bwz (f:=76) (by (simp (disch:=omega) only [push_cast,seval])<;>rfl) (by kernel_rfl) ?_)|(refine Bwz (f:=93) (by (simp (disch:=omega) only [push_cast,seval])<;>rfl) (by kernel_rfl) ?_))
 | (refine Acz ⟨.inr rfl,_,rfl,?_⟩; (try simp (disch := omega) only [push_cast,seval])))<;>(try simp (disch:=omega) only [push_cast,seval])))
     refine ⟨k+1,by omega,by omega,?_⟩
     (refine Sub.of_lists ?_ ?_ ?_ ?_ ?_<;>simp [Vw.mkS,Vw.lk,Vw.hk,AV.inn,innL,Ajz,Ahz,Alz,-List.map_set,-List.getD_eq_getElem?_getD,hst2,Fzz])
  ·have e:k=ws.length:=by omega
   subst e
   (repeat' ((first
 | (first|refine Afz ?_|refine Aaz ?_)
 | (first|refine Agz ?_|refine Aez ?_|refine Atz ?_)
 | ((first|refine Aiz (fun h=>?_) (fun h=>?_))<;>(try simp only [h])<;>(try simp only [bitvec_to_nat] at h)<;>(try simp only [h])<;>(first|(exfalso;omega)|(exfalso;simp_all;done)|skip))
 | (first|(refine A8z (by kernel_rfl) (by (simp (disch:=omega) only [push_cast,seval])<;>rfl) ?_)|(refine A1z (t:=23) (sz:=1) (zs:=[.int .i64 0]) (by kernel_rfl) (by (simp (disch:=omega) only [push_cast,seval])<;>rfl) (by (simp (disch:=omega) only [push_cast,seval])<;>rfl) (by first|assumption|omega|(constructor<;>omega)) (by first|((simp (disch:=omega) only [push_cast,seval]);done)|((simp (disch:=omega) only [push_cast,seval]);exact ⟨rfl,by omega⟩)) ?_)|(refine A1z (t:=50) (sz:=2) (zs:=[.int .i64 0,.int .i64 0]) (by kernel_rfl) (by (simp (disch:=omega) only [push_cast,seval])<;>rfl) (by (simp (disch:=omega) only [push_cast,seval])<;>rfl) (by first|assumption|omega|(constructor<;>omega)) (by first|((simp (disch:=omega) only [push_cast,seval]);done)|((simp (disch:=omega) only [push_cast,seval]);exact ⟨rfl,by omega⟩)) ?_)|(refine Biz (len:=3) (by kernel_rfl) (by (simp (disch:=omega) only [push_cast,seval])<;>rfl) (by (simp (disch:=omega) only [push_cast,seval])<;>rfl) (by first|assumption|omega|(constructor<;>omega)) (by first|rfl|((simp (disch:=omega) only [push_cast,seval]);rfl)) ?_))
 | (refine Acz ⟨.inr rfl,_,rfl,?_⟩))<;>(try simp (disch:=omega) only [push_cast,seval])))
   simp

end Go.Proofs.YtapccmfnmiopoaaGreat
namespace Go.Proofs.YtapccmfnmiopoaaGreat
open VwM Vw Go

theorem B7z (l:List Int)(n:Nat)(hn:l.length=n)(hb:n≤1099511627776∧∀ x∈l,0≤x∧x≤4):BCall Tryz.prog 54 [.rows false [.rows false (IL l) n] 1] [] (OI (lbS l)):=by
 subst hn
 have h:=D0z [l] 1 rfl ⟨by omega,fun x hx=>by simp at hx;subst hx;exact hb.1,fun x hx=>by simp at hx;subst hx;exact hb.2⟩
 rw [show ([l]:List (List Int)).flatten=l by simp] at h
 exact h


set_option maxHeartbeats 16000000 in
theorem factOf_ok (t:Tn)(l:List Int)(n m q:Nat)(hn:t.1.length=n)(hm:t.2.length=m)(hq:l.length=q)(hb:vSh t.1=true∧l.length=t.1.length∧m≤1099511627776∧∀ x∈l,0≤x∧x≤4) :
  PCall Tryz.prog 75 [.agg [.rows false (IL t.1) n,.rows false (IL t.2) m],.rows false (IL l) q] (fun r=>r=.agg (.rows false (IL t.2) m::.rows true (IL (lbS l)) (lbS l).length::IL (fsT l (rowS t.1) t.1.length))):=by
 obtain ⟨sh,vals⟩:=t
 simp only at hn hm hb ⊢
 subst hn hm hq
 obtain ⟨hv,hlen,hm,hl⟩:=hb
 have hg:=(A5z hv).1
 have hg4:=hg.2
 have hrl:(rowS sh).length=sh.length:=by simp [rowS]
 have hrb:∀ x∈rowS sh,0≤x∧x≤12960000:=fun x hx=>by
  unfold rowS at hx
  obtain ⟨i,_,rfl⟩:=List.mem_map.1 hx
  exact Cmz (Hcz hg (i+1))
 have hfl:=Ipz l (rowS sh)
 have q1:l.length≤1099511627776∧∀ x∈l,0≤x∧x≤4:=⟨by omega,hl⟩
 have q2:sh.length≤1099511627776:=by omega
 refine Axz l75_eq rfl ?_
 (repeat' ((first
 | (first|refine Afz ?_|refine Aaz ?_)
 | (first|refine Agz ?_|refine Cgz (mid:=l75r1a) (post:=l75r1b) [] Bfz (by decide) ?_)
 | (first|refine Anz false ?_|refine A7z false ?_)
 | (first|((first|refine Akz (B7z _ _ ?_ ?_) ?_|refine Asz (Apz (Dbz (B7z _ _ ?_ ?_))) ⟨_,_,rfl,rfl⟩ ?_);(iterate 2 (exact sd));rintro _ _ ⟨rfl,rfl⟩)|((first|refine Akz (Fnz _ _ ?_ ?_) ?_|refine Asz (Fnz _ _ ?_ ?_) ⟨_,_,rfl,rfl⟩ ?_);(iterate 2 (exact sd));rintro _ _ ⟨rfl,rfl⟩))
 | (refine Acz ⟨.inr rfl,_,rfl,?_⟩))<;>(try simp (disch:=omega) only [push_cast,seval,hv,hrl,Aqz])))
 have hlb:=Ekz l 5
 refine A0z (fun k:Nat=>mkS [(1,.rows false (IL l) l.length),(4,.ref 64 7 0),(5,.ref 80 7 0),(16,.own 256 sh.length 1),(17,.int .i64 sh.length),(18,.int .i64 k)] [(64,[.val (.slice none 0 0),.val (.slice none 0 0),.int .i64 0,.int .i64 0,.int .i64 0,.int .i64 0,.int .i64 0]),(80,.rows false (IL vals) vals.length::.rows true (IL (lbS l)) (lbS l).length::IL (fsT l (rowS sh) k)),(256,IL (rowS sh))]) (fun k=>k≤sh.length) (fun k=>sh.length-k) 0 (Nat.zero_le _) ?_ ?_
 ·have e0:IL (fsT l (rowS sh) 0)=[.int .i64 0,.int .i64 0,.int .i64 0,.int .i64 0,.int .i64 0]:=rfl
  (refine Sub.of_lists ?_ ?_ ?_ ?_ ?_<;>simp [Vw.mkS,Vw.lk,Vw.hk,AV.inn,innL,Ajz,Ahz,Alz,-List.map_set,-List.getD_eq_getElem?_getD,e0])
 ·intro k hk
  have h5k:=hfl k
  by_cases hlt:k<sh.length
  ·have hx:=hl _ (Bcz (xs:=l) (j:=k) (by omega))
   have hr:=hrb _ (Bcz (xs:=rowS sh) (j:=k) (by omega))
   have hbd:=fsT_bound hl hrb (by omega) k (by omega) _ hx.1
   have hstp:fsT l (rowS sh) (k+1)=(fsT l (rowS sh) k).set (l.getD k 0).toNat (gE (fsT l (rowS sh) k) (l.getD k 0)+(rowS sh).getD k 0):=rfl
   generalize hL:fsT l (rowS sh) k=L at *
   generalize hR:(rowS sh).getD k 0=r at *
   obtain ⟨c,hc⟩:∃ c:Nat,l.getD k 0=c:=⟨(l.getD k 0).toNat,by omega⟩
   rw [hc] at hx hstp hbd
   rw [Int.toNat_natCast] at hstp
   have hge:gE L (c:Int)=L.getD c 0:=by unfold gE;rw [Int.toNat_natCast]
   rw [hge] at hstp hbd
   have hkb:(k:Int)*12960000≤4*12960000:=by omega
   have hc5:c<5:=by omega
   have hlk:k<l.length:=by omega
   (repeat' (first
 | (first|refine Afz ?_|refine Aaz ?_)
 | ((first|refine Agz ?_|refine Aez ?_|refine Aoz ?_);simp (disch:=omega) only [push_cast,seval,hc,hR,hrl,h5k,Aqz,drop2,VwM.set2,Ayz])
 | ((first|refine Aiz (fun h=>?_) (fun h=>?_))<;>(try simp only [h])<;>(try simp only [bitvec_to_nat] at h)<;>(try simp only [h])<;>(first|(exfalso;omega)|(exfalso;simp_all;done)|(simp (disch:=omega) only [push_cast,seval,hc,hR,hrl,h5k,Aqz,drop2,VwM.set2,Ayz])|skip))
 | (refine Acz ⟨.inr rfl,_,rfl,?_⟩;(try simp (disch:=omega) only [push_cast,seval,hc,hR,hrl,h5k,Aqz,drop2,VwM.set2,Ayz]))))
   refine ⟨k+1,by omega,by omega,?_⟩
   rw [hstp]
   (refine Sub.of_lists ?_ ?_ ?_ ?_ ?_<;>simp [Vw.mkS,Vw.lk,Vw.hk,AV.inn,innL,Ajz,Ahz,Alz,-List.map_set,-List.getD_eq_getElem?_getD,VwM.set2,Ayz])
  ·have ek:k=sh.length:=by omega
   have h7:=fun x y a b c d e=>set72 h5k x y a b c d e
   have h7t:=fun x y=>take7 h5k x y
   rw [ek] at h5k h7 h7t
   generalize hL:fsT l (rowS sh) sh.length=L at *
   (repeat' (first
 | (first|refine Afz ?_|refine Aaz ?_)
 | ((first|refine Agz ?_|refine Aez ?_|refine Atz ?_);simp (disch:=omega) only [push_cast,seval,h5k,h7,h7t,Aqz,ek,hL])
 | ((first|refine Aiz (fun h=>?_) (fun h=>?_))<;>(try simp only [h])<;>(try simp only [bitvec_to_nat] at h)<;>(try simp only [h])<;>(first|(exfalso;omega)|(exfalso;simp_all;done)|(simp (disch:=omega) only [push_cast,seval,h5k,h7,h7t,Aqz,ek,hL])|skip))))
   refine Acz ⟨.inr rfl,_,aresL_c7 rfl rfl h5k rfl,?_⟩
   simp (disch:=omega) only [push_cast,seval,B3z]

end Go.Proofs.YtapccmfnmiopoaaGreat
