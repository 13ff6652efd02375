/- Texts of this verifier. -/
import Derived.Test.YtjmcjjbhkiebkaaDoorCB1
import Derived.Test.YtjmcjjbhkiebkaaDoorCM1
import Derived.Test.YtjmcjjbhkiebkaaDoorCW3
import Derived.Test.YtjmcjjbhkiebkaaDoorChecked
import Derived.RegionCalls
import Derived.Below
set_option maxHeartbeats 4000000
set_option linter.unusedSimpArgs false
set_option linter.unusedVariables false
set_option maxRecDepth 4000
namespace Go.Proofs.YtjmcjjbhkiebkaaDoor
open VwM Vw Go

theorem vI_snoc {s vs:List Int}{k:Nat}(h:∀ j:Nat,j<k→0≤vs.getD j 0∧vs.getD j 0≤pw (s.getD j 0).toNat-1)(hk:0≤vs.getD k 0∧vs.getD k 0≤pw (s.getD k 0).toNat-1):∀ j:Nat,j<k+1→0≤vs.getD j 0∧vs.getD j 0≤pw (s.getD j 0).toNat-1:=fun j hj=>by
 by_cases e:j=k
 ·rw [e];exact hk
 ·exact h j (by omega)


set_option maxHeartbeats 8000000 in
theorem Bsz (s:List Int)(n:Nat)(big al:Bool)(hn:s.length=n)(hv:vF s=true):BCall Tryd.prog 31 [.agg [.rows false (IL s) n,.bool big,.bool al]] [] (fun r H'=>r=.own 0 n 2∧H'=[IL (fL2 al s n)]):=by
 subst hn
 obtain ⟨hs,hl1,hl2⟩:=Bhz.1 hv
 clear hv
 refine A5z (pins:=[]) (pin:=0) l31_eq rfl rfl rfl ?_
 (repeat' (first
 | (first|refine Agz ?_|refine Aaz ?_)
 | ((first|refine Ahz ?_);simp (disch:=omega) only [push_cast,seval,Gnz,Int.toNat_natCast])
 | (refine Adz ⟨.inr rfl,[160],[],_,by decide,rfl,?_⟩;(try simp (disch:=omega) only [push_cast,seval,↓Aiz,↓Aez,↓List.map_cons,↓List.map_nil,Gnz,Int.toNat_natCast]);(first|done|(show AV.own _ _ _=_∧_)))
 | (refine Adz ⟨.inr rfl,[384],[],_,by decide,rfl,?_⟩;(try simp (disch:=omega) only [push_cast,seval,↓Aiz,↓Aez,↓List.map_cons,↓List.map_nil,Gnz,Int.toNat_natCast]);(first|done|(show AV.own _ _ _=_∧_)))
 | (refine Adz ⟨.inr rfl,[512],[],_,by decide,rfl,?_⟩;(try simp (disch:=omega) only [push_cast,seval,↓Aiz,↓Aez,↓List.map_cons,↓List.map_nil,Gnz,Int.toNat_natCast]);(first|done|(show AV.own _ _ _=_∧_)))))
 refine Avz (fun k:Nat=>mkS [(1,.ref 16 3 0),(3,.own 160 s.length 2),(4,.int .i64 (fE al s k)),(12,RI s),(13,.int .i64 s.length),(14,.int .i64 k)] [(160,IL (fZ2 al s k)),(16,[RI s,.bool big,.bool al])])
  (fun k=>k≤s.length) (fun k=>s.length-k) 0 (Nat.zero_le _) ?_ ?_
 ·rw [fZ2_zero]
  have e0:fE al s 0=0:=rfl
  (refine Sub.of_lists ?_ ?_ ?_ ?_ ?_<;>simp [Vw.mkS,Vw.lk,Vw.hk,AV.inn,innL,Akz,Ajz,Amz,-List.map_set,-List.getD_eq_getElem?_getD,e0])
 ·intro k hk
  have hfl:=Ggz al s k hk
  by_cases hlt:k<s.length
  ·have b1:=C9z (al:=al) hs k hlt
   have b2:=hs k hlt
   have b3:=Daz (al:=al) hs k (by omega)
   have hq:(0≤fE al s k∧fE al s k≤1000)∧1≤s.getD k 0∧s.getD k 0≤4:=by omega
   have hq2:0≤fP al s k∧fP al s k≤1000∧0≤s.getD k 0∧s.getD k 0≤1000:=by omega
   have e1:alg al (fE al s k) (s.getD k 0)=fP al s k:=rfl
   have e2:=fZ2_set (al:=al) hlt
   have e3:fE al s (k+1)=fP al s k+s.getD k 0:=rfl
   have hfl2:=Ggz al s (k+1) (by omega)
   have g1:=fZ2_get (al:=al) (s:=s) (n:=k+1) (k:=k) (by omega)
   generalize hZ:fZ2 al s k=Z at *
   generalize hZ2:fZ2 al s (k+1)=Z2 at *
   generalize hP:fP al s k=P at *
   generalize hS:s.getD k 0=x at *
   obtain ⟨g1,g2⟩:=g1
   have htd:=td2 (by omega) g1 g2
   clear hZ b1 b2
   (repeat' ((first
 | (first|refine Agz ?_|refine Aaz ?_)
 | (first|refine Ahz ?_|refine Abz ?_|refine Alz ?_)
 | ((first|refine Acz (fun h=>?_) (fun h=>?_))<;>(try simp only [h])<;>(try simp only [bitvec_to_nat] at h)<;>(try simp only [h])<;>(first|(exfalso;omega)|(exfalso;simp_all;done)|skip))
 | (first|refine Aoz false ?_)
 | (first|(refine Apz (Atz (alg_ok _ _ _ _ _ _ ?_)) ?_;(exact sd);rintro _ _ ⟨rfl,rfl⟩)|(refine Apz (Atz (fEnd_ok _ _ ?_)) ?_;(exact sd);rintro _ _ ⟨rfl,rfl⟩))
 | (refine Adz ⟨.inr rfl,[160],[],_,by decide,rfl,?_⟩;(try simp (disch:=omega) only [push_cast,seval,↓Aiz,↓Aez,↓List.map_cons,↓List.map_nil,e1,hS,hfl,List.length_map,Btz,Bdz,e2,hfl2,htd]);(first|done|(show AV.own _ _ _=_∧_)))
 | (refine Adz ⟨.inr rfl,[384],[],_,by decide,rfl,?_⟩;(try simp (disch:=omega) only [push_cast,seval,↓Aiz,↓Aez,↓List.map_cons,↓List.map_nil,e1,hS,hfl,List.length_map,Btz,Bdz,e2,hfl2,htd]);(first|done|(show AV.own _ _ _=_∧_)))
 | (refine Adz ⟨.inr rfl,[512],[],_,by decide,rfl,?_⟩;(try simp (disch:=omega) only [push_cast,seval,↓Aiz,↓Aez,↓List.map_cons,↓List.map_nil,e1,hS,hfl,List.length_map,Btz,Bdz,e2,hfl2,htd]);(first|done|(show AV.own _ _ _=_∧_))))<;>(try simp (disch:=omega) only [push_cast,seval,e1,hS,hfl,List.length_map,Btz,Bdz,e2,hfl2,htd])))
   refine ⟨k+1,by omega,by omega,?_⟩
   (refine Sub.of_lists ?_ ?_ ?_ ?_ ?_<;>simp [Vw.mkS,Vw.lk,Vw.hk,AV.inn,innL,Akz,Ajz,Amz,-List.map_set,-List.getD_eq_getElem?_getD,e3,hP,hS,hZ2])
  ·have e:k=s.length:=by omega
   subst e
   rw [fZ2_all] at hfl ⊢
   (repeat' (first
 | (first|refine Agz ?_|refine Aaz ?_)
 | ((first|refine Ahz ?_|refine Abz ?_|refine Arz ?_);simp (disch:=omega) only [push_cast,seval,hfl])
 | ((first|refine Acz (fun h=>?_) (fun h=>?_))<;>(try simp only [h])<;>(try simp only [bitvec_to_nat] at h)<;>(try simp only [h])<;>(first|(exfalso;omega)|(exfalso;simp_all;done)|(simp (disch:=omega) only [push_cast,seval,hfl])|skip))
 | (refine Adz ⟨.inr rfl,[160],[],_,by decide,rfl,?_⟩;(try simp (disch:=omega) only [push_cast,seval,↓Aiz,↓Aez,↓List.map_cons,↓List.map_nil,hfl]);(first|done|(show AV.own _ _ _=_∧_)))
 | (refine Adz ⟨.inr rfl,[384],[],_,by decide,rfl,?_⟩;(try simp (disch:=omega) only [push_cast,seval,↓Aiz,↓Aez,↓List.map_cons,↓List.map_nil,hfl]);(first|done|(show AV.own _ _ _=_∧_)))
 | (refine Adz ⟨.inr rfl,[512],[],_,by decide,rfl,?_⟩;(try simp (disch:=omega) only [push_cast,seval,↓Aiz,↓Aez,↓List.map_cons,↓List.map_nil,hfl]);(first|done|(show AV.own _ _ _=_∧_)))))
   all_goals simp


set_option maxHeartbeats 8000000 in
theorem splaces_ok (s:List Int)(n:Nat)(big al:Bool)(hn:s.length=n)(hv:vF s=true):BCall Tryd.prog 28 [.agg [.rows false (IL s) n,.bool big,.bool al]] [] (fun r H'=>r=.tup [.own 0 n 1,.int .i64 (fN al s)]∧H'=[IL (fPL al s)]):=by
 subst hn
 obtain ⟨hs,hl1,hl2⟩:=Bhz.1 hv
 refine A5z (pins:=[]) (pin:=0) l28_eq rfl rfl rfl ?_
 (repeat' (first
 | (first|refine Agz ?_|refine Aaz ?_)
 | ((first|refine Ahz ?_);simp (disch:=omega) only [push_cast,seval])
 | (refine Adz ⟨.inr rfl,[128],[],_,by decide,rfl,?_⟩;(try simp (disch:=omega) only [push_cast,seval,↓Aiz,↓Aez,↓List.map_cons,↓List.map_nil]))))
 refine Avz (fun k:Nat=>mkS [(1,.ref 16 3 0),(4,.own 128 k 1),(5,.int .i64 (fE al s k)),(6,.int .i64 (fM al s k)),(7,.int .i64 k)] [(128,IL ((List.range k).map (fP al s))),(16,[RI s,.bool big,.bool al])])
  (fun k=>k≤s.length) (fun k=>s.length-k) 0 (Nat.zero_le _) ?_ ?_
 ·have e0:fE al s 0=0:=rfl
  have e1:fM al s 0=1:=rfl
  (refine Sub.of_lists ?_ ?_ ?_ ?_ ?_<;>simp [Vw.mkS,Vw.lk,Vw.hk,AV.inn,innL,Akz,Ajz,Amz,-List.map_set,-List.getD_eq_getElem?_getD,e0,e1,List.range_zero,List.map_nil])
 ·intro k hk
  have b4:=fM_or (al:=al) hs k hk
  have b3:=Daz (al:=al) hs k (by omega)
  by_cases hlt:k<s.length
  ·have b1:=C9z (al:=al) hs k hlt
   have b2:=hs k hlt
   have hq:(0≤fE al s k∧fE al s k≤1000)∧1≤s.getD k 0∧s.getD k 0≤4:=by omega
   have e1:alg al (fE al s k) (s.getD k 0)=fP al s k:=rfl
   have e2:fE al s (k+1)=fP al s k+s.getD k 0:=rfl
   have e4:fM al s (k+1)=if al=true then max (fM al s k) (s.getD k 0) else fM al s k:=rfl
   have e5:=fPL_succ al s k
   have hq2:0≤fP al s k∧fP al s k≤1000:=by omega
   have hL:((List.range k).map (fP al s)).length=k:=by simp
   generalize hM:fM al s k=m at *
   generalize hP:fP al s k=P at *
   generalize hS:s.getD k 0=x at *
   generalize hE:fE al s k=e at *
   generalize hLL:(List.range k).map (fP al s)=L at *
   clear b1
   cases al with
 | false =>
    simp only [alg,Bool.false_eq_true,if_false] at e1 e4
    subst e1
    (repeat' (first
 | (first|refine Agz ?_|refine Aaz ?_)
 | ((first|refine Ahz ?_|refine Abz ?_|refine Alz ?_);simp (disch:=omega) only [push_cast,seval,hS,hL])
 | ((first|refine Acz (fun h=>?_) (fun h=>?_))<;>(try simp only [h])<;>(try simp only [bitvec_to_nat] at h)<;>(try simp only [h])<;>(first|(exfalso;omega)|(exfalso;simp_all;done)|(simp (disch:=omega) only [push_cast,seval,hS,hL])|skip))
 | (refine Adz ⟨.inr rfl,[128],[],_,by decide,rfl,?_⟩;(try simp (disch:=omega) only [push_cast,seval,↓Aiz,↓Aez,↓List.map_cons,↓List.map_nil,hS,hL]))))
    refine ⟨k+1,by omega,by omega,?_⟩
    (refine Sub.of_lists ?_ ?_ ?_ ?_ ?_<;>simp [Vw.mkS,Vw.lk,Vw.hk,AV.inn,innL,Akz,Ajz,Amz,-List.map_set,-List.getD_eq_getElem?_getD,e2,e4,e5,hP,hS,hM,hE])
 | true =>
    simp only [alg,if_true] at e1 e4
    (repeat' ((first
 | (first|refine Agz ?_|refine Aaz ?_)
 | (first|refine Ahz ?_|refine Abz ?_|refine Alz ?_)
 | ((first|refine Acz (fun h=>?_) (fun h=>?_))<;>(try simp only [h])<;>(try simp only [bitvec_to_nat] at h)<;>(try simp only [h])<;>(first|(exfalso;omega)|(exfalso;simp_all;done)|skip))
 | (first|refine Aoz false ?_)
 | (first|(refine Apz (Atz (rup_ok _ _ ?_)) ?_;(exact sd);rintro _ _ ⟨rfl,rfl⟩))
 | (refine Adz ⟨.inr rfl,[128],[],_,by decide,rfl,?_⟩;(try simp (disch:=omega) only [push_cast,seval,↓Aiz,↓Aez,↓List.map_cons,↓List.map_nil,hS,hL,e1])))<;>(try simp (disch:=omega) only [push_cast,seval,hS,hL,e1])))
    refine ⟨k+1,by omega,by omega,?_⟩
    (refine Sub.of_lists ?_ ?_ ?_ ?_ ?_<;>simp [Vw.mkS,Vw.lk,Vw.hk,AV.inn,innL,Akz,Ajz,Amz,-List.map_set,-List.getD_eq_getElem?_getD,e2,e4,e5,hP,hS,hM,hE])
  ·have e:k=s.length:=by omega
   subst e
   have hq:(0≤fE al s s.length∧fE al s s.length≤1000)∧1≤fM al s s.length∧fM al s s.length≤4:=by omega
   have e1:rup (fE al s s.length) (fM al s s.length)=fN al s:=rfl
   have e5:(List.range s.length).map (fP al s)=fPL al s:=rfl
   have hL:=Ghz al s
   rw [e5]
   (repeat' ((first
 | (first|refine Agz ?_|refine Aaz ?_)
 | (first|refine Ahz ?_|refine Abz ?_|refine Arz ?_)
 | ((first|refine Acz (fun h=>?_) (fun h=>?_))<;>(try simp only [h])<;>(try simp only [bitvec_to_nat] at h)<;>(try simp only [h])<;>(first|(exfalso;omega)|(exfalso;simp_all;done)|skip))
 | (first|refine Aoz false ?_)
 | (first|(refine Apz (Atz (rup_ok _ _ ?_)) ?_;(exact sd);rintro _ _ ⟨rfl,rfl⟩))
 | (refine Adz ⟨.inr rfl,[128],[],_,by decide,rfl,?_⟩;(try simp (disch:=omega) only [push_cast,seval,↓Aiz,↓Aez,↓List.map_cons,↓List.map_nil,e1,hL])))<;>(try simp (disch:=omega) only [push_cast,seval,e1,hL])))
   all_goals simp


theorem smax_ok (s:List Int)(n:Nat)(hn:s.length=n)(hb:1≤n∧n≤1099511627776):PCall Tryd.prog 34 [.rows false (IL s) n] (fun r=>r=.int .i64 (mxL s n)):=by
 subst hn
 refine Awz l34_eq rfl ?_
 have h1:¬ (s.length:Int)<1:=by omega
 (repeat' (first
 | (first|refine Agz ?_|refine Aaz ?_)
 | ((first|refine Ahz ?_|refine Abz ?_|refine Alz ?_);simp (disch:=omega) only [push_cast,seval,h1])
 | (refine Adz ⟨.inr rfl,_,rfl,?_⟩;(try simp (disch:=omega) only [push_cast,seval,h1]))))
 refine Avz (fun k:Nat=>mkS [(0,RI s),(3,.int .i64 (mxL s (k+1))),(4,.int .i64 ((k:Int)+1))] []) (fun k=>k+1≤s.length) (fun k=>s.length-k) 0 (by omega) ?_ ?_
 ·have e0:mxL s (0+1)=s.getD 0 0:=by simp [mxL]
  (refine Sub.of_lists ?_ ?_ ?_ ?_ ?_<;>simp [Vw.mkS,Vw.lk,Vw.hk,AV.inn,innL,Akz,Ajz,Amz,-List.map_set,-List.getD_eq_getElem?_getD,e0])
 ·intro k hk
  by_cases hlt:k+1<s.length
  ·have e:mxL s (k+1+1)=max (mxL s (k+1)) (s.getD (k+1) 0):=rfl
   obtain ⟨q,hq⟩:∃ q,k+1=q:=⟨_,rfl⟩
   have hqi:(k:Int)+1=(q:Int):=by omega
   rw [hq] at hlt e ⊢
   rw [hqi]
   (repeat' (first
 | (first|refine Agz ?_|refine Aaz ?_)
 | ((first|refine Ahz ?_|refine Abz ?_|refine Alz ?_);simp (disch:=omega) only [push_cast,seval])
 | ((first|refine Acz (fun h=>?_) (fun h=>?_))<;>(try simp only [h])<;>(try simp only [bitvec_to_nat] at h)<;>(try simp only [h])<;>(first|(exfalso;omega)|(exfalso;simp_all;done)|(simp (disch:=omega) only [push_cast,seval])|skip))
 | (refine Adz ⟨.inr rfl,_,rfl,?_⟩;(try simp (disch:=omega) only [push_cast,seval]))))
   refine ⟨q,by omega,by omega,?_⟩
   have hqi2:(q:Int)+1=((q+1:Nat):Int):=by omega
   (refine Sub.of_lists ?_ ?_ ?_ ?_ ?_<;>simp [Vw.mkS,Vw.lk,Vw.hk,AV.inn,innL,Akz,Ajz,Amz,-List.map_set,-List.getD_eq_getElem?_getD,e])
  ·have e:k+1=s.length:=by omega
   have hqi:(k:Int)+1=(s.length:Int):=by omega
   rw [e,hqi]
   (repeat' (first
 | (first|refine Agz ?_|refine Aaz ?_)
 | ((first|refine Ahz ?_|refine Abz ?_|refine Arz ?_);simp (disch:=omega) only [push_cast,seval])
 | ((first|refine Acz (fun h=>?_) (fun h=>?_))<;>(try simp only [h])<;>(try simp only [bitvec_to_nat] at h)<;>(try simp only [h])<;>(first|(exfalso;omega)|(exfalso;simp_all;done)|(simp (disch:=omega) only [push_cast,seval])|skip))
 | (refine Adz ⟨.inr rfl,_,rfl,?_⟩;(try simp (disch:=omega) only [push_cast,seval]))))


theorem Gdz (s:List Int)(n:Nat)(big al:Bool)(hn:s.length=n)(hv:vF s=true):PCall Tryd.prog 23 [.agg [.rows false (IL s) n,.bool big,.bool al]] (fun r=>r=.int .i64 (fN al s)):=by
 subst hn
 obtain ⟨hs,hl1,hl2⟩:=Bhz.1 hv
 refine Awz l23_eq rfl ?_
 obtain ⟨q,hq⟩:∃ q,s.length=q+1:=⟨s.length-1,by omega⟩
 have hb1:1≤s.length∧s.length≤1099511627776:=by omega
 have b1:=C9z (al:=al) hs q (by omega)
 have b2:=hs q (by omega)
 have b3:=Daz (al:=al) hs s.length (Nat.le_refl _)
 have hq2:0≤fP al s q∧fP al s q≤1000∧0≤s.getD q 0∧s.getD q 0≤1000:=by omega
 have g:=Foz (al:=al) (s:=s) (n:=s.length) (k:=q) (by omega)
 obtain ⟨g1,g2⟩:=g
 have hl:=Bfz al s s.length
 have hm:1≤mxL s s.length∧mxL s s.length≤4:=by
  have:=mxL_spec (xs:=s) (by omega) s.length (Nat.le_refl _)
  obtain ⟨j,hj,e⟩:=List.getElem_of_mem this.1
  have:=hs j hj
  rw [List.getD,List.getElem?_eq_getElem hj,Option.getD_some,e] at this
  omega
 have e1:=fN_alg (al:=al) hv
 have e2:fE al s s.length=fP al s q+s.getD q 0:=by rw [hq];rfl
 have hq3:(0≤fE al s s.length∧fE al s s.length≤1000)∧1≤mxL s s.length∧mxL s s.length≤4:=by omega
 have hqi:(s.length:Int)-1=(q:Int):=by omega
 have hlt:q<s.length:=by omega
 rw [e2] at e1 hq3
 generalize hP:fP al s q=P at *
 generalize hS:s.getD q 0=x at *
 have htd:=td2 (by omega) g1 g2
 have hif:q*2+2≤s.length*2:=by omega
 clear b1 b2 b3 e2
 (repeat' ((first
 | (first|refine Agz ?_|refine Aaz ?_)
 | (first|refine Ahz ?_|refine A4z (mid:=l23r1a) (post:=l23r1b) Cjz (by decide) ?_|refine A4z (mid:=l23r2a) (post:=l23r2b) Cjz (by decide) ?_)
 | (first|refine Aoz false ?_|refine Bmz false ?_)
 | (first|((first|refine Apz (Bsz _ _ _ _ ?_ ?_) ?_|refine Ayz (Atz (plain2 (Bsz _ _ _ _ ?_ ?_) (Bfz _ _ _))) ⟨_,_,rfl,rfl⟩ ?_);(iterate 2 (exact sd));rintro _ _ ⟨rfl,rfl⟩)|((first|refine Apz (Atz (fEnd_ok _ _ ?_)) ?_|refine Ayz (Atz (fEnd_ok _ _ ?_)) ⟨_,_,rfl,rfl⟩ ?_);(exact sd);rintro _ _ ⟨rfl,rfl⟩)|((first|refine Apz (Atz (smax_ok _ _ ?_ ?_)) ?_|refine Ayz (Atz (smax_ok _ _ ?_ ?_)) ⟨_,_,rfl,rfl⟩ ?_);(iterate 2 (exact sd));rintro _ _ ⟨rfl,rfl⟩)|((first|refine Apz (Atz (alg_ok _ _ _ _ _ _ ?_)) ?_|refine Ayz (Atz (alg_ok _ _ _ _ _ _ ?_)) ⟨_,_,rfl,rfl⟩ ?_);(exact sd);rintro _ _ ⟨rfl,rfl⟩))
 | (refine Adz ⟨.inr rfl,_,rfl,?_⟩))<;>(try simp (disch:=omega) only [push_cast,seval,hqi,hl,hif,htd,e1])))


theorem Cmz (s:List Int)(n:Nat)(big al:Bool)(vs:List Int)(m:Nat)(hn:s.length=n)(hm:vs.length=m)(hv:vF s=true)(hb:m≤1099511627776):PCall Tryd.prog 19 [.agg [.rows false (IL s) n,.bool big,.bool al],.rows false (IL vs) m] (fun r=>r=.bool (vI s vs)):=by
 subst hn hm
 obtain ⟨hs,hl1,hl2⟩:=Bhz.1 hv
 refine Awz l19_eq rfl ?_
 by_cases hl:vs.length=s.length
 ·have hl':(vs.length:Int)=(s.length:Int):=by omega
  (repeat' (first
 | (first|refine Agz ?_|refine Aaz ?_)
 | ((first|refine Ahz ?_|refine Abz ?_|refine Alz ?_);simp (disch:=omega) only [push_cast,seval,hl',decide_true])
 | (refine Adz ⟨.inr rfl,_,rfl,?_⟩;(try simp (disch:=omega) only [push_cast,seval,hl',decide_true]))))
  refine Avz (fun k:Nat=>mkS [(1,RI vs),(2,.ref 32 3 0),(5,.int .i64 k)] [(32,[RI s,.bool big,.bool al])]) (fun k=>k≤vs.length∧∀ j:Nat,j<k→0≤vs.getD j 0∧vs.getD j 0≤pw (s.getD j 0).toNat-1) (fun k=>vs.length-k) 0 ⟨Nat.zero_le _,fun j h=>absurd h (by omega)⟩ ?_ ?_
  ·(refine Sub.of_lists ?_ ?_ ?_ ?_ ?_<;>simp [Vw.mkS,Vw.lk,Vw.hk,AV.inn,innL,Akz,Ajz,Amz,-List.map_set,-List.getD_eq_getElem?_getD,hl'])
  ·rintro k ⟨hk,hj⟩
   by_cases hlt:k<vs.length
   ·have hks:k<s.length:=by omega
    have b2:=hs k hks
    obtain ⟨z,hz⟩:∃ z:Nat,s.getD k 0=z:=⟨(s.getD k 0).toNat,by omega⟩
    have hz4:z≤4:=by omega
    have bp:=Caz hz4
    have hzn:(s.getD k 0).toNat=z:=by omega
    by_cases hx:0≤vs.getD k 0∧vs.getD k 0≤pw z-1
    ·(repeat' ((first
 | (first|refine Agz ?_|refine Aaz ?_)
 | (first|refine Ahz ?_|refine A4z (mid:=l19r5a) (post:=l19r5b) Cjz (by decide) ?_|refine Abz ?_|refine Alz ?_)
 | ((first|refine Acz (fun h=>?_) (fun h=>?_))<;>(try simp only [h])<;>(try simp only [bitvec_to_nat] at h)<;>(try simp only [h])<;>(first|(exfalso;omega)|(exfalso;simp_all;done)|skip))
 | (first|refine Aoz false ?_|refine Bmz false ?_)
 | (first|((first|refine Apz (Atz (Gtz _ ?_)) ?_|refine Ayz (Atz (Gtz _ ?_)) ⟨_,_,rfl,rfl⟩ ?_);(exact sd);rintro _ _ ⟨rfl,rfl⟩)|((first|refine Apz (Atz (Brz _ _ _)) ?_|refine Ayz (Atz (Brz _ _ _)) ⟨_,_,rfl,rfl⟩ ?_);rintro _ _ ⟨rfl,rfl⟩))
 | (refine Adz ⟨.inr rfl,_,rfl,?_⟩; (try simp (disch := omega) only [push_cast,seval,hz,hx])))<;>(try simp (disch:=omega) only [push_cast,seval,hz,hx])))
     all_goals (refine ⟨k+1,⟨by omega,vI_snoc hj (by rw [hzn];exact hx)⟩,by omega,?_⟩;(refine Sub.of_lists ?_ ?_ ?_ ?_ ?_<;>simp [Vw.mkS,Vw.lk,Vw.hk,AV.inn,innL,Akz,Ajz,Amz,-List.map_set,-List.getD_eq_getElem?_getD]))
    ·have e:=vI_bad hlt (by rw [hzn];exact hx)
     (repeat' ((first
 | (first|refine Agz ?_|refine Aaz ?_)
 | (first|refine Ahz ?_|refine A4z (mid:=l19r5a) (post:=l19r5b) Cjz (by decide) ?_|refine Abz ?_|refine Alz ?_)
 | ((first|refine Acz (fun h=>?_) (fun h=>?_))<;>(try simp only [h])<;>(try simp only [bitvec_to_nat] at h)<;>(try simp only [h])<;>(first|(exfalso;omega)|(exfalso;simp_all;done)|skip))
 | (first|refine Aoz false ?_|refine Bmz false ?_)
 | (first|((first|refine Apz (Atz (Gtz _ ?_)) ?_|refine Ayz (Atz (Gtz _ ?_)) ⟨_,_,rfl,rfl⟩ ?_);(exact sd);rintro _ _ ⟨rfl,rfl⟩)|((first|refine Apz (Atz (Brz _ _ _)) ?_|refine Ayz (Atz (Brz _ _ _)) ⟨_,_,rfl,rfl⟩ ?_);rintro _ _ ⟨rfl,rfl⟩))
 | (refine Adz ⟨.inr rfl,_,rfl,?_⟩))<;>(try simp (disch:=omega) only [push_cast,seval,hz,e,hx])))
   ·have e:vI s vs=true:=Esz.2 ⟨hl,fun i hi=>hj i (by omega)⟩
    rw [e]
    (repeat' (first
 | (first|refine Agz ?_|refine Aaz ?_)
 | ((first|refine Ahz ?_|refine Abz ?_|refine Arz ?_);simp (disch:=omega) only [push_cast,seval])
 | ((first|refine Acz (fun h=>?_) (fun h=>?_))<;>(try simp only [h])<;>(try simp only [bitvec_to_nat] at h)<;>(try simp only [h])<;>(first|(exfalso;omega)|(exfalso;simp_all;done)|(simp (disch:=omega) only [push_cast,seval])|skip))
 | (refine Adz ⟨.inr rfl,_,rfl,?_⟩;(try simp (disch:=omega) only [push_cast,seval]))))
 ·have e:=vI_len hl
  have hl':¬ (vs.length:Int)=(s.length:Int):=by omega
  rw [e]
  (repeat' (first
 | (first|refine Agz ?_|refine Aaz ?_)
 | ((first|refine Ahz ?_|refine Abz ?_);simp (disch:=omega) only [push_cast,seval,hl'])
 | (refine Adz ⟨.inr rfl,_,rfl,?_⟩;(try simp (disch:=omega) only [push_cast,seval,hl']))))


theorem Gkz (s:List Int)(n:Nat)(big al:Bool)(vs:List Int)(m:Nat)(hn:s.length=n)(hm:vs.length=m)(hb:n≤1099511627776∧m≤1099511627776):PCall Tryd.prog 24 [.agg [.rows false (IL s) n,.bool big,.bool al],.rows false (IL vs) m] (fun r=>r=.bool (vF s&&vI s vs)):=by
 subst hn hm
 obtain ⟨hb1,hb2⟩:=hb
 refine Awz l24_eq rfl ?_
 cases hv:vF s with
 | false =>
  rw [Bool.false_and]
  (repeat' ((first
 | (first|refine Agz ?_|refine Aaz ?_)
 | (first|refine Ahz ?_|refine Abz ?_)
 | (first|refine Aoz false ?_)
 | (first|(refine Apz (Atz (C8z _ _ _ _ ?_ ?_)) ?_;(iterate 2 (exact sd));rintro _ _ ⟨rfl,rfl⟩))
 | (refine Adz ⟨.inr rfl,_,rfl,?_⟩))<;>(try simp (disch:=omega) only [push_cast,seval,hv])))
 | true =>
 obtain ⟨hs,hl1,hl2⟩:=Bhz.1 hv
 rw [Bool.true_and]
 by_cases hl:vs.length=s.length
 ·have hl':(vs.length:Int)=(s.length:Int):=by omega
  (repeat' ((first
 | (first|refine Agz ?_|refine Aaz ?_)
 | (first|refine Ahz ?_|refine Abz ?_|refine Alz ?_)
 | (first|refine Aoz false ?_)
 | (first|(refine Apz (Atz (C8z _ _ _ _ ?_ ?_)) ?_;(iterate 2 (exact sd));rintro _ _ ⟨rfl,rfl⟩))
 | (refine Adz ⟨.inr rfl,_,rfl,?_⟩))<;>(try simp (disch:=omega) only [push_cast,seval,hv,hl'])))
  refine Avz (fun k:Nat=>mkS [(2,.ref 32 3 0),(18,RI vs),(19,.int .i64 vs.length),(20,.int .i64 k)] [(32,[RI s,.bool big,.bool al])]) (fun k=>k≤vs.length∧∀ j:Nat,j<k→0≤vs.getD j 0∧vs.getD j 0≤pw (s.getD j 0).toNat-1) (fun k=>vs.length-k) 0 ⟨Nat.zero_le _,fun j h=>absurd h (by omega)⟩ ?_ ?_
  ·(refine Sub.of_lists ?_ ?_ ?_ ?_ ?_<;>simp [Vw.mkS,Vw.lk,Vw.hk,AV.inn,innL,Akz,Ajz,Amz,-List.map_set,-List.getD_eq_getElem?_getD,hl'])
  ·rintro k ⟨hk,hj⟩
   by_cases hlt:k<vs.length
   ·have hks:k<s.length:=by omega
    have b2:=hs k hks
    obtain ⟨z,hz⟩:∃ z:Nat,s.getD k 0=z:=⟨(s.getD k 0).toNat,by omega⟩
    have hz4:z≤4:=by omega
    have bp:=Caz hz4
    have hzn:(s.getD k 0).toNat=z:=by omega
    by_cases hx:0≤vs.getD k 0∧vs.getD k 0≤pw z-1
    ·have hd:(decide (0≤vs.getD k 0)&&decide (vs.getD k 0≤pw z-1))=true:=by rw [decide_eq_true hx.1,decide_eq_true hx.2];rfl
     (repeat' ((first
 | (first|refine Agz ?_|refine Aaz ?_)
 | (first|refine Ahz ?_|refine Abz ?_|refine Alz ?_)
 | ((first|refine Acz (fun h=>?_) (fun h=>?_))<;>(try simp only [h])<;>(try simp only [bitvec_to_nat] at h)<;>(try simp only [h])<;>(first|(exfalso;omega)|(exfalso;simp_all;done)|skip))
 | (first|refine Aoz false ?_)
 | (first|(refine Apz (Atz (grt_ok _ ?_)) ?_;(exact sd);rintro _ _ ⟨rfl,rfl⟩)|(refine Apz (Atz (upTo_ok _ _)) ?_;rintro _ _ ⟨rfl,rfl⟩))
 | (refine Adz ⟨.inr rfl,_,rfl,?_⟩; (try simp (disch := omega) only [push_cast,seval,hz,hd])))<;>(try simp (disch:=omega) only [push_cast,seval,hz,hd])))
     all_goals (refine ⟨k+1,⟨by omega,vI_snoc hj (by rw [hzn];exact hx)⟩,by omega,?_⟩;(refine Sub.of_lists ?_ ?_ ?_ ?_ ?_<;>simp [Vw.mkS,Vw.lk,Vw.hk,AV.inn,innL,Akz,Ajz,Amz,-List.map_set,-List.getD_eq_getElem?_getD]))
    ·have e:=vI_bad hlt (by rw [hzn];exact hx)
     have hd:(decide (0≤vs.getD k 0)&&decide (vs.getD k 0≤pw z-1))=false:=by
      rw [Bool.eq_false_iff];intro h;simp at h;exact hx h
     (repeat' ((first
 | (first|refine Agz ?_|refine Aaz ?_)
 | (first|refine Ahz ?_|refine Abz ?_|refine Alz ?_)
 | ((first|refine Acz (fun h=>?_) (fun h=>?_))<;>(try simp only [h])<;>(try simp only [bitvec_to_nat] at h)<;>(try simp only [h])<;>(first|(exfalso;omega)|(exfalso;simp_all;done)|skip))
 | (first|refine Aoz false ?_)
 | (first|(refine Apz (Atz (grt_ok _ ?_)) ?_;(exact sd);rintro _ _ ⟨rfl,rfl⟩)|(refine Apz (Atz (upTo_ok _ _)) ?_;rintro _ _ ⟨rfl,rfl⟩))
 | (refine Adz ⟨.inr rfl,_,rfl,?_⟩))<;>(try simp (disch:=omega) only [push_cast,seval,hz,hd,e])))
   ·have e:vI s vs=true:=Esz.2 ⟨hl,fun i hi=>hj i (by omega)⟩
    rw [e]
    (repeat' (first
 | (first|refine Agz ?_|refine Aaz ?_)
 | ((first|refine Ahz ?_|refine Abz ?_|refine Arz ?_);simp (disch:=omega) only [push_cast,seval])
 | ((first|refine Acz (fun h=>?_) (fun h=>?_))<;>(try simp only [h])<;>(try simp only [bitvec_to_nat] at h)<;>(try simp only [h])<;>(first|(exfalso;omega)|(exfalso;simp_all;done)|(simp (disch:=omega) only [push_cast,seval])|skip))
 | (refine Adz ⟨.inr rfl,_,rfl,?_⟩;(try simp (disch:=omega) only [push_cast,seval]))))
 ·have e:=vI_len hl
  have hl':¬ (vs.length:Int)=(s.length:Int):=by omega
  rw [e]
  (repeat' ((first
 | (first|refine Agz ?_|refine Aaz ?_)
 | (first|refine Ahz ?_|refine Abz ?_)
 | (first|refine Aoz false ?_)
 | (first|(refine Apz (Atz (C8z _ _ _ _ ?_ ?_)) ?_;(iterate 2 (exact sd));rintro _ _ ⟨rfl,rfl⟩))
 | (refine Adz ⟨.inr rfl,_,rfl,?_⟩))<;>(try simp (disch:=omega) only [push_cast,seval,hv,hl'])))

end Go.Proofs.YtjmcjjbhkiebkaaDoor
namespace Go.Proofs.YtjmcjjbhkiebkaaDoor
open VwM Vw Go

set_option maxHeartbeats 16000000 in
theorem cellHighC (w:World)(p z k:Int):Calls Tryd.prog 43 #[.agg #[.func (.func 41) #[] #[]],.agg #[.int .i64 p,.int .i64 z],.int .i64 k] w
  (fun e w'=>e=.returned (.int .i64 (IntKind.i64.wrap (p+IntKind.i64.wrap (IntKind.i64.wrap (z-1)-k))))∧Go.RowKit.Below w.heap.size w w'):=by
 go_enter Tryd.func43,Tryd.ntmps43
 go_wp2
 go_region_calls
 all_goals (try go_wp2)
 all_goals go_ret
 all_goals exact ⟨by simp [Act.put,IntKind.wrap_i64,Go.RowKit.wrap64],Go.RowKit.Below.drew (Go.RowKit.Below.alloc (Go.RowKit.Below.alloc (Go.RowKit.Below.refl _ _) (Nat.le_refl _) _) (Nat.le_of_lt (by show w.heap.size<(w.heap.push _).size;simp)) _)⟩
set_option maxHeartbeats 16000000 in
theorem cellLowC (w:World)(p z k:Int):Calls Tryd.prog 43 #[.agg #[.func (.func 42) #[] #[]],.agg #[.int .i64 p,.int .i64 z],.int .i64 k] w
  (fun e w'=>e=.returned (.int .i64 (IntKind.i64.wrap (p+k)))∧Go.RowKit.Below w.heap.size w w'):=by
 go_enter Tryd.func43,Tryd.ntmps43
 go_wp2
 go_region_calls
 all_goals (try go_wp2)
 all_goals go_ret
 all_goals exact ⟨by simp [Act.put,IntKind.wrap_i64],Go.RowKit.Below.drew (Go.RowKit.Below.alloc (Go.RowKit.Below.alloc (Go.RowKit.Below.refl _ _) (Nat.le_refl _) _) (Nat.le_of_lt (by show w.heap.size<(w.heap.push _).size;simp)) _)⟩

end Go.Proofs.YtjmcjjbhkiebkaaDoor
namespace Go.Proofs.YtjmcjjbhkiebkaaDoor
open VwM Vw Go

theorem cellArgs {C:Ctx}{f:Value}{p z k:Int}{vs:List Value}(hl:vs.length=3)(hd:DenP C [.agg [.val f],.agg [.int .i64 p,.int .i64 z],.int .i64 k] vs):vs.toArray=#[.agg #[f],.agg #[.int .i64 p,.int .i64 z],.int .i64 k]:=by
 rcases vs with _|⟨a,_|⟨b,_|⟨c,_|⟨d,t⟩⟩⟩⟩
 ·cases hl
 ·cases hl
 ·cases hl
 ·simp only [DenP,Den] at hd
  obtain ⟨⟨u,rfl,hs,h1⟩,⟨u',rfl,hs',h2⟩,rfl,_⟩:=hd
  obtain ⟨u⟩:=u
  obtain ⟨u'⟩:=u'
  rcases u with _|⟨x,_|⟨y,t⟩⟩
  ·cases hs
  ·rcases u' with _|⟨x',_|⟨y',_|⟨z',t'⟩⟩⟩
   ·cases hs'
   ·cases hs'
   ·simp only [DenP,Den] at h1 h2
    obtain ⟨rfl,_⟩:=h1
    obtain ⟨rfl,rfl,_⟩:=h2
    rfl
   ·simp at hs'
  ·simp at hs
 ·simp at hl
theorem cellH_ok (p z k:Int)(hb:(0≤p∧p≤1000)∧(0≤z∧z≤1000)∧0≤k∧k≤1000):PCall Tryd.prog 43 [.agg [.val (.func (.func 41) #[] #[])],.agg [.int .i64 p,.int .i64 z],.int .i64 k] (fun r=>r=.int .i64 (p+(z-1-k))):=by
 intro w B vs hB hG hl hd
 rw [cellArgs hl hd]
 refine (cellHighC w p z k).mono fun e w' ⟨he,hw⟩=>⟨.int .i64 (p+(z-1-k)),.int .i64 (p+(z-1-k)),rfl,?_,?_,hw⟩
 ·rw [he]
  congr 2
  simp only [IntKind.wrap_i64]
  omega
 ·simp [Den]
theorem cellL_ok (p z k:Int)(hb:(0≤p∧p≤1000)∧(0≤z∧z≤1000)∧0≤k∧k≤1000):PCall Tryd.prog 43 [.agg [.val (.func (.func 42) #[] #[])],.agg [.int .i64 p,.int .i64 z],.int .i64 k] (fun r=>r=.int .i64 (p+k)):=by
 intro w B vs hB hG hl hd
 rw [cellArgs hl hd]
 refine (cellLowC w p z k).mono fun e w' ⟨he,hw⟩=>⟨.int .i64 (p+k),.int .i64 (p+k),rfl,?_,?_,hw⟩
 ·rw [he]
  congr 2
  simp only [IntKind.wrap_i64]
  omega
 ·simp [Den]

end Go.Proofs.YtjmcjjbhkiebkaaDoor
namespace Go.Proofs.YtjmcjjbhkiebkaaDoor
open VwM Vw Go

theorem Epz (s:List Int)(n:Nat)(big al:Bool):PCall Tryd.prog 37 [.agg [.rows false (IL s) n,.bool big,.bool al]] (fun r=>r=if big=true then .agg [.val (.func (.func 41) #[] #[])] else .agg [.val (.func (.func 42) #[] #[])]):=by
 refine Awz l37_eq rfl ?_
 cases big with
 | false => (repeat' (first
 | (first|refine Agz ?_|refine Aaz ?_)
 | ((first|refine Ahz ?_|refine Abz ?_|refine Alz ?_);simp (disch:=omega) only [push_cast,seval,Fpz])
 | (refine Adz ⟨.inr rfl,_,rfl,?_⟩;(try simp (disch:=omega) only [push_cast,seval,Fpz]))))
 | true => (repeat' (first
 | (first|refine Agz ?_|refine Aaz ?_)
 | ((first|refine Ahz ?_|refine Abz ?_);simp (disch:=omega) only [push_cast,seval,Fpz])
 | (refine Adz ⟨.inr rfl,_,rfl,?_⟩;(try simp (disch:=omega) only [push_cast,seval,Fpz]))))


set_option maxHeartbeats 8000000 in
theorem writeH_ok (L:List Int)(m:Nat)(q x:Nat)(v:Int)(hL:L.length=m)(hb:(m≤100∧(1≤x∧x≤4)∧q+x≤m)∧0≤v∧v≤4294967296):BCall Tryd.prog 38 [.agg [.val (.func (.func 41) #[] #[])],.own 0 m 1,.agg [.int .i64 (q:Int),.int .i64 (x:Int)],.int .i64 v] [IL L] (fun r H'=>r=.tup []∧H'=[IL (wrK L true q x v x)]):=by
 subst hL
 obtain ⟨⟨hm,⟨hz1,hz2⟩,hq⟩,hv1,hv2⟩:=hb
 refine A5z (pins:=[0]) (pin:=1) l38_eq rfl rfl rfl ?_
 (repeat' (first
 | (first|refine Agz ?_|refine Aaz ?_)
 | ((first|refine Ahz ?_);simp (disch:=omega) only [push_cast,seval])
 | (refine Adz ⟨.inr rfl,[],[],_,by decide,rfl,?_⟩;(try simp (disch:=omega) only [push_cast,seval,↓Aiz,↓Aez,↓List.map_cons,↓List.map_nil]))))
 refine Avz (fun k:Nat=>mkS [(1,.own 0 L.length 1),(3,.int .i64 (shB v k)),(4,.ref 64 1 0),(6,.ref 96 2 0),(10,.int .i64 x),(11,.int .i64 k)] [(0,IL (wrK L true q x v k)),(64,[.val (.func (.func 41) #[] #[])]),(96,[.int .i64 q,.int .i64 x])])
  (fun k=>k≤x) (fun k=>x-k) 0 (Nat.zero_le _) ?_ ?_
 ·have e0:shB v 0=v:=rfl
  have e1:wrK L true q x v 0=L:=rfl
  (refine Sub.of_lists ?_ ?_ ?_ ?_ ?_<;>simp [Vw.mkS,Vw.lk,Vw.hk,AV.inn,innL,Akz,Ajz,Amz,-List.map_set,-List.getD_eq_getElem?_getD,e0,e1])
 ·intro k hk
  have b1:=Cnz hv1 k
  have hwl:=Bez L true q x v k
  by_cases hlt:k<x
  ·have b2:=Fuz hv1 k
   have hq2:(0≤(q:Int)∧(q:Int)≤1000)∧(0≤(x:Int)∧(x:Int)≤1000)∧0≤(k:Int)∧(k:Int)≤1000:=by omega
   have e1:(shB v k).tmod 256=byt v k:=rfl
   have e2:(shB v k).tdiv 256=shB v (k+1):=rfl
   obtain ⟨y,hy⟩:∃ y:Nat,q+(x-1-k)=y:=⟨_,rfl⟩
   have hyi:(q:Int)+((x:Int)-1-(k:Int))=(y:Int):=by omega
   have hyl:y<L.length:=by omega
   have b3:=Bqz (x:=shB v k) (y:=256) (by omega) b1.1
   rw [e2] at b3
   have e3:wrK L true q x v (k+1)=(wrK L true q x v k).set y (byt v k):=by
    simp only [wrK,plc,if_true]
    rw [hy]
   generalize hW:wrK L true q x v k=W at *
   (repeat' ((first
 | (first|refine Agz ?_|refine Aaz ?_)
 | (first|refine Ahz ?_|refine Abz ?_|refine Alz ?_)
 | ((first|refine Acz (fun h=>?_) (fun h=>?_))<;>(try simp only [h])<;>(try simp only [bitvec_to_nat] at h)<;>(try simp only [h])<;>(first|(exfalso;omega)|(exfalso;simp_all;done)|skip))
 | (first|refine Aoz false ?_)
 | (first|(refine Apz (Atz (cellH_ok _ _ _ ?_)) ?_;(exact sd);rintro _ _ ⟨rfl,rfl⟩))
 | (refine Adz ⟨.inr rfl,[],[],_,by decide,rfl,?_⟩;(try simp (disch:=omega) only [push_cast,seval,↓Aiz,↓Aez,↓List.map_cons,↓List.map_nil,e1,e2,hyi,hwl,Bdz,List.length_map,Int.toNat_natCast])))<;>(try simp (disch:=omega) only [push_cast,seval,e1,e2,hyi,hwl,Bdz,List.length_map,Int.toNat_natCast])))
   refine ⟨k+1,by omega,by omega,?_⟩
   (refine Sub.of_lists ?_ ?_ ?_ ?_ ?_<;>simp [Vw.mkS,Vw.lk,Vw.hk,AV.inn,innL,Akz,Ajz,Amz,-List.map_set,-List.getD_eq_getElem?_getD,e3,hW])
  ·have e:k=x:=by omega
   subst e
   (repeat' (first
 | (first|refine Agz ?_|refine Aaz ?_)
 | ((first|refine Ahz ?_|refine Abz ?_|refine Arz ?_);simp (disch:=omega) only [push_cast,seval])
 | ((first|refine Acz (fun h=>?_) (fun h=>?_))<;>(try simp only [h])<;>(try simp only [bitvec_to_nat] at h)<;>(try simp only [h])<;>(first|(exfalso;omega)|(exfalso;simp_all;done)|(simp (disch:=omega) only [push_cast,seval])|skip))
 | (refine Adz ⟨.inr rfl,[],[],_,by decide,rfl,?_⟩;(try simp (disch:=omega) only [push_cast,seval,↓Aiz,↓Aez,↓List.map_cons,↓List.map_nil]))))
   all_goals exact ⟨[],[],[],⟨by decide,by simp⟩,rfl,by simp,rfl,rfl⟩
set_option maxHeartbeats 8000000 in
theorem writeL_ok (L:List Int)(m:Nat)(q x:Nat)(v:Int)(hL:L.length=m)(hb:(m≤100∧(1≤x∧x≤4)∧q+x≤m)∧0≤v∧v≤4294967296):BCall Tryd.prog 38 [.agg [.val (.func (.func 42) #[] #[])],.own 0 m 1,.agg [.int .i64 (q:Int),.int .i64 (x:Int)],.int .i64 v] [IL L] (fun r H'=>r=.tup []∧H'=[IL (wrK L false q x v x)]):=by
 subst hL
 obtain ⟨⟨hm,⟨hz1,hz2⟩,hq⟩,hv1,hv2⟩:=hb
 refine A5z (pins:=[0]) (pin:=1) l38_eq rfl rfl rfl ?_
 (repeat' (first
 | (first|refine Agz ?_|refine Aaz ?_)
 | ((first|refine Ahz ?_);simp (disch:=omega) only [push_cast,seval])
 | (refine Adz ⟨.inr rfl,[],[],_,by decide,rfl,?_⟩;(try simp (disch:=omega) only [push_cast,seval,↓Aiz,↓Aez,↓List.map_cons,↓List.map_nil]))))
 refine Avz (fun k:Nat=>mkS [(1,.own 0 L.length 1),(3,.int .i64 (shB v k)),(4,.ref 64 1 0),(6,.ref 96 2 0),(10,.int .i64 x),(11,.int .i64 k)] [(0,IL (wrK L false q x v k)),(64,[.val (.func (.func 42) #[] #[])]),(96,[.int .i64 q,.int .i64 x])])
  (fun k=>k≤x) (fun k=>x-k) 0 (Nat.zero_le _) ?_ ?_
 ·have e0:shB v 0=v:=rfl
  have e1:wrK L false q x v 0=L:=rfl
  (refine Sub.of_lists ?_ ?_ ?_ ?_ ?_<;>simp [Vw.mkS,Vw.lk,Vw.hk,AV.inn,innL,Akz,Ajz,Amz,-List.map_set,-List.getD_eq_getElem?_getD,e0,e1])
 ·intro k hk
  have b1:=Cnz hv1 k
  have hwl:=Bez L false q x v k
  by_cases hlt:k<x
  ·have b2:=Fuz hv1 k
   have hq2:(0≤(q:Int)∧(q:Int)≤1000)∧(0≤(x:Int)∧(x:Int)≤1000)∧0≤(k:Int)∧(k:Int)≤1000:=by omega
   have e1:(shB v k).tmod 256=byt v k:=rfl
   have e2:(shB v k).tdiv 256=shB v (k+1):=rfl
   obtain ⟨y,hy⟩:∃ y:Nat,q+k=y:=⟨_,rfl⟩
   have hyi:(q:Int)+(k:Int)=(y:Int):=by omega
   have hyl:y<L.length:=by omega
   have b3:=Bqz (x:=shB v k) (y:=256) (by omega) b1.1
   rw [e2] at b3
   have e3:wrK L false q x v (k+1)=(wrK L false q x v k).set y (byt v k):=by
    simp only [wrK,plc,Bool.false_eq_true,if_false]
    rw [hy]
   generalize hW:wrK L false q x v k=W at *
   (repeat' ((first
 | (first|refine Agz ?_|refine Aaz ?_)
 | (first|refine Ahz ?_|refine Abz ?_|refine Alz ?_)
 | ((first|refine Acz (fun h=>?_) (fun h=>?_))<;>(try simp only [h])<;>(try simp only [bitvec_to_nat] at h)<;>(try simp only [h])<;>(first|(exfalso;omega)|(exfalso;simp_all;done)|skip))
 | (first|refine Aoz false ?_)
 | (first|(refine Apz (Atz (cellL_ok _ _ _ ?_)) ?_;(exact sd);rintro _ _ ⟨rfl,rfl⟩))
 | (refine Adz ⟨.inr rfl,[],[],_,by decide,rfl,?_⟩;(try simp (disch:=omega) only [push_cast,seval,↓Aiz,↓Aez,↓List.map_cons,↓List.map_nil,e1,e2,hyi,hwl,Bdz,List.length_map,Int.toNat_natCast])))<;>(try simp (disch:=omega) only [push_cast,seval,e1,e2,hyi,hwl,Bdz,List.length_map,Int.toNat_natCast])))
   refine ⟨k+1,by omega,by omega,?_⟩
   (refine Sub.of_lists ?_ ?_ ?_ ?_ ?_<;>simp [Vw.mkS,Vw.lk,Vw.hk,AV.inn,innL,Akz,Ajz,Amz,-List.map_set,-List.getD_eq_getElem?_getD,e3,hW])
  ·have e:k=x:=by omega
   subst e
   (repeat' (first
 | (first|refine Agz ?_|refine Aaz ?_)
 | ((first|refine Ahz ?_|refine Abz ?_|refine Arz ?_);simp (disch:=omega) only [push_cast,seval])
 | ((first|refine Acz (fun h=>?_) (fun h=>?_))<;>(try simp only [h])<;>(try simp only [bitvec_to_nat] at h)<;>(try simp only [h])<;>(first|(exfalso;omega)|(exfalso;simp_all;done)|(simp (disch:=omega) only [push_cast,seval])|skip))
 | (refine Adz ⟨.inr rfl,[],[],_,by decide,rfl,?_⟩;(try simp (disch:=omega) only [push_cast,seval,↓Aiz,↓Aez,↓List.map_cons,↓List.map_nil]))))
   all_goals exact ⟨[],[],[],⟨by decide,by simp⟩,rfl,by simp,rfl,rfl⟩


set_option maxHeartbeats 8000000 in
theorem sbytes_ok (v:Int)(x:Nat)(big:Bool)(hb:x≤4∧0≤v∧v≤4294967296):BCall Tryd.prog 29 [.int .i64 v,.int .i64 (x:Int),.bool big] [] (OI (byO v x big)):=by
 obtain ⟨hx,hv1,hv2⟩:=hb
 refine A5z (pins:=[]) (pin:=0) l29_eq rfl rfl rfl ?_
 (repeat' (first
 | (first|refine Agz ?_|refine Aaz ?_)
 | ((first|refine Ahz ?_);simp (disch:=omega) only [push_cast,seval])
 | (refine Adz ⟨.inr rfl,[144],[],_,by decide,rfl,?_⟩;(try simp (disch:=omega) only [push_cast,seval,↓Aiz,↓Aez,↓List.map_cons,↓List.map_nil]))))
 refine Avz (fun k:Nat=>mkS [(0,.int .i64 (shB v k)),(1,.int .i64 x),(2,.bool big),(7,.own 144 k 1),(8,.int .i64 k)] [(144,IL (byL v k))])
  (fun k=>k≤x) (fun k=>x-k) 0 (Nat.zero_le _) ?_ ?_
 ·have e0:shB v 0=v:=rfl
  have e1:byL v 0=[]:=rfl
  (refine Sub.of_lists ?_ ?_ ?_ ?_ ?_<;>simp [Vw.mkS,Vw.lk,Vw.hk,AV.inn,innL,Akz,Ajz,Amz,-List.map_set,-List.getD_eq_getElem?_getD,e0,e1])
 ·intro k hk
  have b1:=Cnz hv1 k
  have hl:=byL_length v k
  by_cases hlt:k<x
  ·have e2:(shB v k).tdiv 256=shB v (k+1):=rfl
   have e3:=byL_succ v k
   have b3:=Bqz (x:=shB v k) (y:=256) (by omega) b1.1
   have b4:=Fuz hv1 k
   have e1:(shB v k).tmod 256=byt v k:=rfl
   rw [e2] at b3
   rw [e1] at e3
   generalize hB:byL v k=L at *
   (repeat' (first
 | (first|refine Agz ?_|refine Aaz ?_)
 | ((first|refine Ahz ?_|refine Abz ?_|refine Alz ?_);simp (disch:=omega) only [push_cast,seval,e1,e2,hl])
 | ((first|refine Acz (fun h=>?_) (fun h=>?_))<;>(try simp only [h])<;>(try simp only [bitvec_to_nat] at h)<;>(try simp only [h])<;>(first|(exfalso;omega)|(exfalso;simp_all;done)|(simp (disch:=omega) only [push_cast,seval,e1,e2,hl])|skip))
 | (refine Adz ⟨.inr rfl,[144],[],_,by decide,rfl,?_⟩;(try simp (disch:=omega) only [push_cast,seval,↓Aiz,↓Aez,↓List.map_cons,↓List.map_nil,e1,e2,hl]))))
   refine ⟨k+1,by omega,by omega,?_⟩
   (refine Sub.of_lists ?_ ?_ ?_ ?_ ?_<;>simp [Vw.mkS,Vw.lk,Vw.hk,AV.inn,innL,Akz,Ajz,Amz,-List.map_set,-List.getD_eq_getElem?_getD,e3,hB])
  ·have e:k=x:=by omega
   subst e
   cases big with
 | false =>
    have e0:=byO_low v k
    (repeat' (first
 | (first|refine Agz ?_|refine Aaz ?_)
 | ((first|refine Ahz ?_|refine Abz ?_|refine Alz ?_|refine Arz ?_);simp (disch:=omega) only [push_cast,seval,hl])
 | ((first|refine Acz (fun h=>?_) (fun h=>?_))<;>(try simp only [h])<;>(try simp only [bitvec_to_nat] at h)<;>(try simp only [h])<;>(first|(exfalso;omega)|(exfalso;simp_all;done)|(simp (disch:=omega) only [push_cast,seval,hl])|skip))
 | (refine Adz ⟨.inr rfl,[144],[],_,by decide,rfl,?_⟩;(try simp (disch:=omega) only [push_cast,seval,↓Aiz,↓Aez,↓List.map_cons,↓List.map_nil,hl]))))
    all_goals (rw [e0];simp [OI,hl])
 | true =>
    have e0:=byO_high v k
    have hk9:k≤1099511627776:=by omega
    (repeat' ((first
 | (first|refine Agz ?_|refine Aaz ?_)
 | (first|refine Ahz ?_|refine Abz ?_|refine Arz ?_)
 | ((first|refine Acz (fun h=>?_) (fun h=>?_))<;>(try simp only [h])<;>(try simp only [bitvec_to_nat] at h)<;>(try simp only [h])<;>(first|(exfalso;omega)|(exfalso;simp_all;done)|skip))
 | (first|refine Aoz false ?_)
 | (first|(refine Apz (sreversed_ok _ _ ?_ ?_) ?_;(iterate 2 (exact sd));rintro _ _ ⟨rfl,rfl⟩))
 | (refine Adz ⟨.inr rfl,[144],[],_,by decide,rfl,?_⟩;(try simp (disch:=omega) only [push_cast,seval,↓Aiz,↓Aez,↓List.map_cons,↓List.map_nil,hl]);(first|done|(show AV.own _ _ _=_∧_)))
 | (refine Adz ⟨.inr rfl,[288],[],_,by decide,rfl,?_⟩;(try simp (disch:=omega) only [push_cast,seval,↓Aiz,↓Aez,↓List.map_cons,↓List.map_nil,hl]);(first|done|(show AV.own _ _ _=_∧_)))
 | (refine Adz ⟨.inr rfl,[304],[],_,by decide,rfl,?_⟩;(try simp (disch:=omega) only [push_cast,seval,↓Aiz,↓Aez,↓List.map_cons,↓List.map_nil,hl]);(first|done|(show AV.own _ _ _=_∧_)))
 | (refine Adz ⟨.inr rfl,[384],[],_,by decide,rfl,?_⟩;(try simp (disch:=omega) only [push_cast,seval,↓Aiz,↓Aez,↓List.map_cons,↓List.map_nil,hl]);(first|done|(show AV.own _ _ _=_∧_))))<;>(try simp (disch:=omega) only [push_cast,seval,hl])))
    all_goals (rw [e0];simp [OI,hl])

end Go.Proofs.YtjmcjjbhkiebkaaDoor
