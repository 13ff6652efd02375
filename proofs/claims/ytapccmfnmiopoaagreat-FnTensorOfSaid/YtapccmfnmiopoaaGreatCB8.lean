/- Texts of this verifier. -/
import Derived.Test.YtapccmfnmiopoaaGreatCB7
import Derived.Test.YtapccmfnmiopoaaGreatCM1
import Derived.Test.YtapccmfnmiopoaaGreatCW3
import Derived.Test.YtapccmfnmiopoaaGreatChecked
import Derived.RangeFuncBox
import Derived.RangeFuncLeaves
import Derived.Shelf.Abstract
import Derived.WalkKit
import Derived.OwnWalkIn
import Derived.TacticsInMore
import Derived.LoopNIn
import Derived.LoopIn
set_option maxHeartbeats 4000000
set_option linter.unusedSimpArgs false
set_option linter.unusedVariables false
set_option maxRecDepth 4000
namespace Go.Proofs.YtapccmfnmiopoaaGreat
open VwM Vw Go

def exP (ts:List Tn)(ls:List (List Int))(out:List Int):Option (List Int):=if (decide (1≤ts.length)&&decide (ts.length≤3)&&decide (ls.length=ts.length)&&allI out 0 4)=true then agO ts ls else none
theorem exP_no {ts:List Tn}{ls:List (List Int)}{out:List Int}(h:(decide (1≤ts.length)&&decide (ts.length≤3)&&decide (ls.length=ts.length)&&allI out 0 4)=false):exP ts ls out=none:=by unfold exP;rw [h];rfl
theorem exP_yes {ts:List Tn}{ls:List (List Int)}{out:List Int}(h:(decide (1≤ts.length)&&decide (ts.length≤3)&&decide (ls.length=ts.length)&&allI out 0 4)=true):exP ts ls out=agO ts ls:=by unfold exP;rw [h];rfl
theorem Cez {α:Type}{e:List Int}(h:e.length=5)(a b:α):(if e.length=5 then a else b)=a:=if_pos h


set_option maxHeartbeats 16000000 in
theorem Ckz (ts:List Tn)(ls:List (List Int))(out:List Int)(n m q:Nat)(hn:ts.length=n)(hm:ls.length=m)(hq:out.length=q)(hb:n≤1099511627776∧m≤1099511627776∧q≤1099511627776∧(∀ t∈ts,t.1.length≤1099511627776∧t.2.length≤1099511627776)∧∀ l∈ls,l.length≤1099511627776) :
  PCall Tryz.prog 53 [.rows false (TL false ts) n,.rows false (LL false ls) m,.rows false (IL out) q] (fun r=>∃ g:List Int,((exP ts ls out).getD g).length=5∧r=.tup [.agg (IL ((exP ts ls out).getD g)),.bool (exP ts ls out).isSome]):=by
 subst hn hm hq
 obtain ⟨hb0,hb1,hb2,hb3,hb4⟩:=hb
 have hb3':∀ (a b:List Int),(a,b)∈ts→a.length≤1099511627776∧b.length≤1099511627776:=fun a b h=>hb3 _ h
 refine Axz l53_eq rfl ?_
 have htl:=Eyz false ts
 have hll:=Dsz false ls
 have s0:=set5 (e:=ext0) rfl
 have l0:=Ciz
 by_cases h1:(ts.length:Int)<1
 ·have hno:=exP_no (ts:=ts) (ls:=ls) (out:=out) (by simp;omega)
  rw [hno]
  (repeat' ((first
 | (first|refine Afz ?_|refine Aaz ?_)
 | (first|refine Agz ?_|refine Aez ?_)
 | (first|refine Anz false ?_)
 | (first|(refine Akz (Apz (Eaz)) ?_;rintro _ _ ⟨rfl,rfl⟩))
 | (first|refine Acz ⟨.inr rfl,_,rfl,?_⟩|refine Acz ⟨.inr rfl,_,Buz rfl rfl (by assumption) rfl,?_⟩))<;>(try simp (disch:=omega) only [push_cast,seval,h1,s0,l0,Arz,Amz])))
  all_goals exact ⟨ext0,rfl,rfl⟩
 ·by_cases h2:(3:Int)<(ts.length:Int)
  ·have hno:=exP_no (ts:=ts) (ls:=ls) (out:=out) (by simp;omega)
   rw [hno]
   (repeat' ((first
 | (first|refine Afz ?_|refine Aaz ?_)
 | (first|refine Agz ?_|refine Aez ?_)
 | (first|refine Anz false ?_)
 | (first|(refine Akz (Apz (Eaz)) ?_;rintro _ _ ⟨rfl,rfl⟩))
 | (first|refine Acz ⟨.inr rfl,_,rfl,?_⟩|refine Acz ⟨.inr rfl,_,Buz rfl rfl (by assumption) rfl,?_⟩))<;>(try simp (disch:=omega) only [push_cast,seval,h1,h2,s0,l0,Arz,Amz])))
   all_goals exact ⟨ext0,rfl,rfl⟩
  ·by_cases h3:ls.length=ts.length
   ·have h3':(ls.length:Int)=ts.length:=by omega
    cases h4:allI out 0 4 with
    | false =>
     have hno:=exP_no (ts:=ts) (ls:=ls) (out:=out) (by simp [h4])
     rw [hno]
     (repeat' ((first
 | (first|refine Afz ?_|refine Aaz ?_)
 | (first|refine Agz ?_|refine Aez ?_)
 | (first|refine Anz false ?_)
 | (first|(refine Akz (Apz (J0z _ _ ?_ ?_)) ?_;(iterate 2 (exact sd));rintro _ _ ⟨rfl,rfl⟩)|(refine Akz (Apz (Eaz)) ?_;rintro _ _ ⟨rfl,rfl⟩))
 | ((first | refine Acz ⟨.inr rfl,_,rfl,?_⟩ | refine Acz ⟨.inr rfl,_,Buz rfl rfl (by assumption) rfl,?_⟩); (try simp (disch := omega) only [push_cast,seval,h1,h2,h3',h4,s0,l0,Arz,Amz])))<;>(try simp (disch:=omega) only [push_cast,seval,h1,h2,h3',h4,s0,l0,Arz,Amz])))
     all_goals exact ⟨ext0,rfl,rfl⟩
    | true =>
     rw [exP_yes (by simp [h3,h4];omega)]
     have q1:ls.length=ts.length∧ts.length≤1099511627776∧(∀ t∈ts,t.1.length≤1099511627776∧t.2.length≤1099511627776)∧∀ l∈ls,l.length≤1099511627776:=⟨h3,hb0,hb3,hb4⟩
     (repeat' ((first
 | (first|refine Afz ?_|refine Aaz ?_)
 | (first|refine Agz ?_|refine Aez ?_|refine Aoz ?_)
 | (first|refine Anz false ?_)
 | (first|(refine Akz (Apz (J0z _ _ ?_ ?_)) ?_;(iterate 2 (exact sd));rintro _ _ ⟨rfl,rfl⟩)|(refine Akz (Apz (agreed_ok _ _ _ _ ?_ ?_ ?_)) ?_;(iterate 3 (exact sd));rintro _ _ ⟨⟨g,hg5,rfl⟩,rfl⟩))
 | ((first | refine Acz ⟨.inr rfl,_,rfl,?_⟩ | refine Acz ⟨.inr rfl,_,Buz rfl rfl (by assumption) rfl,?_⟩); (try simp (disch := omega) only [push_cast,seval,h1,h2,h3',h4,set5,tak5,Cez,Arz,Amz])))<;>(try simp (disch:=omega) only [push_cast,seval,h1,h2,h3',h4,set5,tak5,Cez,Arz,Amz])))
     all_goals exact ⟨g,hg5,rfl⟩
   ·have h3':¬ (ls.length:Int)=ts.length:=by omega
    have hno:=exP_no (ts:=ts) (ls:=ls) (out:=out) (by simp [h3])
    rw [hno]
    (repeat' ((first
 | (first|refine Afz ?_|refine Aaz ?_)
 | (first|refine Agz ?_|refine Aez ?_)
 | (first|refine Anz false ?_)
 | (first|(refine Akz (Apz (Eaz)) ?_;rintro _ _ ⟨rfl,rfl⟩))
 | (first|refine Acz ⟨.inr rfl,_,rfl,?_⟩|refine Acz ⟨.inr rfl,_,Buz rfl rfl (by assumption) rfl,?_⟩))<;>(try simp (disch:=omega) only [push_cast,seval,h1,h2,h3',s0,l0,Arz,Amz])))
    all_goals exact ⟨ext0,rfl,rfl⟩
set_option maxHeartbeats 16000000 in
theorem D0z (ls:List (List Int))(n:Nat)(hn:ls.length=n)(hb:n≤1099511627776∧(∀ l∈ls,l.length≤1099511627776)∧∀ l∈ls,∀ x∈l,0≤x∧x≤4):BCall Tryz.prog 54 [.rows false (LL false ls) n] [] (OI (lbS ls.flatten)):=by
 subst hn
 obtain ⟨hb0,hb1,hb2⟩:=hb
 have hll:=Dsz false ls
 refine Awz (pins:=[]) (pin:=0) l54_eq rfl rfl rfl ?_
 (repeat' ((first
 | (first|refine Afz ?_|refine Aaz ?_)
 | (first|refine Agz ?_)
 | (first|(refine A8z (by kernel_rfl) (by (simp (disch:=omega) only [push_cast,seval,Amz])<;>rfl) ?_)|(refine A1z (t:=23) (sz:=1) (zs:=[.int .i64 0]) (by kernel_rfl) (by (simp (disch:=omega) only [push_cast,seval,Amz])<;>rfl) (by (simp (disch:=omega) only [push_cast,seval,Amz])<;>rfl) (by first|assumption|omega|(constructor<;>omega)) (by first|((simp (disch:=omega) only [push_cast,seval,Amz]);done)|((simp (disch:=omega) only [push_cast,seval,Amz]);exact ⟨rfl,by omega⟩)) ?_)|(refine A1z (t:=50) (sz:=2) (zs:=[.int .i64 0,.int .i64 0]) (by kernel_rfl) (by (simp (disch:=omega) only [push_cast,seval,Amz])<;>rfl) (by (simp (disch:=omega) only [push_cast,seval,Amz])<;>rfl) (by first|assumption|omega|(constructor<;>omega)) (by first|((simp (disch:=omega) only [push_cast,seval,Amz]);done)|((simp (disch:=omega) only [push_cast,seval,Amz]);exact ⟨rfl,by omega⟩)) ?_)|(refine Biz (len:=5) (by kernel_rfl) (by (simp (disch:=omega) only [push_cast,seval,Amz])<;>rfl) (by (simp (disch:=omega) only [push_cast,seval,Amz])<;>rfl) (by first|assumption|omega|(constructor<;>omega)) (by first|rfl|((simp (disch:=omega) only [push_cast,seval,Amz]);rfl)) ?_))
 | (refine Acz ⟨.inr rfl,[576],[],_,by decide,rfl,?_⟩;(try simp (disch:=omega) only [push_cast,seval,↓Adz,↓Abz,↓List.map_cons,↓List.map_nil,Amz])))<;>(try simp (disch:=omega) only [push_cast,seval,Amz])))
 have hm0:(mkL []).map AV.bool=[AV.bool false,AV.bool false,AV.bool false,AV.bool false,AV.bool false]:=mkL_nil
 refine A0z (fun i:Nat=>mkS [(2,.val (.slice none 0 0)),(3,.ref 48 5 0),(11,.rows false (LL false ls) ls.length),(12,.int .i64 ls.length),(13,.int .i64 i)] [(48,(mkL (ls.take i).flatten).map AV.bool)]) (fun i=>i≤ls.length) (fun i=>ls.length-i) 0 (Nat.zero_le _) ?_ ?_
 ·(refine Sub.of_lists ?_ ?_ ?_ ?_ ?_<;>simp [Vw.mkS,Vw.lk,Vw.hk,AV.inn,innL,Ajz,Ahz,Alz,-List.map_set,-List.getD_eq_getElem?_getD,Amz,hm0])
 ·intro i hi
  have hml:=Jyz (ls.take i).flatten
  by_cases hlt:i<ls.length
  ·obtain ⟨l,hl⟩:=Hmz hlt
   have hbl:=hb1 _ (List.mem_of_getElem? hl)
   have hlx:=hb2 _ (List.mem_of_getElem? hl)
   have hd2:=K8z false ls i hl
   have hil2:i+1≤ls.length:=by omega
   have hfl:(ls.take (i+1)).flatten=(ls.take i).flatten++l:=by rw [List.take_add_one,hl];simp
   (repeat' ((first
 | (first|refine Afz ?_|refine Aaz ?_)
 | (first|refine Agz ?_|refine Aez ?_|refine Aoz ?_)
 | ((first|refine Aiz (fun h=>?_) (fun h=>?_))<;>(try simp only [h])<;>(try simp only [bitvec_to_nat] at h)<;>(try simp only [h])<;>(first|(exfalso;omega)|(exfalso;simp_all;done)|skip))
 | (first|(refine A8z (by kernel_rfl) (by (simp (disch:=omega) only [push_cast,seval,hd2,hll,hil2,Amz])<;>rfl) ?_)|(refine A1z (t:=23) (sz:=1) (zs:=[.int .i64 0]) (by kernel_rfl) (by (simp (disch:=omega) only [push_cast,seval,hd2,hll,hil2,Amz])<;>rfl) (by (simp (disch:=omega) only [push_cast,seval,hd2,hll,hil2,Amz])<;>rfl) (by first|assumption|omega|(constructor<;>omega)) (by first|((simp (disch:=omega) only [push_cast,seval,hd2,hll,hil2,Amz]);done)|((simp (disch:=omega) only [push_cast,seval,hd2,hll,hil2,Amz]);exact ⟨rfl,by omega⟩)) ?_)|(refine A1z (t:=50) (sz:=2) (zs:=[.int .i64 0,.int .i64 0]) (by kernel_rfl) (by (simp (disch:=omega) only [push_cast,seval,hd2,hll,hil2,Amz])<;>rfl) (by (simp (disch:=omega) only [push_cast,seval,hd2,hll,hil2,Amz])<;>rfl) (by first|assumption|omega|(constructor<;>omega)) (by first|((simp (disch:=omega) only [push_cast,seval,hd2,hll,hil2,Amz]);done)|((simp (disch:=omega) only [push_cast,seval,hd2,hll,hil2,Amz]);exact ⟨rfl,by omega⟩)) ?_)|(refine Biz (len:=5) (by kernel_rfl) (by (simp (disch:=omega) only [push_cast,seval,hd2,hll,hil2,Amz])<;>rfl) (by (simp (disch:=omega) only [push_cast,seval,hd2,hll,hil2,Amz])<;>rfl) (by first|assumption|omega|(constructor<;>omega)) (by first|rfl|((simp (disch:=omega) only [push_cast,seval,hd2,hll,hil2,Amz]);rfl)) ?_))
 | (refine Acz ⟨.inr rfl,[576],[],_,by decide,rfl,?_⟩;(try simp (disch:=omega) only [push_cast,seval,↓Adz,↓Abz,↓List.map_cons,↓List.map_nil,hd2,hll,hil2,Amz])))<;>(try simp (disch:=omega) only [push_cast,seval,hd2,hll,hil2,Amz])))
   refine A0z (fun j:Nat=>mkS [(2,.val (.slice none 0 0)),(3,.ref 48 5 0),(11,.rows false (LL false ls) ls.length),(12,.int .i64 ls.length),(13,.int .i64 i),(17,RI l),(18,.int .i64 l.length),(19,.int .i64 j)] [(48,(mkL ((ls.take i).flatten++l.take j)).map AV.bool)]) (fun j=>j≤l.length) (fun j=>l.length-j) 0 (Nat.zero_le _) ?_ ?_
   ·(refine Sub.of_lists ?_ ?_ ?_ ?_ ?_<;>simp [Vw.mkS,Vw.lk,Vw.hk,AV.inn,innL,Ajz,Ahz,Alz,-List.map_set,-List.getD_eq_getElem?_getD,Amz,Csz])
   ·intro j hj
    have hml2:=Jyz ((ls.take i).flatten++l.take j)
    by_cases hjl:j<l.length
    ·have hk:=hlx _ (Bcz (xs:=l) hjl)
     obtain ⟨c,hc⟩:∃ c:Nat,l.getD j 0=c:=⟨(l.getD j 0).toNat,by omega⟩
     have hc5:c<5:=by omega
     have hs:=mkL_set (L:=(ls.take i).flatten++l.take j) (c:=c) (by omega)
     rw [Int.toNat_natCast,List.append_assoc,← hc,← A9z l j hjl] at hs
     (repeat' ((first
 | (first|refine Afz ?_|refine Aaz ?_)
 | (first|refine Agz ?_|refine Aez ?_|refine Aoz ?_)
 | ((first|refine Aiz (fun h=>?_) (fun h=>?_))<;>(try simp only [h])<;>(try simp only [bitvec_to_nat] at h)<;>(try simp only [h])<;>(first|(exfalso;omega)|(exfalso;simp_all;done)|skip))
 | (first|(refine A8z (by kernel_rfl) (by (simp (disch:=omega) only [push_cast,seval,hd2,hll,hil2,hc,hml2,List.length_map,Amz])<;>rfl) ?_)|(refine A1z (t:=23) (sz:=1) (zs:=[.int .i64 0]) (by kernel_rfl) (by (simp (disch:=omega) only [push_cast,seval,hd2,hll,hil2,hc,hml2,List.length_map,Amz])<;>rfl) (by (simp (disch:=omega) only [push_cast,seval,hd2,hll,hil2,hc,hml2,List.length_map,Amz])<;>rfl) (by first|assumption|omega|(constructor<;>omega)) (by first|((simp (disch:=omega) only [push_cast,seval,hd2,hll,hil2,hc,hml2,List.length_map,Amz]);done)|((simp (disch:=omega) only [push_cast,seval,hd2,hll,hil2,hc,hml2,List.length_map,Amz]);exact ⟨rfl,by omega⟩)) ?_)|(refine A1z (t:=50) (sz:=2) (zs:=[.int .i64 0,.int .i64 0]) (by kernel_rfl) (by (simp (disch:=omega) only [push_cast,seval,hd2,hll,hil2,hc,hml2,List.length_map,Amz])<;>rfl) (by (simp (disch:=omega) only [push_cast,seval,hd2,hll,hil2,hc,hml2,List.length_map,Amz])<;>rfl) (by first|assumption|omega|(constructor<;>omega)) (by first|((simp (disch:=omega) only [push_cast,seval,hd2,hll,hil2,hc,hml2,List.length_map,Amz]);done)|((simp (disch:=omega) only [push_cast,seval,hd2,hll,hil2,hc,hml2,List.length_map,Amz]);exact ⟨rfl,by omega⟩)) ?_)|(refine Biz (len:=5) (by kernel_rfl) (by (simp (disch:=omega) only [push_cast,seval,hd2,hll,hil2,hc,hml2,List.length_map,Amz])<;>rfl) (by (simp (disch:=omega) only [push_cast,seval,hd2,hll,hil2,hc,hml2,List.length_map,Amz])<;>rfl) (by first|assumption|omega|(constructor<;>omega)) (by first|rfl|((simp (disch:=omega) only [push_cast,seval,hd2,hll,hil2,hc,hml2,List.length_map,Amz]);rfl)) ?_))
 | (refine Acz ⟨.inr rfl,[576],[],_,by decide,rfl,?_⟩; (try simp (disch := omega) only [push_cast,seval,↓Adz,↓Abz,↓List.map_cons,↓List.map_nil,hd2,hll,hil2,hc,hml2,List.length_map,Amz])))<;>(try simp (disch:=omega) only [push_cast,seval,hd2,hll,hil2,hc,hml2,List.length_map,Amz])))
     refine ⟨j+1,by omega,by omega,?_⟩
     have hs2:=congrArg (List.map AV.bool) hs
     rw [List.map_set] at hs2
     (refine Sub.of_lists ?_ ?_ ?_ ?_ ?_<;>simp [Vw.mkS,Vw.lk,Vw.hk,AV.inn,innL,Ajz,Ahz,Alz,-List.map_set,-List.getD_eq_getElem?_getD,hs2,Amz,Csz])
    ·have ej:j=l.length:=by omega
     have e2:(ls.take i).flatten++l.take j=(ls.take (i+1)).flatten:=by rw [hfl,List.take_of_length_le (l:=l) (by omega)]
     rw [e2] at hml2 ⊢
     have hjx:¬ (j:Int)<l.length:=by omega
     (repeat' ((first
 | (first|refine Afz ?_|refine Aaz ?_)
 | (first|refine Agz ?_|refine Aez ?_|refine Atz ?_)
 | ((first|refine Aiz (fun h=>?_) (fun h=>?_))<;>(try simp only [h])<;>(try simp only [bitvec_to_nat] at h)<;>(try simp only [h])<;>(first|(exfalso;omega)|(exfalso;simp_all;done)|skip))
 | (first|(refine A8z (by kernel_rfl) (by (simp (disch:=omega) only [push_cast,seval,hd2,hll,hil2,hml2,List.length_map,Amz])<;>rfl) ?_)|(refine A1z (t:=23) (sz:=1) (zs:=[.int .i64 0]) (by kernel_rfl) (by (simp (disch:=omega) only [push_cast,seval,hd2,hll,hil2,hml2,List.length_map,Amz])<;>rfl) (by (simp (disch:=omega) only [push_cast,seval,hd2,hll,hil2,hml2,List.length_map,Amz])<;>rfl) (by first|assumption|omega|(constructor<;>omega)) (by first|((simp (disch:=omega) only [push_cast,seval,hd2,hll,hil2,hml2,List.length_map,Amz]);done)|((simp (disch:=omega) only [push_cast,seval,hd2,hll,hil2,hml2,List.length_map,Amz]);exact ⟨rfl,by omega⟩)) ?_)|(refine A1z (t:=50) (sz:=2) (zs:=[.int .i64 0,.int .i64 0]) (by kernel_rfl) (by (simp (disch:=omega) only [push_cast,seval,hd2,hll,hil2,hml2,List.length_map,Amz])<;>rfl) (by (simp (disch:=omega) only [push_cast,seval,hd2,hll,hil2,hml2,List.length_map,Amz])<;>rfl) (by first|assumption|omega|(constructor<;>omega)) (by first|((simp (disch:=omega) only [push_cast,seval,hd2,hll,hil2,hml2,List.length_map,Amz]);done)|((simp (disch:=omega) only [push_cast,seval,hd2,hll,hil2,hml2,List.length_map,Amz]);exact ⟨rfl,by omega⟩)) ?_)|(refine Biz (len:=5) (by kernel_rfl) (by (simp (disch:=omega) only [push_cast,seval,hd2,hll,hil2,hml2,List.length_map,Amz])<;>rfl) (by (simp (disch:=omega) only [push_cast,seval,hd2,hll,hil2,hml2,List.length_map,Amz])<;>rfl) (by first|assumption|omega|(constructor<;>omega)) (by first|rfl|((simp (disch:=omega) only [push_cast,seval,hd2,hll,hil2,hml2,List.length_map,Amz]);rfl)) ?_))
 | (refine Acz ⟨.inr rfl,[576],[],_,by decide,rfl,?_⟩; (try simp (disch := omega) only [push_cast,seval,↓Adz,↓Abz,↓List.map_cons,↓List.map_nil,hd2,hll,hil2,hml2,List.length_map,Amz])))<;>(try simp (disch:=omega) only [push_cast,seval,hd2,hll,hil2,hml2,List.length_map,Amz])))
     refine ⟨i+1,by omega,by omega,?_⟩
     (refine Sub.of_lists ?_ ?_ ?_ ?_ ?_<;>simp [Vw.mkS,Vw.lk,Vw.hk,AV.inn,innL,Ajz,Ahz,Alz,-List.map_set,-List.getD_eq_getElem?_getD,Amz,Csz])
  ·have e2:ls.take i=ls:=List.take_of_length_le (by omega)
   rw [e2] at hml ⊢
   have hj5:((mkL ls.flatten).map AV.bool).take 5=(mkL ls.flatten).map AV.bool:=List.take_of_length_le (by simp [hml])
   generalize hM:ls.flatten=M at *
   (repeat' ((first
 | (first|refine Afz ?_|refine Aaz ?_)
 | (first|refine Agz ?_|refine Aez ?_|refine Atz ?_)
 | ((first|refine Aiz (fun h=>?_) (fun h=>?_))<;>(try simp only [h])<;>(try simp only [bitvec_to_nat] at h)<;>(try simp only [h])<;>(first|(exfalso;omega)|(exfalso;simp_all;done)|skip))
 | (first|(refine A8z (by kernel_rfl) (by (simp (disch:=omega) only [push_cast,seval,hml,hj5,List.length_map,Amz])<;>rfl) ?_)|(refine A1z (t:=23) (sz:=1) (zs:=[.int .i64 0]) (by kernel_rfl) (by (simp (disch:=omega) only [push_cast,seval,hml,hj5,List.length_map,Amz])<;>rfl) (by (simp (disch:=omega) only [push_cast,seval,hml,hj5,List.length_map,Amz])<;>rfl) (by first|assumption|omega|(constructor<;>omega)) (by first|((simp (disch:=omega) only [push_cast,seval,hml,hj5,List.length_map,Amz]);done)|((simp (disch:=omega) only [push_cast,seval,hml,hj5,List.length_map,Amz]);exact ⟨rfl,by omega⟩)) ?_)|(refine A1z (t:=50) (sz:=2) (zs:=[.int .i64 0,.int .i64 0]) (by kernel_rfl) (by (simp (disch:=omega) only [push_cast,seval,hml,hj5,List.length_map,Amz])<;>rfl) (by (simp (disch:=omega) only [push_cast,seval,hml,hj5,List.length_map,Amz])<;>rfl) (by first|assumption|omega|(constructor<;>omega)) (by first|((simp (disch:=omega) only [push_cast,seval,hml,hj5,List.length_map,Amz]);done)|((simp (disch:=omega) only [push_cast,seval,hml,hj5,List.length_map,Amz]);exact ⟨rfl,by omega⟩)) ?_)|(refine Biz (len:=5) (by kernel_rfl) (by (simp (disch:=omega) only [push_cast,seval,hml,hj5,List.length_map,Amz])<;>rfl) (by (simp (disch:=omega) only [push_cast,seval,hml,hj5,List.length_map,Amz])<;>rfl) (by first|assumption|omega|(constructor<;>omega)) (by first|rfl|((simp (disch:=omega) only [push_cast,seval,hml,hj5,List.length_map,Amz]);rfl)) ?_))
 | (refine Acz ⟨.inr rfl,[576],[],_,by decide,rfl,?_⟩;(try simp (disch:=omega) only [push_cast,seval,↓Adz,↓Abz,↓List.map_cons,↓List.map_nil,hml,hj5,List.length_map,Amz])))<;>(try simp (disch:=omega) only [push_cast,seval,hml,hj5,List.length_map,Amz])))
   refine Exz (fun k:Nat=>mkS [(2,.val (.slice none 0 0)),(8,.own 576 (lbT M k).length 1),(27,.agg ((mkL M).map AV.bool)),(28,.int .i64 k)] [(576,IL (lbT M k))]) (fun k=>k≤5) (fun k=>5-k) 0 (Nat.zero_le _) ?_ ?_
   ·refine SubW.adopt [8] 576 1 (by simp [Vw.hk]) (SubW.of ?_)
    simp only [adL,List.map_cons,List.map_nil,adA,List.contains_cons,List.contains_nil]
    (refine Sub.of_lists ?_ ?_ ?_ ?_ ?_<;>simp [Vw.mkS,Vw.lk,Vw.hk,AV.inn,innL,Ajz,Ahz,Alz,-List.map_set,-List.getD_eq_getElem?_getD,lbT_zero,Csz])
   ·intro k hk
    have hkl:=Ekz M k
    by_cases hk5:k<5
    ·have hg:=mkL_getD (L:=M) hk5
     by_cases hin:(k:Int)∈M
     ·have hidx:((mkL M).map AV.bool)[k]?=some (.bool true):=by
       rw [List.getElem?_map]
       simp [mkL,hk5,hin]
      have e3:=lbT_yes hin
      (repeat' ((first
 | (first|refine Afz ?_|refine Aaz ?_)
 | (first|refine Agz ?_|refine Aez ?_|refine Aoz ?_)
 | ((first|refine Aiz (fun h=>?_) (fun h=>?_))<;>(try simp only [h])<;>(try simp only [bitvec_to_nat] at h)<;>(try simp only [h])<;>(first|(exfalso;omega)|(exfalso;simp_all;done)|skip))
 | (first|(refine A8z (by kernel_rfl) (by (simp (disch:=omega) only [push_cast,seval,hidx,hml,List.length_map])<;>rfl) ?_)|(refine A1z (t:=23) (sz:=1) (zs:=[.int .i64 0]) (by kernel_rfl) (by (simp (disch:=omega) only [push_cast,seval,hidx,hml,List.length_map])<;>rfl) (by (simp (disch:=omega) only [push_cast,seval,hidx,hml,List.length_map])<;>rfl) (by first|assumption|omega|(constructor<;>omega)) (by first|((simp (disch:=omega) only [push_cast,seval,hidx,hml,List.length_map]);done)|((simp (disch:=omega) only [push_cast,seval,hidx,hml,List.length_map]);exact ⟨rfl,by omega⟩)) ?_)|(refine A1z (t:=50) (sz:=2) (zs:=[.int .i64 0,.int .i64 0]) (by kernel_rfl) (by (simp (disch:=omega) only [push_cast,seval,hidx,hml,List.length_map])<;>rfl) (by (simp (disch:=omega) only [push_cast,seval,hidx,hml,List.length_map])<;>rfl) (by first|assumption|omega|(constructor<;>omega)) (by first|((simp (disch:=omega) only [push_cast,seval,hidx,hml,List.length_map]);done)|((simp (disch:=omega) only [push_cast,seval,hidx,hml,List.length_map]);exact ⟨rfl,by omega⟩)) ?_)|(refine Biz (len:=5) (by kernel_rfl) (by (simp (disch:=omega) only [push_cast,seval,hidx,hml,List.length_map])<;>rfl) (by (simp (disch:=omega) only [push_cast,seval,hidx,hml,List.length_map])<;>rfl) (by first|assumption|omega|(constructor<;>omega)) (by first|rfl|((simp (disch:=omega) only [push_cast,seval,hidx,hml,List.length_map]);rfl)) ?_))
 | (refine Acz ⟨.inr rfl,[576],[],_,by decide,rfl,?_⟩; (try simp (disch := omega) only [push_cast,seval,↓Adz,↓Abz,↓List.map_cons,↓List.map_nil,hidx,hml,List.length_map])))<;>(try simp (disch:=omega) only [push_cast,seval,hidx,hml,List.length_map])))
      refine ⟨k+1,by omega,by omega,SubW.of ?_⟩
      (refine Sub.of_lists ?_ ?_ ?_ ?_ ?_<;>simp [Vw.mkS,Vw.lk,Vw.hk,AV.inn,innL,Ajz,Ahz,Alz,-List.map_set,-List.getD_eq_getElem?_getD,e3,Csz])
     ·have hidx:((mkL M).map AV.bool)[k]?=some (.bool false):=by
       rw [List.getElem?_map]
       simp [mkL,hk5,hin]
      have e3:=lbT_no hin
      (repeat' ((first
 | (first|refine Afz ?_|refine Aaz ?_)
 | (first|refine Agz ?_|refine Aez ?_|refine Aoz ?_)
 | ((first|refine Aiz (fun h=>?_) (fun h=>?_))<;>(try simp only [h])<;>(try simp only [bitvec_to_nat] at h)<;>(try simp only [h])<;>(first|(exfalso;omega)|(exfalso;simp_all;done)|skip))
 | (first|(refine A8z (by kernel_rfl) (by (simp (disch:=omega) only [push_cast,seval,hidx,hml,List.length_map])<;>rfl) ?_)|(refine A1z (t:=23) (sz:=1) (zs:=[.int .i64 0]) (by kernel_rfl) (by (simp (disch:=omega) only [push_cast,seval,hidx,hml,List.length_map])<;>rfl) (by (simp (disch:=omega) only [push_cast,seval,hidx,hml,List.length_map])<;>rfl) (by first|assumption|omega|(constructor<;>omega)) (by first|((simp (disch:=omega) only [push_cast,seval,hidx,hml,List.length_map]);done)|((simp (disch:=omega) only [push_cast,seval,hidx,hml,List.length_map]);exact ⟨rfl,by omega⟩)) ?_)|(refine A1z (t:=50) (sz:=2) (zs:=[.int .i64 0,.int .i64 0]) (by kernel_rfl) (by (simp (disch:=omega) only [push_cast,seval,hidx,hml,List.length_map])<;>rfl) (by (simp (disch:=omega) only [push_cast,seval,hidx,hml,List.length_map])<;>rfl) (by first|assumption|omega|(constructor<;>omega)) (by first|((simp (disch:=omega) only [push_cast,seval,hidx,hml,List.length_map]);done)|((simp (disch:=omega) only [push_cast,seval,hidx,hml,List.length_map]);exact ⟨rfl,by omega⟩)) ?_)|(refine Biz (len:=5) (by kernel_rfl) (by (simp (disch:=omega) only [push_cast,seval,hidx,hml,List.length_map])<;>rfl) (by (simp (disch:=omega) only [push_cast,seval,hidx,hml,List.length_map])<;>rfl) (by first|assumption|omega|(constructor<;>omega)) (by first|rfl|((simp (disch:=omega) only [push_cast,seval,hidx,hml,List.length_map]);rfl)) ?_))
 | (refine Acz ⟨.inr rfl,[576],[],_,by decide,rfl,?_⟩; (try simp (disch := omega) only [push_cast,seval,↓Adz,↓Abz,↓List.map_cons,↓List.map_nil,hidx,hml,List.length_map])))<;>(try simp (disch:=omega) only [push_cast,seval,hidx,hml,List.length_map])))
      refine ⟨k+1,by omega,by omega,SubW.of ?_⟩
      (refine Sub.of_lists ?_ ?_ ?_ ?_ ?_<;>simp [Vw.mkS,Vw.lk,Vw.hk,AV.inn,innL,Ajz,Ahz,Alz,-List.map_set,-List.getD_eq_getElem?_getD,e3,Csz])
    ·have e:k=5:=by omega
     subst e
     (repeat' ((first
 | (first|refine Afz ?_|refine Aaz ?_)
 | (first|refine Agz ?_|refine Aez ?_|refine Atz ?_)
 | (first|(refine A8z (by kernel_rfl) (by (simp (disch:=omega) only [push_cast,seval,hml,List.length_map])<;>rfl) ?_)|(refine A1z (t:=23) (sz:=1) (zs:=[.int .i64 0]) (by kernel_rfl) (by (simp (disch:=omega) only [push_cast,seval,hml,List.length_map])<;>rfl) (by (simp (disch:=omega) only [push_cast,seval,hml,List.length_map])<;>rfl) (by first|assumption|omega|(constructor<;>omega)) (by first|((simp (disch:=omega) only [push_cast,seval,hml,List.length_map]);done)|((simp (disch:=omega) only [push_cast,seval,hml,List.length_map]);exact ⟨rfl,by omega⟩)) ?_)|(refine A1z (t:=50) (sz:=2) (zs:=[.int .i64 0,.int .i64 0]) (by kernel_rfl) (by (simp (disch:=omega) only [push_cast,seval,hml,List.length_map])<;>rfl) (by (simp (disch:=omega) only [push_cast,seval,hml,List.length_map])<;>rfl) (by first|assumption|omega|(constructor<;>omega)) (by first|((simp (disch:=omega) only [push_cast,seval,hml,List.length_map]);done)|((simp (disch:=omega) only [push_cast,seval,hml,List.length_map]);exact ⟨rfl,by omega⟩)) ?_)|(refine Biz (len:=5) (by kernel_rfl) (by (simp (disch:=omega) only [push_cast,seval,hml,List.length_map])<;>rfl) (by (simp (disch:=omega) only [push_cast,seval,hml,List.length_map])<;>rfl) (by first|assumption|omega|(constructor<;>omega)) (by first|rfl|((simp (disch:=omega) only [push_cast,seval,hml,List.length_map]);rfl)) ?_))
 | (refine Acz ⟨.inr rfl,[576],[],_,by decide,rfl,?_⟩; (try simp (disch := omega) only [push_cast,seval,↓Adz,↓Abz,↓List.map_cons,↓List.map_nil,hml,List.length_map])))<;>(try simp (disch:=omega) only [push_cast,seval,hml,List.length_map])))
     all_goals (first|exact ⟨rfl,rfl⟩|skip)


set_option maxHeartbeats 8000000 in
theorem E4z (e xs:List Int)(n:Nat)(hn:xs.length=n)(hb:e.length=5∧n≤1099511627776∧∀ x∈xs,0≤x∧x≤4):BCall Tryz.prog 56 [.agg (IL e),.rows false (IL xs) n] [] (OI (xs.map (gE e))):=by
 subst hn
 obtain ⟨h5,hb0,hb1⟩:=hb
 refine Awz (pins:=[]) (pin:=0) l56_eq rfl rfl rfl ?_
 (repeat' (first
 | (first|refine Afz ?_|refine Aaz ?_)
 | ((first|refine Agz ?_);simp (disch:=omega) only [push_cast,seval,h5])
 | (refine Acz ⟨.inr rfl,[160],[],_,by decide,rfl,?_⟩;(try simp (disch:=omega) only [push_cast,seval,↓Adz,↓Abz,↓List.map_cons,↓List.map_nil,h5]))))
 refine A0z (fun k:Nat=>mkS [(2,.ref 32 5 0),(5,.own 160 xs.length 1),(11,RI xs),(12,.int .i64 xs.length),(13,.int .i64 k)] [(32,IL e),(160,IL (filled (fun i:Nat=>gE e (xs.getD i 0)) xs.length k))])
  (fun k=>k≤xs.length) (fun k=>xs.length-k) 0 (Nat.zero_le _) ?_ ?_
 ·(refine Sub.of_lists ?_ ?_ ?_ ?_ ?_<;>simp [Vw.mkS,Vw.lk,Vw.hk,AV.inn,innL,Ajz,Ahz,Alz,-List.map_set,-List.getD_eq_getElem?_getD,Dcz])
 ·intro k hk
  by_cases hlt:k<xs.length
  ·have hx:=hb1 _ (Bcz hlt)
   obtain ⟨c,hc⟩:∃ c:Nat,xs.getD k 0=c:=⟨(xs.getD k 0).toNat,by omega⟩
   have hc5:c<5:=by omega
   have hs:=C4z (fun i:Nat=>gE e (xs.getD i 0)) xs.length k hlt
   have hge:gE e (xs.getD k 0)=e.getD c 0:=by unfold gE;rw [hc,Int.toNat_natCast]
   simp only [hge] at hs
   (repeat' (first
 | (first|refine Afz ?_|refine Aaz ?_)
 | ((first|refine Agz ?_|refine Aez ?_|refine Aoz ?_);simp (disch:=omega) only [push_cast,seval,h5,hc])
 | ((first|refine Aiz (fun h=>?_) (fun h=>?_))<;>(try simp only [h])<;>(try simp only [bitvec_to_nat] at h)<;>(try simp only [h])<;>(first|(exfalso;omega)|(exfalso;simp_all;done)|(simp (disch:=omega) only [push_cast,seval,h5,hc])|skip))
 | (refine Acz ⟨.inr rfl,[160],[],_,by decide,rfl,?_⟩;(try simp (disch:=omega) only [push_cast,seval,↓Adz,↓Abz,↓List.map_cons,↓List.map_nil,h5,hc]))))
   refine ⟨k+1,by omega,by omega,?_⟩
   (refine Sub.of_lists ?_ ?_ ?_ ?_ ?_<;>simp [Vw.mkS,Vw.lk,Vw.hk,AV.inn,innL,Ajz,Ahz,Alz,-List.map_set,-List.getD_eq_getElem?_getD,Ayz,hs])
  ·have ek:k=xs.length:=by omega
   have hfin:filled (fun i:Nat=>gE e (xs.getD i 0)) xs.length xs.length=xs.map (gE e):=by
    rw [Ffz]
    have:=congrArg (List.map (gE e)) (filled_getD xs)
    rw [List.map_map] at this
    exact this
   rw [ek,hfin]
   (repeat' (first
 | (first|refine Afz ?_|refine Aaz ?_)
 | ((first|refine Agz ?_|refine Aez ?_|refine Atz ?_);simp (disch:=omega) only [push_cast,seval,h5,List.length_map])
 | ((first|refine Aiz (fun h=>?_) (fun h=>?_))<;>(try simp only [h])<;>(try simp only [bitvec_to_nat] at h)<;>(try simp only [h])<;>(first|(exfalso;omega)|(exfalso;simp_all;done)|(simp (disch:=omega) only [push_cast,seval,h5,List.length_map])|skip))
 | (refine Acz ⟨.inr rfl,[160],[],_,by decide,rfl,?_⟩;(try simp (disch:=omega) only [push_cast,seval,↓Adz,↓Abz,↓List.map_cons,↓List.map_nil,h5,List.length_map]))))
   all_goals (try simp [OI])


theorem Gyz (e:List Int)(ls:List (List Int))(n:Nat)(hn:ls.length=n)(hb:e.length=5∧n≤1099511627776∧(∀ l∈ls,l.length≤1099511627776)∧(∀ l∈ls,∀ x∈l,0≤x∧x≤4)∧∀ l∈ls,∀ x∈l,0≤gE e x∧gE e x≤60):PCall Tryz.prog 55 [.agg (IL e),.rows false (LL false ls) n] (fun r=>r=.int .i64 (pr ((lbS ls.flatten).map (gE e)))):=by
 subst hn
 obtain ⟨h5,hb0,hb1,hb2,hb3⟩:=hb
 have q1:ls.length≤1099511627776∧(∀ l∈ls,l.length≤1099511627776)∧∀ l∈ls,∀ x∈l,0≤x∧x≤4:=⟨hb0,hb1,hb2⟩
 have hll:=Ekz ls.flatten 5
 have q2:e.length=5∧(lbS ls.flatten).length≤1099511627776∧∀ x∈lbS ls.flatten,0≤x∧x≤4:=⟨h5,by show (lbT _ 5).length≤_;omega,fun x hx=>(Ehz.1 hx).1⟩
 have q3:good9 ((lbS ls.flatten).map (gE e)):=by
  refine ⟨fun x hx=>?_,by rw [List.length_map];show (lbT _ 5).length≤_;omega⟩
  obtain ⟨y,hy,rfl⟩:=List.mem_map.1 hx
  obtain ⟨l,hl,hyl⟩:=List.mem_flatten.1 (Ehz.1 hy).2
  exact hb3 l hl y hyl
 have t5:=tak5 h5
 refine Axz l55_eq rfl ?_
 generalize hM:lbS ls.flatten=M at *
 have hml:M.length=(M.map (gE e)).length:=by rw [List.length_map]
 generalize hW:M.map (gE e)=W at *
 (repeat' ((first
 | (first|refine Afz ?_|refine Aaz ?_)
 | (first|refine Agz ?_|refine Auz (mid:=l55r1a) (post:=l55r1b) Bfz (by decide) ?_)
 | (first|refine Anz false ?_|refine A7z false ?_)
 | (first|((first|refine Akz (D0z _ _ ?_ ?_) ?_|refine Asz (Apz (Dbz (D0z _ _ ?_ ?_))) ⟨_,_,rfl,rfl⟩ ?_);(iterate 2 (exact sd));rintro _ _ ⟨rfl,rfl⟩)|((first|refine Akz (E4z _ _ _ ?_ ?_) ?_|refine Asz (Apz (Dbz (E4z _ _ _ ?_ ?_))) ⟨_,_,rfl,rfl⟩ ?_);(iterate 2 (exact sd));rintro _ _ ⟨rfl,rfl⟩)|((first|refine Akz (Apz (Fuz _ _ ?_ ?_)) ?_|refine Asz (Apz (Fuz _ _ ?_ ?_)) ⟨_,_,rfl,rfl⟩ ?_);(iterate 2 (exact sd));rintro _ _ ⟨rfl,rfl⟩))
 | (refine Acz ⟨.inr rfl,_,rfl,?_⟩))<;>(try simp (disch:=omega) only [push_cast,seval,h5,t5,hM,hW,hml,Amz])))

end Go.Proofs.YtapccmfnmiopoaaGreat
namespace Go.Proofs.YtapccmfnmiopoaaGreat
open VwM Vw Go

theorem exO_some {ts:List Tn}{ls:List (List Int)}{e:List Int}(h:exO ts ls=some e):ts.all vT=true∧(1≤ts.length∧ts.length≤3)∧ls.length=ts.length∧exT ts ls=some e:=by
 unfold exO at h
 split at h
 ·rename_i hc
  simp only [Bool.and_eq_true,decide_eq_true_eq] at hc
  exact ⟨hc.1.1,hc.1.2,hc.2,h⟩
 ·cases h
theorem exO_facts {ts:List Tn}{ls:List (List Int)}{e:List Int}(h:exO ts ls=some e) :
  e.length=5∧(∀ k:Nat,k<5→(k:Int) ∉ ls.flatten→e.getD k 0<0)∧(∀ k:Nat,k<5→(k:Int)∈ls.flatten→0≤e.getD k 0∧e.getD k 0≤60)∧(∀ k:Nat,k<5→-1≤e.getD k 0) ∧
  (∀ x∈ls.flatten,0≤x∧x≤4)∧(∀ (i:Nat) (t:Tn) (l:List Int),ts[i]?=some t→ls[i]?=some l→l.length=t.1.length∧∀ j,j<l.length→gE e (l.getD j 0)=t.1.getD j 0)∧(∀ t∈ts,vT t=true)∧ls.length=ts.length:=by
 obtain ⟨h1,h2,h3,h4⟩:=exO_some h
 have hv:=List.all_eq_true.1 h1
 obtain ⟨a,b,c,d,f,g⟩:=exT_facts h3 (fun t ht=>(Dtz.1 (hv t ht)).1) h4
 exact ⟨a,b,c,d,f,g,hv,h3⟩
/-- With labels of the result,the program asks the same. -/
theorem exP_eq (ts:List Tn)(ls:List (List Int))(out:List Int):exP ts ls out=if allI out 0 4=true then exO ts ls else none:=by
 unfold exP agO exO
 cases h1:allI out 0 4<;>cases h2:ts.all vT<;>cases h3:decide (ls.length=ts.length)<;>cases h4:(decide (1≤ts.length)&&decide (ts.length≤3))<;>simp
end Go.Proofs.YtapccmfnmiopoaaGreat
namespace Go.Proofs.YtapccmfnmiopoaaGreat
open VwM Vw Go

set_option maxHeartbeats 8000000 in
theorem iwithout_ok (xs ys:List Int)(n m:Nat)(hn:xs.length=n)(hm:ys.length=m)(hb:n≤1099511627776∧m≤1099511627776):BCall Tryz.prog 77 [.rows false (IL xs) n,.rows false (IL ys) m] [] (OI (wiL xs ys)):=by
 subst hn hm
 obtain ⟨hb0,hb1⟩:=hb
 refine Awz (pins:=[]) (pin:=0) l77_eq rfl rfl rfl ?_
 (repeat' (first
 | (first|refine Afz ?_|refine Aaz ?_)
 | ((first|refine Agz ?_);simp (disch:=omega) only [push_cast,seval])
 | (refine Acz ⟨.inr rfl,[336],[],_,by decide,rfl,?_⟩;(try simp (disch:=omega) only [push_cast,seval,↓Adz,↓Abz,↓List.map_cons,↓List.map_nil]))))
 refine Exz (fun k:Nat=>mkS [(1,RI ys),(5,.own 336 (wiL (xs.take k) ys).length 1),(8,RI xs),(9,.int .i64 xs.length),(10,.int .i64 k)] [(336,IL (wiL (xs.take k) ys))]) (fun k=>k≤xs.length) (fun k=>xs.length-k) 0 (Nat.zero_le _) ?_ ?_
 ·refine SubW.adopt [5] 336 1 (by simp [Vw.hk]) (SubW.of ?_)
  simp only [adL,List.map_cons,List.map_nil,adA,List.contains_cons,List.contains_nil]
  have e0:wiL [] ys=[]:=rfl
  (refine Sub.of_lists ?_ ?_ ?_ ?_ ?_<;>simp [Vw.mkS,Vw.lk,Vw.hk,AV.inn,innL,Ajz,Ahz,Alz,-List.map_set,-List.getD_eq_getElem?_getD,e0])
 ·intro k hk
  have hwl:=wiL_len (xs.take k) ys
  rw [List.length_take] at hwl
  by_cases hlt:k<xs.length
  ·by_cases hin:xs.getD k 0∈ys
   ·have e3:=wiL_in hlt hin
    generalize hU:wiL (xs.take k) ys=U at *
    (repeat' ((first
 | (first|refine Afz ?_|refine Aaz ?_)
 | (first|refine Agz ?_|refine Aez ?_|refine Aoz ?_)
 | ((first|refine Aiz (fun h=>?_) (fun h=>?_))<;>(try simp only [h])<;>(try simp only [bitvec_to_nat] at h)<;>(try simp only [h])<;>(first|(exfalso;omega)|(exfalso;simp_all;done)|skip))
 | (first|refine Anz false ?_)
 | (first|(refine Akz (Apz (C1z _ _ _ ?_ ?_)) ?_;(iterate 2 (exact sd));rintro _ _ ⟨rfl,rfl⟩))
 | (refine Acz ⟨.inr rfl,[336],[],_,by decide,rfl,?_⟩;(try simp (disch:=omega) only [push_cast,seval,↓Adz,↓Abz,↓List.map_cons,↓List.map_nil,hin,decide_true])))<;>(try simp (disch:=omega) only [push_cast,seval,hin,decide_true])))
    refine ⟨k+1,by omega,by omega,SubW.of ?_⟩
    (refine Sub.of_lists ?_ ?_ ?_ ?_ ?_<;>simp [Vw.mkS,Vw.lk,Vw.hk,AV.inn,innL,Ajz,Ahz,Alz,-List.map_set,-List.getD_eq_getElem?_getD,e3])
   ·have e3:=wiL_out hlt hin
    generalize hU:wiL (xs.take k) ys=U at *
    (repeat' ((first
 | (first|refine Afz ?_|refine Aaz ?_)
 | (first|refine Agz ?_|refine Aez ?_|refine Aoz ?_)
 | ((first|refine Aiz (fun h=>?_) (fun h=>?_))<;>(try simp only [h])<;>(try simp only [bitvec_to_nat] at h)<;>(try simp only [h])<;>(first|(exfalso;omega)|(exfalso;simp_all;done)|skip))
 | (first|refine Anz false ?_)
 | (first|(refine Akz (Apz (C1z _ _ _ ?_ ?_)) ?_;(iterate 2 (exact sd));rintro _ _ ⟨rfl,rfl⟩))
 | (refine Acz ⟨.inr rfl,[336],[],_,by decide,rfl,?_⟩;(try simp (disch:=omega) only [push_cast,seval,↓Adz,↓Abz,↓List.map_cons,↓List.map_nil,hin,decide_false,List.length_map])))<;>(try simp (disch:=omega) only [push_cast,seval,hin,decide_false,List.length_map])))
    refine ⟨k+1,by omega,by omega,SubW.of ?_⟩
    (refine Sub.of_lists ?_ ?_ ?_ ?_ ?_<;>simp [Vw.mkS,Vw.lk,Vw.hk,AV.inn,innL,Ajz,Ahz,Alz,-List.map_set,-List.getD_eq_getElem?_getD,e3])
  ·rw [List.take_of_length_le (by omega)] at hwl ⊢
   (repeat' (first
 | (first|refine Afz ?_|refine Aaz ?_)
 | ((first|refine Agz ?_|refine Aez ?_|refine Atz ?_);simp (disch:=omega) only [push_cast,seval,List.length_map])
 | ((first|refine Aiz (fun h=>?_) (fun h=>?_))<;>(try simp only [h])<;>(try simp only [bitvec_to_nat] at h)<;>(try simp only [h])<;>(first|(exfalso;omega)|(exfalso;simp_all;done)|(simp (disch:=omega) only [push_cast,seval,List.length_map])|skip))
 | (refine Acz ⟨.inr rfl,[336],[],_,by decide,rfl,?_⟩;(try simp (disch:=omega) only [push_cast,seval,↓Adz,↓Abz,↓List.map_cons,↓List.map_nil,List.length_map]))))
   all_goals (first|exact ⟨rfl,rfl⟩|skip)


end Go.Proofs.YtapccmfnmiopoaaGreat
namespace Go.Proofs.YtapccmfnmiopoaaGreat
open VwM Vw Go

end Go.Proofs.YtapccmfnmiopoaaGreat
namespace Go.Proofs.YtapccmfnmiopoaaGreat
open VwM Vw Go

end Go.Proofs.YtapccmfnmiopoaaGreat
namespace Go.Proofs.YtapccmfnmiopoaaGreat
open VwM Vw Go

end Go.Proofs.YtapccmfnmiopoaaGreat
namespace Go.Proofs.YtapccmfnmiopoaaGreat
open VwM Vw Go

attribute [local go_sem] Oper.semAt_some
open Go.RowKit Go.Shelf in
set_option maxRecDepth 100000 in
set_option maxHeartbeats 4000000 in
/-- The iterator of slices.Backward: the elements from the last to the first,each with its index. -/
theorem bwd1_in {α:Type}(ei enc:α→Int)(l Bs b off len cap:Nat)(p:Option Addr)(xs:List α)(hx:xs.length=len)(hp:0<len→p=some ⟨b,off,none⟩)(hreach:len≤1099511627776)(J Jx:List α→World→Prop)
  (hY:∀ pre x W,J pre W→pre.length<len→YieldAt Fence.wide 1 Tryz.prog l #[.int .i64 (ei x),.int .i64 (enc x)] W fun e W' =>
   (e=.returned (.bool true)∧J (pre++[x]) W'∧(W'.heap[Bs]?=W.heap[Bs]?∧W'.heap[b]?=W.heap[b]?))∨(e=.returned (.bool false)∧Jx (pre++[x]) W'))
  (W:World) (hBs:W.cell? ⟨Bs,0,none⟩=some (.slice p len cap)) (hi:∀ j (h:j<xs.length),ei xs[j]=(len:Int)-1-j) (hc:∀ j (h:j<xs.length),W.cell? ⟨b,off+(len-1-j),none⟩=some (.int .i64 (enc xs[j]))) (h0:J [] W) :
  CallsIn Fence.wide 2 Tryz.prog 103 #[.func (.yield l) #[] #[],.pointer (some ⟨Bs,0,none⟩)] W fun e W'=>(∃ v,e=.returned v) ∧
   ((∃ ys,ys=xs∧J ys W')∨(∃ pre,pre <+: xs∧Jx pre W')):=by
 refine callsIn_of_wp Tryz.func103 rfl trivial ?_ rfl
 simp only [Tryz.ntmps103,List.size_toArray,List.length_cons,List.length_nil,Nat.reduceAdd,Nat.reduceSub,Array.replicate_succ,Array.replicate_zero,List.push_toArray,List.append_toArray,List.nil_append,List.cons_append]
 gi_wp2
 gi_loopw [3] (fun i wr=>∃ k:Nat,k≤len∧i=.int .i64 ((len:Int)-1-k)∧J (xs.take k) wr∧wr.heap[Bs]?=W.heap[Bs]?∧wr.heap[b]?=W.heap[b]?)
  (fun i _=>(intOf i+1).toNat)
 case atStart=>exact ⟨0,Nat.zero_le _,by simp [RowKit.wrap64],by simpa using h0,rfl,rfl⟩
 case round =>
  obtain ⟨k,hk,rfl,hJs,hn1,hn2⟩:=hrel
  have hBw:wr.cell? ⟨Bs,0,none⟩=some (.slice p len cap):=(World.cell?_of_block (a:=⟨Bs,0,none⟩) hn1).trans hBs
  by_cases hlt:k<len
  ·have hkx:k<xs.length:=by omega
   obtain ⟨q,hq⟩:∃ q:Nat,q=len-1-k:=⟨_,rfl⟩
   have hqi:(len:Int)-1-k=q:=by omega
   have hcx:wr.cell? ⟨b,off+q,none⟩=some (.int .i64 (enc xs[k])):=by rw [hq];exact (World.cell?_of_block (a:=⟨b,off+(len-1-k),none⟩) hn2).trans (hc k hkx)
   obtain rfl:p=some ⟨b,off,none⟩:=hp (by omega)
   obtain ⟨fn,tmps,assign,body,hy,hR⟩:=hY (xs.take k) xs[k] wr hJs (by rw [List.length_take];omega)
   rw [hi k hkx,hqi] at hy
   have hq2:q<len:=by omega
   clear hq
   rw [hqi]
   gi_wp2
   refine hR.mono ?_
   rintro e W3 (⟨rfl,hJ3,hk3,hk4⟩|⟨rfl,hJx3⟩)
   ·gi_wp2
    go_roundw
    case rel=>exact ⟨k+1,by omega,by simp [RowKit.wrap64]<;>omega,by rw [List.take_succ_eq_append_getElem hkx];exact hJ3,hk3.trans hn1,hk4.trans hn2⟩
    case measure=>simp [intOf,RowKit.wrap64]<;>omega
   ·gi_wp2
    refine bodyPost_ret (results_none rfl _ _ _) rfl ?_
    exact ⟨⟨_,rfl⟩,.inr ⟨_,by rw [← List.take_succ_eq_append_getElem hkx];exact List.take_prefix _ _,hJx3⟩⟩
  ·obtain rfl:k=len:=by omega
   gi_wp2
   go_end0
   exact ⟨⟨_,rfl⟩,.inl ⟨_,rfl,by rw [List.take_of_length_le (by omega)] at hJs;exact hJs⟩⟩

open Go.RowKit in
theorem bwd_iter {α:Type}(ei enc:α→Int)(xs:List α)(zs:List Int)(n id:Nat)(H:Nat→Option (List AV))(hH:H id=some [.rows false (IL zs) n])(hn:zs.length=n)(hb:n≤1099511627776)(hl:xs.length=n)
  (hx:∀ j (h:j<xs.length),ei xs[j]=(n:Int)-1-j∧zs[n-1-j]?=some (enc xs[j])):IterOk Tryz.prog 103 [.ref id 1 0] [id] H xs (fun x=>[.int .i64 (ei x),.int .i64 (enc x)]):=by
 refine ⟨Go.Proofs.enters_of Tryz.func103 (by kernel_rfl) rfl,fun C vs hk hCH hvs hd=>?_⟩
 obtain ⟨vs⟩:=vs
 rcases vs with _|⟨v,_|⟨v',t⟩⟩
 ·simp at hvs
 ·simp only [DenP,Den,and_true] at hd
  obtain ⟨_,cs,hc1,_,hsp,hc2⟩:=hd
  rw [hCH,hH] at hc1
  injection hc1 with hc1
  subst hc1
  obtain ⟨g,hg,rfl⟩:=hc2 rfl
  rcases hk.has id _ (by rw [hCH];exact hH) hsp with ⟨_,h0⟩|⟨g',cur,e,a1,a2,a3⟩
  ·cases h0
  ·rw [hg] at a1
   injection a1 with a1
   subst a1
   obtain ⟨cur⟩:=cur
   rcases cur with _|⟨v0,cur⟩
   ·simp [DenP] at a3
   ·simp only [DenP,Den,and_true] at a3
    have hglt:=lt_of_heap a2
    have hcell:∀ W:World,W.heap[g]?=C.w.heap[g]?→W.cell? ⟨g,0,none⟩=some v0:=fun W hW=>by simp [World.cell?,hW,a2]
    rcases a3 with ⟨he,h1,h2⟩|⟨g2,o,cap,cur2,e2,fz2,b1,b2,b3,b4,b5⟩
    ·-- no elements
     obtain ⟨p,c,hp⟩:=he.at
     have hz:xs=[]:=List.eq_nil_of_length_eq_zero (by omega)
     refine ⟨fun x=>#[.int .i64 (ei x),.int .i64 (enc x)],[g],fun q hq=>?_,fun _=>rfl,fun C' x _ _ _=>by simp [DenP,Den],?_⟩
     ·simp only [List.mem_singleton] at hq
      subst hq
      exact ⟨hglt,fun j hj=>by simp [hk.inj j id q hj hg]⟩
     ·intro l J Jx W hW hJ hJx hY h0
      have hWg:W.heap[g]?=C.w.heap[g]?:=hW.block g hglt
      subst hz
      refine bwd1_in ei enc l g 0 0 0 c p [] rfl (by omega) (by omega) J Jx (fun pre x W1 _ hlen=>by omega) W (by rw [hcell W hWg,hp]) (fun j h=>by cases h) (fun j h=>by cases h) h0
    ·have hg2:∀ j,C.M j≠some g2:=b3.1
     have h2lt:=lt_of_heap b2
     refine ⟨fun x=>#[.int .i64 (ei x),.int .i64 (enc x)],[g,g2],fun q hq=>?_,fun _=>rfl,fun C' x _ _ _=>by simp [DenP,Den],?_⟩
     ·simp only [List.mem_cons,List.not_mem_nil,or_false] at hq
      rcases hq with rfl|rfl
      ·exact ⟨hglt,fun j hj=>by simp [hk.inj j id q hj hg]⟩
      ·exact ⟨h2lt,fun j hj=>absurd hj (hg2 j)⟩
     ·intro l J Jx W hW hJ hJx hY h0
      have hWg:W.heap[g]?=C.w.heap[g]?:=hW.block g hglt
      have hWg2:W.heap[g2]?=C.w.heap[g2]?:=hW.block g2 h2lt
      refine bwd1_in ei enc l g g2 o n cap (some ⟨g2,o,none⟩) xs hl (fun _=>rfl) hb J Jx (fun pre x W1 hj hlen=>?_) W (by rw [hcell W hWg,b1]) (fun j h=>(hx j h).1) (fun j h=>?_) h0
      ·obtain ⟨fn,tmps,asg,body,y1,y2⟩:=hY pre x W1 hj (by omega)
       exact ⟨fn,tmps,asg,body,y1,y2.mono fun e W' h=>h.imp (fun ⟨z1,z2,z3⟩=>⟨z1,z2,z3 g (by simp),z3 g2 (by simp)⟩) (fun h=>h)⟩
      ·obtain ⟨h3,h4⟩:=hx j h
       rw [Bnz] at b5
       have h5:(IL zs)[n-1-j]?=some (.int .i64 (enc xs[j])):=by simp [IL,h4]
       obtain ⟨u,hu1,hu2⟩:=b5 _ _ h5
       simp only [Den] at hu2
       subst hu2
       rw [List.getElem?_drop] at hu1
       simp only [World.cell?,hWg2,b2]
       simpa using hu1
 ·simp at hvs

end Go.Proofs.YtapccmfnmiopoaaGreat
