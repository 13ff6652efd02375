/- Texts of this verifier. -/
import Derived.Test.YtapccmfnmiopoaaGreatCB6
import Derived.Test.YtapccmfnmiopoaaGreatCM1
import Derived.Test.YtapccmfnmiopoaaGreatCW3
set_option maxHeartbeats 4000000
set_option linter.unusedSimpArgs false
set_option linter.unusedVariables false
set_option maxRecDepth 4000
namespace Go.Proofs.YtapccmfnmiopoaaGreat
open VwM Vw Go

def tenX (v:Bool)(x:List Int):List Int:=if v=true then x else []
set_option maxHeartbeats 8000000 in
theorem sTO_ok (mem:List Int)(b:Int)(sh st:List Int)(q n m:Nat)(hq:mem.length=q)(hn:sh.length=n)(hm:st.length=m)(hb:q≤1099511627776∧n≤1099511627776∧m≤1099511627776):BCall Tryz.prog 6 [.rows false (IL mem) q,.agg [.int .i64 b,.rows false (IL sh) n,.rows false (IL st) m]] [] (fun r H'=>r=.tup [.agg [.own 0 (tenX (seeB mem b sh st) sh).length 1,.own 1 (tenX (seeB mem b sh st) (takesL mem (offs b sh st))).length 1],.bool (seeB mem b sh st)]∧H'=[IL (tenX (seeB mem b sh st) sh),IL (tenX (seeB mem b sh st) (takesL mem (offs b sh st)))]):=by
 subst hq hn hm
 obtain ⟨hb0,hb1,hb2⟩:=hb
 refine Awz (pins:=[]) (pin:=0) l6_eq rfl rfl rfl ?_
 cases hs:seeB mem b sh st with
 | false =>
  (repeat' ((first
 | (first|refine Afz ?_|refine Aaz ?_)
 | (first|refine Agz ?_|refine Aez ?_)
 | (first|refine Anz false ?_)
 | (first|(refine Akz (Apz (sees_ok _ _ _ _ _ _ _ ?_ ?_ ?_ ?_)) ?_;(iterate 4 (exact sd));rintro _ _ ⟨rfl,rfl⟩))
 | (refine Acz ⟨.inr rfl,[16000,16016],[(16000,1),(16016,1)],_,by decide,rfl,?_⟩;(try simp (disch:=omega) only [push_cast,seval,↓Adz,↓Abz,↓List.map_cons,↓List.map_nil,hs])))<;>(try simp (disch:=omega) only [push_cast,seval,hs])))
  all_goals simp [tenX]
 | true =>
  (repeat' ((first
 | (first|refine Afz ?_|refine Aaz ?_)
 | (first|refine Agz ?_|refine Auz (mid:=l6r3a) (post:=l6r3b) Bfz (by decide) ?_|refine Aez ?_|refine Aoz ?_)
 | (first|refine Anz false ?_|refine A7z false ?_)
 | (first|((first|refine Akz (Apz (sees_ok _ _ _ _ _ _ _ ?_ ?_ ?_ ?_)) ?_|refine Asz (Apz (sees_ok _ _ _ _ _ _ _ ?_ ?_ ?_ ?_)) ⟨_,_,rfl,rfl⟩ ?_);(iterate 4 (exact sd));rintro _ _ ⟨rfl,rfl⟩)|((first|refine Akz (Ctz _ _ ?_ ?_) ?_|refine Asz (Ctz _ _ ?_ ?_) ⟨_,_,rfl,rfl⟩ ?_);(iterate 2 (exact sd));rintro _ _ ⟨rfl,rfl⟩)|((first|refine Akz (sload_ok _ _ _ _ _ _ _ ?_ ?_ ?_ ?_) ?_|refine Asz (sload_ok _ _ _ _ _ _ _ ?_ ?_ ?_ ?_) ⟨_,_,rfl,rfl⟩ ?_);(iterate 4 (exact sd));rintro _ _ ⟨rfl,rfl⟩))
 | (refine Acz ⟨.inr rfl,[208,256],[],_,by decide,rfl,?_⟩;(try simp (disch:=omega) only [push_cast,seval,↓Adz,↓Abz,↓List.map_cons,↓List.map_nil,hs])))<;>(try simp (disch:=omega) only [push_cast,seval,hs])))
  all_goals simp [tenX]


set_option maxHeartbeats 8000000 in
theorem iTO_ok (mem:List Int)(b:Int)(sh st:List Int)(q n m:Nat)(hq:mem.length=q)(hn:sh.length=n)(hm:st.length=m)(hb:q≤1099511627776∧n≤1099511627776∧m≤1099511627776):BCall Tryz.prog 5 [.rows false (IL mem) q,.agg [.int .i64 b,.rows false (IL sh) n,.rows false (IL st) m]] [] (fun r H'=>r=.tup [.agg [.own 0 (tenX (seeB mem b sh st) sh).length 1,.own 1 (tenX (seeB mem b sh st) (takesL mem (offs b sh st))).length 1],.bool (seeB mem b sh st)]∧H'=[IL (tenX (seeB mem b sh st) sh),IL (tenX (seeB mem b sh st) (takesL mem (offs b sh st)))]):=by
 subst hq hn hm
 obtain ⟨hb0,hb1,hb2⟩:=hb
 refine Awz (pins:=[]) (pin:=0) l5_eq rfl rfl rfl ?_
 cases hs:seeB mem b sh st with
 | false =>
  (repeat' ((first
 | (first|refine Afz ?_|refine Aaz ?_)
 | (first|refine Agz ?_|refine Aez ?_)
 | (first|refine Anz false ?_)
 | (first|(refine Akz (Apz (Grz _ _ _ _ _ _ _ ?_ ?_ ?_ ?_)) ?_;(iterate 4 (exact sd));rintro _ _ ⟨rfl,rfl⟩))
 | (refine Acz ⟨.inr rfl,[16000,16016],[(16000,1),(16016,1)],_,by decide,rfl,?_⟩;(try simp (disch:=omega) only [push_cast,seval,↓Adz,↓Abz,↓List.map_cons,↓List.map_nil,hs])))<;>(try simp (disch:=omega) only [push_cast,seval,hs])))
  all_goals simp [tenX]
 | true =>
  (repeat' ((first
 | (first|refine Afz ?_|refine Aaz ?_)
 | (first|refine Agz ?_|refine Auz (mid:=l5r3a) (post:=l5r3b) Bfz (by decide) ?_|refine Aez ?_|refine Aoz ?_)
 | (first|refine Anz false ?_|refine A7z false ?_)
 | (first|((first|refine Akz (Apz (Grz _ _ _ _ _ _ _ ?_ ?_ ?_ ?_)) ?_|refine Asz (Apz (Grz _ _ _ _ _ _ _ ?_ ?_ ?_ ?_)) ⟨_,_,rfl,rfl⟩ ?_);(iterate 4 (exact sd));rintro _ _ ⟨rfl,rfl⟩)|((first|refine Akz (Joz _ _ ?_ ?_) ?_|refine Asz (Joz _ _ ?_ ?_) ⟨_,_,rfl,rfl⟩ ?_);(iterate 2 (exact sd));rintro _ _ ⟨rfl,rfl⟩)|((first|refine Akz (Ijz _ _ _ _ _ _ _ ?_ ?_ ?_ ?_) ?_|refine Asz (Ijz _ _ _ _ _ _ _ ?_ ?_ ?_ ?_) ⟨_,_,rfl,rfl⟩ ?_);(iterate 4 (exact sd));rintro _ _ ⟨rfl,rfl⟩))
 | (refine Acz ⟨.inr rfl,[208,256],[],_,by decide,rfl,?_⟩;(try simp (disch:=omega) only [push_cast,seval,↓Adz,↓Abz,↓List.map_cons,↓List.map_nil,hs])))<;>(try simp (disch:=omega) only [push_cast,seval,hs])))
  all_goals simp [tenX]


end Go.Proofs.YtapccmfnmiopoaaGreat
namespace Go.Proofs.YtapccmfnmiopoaaGreat
open VwM Vw Go

/-- What the program's tensors agree on. -/
def agO (ts:List Tn)(ls:List (List Int)):Option (List Int):=if ts.all vT=true then exT ts ls else none
theorem agO_bad {ts:List Tn}{ls:List (List Int)}{i:Nat}{t:Tn}(ht:ts[i]?=some t)(h:vT t=false):agO ts ls=none:=by
 unfold agO;rw [if_neg];intro hc
 have:=List.all_eq_true.1 hc _ (List.mem_of_getElem? ht)
 rw [h] at this;cases this
theorem agO_none {ts:List Tn}{ls:List (List Int)}(h:exT ts ls=none):agO ts ls=none:=by unfold agO;rw [h];split<;>rfl
theorem Hmz {α:Type}{l:List α}{i:Nat}(h:i<l.length):∃ x,l[i]?=some x:=⟨_,List.getElem?_eq_getElem h⟩


theorem J0z (xs:List Int)(n:Nat)(hn:xs.length=n)(hb:n≤1099511627776):PCall Tryz.prog 72 [.rows false (IL xs) n] (fun r=>r=.bool (allI xs 0 4)):=by
 subst hn
 refine Axz l72_eq rfl ?_
 (repeat' (first
 | (first|refine Afz ?_|refine Aaz ?_)
 | ((first|refine Agz ?_);simp (disch:=omega) only [push_cast,seval])
 | (refine Acz ⟨.inr rfl,_,rfl,?_⟩;(try simp (disch:=omega) only [push_cast,seval]))))
 refine A0z (fun k:Nat=>mkS [(5,RI xs),(6,.int .i64 xs.length),(7,.int .i64 k)] []) (fun k=>k≤xs.length∧∀ j:Nat,j<k→0≤xs.getD j 0∧xs.getD j 0≤4) (fun k=>xs.length-k) 0 ⟨Nat.zero_le _,fun j h=>absurd h (Nat.not_lt_zero _)⟩ ?_ ?_
 ·(refine Sub.of_lists ?_ ?_ ?_ ?_ ?_<;>simp [Vw.mkS,Vw.lk,Vw.hk,AV.inn,innL,Ajz,Ahz,Alz,-List.map_set,-List.getD_eq_getElem?_getD])
 ·rintro k ⟨hk,hj⟩
  by_cases hlt:k<xs.length
  ·by_cases hin:0≤xs.getD k 0∧xs.getD k 0≤4
   ·have hw:(decide (0≤xs.getD k 0)&&decide (xs.getD k 0≤4))=true:=by
     rw [Bool.and_eq_true,decide_eq_true_eq,decide_eq_true_eq];exact hin
    (repeat' ((first
 | (first|refine Afz ?_|refine Aaz ?_)
 | (first|refine Agz ?_|refine Aez ?_|refine Aoz ?_)
 | ((first|refine Aiz (fun h=>?_) (fun h=>?_))<;>(try simp only [h])<;>(try simp only [bitvec_to_nat] at h)<;>(try simp only [h])<;>(first|(exfalso;omega)|(exfalso;simp_all;done)|skip))
 | (first|refine Anz false ?_)
 | (first|(refine Akz (Apz (Dvz _ _)) ?_;rintro _ _ ⟨rfl,rfl⟩))
 | (refine Acz ⟨.inr rfl,_,rfl,?_⟩))<;>(try simp (disch:=omega) only [push_cast,seval,hw])))
    refine ⟨k+1,⟨by omega,fun j h=>?_⟩,by omega,?_⟩
    ·by_cases hjk:j=k
     ·subst hjk;exact hin
     ·exact hj j (by omega)
    ·(refine Sub.of_lists ?_ ?_ ?_ ?_ ?_<;>simp [Vw.mkS,Vw.lk,Vw.hk,AV.inn,innL,Ajz,Ahz,Alz,-List.map_set,-List.getD_eq_getElem?_getD])
   ·have hw:(decide (0≤xs.getD k 0)&&decide (xs.getD k 0≤4))=false:=by
     rw [Bool.and_eq_false_iff,decide_eq_false_iff_not,decide_eq_false_iff_not];omega
    rw [C5z (j:=k) hlt (by omega)]
    (repeat' ((first
 | (first|refine Afz ?_|refine Aaz ?_)
 | (first|refine Agz ?_|refine Aez ?_|refine Aoz ?_)
 | ((first|refine Aiz (fun h=>?_) (fun h=>?_))<;>(try simp only [h])<;>(try simp only [bitvec_to_nat] at h)<;>(try simp only [h])<;>(first|(exfalso;omega)|(exfalso;simp_all;done)|skip))
 | (first|refine Anz false ?_)
 | (first|(refine Akz (Apz (Dvz _ _)) ?_;rintro _ _ ⟨rfl,rfl⟩))
 | (refine Acz ⟨.inr rfl,_,rfl,?_⟩))<;>(try simp (disch:=omega) only [push_cast,seval,hw])))
  ·rw [Drz fun j h=>hj j (by omega)]
   (repeat' (first
 | (first|refine Afz ?_|refine Aaz ?_)
 | ((first|refine Agz ?_|refine Aez ?_|refine Atz ?_);simp (disch:=omega) only [push_cast,seval])
 | ((first|refine Aiz (fun h=>?_) (fun h=>?_))<;>(try simp only [h])<;>(try simp only [bitvec_to_nat] at h)<;>(try simp only [h])<;>(first|(exfalso;omega)|(exfalso;simp_all;done)|(simp (disch:=omega) only [push_cast,seval])|skip))
 | (refine Acz ⟨.inr rfl,_,rfl,?_⟩;(try simp (disch:=omega) only [push_cast,seval]))))


theorem Fuz (xs:List Int)(n:Nat)(hn:xs.length=n)(hg:good9 xs):PCall Tryz.prog 49 [.rows false (IL xs) n] (fun r=>r=.int .i64 (pr xs)):=by
 subst hn
 have hl:=hg.2
 refine Axz l49_eq rfl ?_
 (repeat' (first
 | (first|refine Afz ?_|refine Aaz ?_)
 | ((first|refine Agz ?_);simp (disch:=omega) only [push_cast,seval])
 | (refine Acz ⟨.inr rfl,_,rfl,?_⟩;(try simp (disch:=omega) only [push_cast,seval]))))
 refine A0z (fun k:Nat=>mkS [(3,.int .i64 (pr (xs.take k))),(6,RI xs),(7,.int .i64 xs.length),(8,.int .i64 k)] [])
  (fun k=>k≤xs.length) (fun k=>xs.length-k) 0 (Nat.zero_le _) ?_ ?_
 ·(refine Sub.of_lists ?_ ?_ ?_ ?_ ?_<;>simp [Vw.mkS,Vw.lk,Vw.hk,AV.inn,innL,Ajz,Ahz,Alz,-List.map_set,-List.getD_eq_getElem?_getD,Flz])
 ·intro k hk
  by_cases hlt:k<xs.length
  ·have h1:=Efz (good9_take hg (k+1))
   have h2:=Cjz xs k hlt
   (repeat' (first
 | (first|refine Afz ?_|refine Aaz ?_)
 | ((first|refine Agz ?_|refine Aez ?_|refine Aoz ?_);simp (disch:=omega) only [push_cast,seval])
 | ((first|refine Aiz (fun h=>?_) (fun h=>?_))<;>(try simp only [h])<;>(try simp only [bitvec_to_nat] at h)<;>(try simp only [h])<;>(first|(exfalso;omega)|(exfalso;simp_all;done)|(simp (disch:=omega) only [push_cast,seval])|skip))
 | (refine Acz ⟨.inr rfl,_,rfl,?_⟩;(try simp (disch:=omega) only [push_cast,seval]))))
   refine ⟨k+1,by omega,by omega,?_⟩
   (refine Sub.of_lists ?_ ?_ ?_ ?_ ?_<;>simp [Vw.mkS,Vw.lk,Vw.hk,AV.inn,innL,Ajz,Ahz,Alz,-List.map_set,-List.getD_eq_getElem?_getD,h2])
  ·(repeat' (first
 | (first|refine Afz ?_|refine Aaz ?_)
 | ((first|refine Agz ?_|refine Aez ?_|refine Atz ?_);simp (disch:=omega) only [push_cast,seval])
 | ((first|refine Aiz (fun h=>?_) (fun h=>?_))<;>(try simp only [h])<;>(try simp only [bitvec_to_nat] at h)<;>(try simp only [h])<;>(first|(exfalso;omega)|(exfalso;simp_all;done)|(simp (disch:=omega) only [push_cast,seval])|skip))
 | (refine Acz ⟨.inr rfl,_,rfl,?_⟩;(try simp (disch:=omega) only [push_cast,seval]))))
   rw [List.take_of_length_le (by omega)]


theorem Eaz:PCall Tryz.prog 73 [] (fun r=>r=.agg (IL ext0)):=by
 refine Axz l73_eq rfl ?_
 (repeat' (first
 | (first|refine Afz ?_|refine Aaz ?_)
 | ((first|refine Agz ?_);simp (disch:=omega) only [push_cast,seval])
 | ((first|refine Acz ⟨.inr rfl,_,rfl,?_⟩|refine Acz ⟨.inr rfl,_,Buz rfl rfl (by assumption) rfl,?_⟩);(try simp (disch:=omega) only [push_cast,seval]))))
 have e0:IL (filled (fun _=>-1) 5 0)=[.int .i64 0,.int .i64 0,.int .i64 0,.int .i64 0,.int .i64 0]:=rfl
 have e5:filled (fun _=>-1) 5 5=ext0:=rfl
 refine A0z (fun k:Nat=>mkS [(0,.ref 0 5 0),(1,.ref 16 5 0),(3,.int .i64 k)] [(0,[.int .i64 0,.int .i64 0,.int .i64 0,.int .i64 0,.int .i64 0]),(16,IL (filled (fun _=>-1) 5 k))])
  (fun k=>k≤5) (fun k=>5-k) 0 (Nat.zero_le _) ?_ ?_
 ·(refine Sub.of_lists ?_ ?_ ?_ ?_ ?_<;>simp [Vw.mkS,Vw.lk,Vw.hk,AV.inn,innL,Ajz,Ahz,Alz,-List.map_set,-List.getD_eq_getElem?_getD,e0])
 ·intro k hk
  by_cases hlt:k<5
  ·have e:=C4z (fun _=>-1) 5 k hlt
   (repeat' (first
 | (first|refine Afz ?_|refine Aaz ?_)
 | ((first|refine Agz ?_|refine Aez ?_|refine Aoz ?_);simp (disch:=omega) only [push_cast,seval])
 | ((first|refine Aiz (fun h=>?_) (fun h=>?_))<;>(try simp only [h])<;>(try simp only [bitvec_to_nat] at h)<;>(try simp only [h])<;>(first|(exfalso;omega)|(exfalso;simp_all;done)|(simp (disch:=omega) only [push_cast,seval])|skip))
 | ((first|refine Acz ⟨.inr rfl,_,rfl,?_⟩|refine Acz ⟨.inr rfl,_,Buz rfl rfl (by assumption) rfl,?_⟩);(try simp (disch:=omega) only [push_cast,seval]))))
   refine ⟨k+1,by omega,by omega,?_⟩
   (refine Sub.of_lists ?_ ?_ ?_ ?_ ?_<;>simp [Vw.mkS,Vw.lk,Vw.hk,AV.inn,innL,Ajz,Ahz,Alz,-List.map_set,-List.getD_eq_getElem?_getD,Ayz,e])
  ·have e:k=5:=by omega
   subst e
   rw [e5]
   have s5:=set5 (e:=ext0) rfl
   have t5:=tak5 (e:=ext0) rfl
   have l5:=Ciz
   (repeat' (first
 | (first|refine Afz ?_|refine Aaz ?_)
 | ((first|refine Agz ?_|refine Aez ?_|refine Atz ?_);simp (disch:=omega) only [push_cast,seval,s5,t5,l5])
 | ((first|refine Acz ⟨.inr rfl,_,rfl,?_⟩|refine Acz ⟨.inr rfl,_,Buz rfl rfl (by assumption) rfl,?_⟩);(try simp (disch:=omega) only [push_cast,seval,s5,t5,l5]))))


set_option maxHeartbeats 16000000 in
theorem agreed_ok (ts:List Tn)(ls:List (List Int))(n m:Nat)(hn:ts.length=n)(hm:ls.length=m)(hb:m=n∧n≤1099511627776∧(∀ t∈ts,t.1.length≤1099511627776∧t.2.length≤1099511627776)∧∀ l∈ls,l.length≤1099511627776) :
  PCall Tryz.prog 74 [.rows false (TL false ts) n,.rows false (LL false ls) m] (fun r=>∃ g:List Int,((agO ts ls).getD g).length=5∧r=.tup [.agg (IL ((agO ts ls).getD g)),.bool (agO ts ls).isSome]):=by
 subst hn hm
 obtain ⟨hmn,hb1,hb2,hb3⟩:=hb
 refine Axz l74_eq rfl ?_
 have htl:=Eyz false ts
 have hll:=Dsz false ls
 have sE:=fun e (he:e.length=5)=>@set5 e he
 have s0:=set5 (e:=ext0) rfl
 have t0:=tak5 (e:=ext0) rfl
 have l0:=Ciz
 (repeat' ((first
 | (first|refine Afz ?_|refine Aaz ?_)
 | (first|refine Agz ?_)
 | (first|refine Anz false ?_)
 | (first|(refine Akz (Apz (Eaz)) ?_;rintro _ _ ⟨rfl,rfl⟩))
 | (first|refine Acz ⟨.inr rfl,_,rfl,?_⟩|refine Acz ⟨.inr rfl,_,Buz rfl rfl (by assumption) rfl,?_⟩))<;>(try simp (disch:=omega) only [push_cast,seval,s0,t0,l0,Arz,Amz])))
 refine A0z (fun x:Nat×List Int=>mkS [(0,.rows false (TL false ts) ts.length),(1,.rows false (LL false ls) ls.length),(4,.ref 64 5 0),(6,.ref 96 5 0),(12,.rows false (TL false ts) ts.length),(13,.int .i64 ts.length),(14,.int .i64 x.1)] [(64,[.int .i64 0,.int .i64 0,.int .i64 0,.int .i64 0,.int .i64 0]),(96,IL x.2)])
  (fun x=>x.1≤ts.length∧x.2.length=5∧extG ext0 (prsOf (ts.take x.1) (ls.take x.1))=some x.2∧∀ k t l,k<x.1→ts[k]?=some t→ls[k]?=some l→vT t=true∧l.length=t.1.length∧allI l 0 4=true) (fun x=>ts.length-x.1) (0,ext0) ⟨Nat.zero_le _,rfl,rfl,fun k t l h=>absurd h (Nat.not_lt_zero _)⟩ ?_ ?_
 ·(refine Sub.of_lists ?_ ?_ ?_ ?_ ?_<;>simp [Vw.mkS,Vw.lk,Vw.hk,AV.inn,innL,Ajz,Ahz,Alz,-List.map_set,-List.getD_eq_getElem?_getD,Arz,Amz])
 ·rintro ⟨i,e⟩ ⟨hi,h5,he,hall⟩
  simp only at hi h5 he hall ⊢
  have s5:=set5 h5
  have t5:=tak5 h5
  by_cases hlt:i<ts.length
  ·obtain ⟨⟨x,y⟩,ht⟩:=Hmz hlt
   obtain ⟨l,hl⟩:=Hmz (l:=ls) (i:=i) (by omega)
   have hbt:=hb2 _ (List.mem_of_getElem? ht)
   have hbl:=hb3 _ (List.mem_of_getElem? hl)
   have hd:=TL_drop false ts i ht
   have hd2:=K8z false ls i hl
   simp only at hd hbt
   have hil:i*2+2≤ts.length*2:=by omega
   have hil2:i+1≤ls.length:=by omega
   cases hv:vT (x,y) with
 | false =>
    have hf:=agO_bad (ls:=ls) ht hv
    (repeat' ((first
 | (first|refine Afz ?_|refine Aaz ?_)
 | (first|refine Agz ?_|refine Auz (mid:=l74r5a) (post:=l74r5b) Bfz (by decide) ?_|refine Aez ?_|refine Aoz ?_)
 | ((first|refine Aiz (fun h=>?_) (fun h=>?_))<;>(try simp only [h])<;>(try simp only [bitvec_to_nat] at h)<;>(try simp only [h])<;>(first|(exfalso;omega)|(exfalso;simp_all;done)|skip))
 | (first|refine A7z false ?_)
 | (first|(refine Asz (Apz (Emz _ _ _ _ ?_ ?_ ?_)) ⟨_,_,rfl,rfl⟩ ?_;(iterate 3 (exact sd));rintro _ _ ⟨rfl,rfl⟩))
 | (first|refine Acz ⟨.inr rfl,_,rfl,?_⟩|refine Acz ⟨.inr rfl,_,Buz rfl rfl (by assumption) rfl,?_⟩))<;>(try simp (disch:=omega) only [push_cast,seval,hd,hd2,htl,hll,hil,hil2,hv,s5,t5,h5,Arz,Amz])))
    all_goals (rw [hf];exact ⟨e,h5,rfl⟩)
 | true =>
    by_cases hc:(l.length=x.length∧allI l 0 4=true)
    ·obtain ⟨hc1,hc2⟩:=hc
     have hx4:x.length≤4:=(vT_len60 hv).1
     have hlab:=Boz.1 hc2
     (repeat' ((first
 | (first|refine Afz ?_|refine Aaz ?_)
 | (first|refine Agz ?_|refine Auz (mid:=l74r5a) (post:=l74r5b) Bfz (by decide) ?_|refine Aez ?_|refine Aoz ?_)
 | ((first|refine Aiz (fun h=>?_) (fun h=>?_))<;>(try simp only [h])<;>(try simp only [bitvec_to_nat] at h)<;>(try simp only [h])<;>(first|(exfalso;omega)|(exfalso;simp_all;done)|skip))
 | (first|refine Anz false ?_|refine A7z false ?_)
 | (first|((first|refine Akz (Apz (Emz _ _ _ _ ?_ ?_ ?_)) ?_|refine Asz (Apz (Emz _ _ _ _ ?_ ?_ ?_)) ⟨_,_,rfl,rfl⟩ ?_);(iterate 3 (exact sd));rintro _ _ ⟨rfl,rfl⟩)|((first|refine Akz (Apz (J0z _ _ ?_ ?_)) ?_|refine Asz (Apz (J0z _ _ ?_ ?_)) ⟨_,_,rfl,rfl⟩ ?_);(iterate 2 (exact sd));rintro _ _ ⟨rfl,rfl⟩))
 | ((first | refine Acz ⟨.inr rfl,_,rfl,?_⟩ | refine Acz ⟨.inr rfl,_,Buz rfl rfl (by assumption) rfl,?_⟩); (try simp (disch := omega) only [push_cast,seval,hd,hd2,htl,hll,hil,hil2,hv,hc1,hc2,s5,t5,h5,Arz,Amz])))<;>(try simp (disch:=omega) only [push_cast,seval,hd,hd2,htl,hll,hil,hil2,hv,hc1,hc2,s5,t5,h5,Arz,Amz])))
     refine A0z (fun z:Nat×List Int=>mkS [(0,.rows false (TL false ts) ts.length),(1,.rows false (LL false ls) ls.length),(4,.ref 64 5 0),(6,.ref 96 5 0),(8,.ref 128 2 0),(12,.rows false (TL false ts) ts.length),(13,.int .i64 ts.length),(14,.int .i64 i),(45,RI l),(46,.int .i64 x.length),(47,.int .i64 z.1)] [(64,[.int .i64 0,.int .i64 0,.int .i64 0,.int .i64 0,.int .i64 0]),(96,IL z.2),(128,[RI x,RI y])])
      (fun z=>z.1≤x.length∧z.2.length=5∧extG ext0 (prsOf (ts.take i) (ls.take i)++(l.zip x).take z.1)=some z.2) (fun z=>x.length-z.1) (0,e) ⟨Nat.zero_le _,h5,by rw [List.take_zero,List.append_nil];exact he⟩ ?_ ?_
     ·(refine Sub.of_lists ?_ ?_ ?_ ?_ ?_<;>simp [Vw.mkS,Vw.lk,Vw.hk,AV.inn,innL,Ajz,Ahz,Alz,-List.map_set,-List.getD_eq_getElem?_getD,Arz,Amz,hc1])
     ·rintro ⟨j,f⟩ ⟨hj,hf5,hf⟩
      simp only at hj hf5 hf ⊢
      have fs5:=set5 hf5
      have ft5:=tak5 hf5
      by_cases hjl:j<x.length
      ·have hk:=hlab _ (Bcz (xs:=l) (j:=j) (by omega))
       obtain ⟨c,hc⟩:∃ c:Nat,l.getD j 0=c:=⟨(l.getD j 0).toNat,by omega⟩
       have hc5:c<5:=by omega
       have hct:(l.getD j 0).toNat=c:=by omega
       by_cases hbad:0≤f.getD c 0∧f.getD c 0≠x.getD j 0
       ·have hno:=agO_none (exT_fail ht hl (j:=j) (by omega) hjl hf (by rw [hct];exact hbad))
        have hb1':=hbad.1
        have hb2':=hbad.2
        (repeat' (first
 | (first|refine Afz ?_|refine Aaz ?_)
 | ((first|refine Agz ?_|refine Auz (mid:=l74r10a) (post:=l74r10b) Bfz (by decide) ?_|refine Aez ?_|refine Aoz ?_);simp (disch:=omega) only [push_cast,seval,hd,hd2,htl,hll,hil,hil2,hc,hb1',hb2',fs5,ft5,hf5,Arz,Amz])
 | ((first|refine Aiz (fun h=>?_) (fun h=>?_))<;>(try simp only [h])<;>(try simp only [bitvec_to_nat] at h)<;>(try simp only [h])<;>(first|(exfalso;omega)|(exfalso;simp_all;done)|(simp (disch:=omega) only [push_cast,seval,hd,hd2,htl,hll,hil,hil2,hc,hb1',hb2',fs5,ft5,hf5,Arz,Amz])|skip))
 | ((first | refine Acz ⟨.inr rfl,_,rfl,?_⟩ | refine Acz ⟨.inr rfl,_,Buz rfl rfl (by assumption) rfl,?_⟩); (try simp (disch := omega) only [push_cast,seval,hd,hd2,htl,hll,hil,hil2,hc,hb1',hb2',fs5,ft5,hf5,Arz,Amz]))))
        all_goals (rw [hno];exact ⟨f,hf5,rfl⟩)
       ·have hstep:=extG_step (p:=(l.getD j 0,x.getD j 0)) hf (by simp only;rw [hct];exact hbad)
        rw [List.append_assoc,← J8z (by omega) hjl] at hstep
        simp only [hct] at hstep
        by_cases hz:0≤f.getD c 0
        ·have hy:f.getD c 0=x.getD j 0:=by
          by_cases hq:f.getD c 0=x.getD j 0
          ·exact hq
          ·exact absurd ⟨hz,hq⟩ hbad
         (repeat' (first
 | (first|refine Afz ?_|refine Aaz ?_)
 | ((first|refine Agz ?_|refine Auz (mid:=l74r10a) (post:=l74r10b) Bfz (by decide) ?_|refine Aez ?_|refine Aoz ?_);simp (disch:=omega) only [push_cast,seval,hd,hd2,htl,hll,hil,hil2,hc,hz,hy,fs5,ft5,hf5,Arz,Amz])
 | ((first|refine Aiz (fun h=>?_) (fun h=>?_)|refine qIf_split (fun h=>?_) (fun h=>?_))<;>(try simp only [h])<;>(try simp only [bitvec_to_nat] at h)<;>(try simp only [h])<;>(first|(exfalso;omega)|(exfalso;simp_all;done)|(simp (disch:=omega) only [push_cast,seval,hd,hd2,htl,hll,hil,hil2,hc,hz,hy,fs5,ft5,hf5,Arz,Amz])|skip))
 | ((first | refine Acz ⟨.inr rfl,_,rfl,?_⟩ | refine Acz ⟨.inr rfl,_,Buz rfl rfl (by assumption) rfl,?_⟩); (try simp (disch := omega) only [push_cast,seval,hd,hd2,htl,hll,hil,hil2,hc,hz,hy,fs5,ft5,hf5,Arz,Amz]))))
         refine ⟨(j+1,f.set c (x.getD j 0)),⟨by simp only;omega,by rw [List.length_set];exact hf5,hstep⟩,by simp only;omega,?_⟩
         (refine Sub.of_lists ?_ ?_ ?_ ?_ ?_<;>simp [Vw.mkS,Vw.lk,Vw.hk,AV.inn,innL,Ajz,Ahz,Alz,-List.map_set,-List.getD_eq_getElem?_getD,Ayz,Arz,Amz])
        ·(repeat' (first
 | (first|refine Afz ?_|refine Aaz ?_)
 | ((first|refine Agz ?_|refine Auz (mid:=l74r10a) (post:=l74r10b) Bfz (by decide) ?_|refine Aez ?_|refine Aoz ?_);simp (disch:=omega) only [push_cast,seval,hd,hd2,htl,hll,hil,hil2,hc,hz,fs5,ft5,hf5,Arz,Amz])
 | ((first|refine Aiz (fun h=>?_) (fun h=>?_))<;>(try simp only [h])<;>(try simp only [bitvec_to_nat] at h)<;>(try simp only [h])<;>(first|(exfalso;omega)|(exfalso;simp_all;done)|(simp (disch:=omega) only [push_cast,seval,hd,hd2,htl,hll,hil,hil2,hc,hz,fs5,ft5,hf5,Arz,Amz])|skip))
 | ((first | refine Acz ⟨.inr rfl,_,rfl,?_⟩ | refine Acz ⟨.inr rfl,_,Buz rfl rfl (by assumption) rfl,?_⟩); (try simp (disch := omega) only [push_cast,seval,hd,hd2,htl,hll,hil,hil2,hc,hz,fs5,ft5,hf5,Arz,Amz]))))
         refine ⟨(j+1,f.set c (x.getD j 0)),⟨by simp only;omega,by rw [List.length_set];exact hf5,hstep⟩,by simp only;omega,?_⟩
         (refine Sub.of_lists ?_ ?_ ?_ ?_ ?_<;>simp [Vw.mkS,Vw.lk,Vw.hk,AV.inn,innL,Ajz,Ahz,Alz,-List.map_set,-List.getD_eq_getElem?_getD,Ayz,Arz,Amz])
      ·have ej:j=x.length:=by omega
       have hf':extG ext0 (prsOf (ts.take (i+1)) (ls.take (i+1)))=some f:=by
        rw [prs_succ ht hl,← hf,List.take_of_length_le (l:=l.zip x) (by simp;omega)]
       have hjx:¬ (j:Int)<x.length:=by omega
       (repeat' (first
 | (first|refine Afz ?_|refine Aaz ?_)
 | ((first|refine Agz ?_|refine Aez ?_|refine Atz ?_);simp (disch:=omega) only [push_cast,seval,hd,hd2,htl,hll,hil,hil2,fs5,ft5,hf5,Arz,Amz])
 | ((first|refine Aiz (fun h=>?_) (fun h=>?_))<;>(try simp only [h])<;>(try simp only [bitvec_to_nat] at h)<;>(try simp only [h])<;>(first|(exfalso;omega)|(exfalso;simp_all;done)|(simp (disch:=omega) only [push_cast,seval,hd,hd2,htl,hll,hil,hil2,fs5,ft5,hf5,Arz,Amz])|skip))
 | ((first | refine Acz ⟨.inr rfl,_,rfl,?_⟩ | refine Acz ⟨.inr rfl,_,Buz rfl rfl (by assumption) rfl,?_⟩); (try simp (disch := omega) only [push_cast,seval,hd,hd2,htl,hll,hil,hil2,fs5,ft5,hf5,Arz,Amz]))))
       refine ⟨(i+1,f),⟨by simp only;omega,hf5,hf',fun k t' l' hk ht' hl'=>?_⟩,by simp only;omega,?_⟩
       ·by_cases ek:k=i
        ·subst ek;rw [ht] at ht';rw [hl] at hl';cases ht';cases hl';exact ⟨hv,hc1,hc2⟩
        ·simp only at hk;exact hall k t' l' (by omega) ht' hl'
       ·(refine Sub.of_lists ?_ ?_ ?_ ?_ ?_<;>simp [Vw.mkS,Vw.lk,Vw.hk,AV.inn,innL,Ajz,Ahz,Alz,-List.map_set,-List.getD_eq_getElem?_getD,Arz,Amz])
    ·have hno:=agO_none (exT_lab ht hl (by rw [Bool.and_eq_false_iff];by_cases h1:l.length=x.length;exact .inr (Bool.eq_false_iff.2 fun h2=>hc ⟨h1,h2⟩);exact .inl (by simp [h1])))
     by_cases h1:l.length=x.length
     ·have h2:allI l 0 4=false:=Bool.eq_false_iff.2 fun h2=>hc ⟨h1,h2⟩
      (repeat' ((first
 | (first|refine Afz ?_|refine Aaz ?_)
 | (first|refine Agz ?_|refine Auz (mid:=l74r5a) (post:=l74r5b) Bfz (by decide) ?_|refine Aez ?_|refine Aoz ?_)
 | ((first|refine Aiz (fun h=>?_) (fun h=>?_))<;>(try simp only [h])<;>(try simp only [bitvec_to_nat] at h)<;>(try simp only [h])<;>(first|(exfalso;omega)|(exfalso;simp_all;done)|skip))
 | (first|refine Anz false ?_|refine A7z false ?_)
 | (first|((first|refine Akz (Apz (Emz _ _ _ _ ?_ ?_ ?_)) ?_|refine Asz (Apz (Emz _ _ _ _ ?_ ?_ ?_)) ⟨_,_,rfl,rfl⟩ ?_);(iterate 3 (exact sd));rintro _ _ ⟨rfl,rfl⟩)|((first|refine Akz (Apz (J0z _ _ ?_ ?_)) ?_|refine Asz (Apz (J0z _ _ ?_ ?_)) ⟨_,_,rfl,rfl⟩ ?_);(iterate 2 (exact sd));rintro _ _ ⟨rfl,rfl⟩))
 | ((first | refine Acz ⟨.inr rfl,_,rfl,?_⟩ | refine Acz ⟨.inr rfl,_,Buz rfl rfl (by assumption) rfl,?_⟩); (try simp (disch := omega) only [push_cast,seval,hd,hd2,htl,hll,hil,hil2,hv,h1,h2,s5,t5,h5,Arz,Amz])))<;>(try simp (disch:=omega) only [push_cast,seval,hd,hd2,htl,hll,hil,hil2,hv,h1,h2,s5,t5,h5,Arz,Amz])))
      all_goals (rw [hno];exact ⟨e,h5,rfl⟩)
     ·(repeat' ((first
 | (first|refine Afz ?_|refine Aaz ?_)
 | (first|refine Agz ?_|refine Auz (mid:=l74r5a) (post:=l74r5b) Bfz (by decide) ?_|refine Aez ?_|refine Aoz ?_)
 | ((first|refine Aiz (fun h=>?_) (fun h=>?_)|refine qIf_split (fun h=>?_) (fun h=>?_))<;>(try simp only [h])<;>(try simp only [bitvec_to_nat] at h)<;>(try simp only [h])<;>(first|(exfalso;omega)|(exfalso;simp_all;done)|skip))
 | (first|refine A7z false ?_)
 | (first|(refine Asz (Apz (Emz _ _ _ _ ?_ ?_ ?_)) ⟨_,_,rfl,rfl⟩ ?_;(iterate 3 (exact sd));rintro _ _ ⟨rfl,rfl⟩))
 | ((first | refine Acz ⟨.inr rfl,_,rfl,?_⟩ | refine Acz ⟨.inr rfl,_,Buz rfl rfl (by assumption) rfl,?_⟩); (try simp (disch := omega) only [push_cast,seval,hd,hd2,htl,hll,hil,hil2,hv,h1,s5,t5,h5,Arz,Amz])))<;>(try simp (disch:=omega) only [push_cast,seval,hd,hd2,htl,hll,hil,hil2,hv,h1,s5,t5,h5,Arz,Amz])))
      all_goals (rw [hno];exact ⟨e,h5,rfl⟩)
  ·have ei:i=ts.length:=by omega
   subst ei
   have hex:=exT_done hmn (fun k t l ht hl=>(hall k t l (List.getElem?_eq_some_iff.1 ht).1 ht hl).2) he
   have hag:agO ts ls=some e:=by
    unfold agO
    rw [if_pos,hex]
    refine List.all_eq_true.2 fun t ht=>?_
    obtain ⟨k,hk⟩:=List.mem_iff_getElem?.1 ht
    have hkl:=(List.getElem?_eq_some_iff.1 hk).1
    obtain ⟨l,hl⟩:=Hmz (l:=ls) (i:=k) (by omega)
    exact (hall k t l hkl hk hl).1
   (repeat' (first
 | (first|refine Afz ?_|refine Aaz ?_)
 | ((first|refine Agz ?_|refine Aez ?_|refine Atz ?_);simp (disch:=omega) only [push_cast,seval,s5,t5,h5,Arz,Amz])
 | ((first|refine Aiz (fun h=>?_) (fun h=>?_))<;>(try simp only [h])<;>(try simp only [bitvec_to_nat] at h)<;>(try simp only [h])<;>(first|(exfalso;omega)|(exfalso;simp_all;done)|(simp (disch:=omega) only [push_cast,seval,s5,t5,h5,Arz,Amz])|skip))
 | ((first|refine Acz ⟨.inr rfl,_,rfl,?_⟩|refine Acz ⟨.inr rfl,_,Buz rfl rfl (by assumption) rfl,?_⟩);(try simp (disch:=omega) only [push_cast,seval,s5,t5,h5,Arz,Amz]))))
   all_goals (rw [hag];exact ⟨e,h5,rfl⟩)

end Go.Proofs.YtapccmfnmiopoaaGreat
