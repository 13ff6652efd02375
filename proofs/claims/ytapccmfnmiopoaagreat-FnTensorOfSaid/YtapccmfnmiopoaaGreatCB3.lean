/- Texts of this verifier. -/
import Derived.Test.YtapccmfnmiopoaaGreatCB2
import Derived.Test.YtapccmfnmiopoaaGreatCM1
import Derived.Test.YtapccmfnmiopoaaGreatCW3
set_option maxHeartbeats 4000000
set_option linter.unusedSimpArgs false
set_option linter.unusedVariables false
set_option maxRecDepth 4000
namespace Go.Proofs.YtapccmfnmiopoaaGreat
open VwM Vw Go

theorem okV_of {b:Int}{sh st:List Int}(h1:vSh sh=true)(h2:vSt st sh.length=true)(h3:0≤b∧b≤60):okV b sh st∧st.length=sh.length:=by
 have hg:=A5z h1
 have hs:=(E0z.1 h2).1
 exact ⟨⟨⟨hg.1,hg.2.2⟩,by omega,by omega,fun i hi=>by have:=vSt_at h2 hi;omega⟩,hs⟩
theorem A4z {b:Int}{sh st:List Int}(h:vV b sh st=true):okV b sh st∧st.length=sh.length:=by
 obtain ⟨h1,h2,h3,_⟩:=Czz.1 h
 exact okV_of h1 h2 h3
theorem vV_shape {b:Int}{sh st:List Int}(h:vSh sh=false):vV b sh st=false:=by simp [vV,h]
theorem vV_str {b:Int}{sh st:List Int}(h:vSt st sh.length=false):vV b sh st=false:=by simp [vV,h]
theorem vV_base {b:Int}{sh st:List Int}(h:¬ (0≤b∧b≤60)):vV b sh st=false:=by
 rw [Bool.eq_false_iff];intro h';exact h (Czz.1 h').2.2.1
theorem vV_rest {b:Int}{sh st:List Int}(h1:vSh sh=true)(h2:vSt st sh.length=true)(h3:0≤b∧b≤60):vV b sh st=(decide (pr sh=0) || allI (offs b sh st) 0 59):=by
 simp [vV,h1,h2,h3]


theorem Azz (b:Int)(sh st:List Int)(n m:Nat)(hn:sh.length=n)(hm:st.length=m)(hb:n≤1099511627776∧m≤1099511627776):PCall Tryz.prog 39 [.agg [.int .i64 b,.rows false (IL sh) n,.rows false (IL st) m]] (fun r=>r=.bool (vV b sh st)):=by
 subst hn hm
 obtain ⟨hb1,hb2⟩:=hb
 refine Axz l39_eq rfl ?_
 cases hv:vSh sh with
 | false =>
  rw [vV_shape hv]
  (repeat' ((first
 | (first|refine Afz ?_|refine Aaz ?_)
 | (first|refine Agz ?_)
 | (first|refine Anz false ?_)
 | (first|(refine Akz (Apz (Bhz _ _ ?_ ?_)) ?_;(iterate 2 (exact sd));rintro _ _ ⟨rfl,rfl⟩))
 | (refine Acz ⟨.inr rfl,_,rfl,?_⟩))<;>(try simp (disch:=omega) only [push_cast,seval,hv])))
 | true =>
 have hg:=(A5z hv).1
 by_cases hl:st.length=sh.length
 ·have hl':(st.length:Int)=sh.length:=by omega
  cases ha:allI st (-60) 60 with
  | false =>
   rw [vV_str (by simp [vSt,ha])]
   (repeat' ((first
 | (first|refine Afz ?_|refine Aaz ?_)
 | (first|refine Agz ?_)
 | (first|refine Anz false ?_)
 | (first|(refine Akz (Apz (Bhz _ _ ?_ ?_)) ?_;(iterate 2 (exact sd));rintro _ _ ⟨rfl,rfl⟩)|(refine Akz (Apz (Cvz _ _ _ _ ?_ ?_)) ?_;(iterate 2 (exact sd));rintro _ _ ⟨rfl,rfl⟩))
 | (refine Acz ⟨.inr rfl,_,rfl,?_⟩))<;>(try simp (disch:=omega) only [push_cast,seval,hv,hl',ha])))
  | true =>
   have hs:vSt st sh.length=true:=by simp [vSt,hl,ha]
   by_cases hr:0≤b∧b≤60
   ·have hok:=(okV_of hv hs hr).1
    rw [vV_rest hv hs hr]
    obtain ⟨hr1,hr2⟩:=hr
    have hol:=Bjz b sh st
    have hpb:=(A5z hv).2
    have hb3:(offs b sh st).length≤1099511627776:=by omega
    by_cases hz:pr sh=0
    ·(repeat' ((first
 | (first|refine Afz ?_|refine Aaz ?_)
 | (first|refine Agz ?_)
 | (first|refine Anz false ?_)
 | (first|(refine Akz (Apz (Bhz _ _ ?_ ?_)) ?_;(iterate 2 (exact sd));rintro _ _ ⟨rfl,rfl⟩)|(refine Akz (Apz (Cvz _ _ _ _ ?_ ?_)) ?_;(iterate 2 (exact sd));rintro _ _ ⟨rfl,rfl⟩)|(refine Akz (Apz (Bvz _ _ _)) ?_;rintro _ _ ⟨rfl,rfl⟩)|(refine Akz (Apz (B1z _ _ ?_ ?_)) ?_;(iterate 2 (exact sd));rintro _ _ ⟨rfl,rfl⟩))
 | (refine Acz ⟨.inr rfl,_,rfl,?_⟩; (try simp (disch := omega) only [push_cast,seval,hv,hl',ha,hr1,hr2,hz])))<;>(try simp (disch:=omega) only [push_cast,seval,hv,hl',ha,hr1,hr2,hz])))
     all_goals simp
    ·(repeat' ((first
 | (first|refine Afz ?_|refine Aaz ?_)
 | (first|refine Agz ?_)
 | (first|refine Anz false ?_)
 | (first|(refine Akz (Apz (Bhz _ _ ?_ ?_)) ?_;(iterate 2 (exact sd));rintro _ _ ⟨rfl,rfl⟩)|(refine Akz (Apz (Cvz _ _ _ _ ?_ ?_)) ?_;(iterate 2 (exact sd));rintro _ _ ⟨rfl,rfl⟩)|(refine Akz (Apz (Bvz _ _ _)) ?_;rintro _ _ ⟨rfl,rfl⟩)|(refine Akz (Apz (B1z _ _ ?_ ?_)) ?_;(iterate 2 (exact sd));rintro _ _ ⟨rfl,rfl⟩)|(refine Akz (Fsz _ _ _ _ _ ?_ ?_ ?_) ?_;(iterate 3 (exact sd));rintro _ _ ⟨rfl,rfl⟩))
 | (refine Acz ⟨.inr rfl,_,rfl,?_⟩; (try simp (disch := omega) only [push_cast,seval,hv,hl',ha,hr1,hr2,hz])))<;>(try simp (disch:=omega) only [push_cast,seval,hv,hl',ha,hr1,hr2,hz])))
     all_goals simp
   ·rw [vV_base hr]
    have hr':(decide (0≤b)&&decide (b≤60))=false:=by
     rw [Bool.eq_false_iff];intro h;simp at h;exact hr h
    (repeat' ((first
 | (first|refine Afz ?_|refine Aaz ?_)
 | (first|refine Agz ?_)
 | (first|refine Anz false ?_)
 | (first|(refine Akz (Apz (Bhz _ _ ?_ ?_)) ?_;(iterate 2 (exact sd));rintro _ _ ⟨rfl,rfl⟩)|(refine Akz (Apz (Cvz _ _ _ _ ?_ ?_)) ?_;(iterate 2 (exact sd));rintro _ _ ⟨rfl,rfl⟩)|(refine Akz (Apz (Bvz _ _ _)) ?_;rintro _ _ ⟨rfl,rfl⟩))
 | (refine Acz ⟨.inr rfl,_,rfl,?_⟩))<;>(try simp (disch:=omega) only [push_cast,seval,hv,hl',ha,hr'])))
 ·have hl':¬ (st.length:Int)=sh.length:=by omega
  rw [vV_str (by simp [vSt,hl])]
  (repeat' ((first
 | (first|refine Afz ?_|refine Aaz ?_)
 | (first|refine Agz ?_)
 | (first|refine Anz false ?_)
 | (first|(refine Akz (Apz (Bhz _ _ ?_ ?_)) ?_;(iterate 2 (exact sd));rintro _ _ ⟨rfl,rfl⟩))
 | (refine Acz ⟨.inr rfl,_,rfl,?_⟩))<;>(try simp (disch:=omega) only [push_cast,seval,hv,hl'])))


theorem Cdz (b:Int)(sh st:List Int)(n m:Nat)(hn:sh.length=n)(hm:st.length=m)(hb:n≤1099511627776∧m≤1099511627776):PCall Tryz.prog 22 [.agg [.int .i64 b,.rows false (IL sh) n,.rows false (IL st) m]] (fun r=>r=.bool (vV b sh st)):=by
 subst hn hm
 obtain ⟨hb1,hb2⟩:=hb
 refine Axz l22_eq rfl ?_
 cases hv:vSh sh with
 | false =>
  rw [vV_shape hv]
  (repeat' ((first
 | (first|refine Afz ?_|refine Aaz ?_)
 | (first|refine Agz ?_|refine Aez ?_)
 | (first|refine Anz false ?_)
 | (first|(refine Akz (Apz (Baz _ _ ?_ ?_)) ?_;(iterate 2 (exact sd));rintro _ _ ⟨rfl,rfl⟩))
 | (refine Acz ⟨.inr rfl,_,rfl,?_⟩))<;>(try simp (disch:=omega) only [push_cast,seval,hv])))
 | true =>
 have hg:=(A5z hv).1
 cases hs:vSt st sh.length with
 | false =>
  rw [vV_str hs]
  (repeat' ((first
 | (first|refine Afz ?_|refine Aaz ?_)
 | (first|refine Agz ?_|refine Aez ?_)
 | (first|refine Anz false ?_)
 | (first|(refine Akz (Apz (Baz _ _ ?_ ?_)) ?_;(iterate 2 (exact sd));rintro _ _ ⟨rfl,rfl⟩)|(refine Akz (Apz (Clz _ _ _ ?_ ?_)) ?_;(iterate 2 (exact sd));rintro _ _ ⟨rfl,rfl⟩))
 | (refine Acz ⟨.inr rfl,_,rfl,?_⟩))<;>(try simp (disch:=omega) only [push_cast,seval,hv,hs])))
 | true =>
  by_cases hr:0≤b∧b≤60
  ·rw [vV_rest hv hs hr]
   obtain ⟨hr1,hr2⟩:=hr
   have hbb:good4 sh∧vSt st sh.length=true∧-1000000≤b∧b≤1000000:=⟨hg,hs,by omega⟩
   by_cases hz:pr sh=0
   ·(repeat' ((first
 | (first|refine Afz ?_|refine Aaz ?_)
 | (first|refine Agz ?_|refine Aez ?_|refine Aoz ?_)
 | (first|refine Anz false ?_)
 | (first|(refine Akz (Apz (Baz _ _ ?_ ?_)) ?_;(iterate 2 (exact sd));rintro _ _ ⟨rfl,rfl⟩)|(refine Akz (Apz (Clz _ _ _ ?_ ?_)) ?_;(iterate 2 (exact sd));rintro _ _ ⟨rfl,rfl⟩)|(refine Akz (Apz (Dvz _ _)) ?_;rintro _ _ ⟨rfl,rfl⟩)|(refine Akz (Apz (I0z _ _ _ _ _ ?_ ?_ ?_)) ?_;(iterate 3 (exact sd));rintro _ _ ⟨rfl,rfl⟩)|(refine Akz (Apz (D9z _ _ _ _ _ _ ?_ ?_)) ?_;(iterate 2 (exact sd));rintro _ _ ⟨rfl,rfl⟩))
 | (refine Acz ⟨.inr rfl,_,rfl,?_⟩))<;>(try simp (disch:=omega) only [push_cast,seval,hv,hs,hr1,hr2,hz])))
    all_goals simp
   ·have hpb:=(A5z hv).2
    rw [bd_all hg (by omega)]
    have e1:bdL b sh st=b+lowS sh st sh.length:=if_neg hz
    have e2:bdH b sh st=b+highS sh st sh.length:=if_neg hz
    (repeat' ((first
 | (first|refine Afz ?_|refine Aaz ?_)
 | (first|refine Agz ?_|refine Aez ?_|refine Aoz ?_)
 | ((first|refine Bgz (fun h=>?_) (fun h=>?_))<;>(try simp only [h])<;>(try simp only [bitvec_to_nat] at h)<;>(try simp only [h])<;>(first|(exfalso;omega)|(exfalso;simp_all;done)|skip))
 | (first|refine Anz false ?_)
 | (first|(refine Akz (Apz (Baz _ _ ?_ ?_)) ?_;(iterate 2 (exact sd));rintro _ _ ⟨rfl,rfl⟩)|(refine Akz (Apz (Clz _ _ _ ?_ ?_)) ?_;(iterate 2 (exact sd));rintro _ _ ⟨rfl,rfl⟩)|(refine Akz (Apz (Dvz _ _)) ?_;rintro _ _ ⟨rfl,rfl⟩)|(refine Akz (Apz (I0z _ _ _ _ _ ?_ ?_ ?_)) ?_;(iterate 3 (exact sd));rintro _ _ ⟨rfl,rfl⟩)|(refine Akz (Apz (D9z _ _ _ _ _ _ ?_ ?_)) ?_;(iterate 2 (exact sd));rintro _ _ ⟨rfl,rfl⟩))
 | (refine Acz ⟨.inr rfl,_,rfl,?_⟩))<;>(try simp (disch:=omega) only [push_cast,seval,hv,hs,hr1,hr2,hz,e1,e2])))
    all_goals (simp [hz];try omega)
  ·rw [vV_base hr]
   have hr':(decide (0≤b)&&decide (b≤60))=false:=by
    rw [Bool.eq_false_iff];intro h;simp at h;exact hr h
   (repeat' ((first
 | (first|refine Afz ?_|refine Aaz ?_)
 | (first|refine Agz ?_|refine Aez ?_)
 | (first|refine Anz false ?_)
 | (first|(refine Akz (Apz (Baz _ _ ?_ ?_)) ?_;(iterate 2 (exact sd));rintro _ _ ⟨rfl,rfl⟩)|(refine Akz (Apz (Clz _ _ _ ?_ ?_)) ?_;(iterate 2 (exact sd));rintro _ _ ⟨rfl,rfl⟩)|(refine Akz (Apz (Dvz _ _)) ?_;rintro _ _ ⟨rfl,rfl⟩))
 | (refine Acz ⟨.inr rfl,_,rfl,?_⟩))<;>(try simp (disch:=omega) only [push_cast,seval,hv,hs,hr'])))


def fitB (b:Int)(sh st:List Int)(s:Int):Bool:=vV b sh st&&(decide (0≤s)&&decide (s≤60))&&allI (offs b sh st) 0 (s-1)


theorem sfits_ok (b:Int)(sh st:List Int)(s:Int)(n m:Nat)(hn:sh.length=n)(hm:st.length=m)(hb:okV b sh st∧-1000000≤s∧s≤1000000):PCall Tryz.prog 40 [.agg [.int .i64 b,.rows false (IL sh) n,.rows false (IL st) m],.int .i64 s] (fun r=>r=.bool (allI (offs b sh st) 0 (s-1))):=by
 subst hn hm
 obtain ⟨hok,hs1,hs2⟩:=hb
 have hol:=Bjz b sh st
 have hpb:=hok.1.2
 have hlb:(offs b sh st).length≤1099511627776:=by omega
 refine Axz l40_eq rfl ?_
 (repeat' ((first
 | (first|refine Afz ?_|refine Aaz ?_)
 | (first|refine Agz ?_)
 | (first|refine Anz false ?_)
 | (first|(refine Akz (Fsz _ _ _ _ _ ?_ ?_ ?_) ?_;(iterate 3 (exact sd));rintro _ _ ⟨rfl,rfl⟩)|(refine Akz (Apz (Cvz _ _ _ _ ?_ ?_)) ?_;(iterate 2 (exact sd));rintro _ _ ⟨rfl,rfl⟩))
 | (refine Acz ⟨.inr rfl,_,rfl,?_⟩))<;>(try simp (disch:=omega) only [push_cast,seval])))


theorem iFitsIn_ok (b:Int)(sh st:List Int)(s:Int)(n m:Nat)(hn:sh.length=n)(hm:st.length=m)(hb:n≤1099511627776∧m≤1099511627776):PCall Tryz.prog 33 [.agg [.int .i64 b,.rows false (IL sh) n,.rows false (IL st) m],.int .i64 s] (fun r=>r=.bool (fitB b sh st s)):=by
 subst hn hm
 obtain ⟨hb1,hb2⟩:=hb
 refine Axz l33_eq rfl ?_
 unfold fitB
 cases hv:vV b sh st with
 | false =>
  (repeat' ((first
 | (first|refine Afz ?_|refine Aaz ?_)
 | (first|refine Agz ?_|refine Aez ?_)
 | (first|refine Anz false ?_)
 | (first|(refine Akz (Apz (Cdz _ _ _ _ _ ?_ ?_ ?_)) ?_;(iterate 3 (exact sd));rintro _ _ ⟨rfl,rfl⟩))
 | (refine Acz ⟨.inr rfl,_,rfl,?_⟩))<;>(try simp (disch:=omega) only [push_cast,seval,hv])))
  all_goals simp
 | true =>
  obtain ⟨h1,h2,h3,-⟩:=Czz.1 hv
  have hg:=(A5z h1).1
  have q:good4 sh∧vSt st sh.length=true∧-1000000≤b∧b≤1000000:=⟨hg,h2,by omega⟩
  by_cases hr:0≤s∧s≤60
  ·obtain ⟨hr1,hr2⟩:=hr
   have hpb:=(A5z h1).2
   have e:allI (offs b sh st) 0 (s-1)=decide (bdH b sh st<s):=by
    by_cases hz:pr sh=0
    ·have h0:offs b sh st=[]:=by unfold offs;rw [hz];rfl
     rw [h0,bdH,if_pos hz]
     simp [allI]
     omega
    ·rw [bd_all hg (by omega),bdH,if_neg hz]
     have h5:=vV_cells hv _ (low_offs (b:=b) (st:=st) hg (by omega)).1
     rw [Bool.eq_iff_iff]
     simp
     omega
   rw [e]
   (repeat' ((first
 | (first|refine Afz ?_|refine Aaz ?_)
 | (first|refine Agz ?_|refine Aez ?_|refine Aoz ?_)
 | (first|refine Anz false ?_)
 | (first|(refine Akz (Apz (Cdz _ _ _ _ _ ?_ ?_ ?_)) ?_;(iterate 3 (exact sd));rintro _ _ ⟨rfl,rfl⟩)|(refine Akz (Apz (Dvz _ _)) ?_;rintro _ _ ⟨rfl,rfl⟩)|(refine Akz (Apz (I0z _ _ _ _ _ ?_ ?_ ?_)) ?_;(iterate 3 (exact sd));rintro _ _ ⟨rfl,rfl⟩))
 | (refine Acz ⟨.inr rfl,_,rfl,?_⟩))<;>(try simp (disch:=omega) only [push_cast,seval,hv,hr1,hr2])))
   all_goals simp [hr1,hr2]
  ·have hr':(decide (0≤s)&&decide (s≤60))=false:=by
    rw [Bool.eq_false_iff];intro h;simp at h;exact hr h
   (repeat' ((first
 | (first|refine Afz ?_|refine Aaz ?_)
 | (first|refine Agz ?_|refine Aez ?_)
 | (first|refine Anz false ?_)
 | (first|(refine Akz (Apz (Cdz _ _ _ _ _ ?_ ?_ ?_)) ?_;(iterate 3 (exact sd));rintro _ _ ⟨rfl,rfl⟩)|(refine Akz (Apz (Dvz _ _)) ?_;rintro _ _ ⟨rfl,rfl⟩))
 | (refine Acz ⟨.inr rfl,_,rfl,?_⟩))<;>(try simp (disch:=omega) only [push_cast,seval,hv,hr'])))
   all_goals simp [hr']

end Go.Proofs.YtapccmfnmiopoaaGreat
namespace Go.Proofs.YtapccmfnmiopoaaGreat
open VwM Vw Go

theorem Knz (xs:List Int)(n:Nat)(hn:xs.length=n)(hb:n≤1099511627776):PCall Tryz.prog 108 [.rows false (IL xs) n] (fun r=>r=.bool (decide xs.Nodup)):=by
 subst hn
 refine Axz l108_eq rfl ?_
 (repeat' (first
 | (first|refine Afz ?_|refine Aaz ?_)
 | ((first|refine Agz ?_);simp (disch:=omega) only [push_cast,seval])
 | (refine Acz ⟨.inr rfl,_,rfl,?_⟩;(try simp (disch:=omega) only [push_cast,seval]))))
 refine A0z (fun k:Nat=>mkS [(0,RI xs),(3,.int .i64 k)] []) (fun k=>k≤xs.length∧∀ j,j<k→xs.getD j 0 ∉ xs.take j) (fun k=>xs.length-k) 0 ⟨Nat.zero_le _,fun j h=>absurd h (Nat.not_lt_zero _)⟩ ?_ ?_
 ·(refine Sub.of_lists ?_ ?_ ?_ ?_ ?_<;>simp [Vw.mkS,Vw.lk,Vw.hk,AV.inn,innL,Ajz,Ahz,Alz,-List.map_set,-List.getD_eq_getElem?_getD])
 ·rintro k ⟨hk,hj⟩
  by_cases hlt:k<xs.length
  ·have hl:(xs.take k).length=k:=by simp;omega
   by_cases hm:xs.getD k 0∈xs.take k
   ·have hp:0≤placeI (xs.take k) (xs.getD k 0):=by
     have:=mt (@E7z (xs.take k) (xs.getD k 0)).1 (fun h=>h hm)
     omega
    have hno:¬ xs.Nodup:=not_nodup hlt hm
    (repeat' ((first
 | (first|refine Afz ?_|refine Aaz ?_)
 | (first|refine Agz ?_|refine Auz (mid:=l108r3a) (post:=l108r3b) Bfz (by decide) ?_|refine Aez ?_|refine Aoz ?_)
 | ((first|refine Aiz (fun h=>?_) (fun h=>?_))<;>(try simp only [h])<;>(try simp only [bitvec_to_nat] at h)<;>(try simp only [h])<;>(first|(exfalso;omega)|(exfalso;simp_all;done)|skip))
 | (first|refine Anz false ?_)
 | (first|(refine Akz (Apz (Jtz _ _ _ ?_ ?_)) ?_;(iterate 2 (exact sd));rintro _ _ ⟨rfl,rfl⟩))
 | (refine Acz ⟨.inr rfl,_,rfl,?_⟩))<;>(try simp (disch:=omega) only [push_cast,seval,hp,C0z,Nat.sub_zero])))
    simp [hno]
   ·have hp:¬ 0≤placeI (xs.take k) (xs.getD k 0):=by have:=(@E7z (xs.take k) (xs.getD k 0)).2 hm;omega
    (repeat' ((first
 | (first|refine Afz ?_|refine Aaz ?_)
 | (first|refine Agz ?_|refine Auz (mid:=l108r3a) (post:=l108r3b) Bfz (by decide) ?_|refine Aez ?_|refine Aoz ?_)
 | ((first|refine Aiz (fun h=>?_) (fun h=>?_))<;>(try simp only [h])<;>(try simp only [bitvec_to_nat] at h)<;>(try simp only [h])<;>(first|(exfalso;omega)|(exfalso;simp_all;done)|skip))
 | (first|refine Anz false ?_)
 | (first|(refine Akz (Apz (Jtz _ _ _ ?_ ?_)) ?_;(iterate 2 (exact sd));rintro _ _ ⟨rfl,rfl⟩))
 | (refine Acz ⟨.inr rfl,_,rfl,?_⟩))<;>(try simp (disch:=omega) only [push_cast,seval,hp,C0z,Nat.sub_zero])))
    refine ⟨k+1,⟨by omega,fun j h=>?_⟩,by omega,?_⟩
    ·by_cases hjk:j=k
     ·subst hjk;assumption
     ·exact hj j (by omega)
    ·(refine Sub.of_lists ?_ ?_ ?_ ?_ ?_<;>simp [Vw.mkS,Vw.lk,Vw.hk,AV.inn,innL,Ajz,Ahz,Alz,-List.map_set,-List.getD_eq_getElem?_getD])
  ·have hn:xs.Nodup:=nodup_iff.2 fun j h=>hj j (by omega)
   (repeat' (first
 | (first|refine Afz ?_|refine Aaz ?_)
 | ((first|refine Agz ?_|refine Aez ?_|refine Atz ?_);simp (disch:=omega) only [push_cast,seval])
 | ((first|refine Aiz (fun h=>?_) (fun h=>?_))<;>(try simp only [h])<;>(try simp only [bitvec_to_nat] at h)<;>(try simp only [h])<;>(first|(exfalso;omega)|(exfalso;simp_all;done)|(simp (disch:=omega) only [push_cast,seval])|skip))
 | (refine Acz ⟨.inr rfl,_,rfl,?_⟩;(try simp (disch:=omega) only [push_cast,seval]))))
   simp [hn]


end Go.Proofs.YtapccmfnmiopoaaGreat
namespace Go.Proofs.YtapccmfnmiopoaaGreat
open VwM Vw Go

theorem Eqz (xs ys:List Int)(n m:Nat)(hn:xs.length=n)(hm:ys.length=m)(hb:n≤1099511627776∧m≤1099511627776):PCall Tryz.prog 11 [.rows false (IL xs) n,.rows false (IL ys) m] (fun r=>r=.bool (decide (xs=ys))):=by
 subst hn hm
 refine Axz l11_eq rfl ?_
 by_cases hl:xs.length=ys.length
 ·have hl':(xs.length:Int)=ys.length:=by omega
  (repeat' (first
 | (first|refine Afz ?_|refine Aaz ?_)
 | ((first|refine Agz ?_|refine Aez ?_|refine Aoz ?_);simp (disch:=omega) only [push_cast,seval,hl'])
 | (refine Acz ⟨.inr rfl,_,rfl,?_⟩;(try simp (disch:=omega) only [push_cast,seval,hl']))))
  refine A0z (fun k:Nat=>mkS [(0,RI xs),(1,RI ys),(5,.int .i64 k)] []) (fun k=>k≤xs.length∧∀ j:Nat,j<k→xs.getD j 0=ys.getD j 0) (fun k=>xs.length-k) 0 ⟨Nat.zero_le _,fun j h=>absurd h (Nat.not_lt_zero _)⟩ ?_ ?_
  ·(refine Sub.of_lists ?_ ?_ ?_ ?_ ?_<;>simp [Vw.mkS,Vw.lk,Vw.hk,AV.inn,innL,Ajz,Ahz,Alz,-List.map_set,-List.getD_eq_getElem?_getD,hl])
  ·rintro k ⟨hk,hj⟩
   by_cases hlt:k<xs.length
   ·(repeat' (first
 | (first|refine Afz ?_|refine Aaz ?_)
 | ((first|refine Agz ?_|refine Auz (mid:=l11r5a) (post:=l11r5b) Bfz (by decide) ?_|refine Aez ?_|refine Aoz ?_);simp (disch:=omega) only [push_cast,seval])
 | ((first|refine Aiz (fun h=>?_) (fun h=>?_))<;>(try simp only [h])<;>(try simp only [bitvec_to_nat] at h)<;>(try simp only [h])<;>(first|(exfalso;omega)|(exfalso;simp_all;done)|(simp (disch:=omega) only [push_cast,seval])|skip))
 | (refine Acz ⟨.inr rfl,_,rfl,?_⟩;(try simp (disch:=omega) only [push_cast,seval]))))
    ·simp;rintro rfl;exact absurd rfl ‹_›
    ·refine ⟨k+1,⟨by omega,fun j h=>?_⟩,by omega,?_⟩
     ·by_cases hjk:j=k
      ·subst hjk;assumption
      ·exact hj j (by omega)
     ·(refine Sub.of_lists ?_ ?_ ?_ ?_ ?_<;>simp [Vw.mkS,Vw.lk,Vw.hk,AV.inn,innL,Ajz,Ahz,Alz,-List.map_set,-List.getD_eq_getElem?_getD])
   ·(repeat' (first
 | (first|refine Afz ?_|refine Aaz ?_)
 | ((first|refine Agz ?_|refine Aez ?_|refine Atz ?_);simp (disch:=omega) only [push_cast,seval])
 | ((first|refine Aiz (fun h=>?_) (fun h=>?_))<;>(try simp only [h])<;>(try simp only [bitvec_to_nat] at h)<;>(try simp only [h])<;>(first|(exfalso;omega)|(exfalso;simp_all;done)|(simp (disch:=omega) only [push_cast,seval])|skip))
 | (refine Acz ⟨.inr rfl,_,rfl,?_⟩;(try simp (disch:=omega) only [push_cast,seval]))))
    have:xs=ys:=B2z hl fun j h=>hj j (by omega)
    simp [this]
 ·have hl':¬ (xs.length:Int)=ys.length:=by omega
  have:¬ xs=ys:=by rintro rfl;exact hl rfl
  (repeat' (first
 | (first|refine Afz ?_|refine Aaz ?_)
 | ((first|refine Agz ?_|refine Aez ?_);simp (disch:=omega) only [push_cast,seval,hl'])
 | (refine Acz ⟨.inr rfl,_,rfl,?_⟩;(try simp (disch:=omega) only [push_cast,seval,hl']))))
  simp [this]


theorem back_ok (xs:List Int)(n:Nat)(hn:xs.length=n)(hb:n≤1099511627776):BCall Tryz.prog 8 [.rows false (IL xs) n] [] (OI xs.reverse):=by
 subst hn
 refine Awz (pins:=[]) (pin:=0) l8_eq rfl rfl rfl ?_
 (repeat' (first
 | (first|refine Afz ?_|refine Aaz ?_)
 | ((first|refine Agz ?_);simp (disch:=omega) only [push_cast,seval])
 | (refine Acz ⟨.inr rfl,[80],[],_,by decide,rfl,?_⟩;(try simp (disch:=omega) only [push_cast,seval,↓Adz,↓Abz,↓List.map_cons,↓List.map_nil]);(first|done|(show AV.own _ _ _=_∧_)))
 | (refine Acz ⟨.inr rfl,[288],[],_,by decide,rfl,?_⟩;(try simp (disch:=omega) only [push_cast,seval,↓Adz,↓Abz,↓List.map_cons,↓List.map_nil]);(first|done|(show AV.own _ _ _=_∧_)))
 | (refine Acz ⟨.inr rfl,[304],[],_,by decide,rfl,?_⟩;(try simp (disch:=omega) only [push_cast,seval,↓Adz,↓Abz,↓List.map_cons,↓List.map_nil]);(first|done|(show AV.own _ _ _=_∧_)))))
 refine A0z (fun k:Nat=>mkS [(0,RI xs),(4,.int .i64 ((xs.length:Int)-1-(k:Int))),(3,.own 80 k 1)] [(80,IL (revT xs k))])
  (fun k=>k≤xs.length) (fun k=>xs.length-k) 0 (Nat.zero_le _) ?_ ?_
 ·(refine Sub.of_lists ?_ ?_ ?_ ?_ ?_<;>simp [Vw.mkS,Vw.lk,Vw.hk,AV.inn,innL,Ajz,Ahz,Alz,-List.map_set,-List.getD_eq_getElem?_getD,revT_zero])
 ·intro k hk
  have e3:=H1z xs k hk
  by_cases hlt:k<xs.length
  ·have e1:=Guz xs.length k hlt
   have e2:=revT_succ xs k hlt
   (repeat' (first
 | (first|refine Afz ?_|refine Aaz ?_)
 | ((first|refine Agz ?_|refine Aez ?_|refine Aoz ?_);simp (disch:=omega) only [push_cast,seval,e1])
 | ((first|refine Aiz (fun h=>?_) (fun h=>?_))<;>(try simp only [h])<;>(try simp only [bitvec_to_nat] at h)<;>(try simp only [h])<;>(first|(exfalso;omega)|(exfalso;simp_all;done)|(simp (disch:=omega) only [push_cast,seval,e1])|skip))
 | (refine Acz ⟨.inr rfl,[80],[],_,by decide,rfl,?_⟩;(try simp (disch:=omega) only [push_cast,seval,↓Adz,↓Abz,↓List.map_cons,↓List.map_nil,e1]);(first|done|(show AV.own _ _ _=_∧_)))
 | (refine Acz ⟨.inr rfl,[288],[],_,by decide,rfl,?_⟩;(try simp (disch:=omega) only [push_cast,seval,↓Adz,↓Abz,↓List.map_cons,↓List.map_nil,e1]);(first|done|(show AV.own _ _ _=_∧_)))
 | (refine Acz ⟨.inr rfl,[304],[],_,by decide,rfl,?_⟩;(try simp (disch:=omega) only [push_cast,seval,↓Adz,↓Abz,↓List.map_cons,↓List.map_nil,e1]);(first|done|(show AV.own _ _ _=_∧_)))))
   refine ⟨k+1,by omega,by omega,?_⟩
   have e4:(xs.length:Int)-1-((k:Int)+1)=(xs.length:Int)-1-(k:Int)-1:=by omega
   (refine Sub.of_lists ?_ ?_ ?_ ?_ ?_<;>simp [Vw.mkS,Vw.lk,Vw.hk,AV.inn,innL,Ajz,Ahz,Alz,-List.map_set,-List.getD_eq_getElem?_getD,e2,e4])
  ·(repeat' (first
 | (first|refine Afz ?_|refine Aaz ?_)
 | ((first|refine Agz ?_|refine Aez ?_|refine Atz ?_);simp (disch:=omega) only [push_cast,seval])
 | ((first|refine Aiz (fun h=>?_) (fun h=>?_))<;>(try simp only [h])<;>(try simp only [bitvec_to_nat] at h)<;>(try simp only [h])<;>(first|(exfalso;omega)|(exfalso;simp_all;done)|(simp (disch:=omega) only [push_cast,seval])|skip))
 | (refine Acz ⟨.inr rfl,[80],[],_,by decide,rfl,?_⟩;(try simp (disch:=omega) only [push_cast,seval,↓Adz,↓Abz,↓List.map_cons,↓List.map_nil]);(first|done|(show AV.own _ _ _=_∧_)))
 | (refine Acz ⟨.inr rfl,[288],[],_,by decide,rfl,?_⟩;(try simp (disch:=omega) only [push_cast,seval,↓Adz,↓Abz,↓List.map_cons,↓List.map_nil]);(first|done|(show AV.own _ _ _=_∧_)))
 | (refine Acz ⟨.inr rfl,[304],[],_,by decide,rfl,?_⟩;(try simp (disch:=omega) only [push_cast,seval,↓Adz,↓Abz,↓List.map_cons,↓List.map_nil]);(first|done|(show AV.own _ _ _=_∧_)))))
   have e:k=xs.length:=by omega
   rw [e,revT_all]
   simp [OI]

end Go.Proofs.YtapccmfnmiopoaaGreat
namespace Go.Proofs.YtapccmfnmiopoaaGreat
open VwM Vw Go

theorem newReader_ok (bs:List Int)(n:Nat)(hn:bs.length=n)(hb:n≤1099511627776∧∀ x∈bs,0≤x∧x≤255):BCall Tryz.prog 15 [.rows false (UL bs) n] [] (fun r H'=>∃ bs',okB bs'∧r=.ref 0 2 0∧H'=[RD bs' 0]):=by
 subst hn
 obtain ⟨hb0,hb⟩:=hb
 refine Awz (pins:=[]) (pin:=0) l15_eq rfl rfl rfl ?_
 by_cases h:bs.length > 2000
 ·have h':(bs.length:Int) > 2000:=by omega
  have ht:(bs.take 2000).length=2000:=by simp;omega
  have eT:(UL bs).take 2000=UL (bs.take 2000):=List.map_take.symm
  (repeat' (first
 | (first|refine Afz ?_|refine Aaz ?_)
 | ((first|refine Agz ?_|refine Aez ?_);simp (disch:=omega) only [push_cast,seval,h',eT])
 | (refine Acz ⟨.inr rfl,[160],[],_,by decide,rfl,?_⟩;(try simp (disch:=omega) only [push_cast,seval,↓Adz,↓Abz,↓List.map_cons,↓List.map_nil,h',eT]))))
  exact ⟨bs.take 2000,⟨by omega,fun x hx=>hb x (List.mem_of_mem_take hx)⟩,by rw [RD,ht]⟩
 ·have h':¬ (bs.length:Int) > 2000:=by omega
  (repeat' (first
 | (first|refine Afz ?_|refine Aaz ?_)
 | ((first|refine Agz ?_|refine Aez ?_|refine Aoz ?_);simp (disch:=omega) only [push_cast,seval,h'])
 | (refine Acz ⟨.inr rfl,[160],[],_,by decide,rfl,?_⟩;(try simp (disch:=omega) only [push_cast,seval,↓Adz,↓Abz,↓List.map_cons,↓List.map_nil,h']))))
  exact ⟨bs,⟨by omega,hb⟩,rfl⟩


theorem Dyz (bs:List Int)(p n:Int)(hb:okB bs)(hp:0≤p∧p≤1000000):BCall Tryz.prog 59 [.ref 0 2 0,.int .i64 n] [RD bs p] (fun r H'=>∃ x,0≤x∧(1≤n∧x<n∨n<1∧x=0∨x=0)∧r=.int .i64 x∧H'=[RD bs (p+1)]):=by
 refine Awz (pins:=[0]) (pin:=1) l59_eq rfl rfl rfl ?_
 obtain ⟨hp1,hp2⟩:=hp
 have hbl:=hb.1
 have ep:p+1-1=p:=by omega
 by_cases h1:n<1
 ·(repeat' (first
 | (first|refine Afz ?_|refine Aaz ?_)
 | ((first|refine Agz ?_|refine Aez ?_);simp (disch:=omega) only [push_cast,seval,h1])
 | (refine Acz ⟨.inr rfl,[],[],_,by decide,rfl,?_⟩;(try simp (disch:=omega) only [push_cast,seval,↓Adz,↓Abz,↓List.map_cons,↓List.map_nil,h1]))))
  exact ⟨0,by omega,by omega,rfl⟩
 by_cases h2:bs.length=0
 ·have h2':(bs.length:Int)=0:=by omega
  (repeat' (first
 | (first|refine Afz ?_|refine Aaz ?_)
 | ((first|refine Agz ?_|refine Aez ?_);simp (disch:=omega) only [push_cast,seval,h1,h2'])
 | (refine Acz ⟨.inr rfl,[],[],_,by decide,rfl,?_⟩;(try simp (disch:=omega) only [push_cast,seval,↓Adz,↓Abz,↓List.map_cons,↓List.map_nil,h1,h2']))))
  exact ⟨0,by omega,by omega,rfl⟩
 have h2':¬ (bs.length:Int)=0:=by omega
 have hn0:¬ n=0:=by omega
 by_cases h3:p<bs.length
 ·have hb1:=okB_at hb (i:=p.toNat) (by omega)
  have hw:=Kaz hb1.1 (by omega)
  (repeat' (first
 | (first|refine Afz ?_|refine Aaz ?_)
 | ((first|refine Agz ?_|refine Aez ?_|refine Aoz ?_);simp (disch:=omega) only [push_cast,seval,ep,h1,h2',h3,hn0,hw])
 | (refine Acz ⟨.inr rfl,[],[],_,by decide,rfl,?_⟩;(try simp (disch:=omega) only [push_cast,seval,↓Adz,↓Abz,↓List.map_cons,↓List.map_nil,ep,h1,h2',h3,hn0,hw]))))
  have:=E3z hb1.1 (n:=n) (by omega)
  exact ⟨_,this.1,by omega,rfl⟩
 ·have q1:=E3z hp1 (n:=(bs.length:Int)) (by omega)
  have q2:=E3z (x:=p*7+3) (n:=(bs.length:Int)) (by omega) (by omega)
  have q3:=Cqz (x:=p) (y:=(bs.length:Int)) (by omega) hp1
  generalize hg1:p.tmod (bs.length:Int)=k1 at *
  generalize hg2:(p*7+3).tmod (bs.length:Int)=k2 at *
  generalize hg3:p.tdiv (bs.length:Int)=k3 at *
  have b1:=okB_at hb (i:=k1.toNat) (by omega)
  have b2:=okB_at hb (i:=k2.toNat) (by omega)
  have hw1:=Kaz b1.1 (by omega)
  have hw2:=Kaz b2.1 (by omega)
  generalize hd1:bs.getD k1.toNat 0=d1 at *
  generalize hd2:bs.getD k2.toNat 0=d2 at *
  have hX:0≤d1*131+d2*1117+p*29+k3*53∧d1*131+d2*1117+p*29+k3*53<1099511627776:=by omega
  have q4:=Cqz (x:=d1*131+d2*1117+p*29+k3*53) (y:=64) (by omega) hX.1
  have q5:=xor_bound hX (b:=(d1*131+d2*1117+p*29+k3*53).tdiv 64) (by omega)
  have q6:=E3z q5.1 (n:=n) (by omega)
  (repeat' (first
 | (first|refine Afz ?_|refine Aaz ?_)
 | ((first|refine Agz ?_|refine Auz (mid:=l59r7a) (post:=l59r7b) Bfz (by decide) ?_|refine Aez ?_|refine Aoz ?_);simp (disch:=omega) only [push_cast,seval,ep,h1,h2',h3,hn0,hg1,hg2,hg3,hd1,hd2,hw1,hw2])
 | (refine Acz ⟨.inr rfl,[],[],_,by decide,rfl,?_⟩;(try simp (disch:=omega) only [push_cast,seval,↓Adz,↓Abz,↓List.map_cons,↓List.map_nil,ep,h1,h2',h3,hn0,hg1,hg2,hg3,hd1,hd2,hw1,hw2]))))
  exact ⟨_,q6.1,by omega,rfl⟩


theorem Egz (bs:List Int)(p:Int)(cs:List AV)(n:Nat)(hn:(unI cs).length=n)(hcs:cs=IL (unI cs))(hb:okB bs)(h1:1≤n∧n≤1000∧0≤p∧p≤1000000)(hxs:∀ y∈unI cs,-1000≤y∧y≤1000):BCall Tryz.prog 58 [.ref 0 2 0,.own 1 n 1] [RD bs p,cs] (fun r H'=>∃ x,x∈unI cs∧(-1000≤x∧x≤1000)∧r=.int .i64 x∧H'=[RD bs (p+1),cs]):=by
 subst hn
 generalize hxs':unI cs=xs at *
 subst hcs
 obtain ⟨h1,h2,h3⟩:=h1
 refine Awz (pins:=[0,1]) (pin:=2) l58_eq rfl rfl rfl ?_
 (repeat' ((first
 | (first|refine Afz ?_|refine Aaz ?_)
 | (first|refine Agz ?_)
 | (first|((with_reducible refine A6z (f:=59) [0] true ?_);simp (disch:=omega) only [push_cast,seval];(refine Dqz (id:=0) (Dyz _ _ _ ?_ ?_) (by (simp (disch:=omega) only [push_cast,seval])<;>rfl) ?_;(iterate 2 (exact sd));rintro _ _ ⟨x,hx0,hx1,rfl,rfl⟩)))
 | (refine Acz ⟨.inr rfl,[],[],_,by decide,rfl,?_⟩;(try simp (disch:=omega) only [push_cast,seval,↓Adz,↓Abz,↓List.map_cons,↓List.map_nil])))<;>(try simp (disch:=omega) only [push_cast,seval])))
 have hm:=Bcz (xs:=xs) (j:=x.toNat) (by omega)
 exact ⟨_,hm,hxs _ hm,rfl⟩
theorem oneR_ok (bs:List Int)(p:Int)(cs:List AV)(n:Nat)(hn:(unI cs).length=n)(hcs:cs=IL (unI cs))(hb:okB bs)(h1:1≤n∧n≤1000∧0≤p∧p≤1000000)(hxs:∀ y∈unI cs,-1000≤y∧y≤1000):BCall Tryz.prog 58 [.ref 0 2 0,.rows false cs n] [RD bs p] (fun r H'=>∃ x,x∈unI cs∧(-1000≤x∧x≤1000)∧r=.int .i64 x∧H'=[RD bs (p+1)]):=by
 subst hn
 generalize hxs':unI cs=xs at *
 subst hcs
 obtain ⟨h1,h2,h3⟩:=h1
 refine Awz (pins:=[0]) (pin:=1) l58_eq rfl rfl rfl ?_
 (repeat' ((first
 | (first|refine Afz ?_|refine Aaz ?_)
 | (first|refine Agz ?_)
 | (first|((with_reducible refine A6z (f:=59) [0] true ?_);simp (disch:=omega) only [push_cast,seval];(refine Dqz (id:=0) (Dyz _ _ _ ?_ ?_) (by (simp (disch:=omega) only [push_cast,seval])<;>rfl) ?_;(iterate 2 (exact sd));rintro _ _ ⟨x,hx0,hx1,rfl,rfl⟩)))
 | (refine Acz ⟨.inr rfl,[],[],_,by decide,rfl,?_⟩;(try simp (disch:=omega) only [push_cast,seval,↓Adz,↓Abz,↓List.map_cons,↓List.map_nil])))<;>(try simp (disch:=omega) only [push_cast,seval])))
 have hm:=Bcz (xs:=xs) (j:=x.toNat) (by omega)
 exact ⟨_,hm,hxs _ hm,rfl⟩

end Go.Proofs.YtapccmfnmiopoaaGreat
namespace Go.Proofs.YtapccmfnmiopoaaGreat
open VwM Vw Go

theorem someSlice_ok (bs:List Int)(p:Int)(hb:okB bs)(hp:0≤p∧p≤900000):BCall Tryz.prog 83 [.ref 0 2 0] [RD bs p] (fun r H'=>∃ f t w hf ht q,(-1000≤f∧f≤1000∧-1000≤t∧t≤1000∧-1000≤w∧w≤1000)∧(p≤q∧q≤p+20)∧r=slc f t w hf ht∧H'=[RD bs q]):=by
 refine Awz (pins:=[0]) (pin:=1) l83_eq rfl rfl rfl ?_
 (repeat' ((first
 | (first
 | (refine awp_join (c1:=.seq (.reg l83r2) _) (fun x:Int×Int×Int×Int×Bool=>mkS [(0,.ref 0 2 0),(2,.ref 32 5 0),(3,.ref 48 5 0)] [(0,RD bs x.2.2.2.1),(32,[.int .i64 0,.int .i64 0,.int .i64 0,.bool false,.bool false]),(48,[.int .i64 x.1,.int .i64 x.2.1,.int .i64 x.2.2.1,.bool x.2.2.2.2,.bool false])]) (fun x=>(-1000≤x.1∧x.1≤1000∧-1000≤x.2.1∧x.2.1≤1000∧-1000≤x.2.2.1∧x.2.2.1≤1000)∧p≤x.2.2.2.1∧x.2.2.2.1≤p+5) ?_ ?_;rotate_left;rintro ⟨a,b,c,q,h⟩ ⟨ha,hq⟩;simp only at ha hq ⊢;rotate_right)
 | (refine awp_join (c1:=.seq (.reg l83r5) _) (fun x:Int×Int×Int×Int×Bool×Bool=>mkS [(0,.ref 0 2 0),(2,.ref 32 5 0),(3,.ref 48 5 0)] [(0,RD bs x.2.2.2.1),(32,[.int .i64 0,.int .i64 0,.int .i64 0,.bool false,.bool false]),(48,[.int .i64 x.1,.int .i64 x.2.1,.int .i64 x.2.2.1,.bool x.2.2.2.2.1,.bool x.2.2.2.2.2])]) (fun x=>(-1000≤x.1∧x.1≤1000∧-1000≤x.2.1∧x.2.1≤1000∧-1000≤x.2.2.1∧x.2.2.1≤1000)∧p≤x.2.2.2.1∧x.2.2.2.1≤p+10) ?_ ?_;rotate_left;rintro ⟨a,b,c,q,h,h'⟩ ⟨ha,hq⟩;simp only at ha hq ⊢;rotate_right))
 | (first|refine Afz ?_|refine Aaz ?_)
 | (first|refine Agz ?_|refine Aez ?_|refine Aoz ?_)
 | ((first|refine Aiz (fun h=>?_) (fun h=>?_))<;>(try simp only [h])<;>(try simp only [bitvec_to_nat] at h)<;>(try simp only [h])<;>(first|(exfalso;omega)|(exfalso;simp_all;done)|skip))
 | (first|((with_reducible refine A6z (f:=58) (args:=[Operand.tmp 4,Operand.tmp 5]) [0,80] true ?_);simp (disch:=omega) only [push_cast,seval];(refine Ddz (id:=0) (id':=80) (by decide) (Egz _ _ _ _ ?_ ?_ ?_ ?_ ?_) (by (simp (disch:=omega) only [push_cast,seval])<;>rfl) (by (simp (disch:=omega) only [push_cast,seval])<;>rfl) ?_;(iterate 5 (exact sd));rintro _ _ ⟨x,hx,hx0,rfl,rfl⟩))|((with_reducible refine A6z (f:=58) (args:=[Operand.tmp 12,Operand.tmp 15]) [0,240] true ?_);simp (disch:=omega) only [push_cast,seval];(refine Ddz (id:=0) (id':=240) (by decide) (Egz _ _ _ _ ?_ ?_ ?_ ?_ ?_) (by (simp (disch:=omega) only [push_cast,seval])<;>rfl) (by (simp (disch:=omega) only [push_cast,seval])<;>rfl) ?_;(iterate 5 (exact sd));rintro _ _ ⟨x,hx,hx0,rfl,rfl⟩))|((with_reducible refine A6z (f:=58) (args:=[Operand.tmp 22,Operand.tmp 25]) [0,400] true ?_);simp (disch:=omega) only [push_cast,seval];(refine Ddz (id:=0) (id':=400) (by decide) (Egz _ _ _ _ ?_ ?_ ?_ ?_ ?_) (by (simp (disch:=omega) only [push_cast,seval])<;>rfl) (by (simp (disch:=omega) only [push_cast,seval])<;>rfl) ?_;(iterate 5 (exact sd));rintro _ _ ⟨x,hx,hx0,rfl,rfl⟩))|((with_reducible refine A6z (f:=58) (args:=[Operand.tmp 32,Operand.tmp 33]) [0,528] true ?_);simp (disch:=omega) only [push_cast,seval];(refine Ddz (id:=0) (id':=528) (by decide) (Egz _ _ _ _ ?_ ?_ ?_ ?_ ?_) (by (simp (disch:=omega) only [push_cast,seval])<;>rfl) (by (simp (disch:=omega) only [push_cast,seval])<;>rfl) ?_;(iterate 5 (exact sd));rintro _ _ ⟨x,hx,hx0,rfl,rfl⟩))|((with_reducible refine A6z (f:=58) (args:=[Operand.tmp 41,Operand.tmp 42]) [0,672] true ?_);simp (disch:=omega) only [push_cast,seval];(refine Ddz (id:=0) (id':=672) (by decide) (Egz _ _ _ _ ?_ ?_ ?_ ?_ ?_) (by (simp (disch:=omega) only [push_cast,seval])<;>rfl) (by (simp (disch:=omega) only [push_cast,seval])<;>rfl) ?_;(iterate 5 (exact sd));rintro _ _ ⟨x,hx,hx0,rfl,rfl⟩))|((with_reducible refine A6z (f:=59) [0] true ?_);simp (disch:=omega) only [push_cast,seval];(refine Dqz (id:=0) (Dyz _ _ _ ?_ ?_) (by (simp (disch:=omega) only [push_cast,seval])<;>rfl) ?_;(iterate 2 (exact sd));rintro _ _ ⟨x,hx0,hx1,rfl,rfl⟩)))
 | (refine Acz ⟨.inr rfl,[],[],_,by decide,rfl,?_⟩;(try simp (disch:=omega) only [push_cast,seval,↓Adz,↓Abz,↓List.map_cons,↓List.map_nil])))<;>(try simp (disch:=omega) only [push_cast,seval])))
 all_goals first
  | exact ⟨_,_,_,_,_,_,by omega,by omega,rfl,rfl⟩
  | (refine exSub5 (Sub.of_eqs rfl rfl ?_ ?_ ?_) ?_;(focus (simp [Vw.mkS,Vw.lk,Vw.hk,AV.inn,innL,Ajz,Ahz,Alz,-List.map_set,-List.getD_eq_getElem?_getD];done));(focus (simp [AV.inn,innL,Vw.hk];done));(focus (simp [AV.inn,innL,Ajz,Ahz,Alz,Vw.hk];done));(try simp only);(first|omega|(refine ⟨?_,?_⟩<;>first|assumption|omega)|(refine ⟨?_,?_,?_⟩<;>first|assumption|omega)|(refine ⟨?_,?_,?_,?_⟩<;>first|assumption|omega)))
  | (refine exSub6 (Sub.of_eqs rfl rfl ?_ ?_ ?_) ?_;(focus (simp [Vw.mkS,Vw.lk,Vw.hk,AV.inn,innL,Ajz,Ahz,Alz,-List.map_set,-List.getD_eq_getElem?_getD];done));(focus (simp [AV.inn,innL,Vw.hk];done));(focus (simp [AV.inn,innL,Ajz,Ahz,Alz,Vw.hk];done));(try simp only);(first|omega|(refine ⟨?_,?_⟩<;>first|assumption|omega)|(refine ⟨?_,?_,?_⟩<;>first|assumption|omega)|(refine ⟨?_,?_,?_,?_⟩<;>first|assumption|omega)))

end Go.Proofs.YtapccmfnmiopoaaGreat
namespace Go.Proofs.YtapccmfnmiopoaaGreat
open VwM Vw Go

theorem goodShape_ok (bs:List Int)(p:Int)(hb:okB bs)(hp:0≤p∧p≤900000):BCall Tryz.prog 81 [.ref 0 2 0] [RD bs p] (fun r H'=>∃ xs q,(good4 xs∧xs.length≤4)∧(p≤q∧q≤p+10)∧r=.own 1 xs.length 1∧H'=[RD bs q,IL xs]):=by
 refine Awz (pins:=[0]) (pin:=1) l81_eq rfl rfl rfl ?_
 (repeat' ((first
 | (first|refine Afz ?_|refine Aaz ?_)
 | (first|refine Agz ?_)
 | (first|((with_reducible refine A6z (f:=58) (args:=[Operand.tmp 7,Operand.tmp 8]) [0,128] true ?_);simp (disch:=omega) only [push_cast,seval];(refine Ddz (id:=0) (id':=128) (by decide) (Egz _ _ _ _ ?_ ?_ ?_ ?_ ?_) (by (simp (disch:=omega) only [push_cast,seval])<;>rfl) (by (simp (disch:=omega) only [push_cast,seval])<;>rfl) ?_;(iterate 5 (exact sd));rintro _ _ ⟨x,hx,hx0,rfl,rfl⟩)))
 | (refine Acz ⟨.inr rfl,[96],[],_,by decide,rfl,?_⟩;(try simp (disch:=omega) only [push_cast,seval,↓Adz,↓Abz,↓List.map_cons,↓List.map_nil])))<;>(try simp (disch:=omega) only [push_cast,seval])))
 have hn:0≤x∧x≤4:=by
  simp only [E2z,G0z,List.mem_cons,List.not_mem_nil,or_false] at hx
  omega
 refine A0z (fun y:List Int×Int×Int=>mkS [(0,.ref 0 2 0),(3,.own 96 y.1.length 1),(4,.int .i64 y.2.1)] [(0,RD bs y.2.2),(96,IL y.1)])
  (fun y=>((∀ x∈y.1,0≤x∧x≤60)∧(y.1.length:Int)+y.2.1≤4)∧0≤y.2.1∧p≤y.2.2∧y.2.2+y.2.1≤p+10) (fun y=>y.2.1.toNat) ([],x,p+1) ⟨⟨(fun x h=>by cases h),by simp;omega⟩,by simp only;omega⟩ ?_ ?_
 ·(refine Sub.of_lists ?_ ?_ ?_ ?_ ?_<;>simp [Vw.mkS,Vw.lk,Vw.hk,AV.inn,innL,Ajz,Ahz,Alz,-List.map_set,-List.getD_eq_getElem?_getD])
 ·rintro ⟨xs,n,q⟩ ⟨⟨hxs,hlen⟩,h0,hq1,hq2⟩
  clear hx hx0 hn
  simp only at hxs hlen h0 hq1 hq2 ⊢
  by_cases hlt:n > 0
  ·have hg:good4 xs:=⟨hxs,by omega⟩
   (repeat' ((first
 | (first|refine Afz ?_|refine Aaz ?_)
 | (first|refine Agz ?_|refine Aez ?_|refine Aoz ?_)
 | ((first|refine Aiz (fun h=>?_) (fun h=>?_))<;>(try simp only [h])<;>(try simp only [bitvec_to_nat] at h)<;>(try simp only [h])<;>(first|(exfalso;omega)|(exfalso;simp_all;done)|skip))
 | (first|((with_reducible refine A6z (f:=58) (args:=[Operand.tmp 14,Operand.tmp 15]) [0,240] true ?_);simp (disch:=omega) only [push_cast,seval,hlt];(refine Ddz (id:=0) (id':=240) (by decide) (Egz _ _ _ _ ?_ ?_ ?_ ?_ ?_) (by (simp (disch:=omega) only [push_cast,seval,hlt])<;>rfl) (by (simp (disch:=omega) only [push_cast,seval,hlt])<;>rfl) ?_;(iterate 5 (exact sd));rintro _ _ ⟨x,hx,hx0,rfl,rfl⟩)))
 | (first|refine Anz false ?_)
 | (first|(refine Akz (Apz (B1z _ _ ?_ ?_)) ?_;(iterate 2 (exact sd));rintro _ _ ⟨rfl,rfl⟩))
 | (refine Acz ⟨.inr rfl,[96],[],_,by decide,rfl,?_⟩;(try simp (disch:=omega) only [push_cast,seval,↓Adz,↓Abz,↓List.map_cons,↓List.map_nil,hlt])))<;>(try simp (disch:=omega) only [push_cast,seval,hlt])))
   ·have hx2:0≤x∧x≤5:=by
     simp only [E2z,G0z,List.mem_cons,List.not_mem_nil,or_false] at hx
     omega
    refine ⟨(xs++[x],n-1,q+1),⟨⟨fun y hy=>?_,by simp;omega⟩,by simp only;omega⟩,by simp only;omega,?_⟩
    ·simp only [List.mem_append,List.mem_singleton] at hy
     rcases hy with hy|hy
     ·exact hxs y hy
     ·omega
    ·(refine Sub.of_lists ?_ ?_ ?_ ?_ ?_<;>simp [Vw.mkS,Vw.lk,Vw.hk,AV.inn,innL,Ajz,Ahz,Alz,-List.map_set,-List.getD_eq_getElem?_getD])
   ·refine ⟨(xs,n-1,q+1),⟨⟨hxs,by simp only;omega⟩,by simp only;omega⟩,by simp only;omega,?_⟩
    (refine Sub.of_lists ?_ ?_ ?_ ?_ ?_<;>simp [Vw.mkS,Vw.lk,Vw.hk,AV.inn,innL,Ajz,Ahz,Alz,-List.map_set,-List.getD_eq_getElem?_getD])
  ·(repeat' (first
 | (first|refine Afz ?_|refine Aaz ?_)
 | ((first|refine Agz ?_|refine Aez ?_|refine Atz ?_);simp (disch:=omega) only [push_cast,seval,hlt])
 | (refine Acz ⟨.inr rfl,[96],[],_,by decide,rfl,?_⟩;(try simp (disch:=omega) only [push_cast,seval,↓Adz,↓Abz,↓List.map_cons,↓List.map_nil,hlt]))))
   exact ⟨xs,q,⟨⟨hxs,by omega⟩,by omega⟩,by omega,rfl,rfl⟩

end Go.Proofs.YtapccmfnmiopoaaGreat
namespace Go.Proofs.YtapccmfnmiopoaaGreat
open VwM Vw Go

theorem upToL_ok (n:Int)(hn:n≤1000000):BCall Tryz.prog 9 [.int .i64 n] [] (OI (nums 0 1 n.toNat)):=by
 refine Awz (pins:=[]) (pin:=0) l9_eq rfl rfl rfl ?_
 (repeat' (first
 | (first|refine Afz ?_|refine Aaz ?_)
 | ((first|refine Agz ?_);simp (disch:=omega) only [push_cast,seval])
 | (refine Acz ⟨.inr rfl,[80],[],_,by decide,rfl,?_⟩;(try simp (disch:=omega) only [push_cast,seval,↓Adz,↓Abz,↓List.map_cons,↓List.map_nil]);(first|done|(show AV.own _ _ _=_∧_)))
 | (refine Acz ⟨.inr rfl,[208],[],_,by decide,rfl,?_⟩;(try simp (disch:=omega) only [push_cast,seval,↓Adz,↓Abz,↓List.map_cons,↓List.map_nil]);(first|done|(show AV.own _ _ _=_∧_)))
 | (refine Acz ⟨.inr rfl,[224],[],_,by decide,rfl,?_⟩;(try simp (disch:=omega) only [push_cast,seval,↓Adz,↓Abz,↓List.map_cons,↓List.map_nil]);(first|done|(show AV.own _ _ _=_∧_)))))
 refine A0z (fun k:Nat=>mkS [(0,.int .i64 n),(3,.own 80 k 1),(4,.int .i64 k)] [(80,IL (nums 0 1 k))])
  (fun k=>k≤n.toNat) (fun k=>n.toNat-k) 0 (Nat.zero_le _) ?_ ?_
 ·(refine Sub.of_lists ?_ ?_ ?_ ?_ ?_<;>simp [Vw.mkS,Vw.lk,Vw.hk,AV.inn,innL,Ajz,Ahz,Alz,-List.map_set,-List.getD_eq_getElem?_getD,Gkz])
 ·intro k hk
  by_cases hlt:k<n.toNat
  ·have h1:(k:Int)<n:=by omega
   (repeat' (first
 | (first|refine Afz ?_|refine Aaz ?_)
 | ((first|refine Agz ?_|refine Aez ?_|refine Aoz ?_);simp (disch:=omega) only [push_cast,seval,h1])
 | (refine Acz ⟨.inr rfl,[80],[],_,by decide,rfl,?_⟩;(try simp (disch:=omega) only [push_cast,seval,↓Adz,↓Abz,↓List.map_cons,↓List.map_nil,h1]);(first|done|(show AV.own _ _ _=_∧_)))
 | (refine Acz ⟨.inr rfl,[208],[],_,by decide,rfl,?_⟩;(try simp (disch:=omega) only [push_cast,seval,↓Adz,↓Abz,↓List.map_cons,↓List.map_nil,h1]);(first|done|(show AV.own _ _ _=_∧_)))
 | (refine Acz ⟨.inr rfl,[224],[],_,by decide,rfl,?_⟩;(try simp (disch:=omega) only [push_cast,seval,↓Adz,↓Abz,↓List.map_cons,↓List.map_nil,h1]);(first|done|(show AV.own _ _ _=_∧_)))))
   refine ⟨k+1,by omega,by omega,?_⟩
   have e:(0:Int)+(k:Int)*1=k:=by omega
   (refine Sub.of_lists ?_ ?_ ?_ ?_ ?_<;>simp [Vw.mkS,Vw.lk,Vw.hk,AV.inn,innL,Ajz,Ahz,Alz,-List.map_set,-List.getD_eq_getElem?_getD,Glz,e])
  ·have h1:¬ (k:Int)<n:=by omega
   (repeat' (first
 | (first|refine Afz ?_|refine Aaz ?_)
 | ((first|refine Agz ?_|refine Aez ?_|refine Atz ?_);simp (disch:=omega) only [push_cast,seval,h1])
 | (refine Acz ⟨.inr rfl,[80],[],_,by decide,rfl,?_⟩;(try simp (disch:=omega) only [push_cast,seval,↓Adz,↓Abz,↓List.map_cons,↓List.map_nil,h1]);(first|done|(show AV.own _ _ _=_∧_)))
 | (refine Acz ⟨.inr rfl,[208],[],_,by decide,rfl,?_⟩;(try simp (disch:=omega) only [push_cast,seval,↓Adz,↓Abz,↓List.map_cons,↓List.map_nil,h1]);(first|done|(show AV.own _ _ _=_∧_)))
 | (refine Acz ⟨.inr rfl,[224],[],_,by decide,rfl,?_⟩;(try simp (disch:=omega) only [push_cast,seval,↓Adz,↓Abz,↓List.map_cons,↓List.map_nil,h1]);(first|done|(show AV.own _ _ _=_∧_)))))
   have:k=n.toNat:=by omega
   subst this
   simp [OI]


theorem takesL_length (xs at_:List Int):(takesL xs at_).length=at_.length:=by simp [takesL]

end Go.Proofs.YtapccmfnmiopoaaGreat
