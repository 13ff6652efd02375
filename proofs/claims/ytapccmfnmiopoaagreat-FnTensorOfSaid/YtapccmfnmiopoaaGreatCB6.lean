/- Texts of this verifier. -/
import Derived.Test.YtapccmfnmiopoaaGreatCB5
import Derived.Test.YtapccmfnmiopoaaGreatCM1
import Derived.Test.YtapccmfnmiopoaaGreatCW3
set_option maxHeartbeats 4000000
set_option linter.unusedSimpArgs false
set_option linter.unusedVariables false
set_option maxRecDepth 4000
namespace Go.Proofs.YtapccmfnmiopoaaGreat
open VwM Vw Go

set_option maxHeartbeats 8000000 in
theorem Imz (b:Int)(sh st order:List Int)(n m p:Nat)(hn:sh.length=n)(hm:st.length=m)(hp:order.length=p)(hb:(n≤1099511627776∧m≤1099511627776)∧p≤1099511627776) :
  BCall Tryz.prog 10 [.agg [.int .i64 b,.rows false (IL sh) n,.rows false (IL st) m],.rows false (IL order) p] [] (MV (pmOk b sh st order) b (permL sh order) (permL st order)):=by
 subst hn hm hp
 obtain ⟨⟨hb1,hb2⟩,hb3⟩:=hb
 refine Awz (pins:=[]) (pin:=0) l10_eq rfl rfl rfl ?_
 cases hv:vV b sh st with
 | false =>
  have e:pmOk b sh st order=false:=by simp [pmOk,hv]
  rw [e]
  (repeat' ((first
 | (first|refine Afz ?_|refine Aaz ?_)
 | (first|refine Agz ?_|refine Aez ?_)
 | (first|refine Anz false ?_)
 | (first|(refine Akz (Apz (Cdz _ _ _ _ _ ?_ ?_ ?_)) ?_;(iterate 3 (exact sd));rintro _ _ ⟨rfl,rfl⟩))
 | (refine Acz ⟨.inr rfl,[16000,16016],[(16000,1),(16016,1)],_,by decide,rfl,?_⟩;(try simp (disch:=omega) only [push_cast,seval,↓Adz,↓Abz,↓List.map_cons,↓List.map_nil,hv])))<;>(try simp (disch:=omega) only [push_cast,seval,hv])))
  all_goals simp [MV,MVB,MVL]
 | true =>
  obtain ⟨hok,hlen⟩:=A4z hv
  have hl4:=hok.1.1.2
  have hq0:order.length≤1099511627776∧sh.length≤1000:=by omega
  cases ho:(decide (order.length=sh.length)&&allI order 0 ((sh.length:Int)-1)&&decide order.Nodup) with
  | false =>
   have e:pmOk b sh st order=false:=by simp only [pmOk,ho,Bool.and_false,Bool.false_and]
   rw [e]
   (repeat' ((first
 | (first|refine Afz ?_|refine Aaz ?_)
 | (first|refine Agz ?_|refine Aez ?_)
 | (first|refine Anz false ?_)
 | (first|(refine Akz (Apz (Cdz _ _ _ _ _ ?_ ?_ ?_)) ?_;(iterate 3 (exact sd));rintro _ _ ⟨rfl,rfl⟩)|(refine Akz (Apz (Fez _ _ _ ?_ ?_)) ?_;(iterate 2 (exact sd));rintro _ _ ⟨rfl,rfl⟩))
 | (refine Acz ⟨.inr rfl,[16000,16016],[(16000,1),(16016,1)],_,by decide,rfl,?_⟩;(try simp (disch:=omega) only [push_cast,seval,↓Adz,↓Abz,↓List.map_cons,↓List.map_nil,hv,ho])))<;>(try simp (disch:=omega) only [push_cast,seval,hv,ho])))
   all_goals simp [MV,MVB,MVL]
  | true =>
   have hord:=isOrd_of ho
   have e:pmOk b sh st order=true:=by simp only [pmOk,hv,ho,vV_perm hv hord,Bool.and_self]
   rw [e]
   have hq1:st.length=sh.length∧sh.length≤1000:=by omega
   have hol:=hord.1
   have hor:=hord.2.1
   (repeat' ((first
 | (first|refine Afz ?_|refine Aaz ?_)
 | (first|refine Agz ?_|refine Aez ?_|refine Aoz ?_)
 | (first|((with_reducible refine Anz (f:=24) true ?_);simp (disch:=omega) only [push_cast,seval,hv,ho];(refine Akz (wholeOf_ok _ _ _ _ _ ?_ ?_ ?_) ?_;(iterate 3 (exact sd));rintro _ _ ⟨rfl,rfl⟩)))
 | (first|refine Anz false ?_)
 | (first|(refine Akz (Apz (Cdz _ _ _ _ _ ?_ ?_ ?_)) ?_;(iterate 3 (exact sd));rintro _ _ ⟨rfl,rfl⟩)|(refine Akz (Apz (Fez _ _ _ ?_ ?_)) ?_;(iterate 2 (exact sd));rintro _ _ ⟨rfl,rfl⟩))
 | (refine Acz ⟨.inr rfl,[752,753],[],_,by decide,rfl,?_⟩;(try simp (disch:=omega) only [push_cast,seval,↓Adz,↓Abz,↓List.map_cons,↓List.map_nil,hv,ho])))<;>(try simp (disch:=omega) only [push_cast,seval,hv,ho])))
   refine A0z (fun k:Nat=>mkS [(2,.ref 32 3 0),(4,.ref 64 3 0),(6,.ref 96 8 0),(23,RI order),(24,.int .i64 order.length),(25,.int .i64 k)] [(32,[.int .i64 b,RI sh,RI st]),(64,[.int .i64 0,.val (.slice none 0 0),.val (.slice none 0 0)]),(96,[.int .i64 b,RI sh,RI st,.int .i64 0,.int .i64 0,.int .i64 0,.int .i64 0,.own 352 sh.length 2]),(352,IL (dm (mixP sh order k) (mixP st order k)))])
    (fun k=>k≤order.length) (fun k=>order.length-k) 0 (Nat.zero_le _) ?_ ?_
   ·rw [mixP_zero,mixP_zero]
    (refine Sub.of_lists ?_ ?_ ?_ ?_ ?_<;>simp [Vw.mkS,Vw.lk,Vw.hk,AV.inn,innL,Ajz,Ahz,Alz,-List.map_set,-List.getD_eq_getElem?_getD])
   ·intro k hk
    have ml:=Iez (xs:=sh) (order:=order) (k:=k) (by omega) (by omega)
    have ml2:=Iez (xs:=st) (order:=order) (k:=k) (by omega) (by omega)
    have dl:=Gwz (sh:=mixP sh order k) (st:=mixP st order k) (by omega)
    by_cases hlt:k<order.length
    ·have hx:=hor _ (Bcz hlt)
     have s1:=mixP_set (xs:=sh) (order:=order) (k:=k) (by omega) (by omega)
     have s2:=mixP_set (xs:=st) (order:=order) (k:=k) (by omega) (by omega)
     have s3:=dm_set (sh:=mixP sh order k) (st:=mixP st order k) (k:=k) (sh.getD (order.getD k 0).toNat 0) (st.getD (order.getD k 0).toNat 0) (by omega) (by omega)
     obtain ⟨c,hc⟩:∃ c:Nat,order.getD k 0=c:=⟨(order.getD k 0).toNat,by omega⟩
     rw [hc,Int.toNat_natCast] at s1 s2 s3
     rw [hc] at hx
     have hc1:c<sh.length∧c<st.length:=by omega
     have hc2:k<sh.length:=by omega
     rw [s1,s2] at s3
     have dl2:(dm (mixP sh order k) (mixP st order k)).length=sh.length*2:=by omega
     generalize dm (mixP sh order k) (mixP st order k)=L at *
     (repeat' (first
 | (first|refine Afz ?_|refine Aaz ?_)
 | ((first|refine Agz ?_|refine Auz (mid:=l10r7a) (post:=l10r7b) Bfz (by decide) ?_|refine Aez ?_|refine Aoz ?_);simp (disch:=omega) only [push_cast,seval,hc,Int.toNat_natCast,dl2,Hxz])
 | ((first|refine Aiz (fun h=>?_) (fun h=>?_))<;>(try simp only [h])<;>(try simp only [bitvec_to_nat] at h)<;>(try simp only [h])<;>(first|(exfalso;omega)|(exfalso;simp_all;done)|(simp (disch:=omega) only [push_cast,seval,hc,Int.toNat_natCast,dl2,Hxz])|skip))
 | (refine Acz ⟨.inr rfl,[],[],_,by decide,rfl,?_⟩; (try simp (disch := omega) only [push_cast,seval,↓Adz,↓Abz,↓List.map_cons,↓List.map_nil,hc,Int.toNat_natCast,dl2,Hxz]))))
     refine ⟨k+1,by omega,by omega,?_⟩
     rw [← s3]
     (refine Sub.of_lists ?_ ?_ ?_ ?_ ?_<;>simp [Vw.mkS,Vw.lk,Vw.hk,AV.inn,innL,Ajz,Ahz,Alz,-List.map_set,-List.getD_eq_getElem?_getD,dl2,Ayz])
    ·have hke:k=sh.length:=by omega
     subst hke
     rw [mixP_all (by omega),show mixP st order sh.length=permL st order by rw [← hlen];exact mixP_all (by omega)] at dl ⊢
     rw [show (permL sh order).length=sh.length by rw [A3z];omega] at dl
     have pl1:=A3z sh order
     have pl2:=A3z st order
     have pvk:(permL st order).length=(permL sh order).length∧(permL sh order).length=sh.length:=by omega
     have pvb:=And.intro (pv_ok hv) (show sh.length≤1000 by omega)
     have d0:=dot_at4 st st.length
     (repeat' ((first
 | (first|refine Afz ?_|refine Aaz ?_)
 | (first|refine Agz ?_|refine Aez ?_|refine Atz ?_)
 | ((first|refine Aiz (fun h=>?_) (fun h=>?_))<;>(try simp only [h])<;>(try simp only [bitvec_to_nat] at h)<;>(try simp only [h])<;>(first|(exfalso;omega)|(exfalso;simp_all;done)|skip))
 | (first|refine Anz false ?_)
 | (first|(refine Akz (partview4_ok _ _ _ _ _ _ _ _ _ _ _ _ ?_ ?_ ?_) ?_;(iterate 3 (exact sd));rintro _ _ ⟨rfl,rfl⟩))
 | (refine Acz ⟨.inr rfl,[752,753],[],_,by decide,rfl,?_⟩; (try simp (disch := omega) only [push_cast,seval,↓Adz,↓Abz,↓List.map_cons,↓List.map_nil,dl,d0,Int.add_zero])))<;>(try simp (disch:=omega) only [push_cast,seval,dl,d0,Int.add_zero])))
     all_goals exact ⟨rfl,rfl⟩

end Go.Proofs.YtapccmfnmiopoaaGreat
namespace Go.Proofs.YtapccmfnmiopoaaGreat
open VwM Vw Go

theorem seeB_mem {mem:List Int}{b:Int}{sh st:List Int}(h:vMem mem=false):seeB mem b sh st=false:=by simp [seeB,h]
theorem seeB_view {mem:List Int}{b:Int}{sh st:List Int}(h:vV b sh st=false):seeB mem b sh st=false:=by simp [seeB,h]
theorem seeB_rest {mem:List Int}{b:Int}{sh st:List Int}(h1:vMem mem=true)(h2:vV b sh st=true):seeB mem b sh st=allI (offs b sh st) 0 ((mem.length:Int)-1):=by simp [seeB,h1,h2]
theorem fitB_see {mem:List Int}{b:Int}{sh st:List Int}(h1:vMem mem=true):fitB b sh st (mem.length:Int)=seeB mem b sh st:=by
 have:=(F9z.1 h1).1
 have h3:((mem.length:Int)≤60)=True:=eq_true (by omega)
 have h4:((0:Int)≤(mem.length:Int))=True:=eq_true (by omega)
 simp only [fitB,seeB,h1,h3,h4,decide_true,Bool.and_true,Bool.true_and]


theorem Khz (xs:List Int)(n:Nat)(hn:xs.length=n)(hb:n≤1099511627776):PCall Tryz.prog 38 [.rows false (IL xs) n] (fun r=>r=.bool (vMem xs)):=by
 subst hn
 refine Axz l38_eq rfl ?_
 by_cases h4:xs.length≤60
 ·cases ha:allI xs 0 255 with
  | false =>
   (repeat' ((first
 | (first|refine Afz ?_|refine Aaz ?_)
 | (first|refine Agz ?_)
 | ((first|refine Bgz (fun h=>?_) (fun h=>?_))<;>(try simp only [h])<;>(try simp only [bitvec_to_nat] at h)<;>(try simp only [h])<;>(first|(exfalso;omega)|(exfalso;simp_all;done)|skip))
 | (first|refine Anz false ?_)
 | (first|(refine Akz (Apz (Cvz _ _ _ _ ?_ ?_)) ?_;(iterate 2 (exact sd));rintro _ _ ⟨rfl,rfl⟩))
 | (refine Acz ⟨.inr rfl,_,rfl,?_⟩))<;>(try simp (disch:=omega) only [push_cast,seval,ha])))
   all_goals simp [vMem,ha]
  | true =>
   (repeat' ((first
 | (first|refine Afz ?_|refine Aaz ?_)
 | (first|refine Agz ?_)
 | ((first|refine Bgz (fun h=>?_) (fun h=>?_))<;>(try simp only [h])<;>(try simp only [bitvec_to_nat] at h)<;>(try simp only [h])<;>(first|(exfalso;omega)|(exfalso;simp_all;done)|skip))
 | (first|refine Anz false ?_)
 | (first|(refine Akz (Apz (Cvz _ _ _ _ ?_ ?_)) ?_;(iterate 2 (exact sd));rintro _ _ ⟨rfl,rfl⟩))
 | (refine Acz ⟨.inr rfl,_,rfl,?_⟩))<;>(try simp (disch:=omega) only [push_cast,seval,ha])))
   all_goals simp [vMem,ha,h4]
 ·(repeat' (first
 | (first|refine Afz ?_|refine Aaz ?_)
 | ((first|refine Agz ?_);simp (disch:=omega) only [push_cast,seval])
 | ((first|refine Bgz (fun h=>?_) (fun h=>?_))<;>(try simp only [h])<;>(try simp only [bitvec_to_nat] at h)<;>(try simp only [h])<;>(first|(exfalso;omega)|(exfalso;simp_all;done)|(simp (disch:=omega) only [push_cast,seval])|skip))
 | (refine Acz ⟨.inr rfl,_,rfl,?_⟩;(try simp (disch:=omega) only [push_cast,seval]))))
  all_goals simp [vMem,h4]


theorem I5z (xs:List Int)(n:Nat)(hn:xs.length=n)(hb:n≤1099511627776):PCall Tryz.prog 62 [.rows false (IL xs) n] (fun r=>r=.bool (allI xs 0 255)):=by
 subst hn
 refine Axz l62_eq rfl ?_
 (repeat' (first
 | (first|refine Afz ?_|refine Aaz ?_)
 | ((first|refine Agz ?_);simp (disch:=omega) only [push_cast,seval])
 | (refine Acz ⟨.inr rfl,_,rfl,?_⟩;(try simp (disch:=omega) only [push_cast,seval]))))
 refine A0z (fun k:Nat=>mkS [(5,RI xs),(6,.int .i64 xs.length),(7,.int .i64 k)] []) (fun k=>k≤xs.length∧∀ j:Nat,j<k→0≤xs.getD j 0∧xs.getD j 0≤255) (fun k=>xs.length-k) 0 ⟨Nat.zero_le _,fun j h=>absurd h (Nat.not_lt_zero _)⟩ ?_ ?_
 ·(refine Sub.of_lists ?_ ?_ ?_ ?_ ?_<;>simp [Vw.mkS,Vw.lk,Vw.hk,AV.inn,innL,Ajz,Ahz,Alz,-List.map_set,-List.getD_eq_getElem?_getD])
 ·rintro k ⟨hk,hj⟩
  by_cases hlt:k<xs.length
  ·(repeat' ((first
 | (first|refine Afz ?_|refine Aaz ?_)
 | (first|refine Agz ?_|refine Aez ?_|refine Aoz ?_)
 | ((first|refine Aiz (fun h=>?_) (fun h=>?_))<;>(try simp only [h])<;>(try simp only [bitvec_to_nat] at h)<;>(try simp only [h])<;>(first|(exfalso;omega)|(exfalso;simp_all;done)|skip))
 | (first|refine Anz false ?_)
 | (first|(refine Akz (Apz (Dvz _ _)) ?_;rintro _ _ ⟨rfl,rfl⟩))
 | (refine Acz ⟨.inr rfl,_,rfl,?_⟩))<;>(try simp (disch:=omega) only [push_cast,seval])))
   ·rw [C5z (j:=k) hlt (by assumption)]
   ·refine ⟨k+1,⟨by omega,fun j h=>?_⟩,by omega,?_⟩
    ·by_cases hjk:j=k
     ·subst hjk;assumption
     ·exact hj j (by omega)
    ·(refine Sub.of_lists ?_ ?_ ?_ ?_ ?_<;>simp [Vw.mkS,Vw.lk,Vw.hk,AV.inn,innL,Ajz,Ahz,Alz,-List.map_set,-List.getD_eq_getElem?_getD])
  ·have ha:allI xs 0 255=true:=Drz fun j h=>hj j (by omega)
   (repeat' (first
 | (first|refine Afz ?_|refine Aaz ?_)
 | ((first|refine Agz ?_|refine Aez ?_|refine Atz ?_);simp (disch:=omega) only [push_cast,seval])
 | ((first|refine Aiz (fun h=>?_) (fun h=>?_))<;>(try simp only [h])<;>(try simp only [bitvec_to_nat] at h)<;>(try simp only [h])<;>(first|(exfalso;omega)|(exfalso;simp_all;done)|(simp (disch:=omega) only [push_cast,seval])|skip))
 | (refine Acz ⟨.inr rfl,_,rfl,?_⟩;(try simp (disch:=omega) only [push_cast,seval]))))
   simp [ha]


theorem iVMem_ok (xs:List Int)(n:Nat)(hn:xs.length=n)(hb:n≤1099511627776):PCall Tryz.prog 32 [.rows false (IL xs) n] (fun r=>r=.bool (vMem xs)):=by
 subst hn
 refine Axz l32_eq rfl ?_
 by_cases h4:xs.length≤60
 ·(repeat' ((first
 | (first|refine Afz ?_|refine Aaz ?_)
 | (first|refine Agz ?_)
 | ((first|refine Bgz (fun h=>?_) (fun h=>?_))<;>(try simp only [h])<;>(try simp only [bitvec_to_nat] at h)<;>(try simp only [h])<;>(first|(exfalso;omega)|(exfalso;simp_all;done)|skip))
 | (first|refine Anz false ?_)
 | (first|(refine Akz (Apz (F8z _)) ?_;rintro _ _ ⟨rfl,rfl⟩)|(refine Akz (Apz (I5z _ _ ?_ ?_)) ?_;(iterate 2 (exact sd));rintro _ _ ⟨rfl,rfl⟩))
 | (refine Acz ⟨.inr rfl,_,rfl,?_⟩))<;>(try simp (disch:=omega) only [push_cast,seval])))
  all_goals simp [vMem,h4]
 ·(repeat' ((first
 | (first|refine Afz ?_|refine Aaz ?_)
 | (first|refine Agz ?_)
 | ((first|refine Bgz (fun h=>?_) (fun h=>?_))<;>(try simp only [h])<;>(try simp only [bitvec_to_nat] at h)<;>(try simp only [h])<;>(first|(exfalso;omega)|(exfalso;simp_all;done)|skip))
 | (first|refine Anz false ?_)
 | (first|(refine Akz (Apz (F8z _)) ?_;rintro _ _ ⟨rfl,rfl⟩))
 | (refine Acz ⟨.inr rfl,_,rfl,?_⟩))<;>(try simp (disch:=omega) only [push_cast,seval])))
  all_goals simp [vMem,h4]


theorem sees_ok (mem:List Int)(b:Int)(sh st:List Int)(q n m:Nat)(hq:mem.length=q)(hn:sh.length=n)(hm:st.length=m)(hb:q≤1099511627776∧n≤1099511627776∧m≤1099511627776):PCall Tryz.prog 19 [.rows false (IL mem) q,.agg [.int .i64 b,.rows false (IL sh) n,.rows false (IL st) m]] (fun r=>r=.bool (seeB mem b sh st)):=by
 subst hq hn hm
 obtain ⟨hb0,hb1,hb2⟩:=hb
 refine Axz l19_eq rfl ?_
 cases hm:vMem mem with
 | false =>
  rw [seeB_mem hm]
  (repeat' ((first
 | (first|refine Afz ?_|refine Aaz ?_)
 | (first|refine Agz ?_)
 | (first|refine Anz false ?_)
 | (first|(refine Akz (Apz (Khz _ _ ?_ ?_)) ?_;(iterate 2 (exact sd));rintro _ _ ⟨rfl,rfl⟩))
 | (refine Acz ⟨.inr rfl,_,rfl,?_⟩))<;>(try simp (disch:=omega) only [push_cast,seval,hm])))
 | true =>
 have h60:=(F9z.1 hm).1
 cases hv:vV b sh st with
 | false =>
  rw [seeB_view hv]
  (repeat' ((first
 | (first|refine Afz ?_|refine Aaz ?_)
 | (first|refine Agz ?_)
 | (first|refine Anz false ?_)
 | (first|(refine Akz (Apz (Khz _ _ ?_ ?_)) ?_;(iterate 2 (exact sd));rintro _ _ ⟨rfl,rfl⟩)|(refine Akz (Apz (Azz _ _ _ _ _ ?_ ?_ ?_)) ?_;(iterate 3 (exact sd));rintro _ _ ⟨rfl,rfl⟩))
 | (refine Acz ⟨.inr rfl,_,rfl,?_⟩))<;>(try simp (disch:=omega) only [push_cast,seval,hm,hv])))
 | true =>
  have hok:=(A4z hv).1
  have q1:okV b sh st∧-1000000≤(mem.length:Int)∧(mem.length:Int)≤1000000:=⟨hok,by omega,by omega⟩
  rw [seeB_rest hm hv]
  (repeat' ((first
 | (first|refine Afz ?_|refine Aaz ?_)
 | (first|refine Agz ?_)
 | (first|refine Anz false ?_)
 | (first|(refine Akz (Apz (Khz _ _ ?_ ?_)) ?_;(iterate 2 (exact sd));rintro _ _ ⟨rfl,rfl⟩)|(refine Akz (Apz (Azz _ _ _ _ _ ?_ ?_ ?_)) ?_;(iterate 3 (exact sd));rintro _ _ ⟨rfl,rfl⟩)|(refine Akz (Apz (sfits_ok _ _ _ _ _ _ ?_ ?_ ?_)) ?_;(iterate 3 (exact sd));rintro _ _ ⟨rfl,rfl⟩))
 | (refine Acz ⟨.inr rfl,_,rfl,?_⟩))<;>(try simp (disch:=omega) only [push_cast,seval,hm,hv])))


theorem Grz (mem:List Int)(b:Int)(sh st:List Int)(q n m:Nat)(hq:mem.length=q)(hn:sh.length=n)(hm:st.length=m)(hb:q≤1099511627776∧n≤1099511627776∧m≤1099511627776):PCall Tryz.prog 16 [.rows false (IL mem) q,.agg [.int .i64 b,.rows false (IL sh) n,.rows false (IL st) m]] (fun r=>r=.bool (seeB mem b sh st)):=by
 subst hq hn hm
 obtain ⟨hb0,hb1,hb2⟩:=hb
 refine Axz l16_eq rfl ?_
 cases hm:vMem mem with
 | false =>
  rw [seeB_mem hm]
  (repeat' ((first
 | (first|refine Afz ?_|refine Aaz ?_)
 | (first|refine Agz ?_)
 | (first|refine Anz false ?_)
 | (first|(refine Akz (Apz (iVMem_ok _ _ ?_ ?_)) ?_;(iterate 2 (exact sd));rintro _ _ ⟨rfl,rfl⟩))
 | (refine Acz ⟨.inr rfl,_,rfl,?_⟩))<;>(try simp (disch:=omega) only [push_cast,seval,hm])))
 | true =>
  have e:=fitB_see (b:=b) (sh:=sh) (st:=st) hm
  (repeat' ((first
 | (first|refine Afz ?_|refine Aaz ?_)
 | (first|refine Agz ?_)
 | (first|refine Anz false ?_)
 | (first|(refine Akz (Apz (iVMem_ok _ _ ?_ ?_)) ?_;(iterate 2 (exact sd));rintro _ _ ⟨rfl,rfl⟩)|(refine Akz (Apz (iFitsIn_ok _ _ _ _ _ _ ?_ ?_ ?_)) ?_;(iterate 3 (exact sd));rintro _ _ ⟨rfl,rfl⟩))
 | (refine Acz ⟨.inr rfl,_,rfl,?_⟩))<;>(try simp (disch:=omega) only [push_cast,seval,hm,e])))


theorem Ggz {mem:List Int}{b:Int}{sh st:List Int}(h:seeB mem b sh st=true):okV b sh st∧st.length=sh.length∧good4 sh∧0≤pr sh∧pr sh≤60∧mem.length≤60:=by
 obtain ⟨h1,h2,h3⟩:=C8z.1 h
 obtain ⟨hok,hl⟩:=A4z h2
 have hs:=A5z (Czz.1 h2).1
 exact ⟨hok,hl,hs.1,hs.2.1,hs.2.2,(F9z.1 h1).1⟩


theorem sload_ok (mem:List Int)(b:Int)(sh st:List Int)(q n m:Nat)(hq:mem.length=q)(hn:sh.length=n)(hm:st.length=m)(hb:seeB mem b sh st=true):BCall Tryz.prog 21 [.rows false (IL mem) q,.agg [.int .i64 b,.rows false (IL sh) n,.rows false (IL st) m]] [] (OI (takesL mem (offs b sh st))):=by
 subst hq hn hm
 obtain ⟨f1,f2,f3,f4,f5,f6⟩:=Ggz hb
 have hat:=fun k hk=>seeB_at (k:=k) hb hk
 have hol:=Bjz b sh st
 generalize hL:offs b sh st=L at *
 refine Awz (pins:=[]) (pin:=0) l21_eq rfl rfl rfl ?_
 (repeat' ((first
 | (first|refine Afz ?_|refine Aaz ?_)
 | (first|refine Agz ?_)
 | (first|refine Anz false ?_)
 | (first|(refine Akz (Fsz _ _ _ _ _ ?_ ?_ ?_) ?_;(iterate 3 (exact sd));rintro _ _ ⟨rfl,rfl⟩))
 | (refine Acz ⟨.inr rfl,[128],[],_,by decide,rfl,?_⟩;(try simp (disch:=omega) only [push_cast,seval,↓Adz,↓Abz,↓List.map_cons,↓List.map_nil,hL]);(first|done|(show AV.own _ _ _=_∧_)))
 | (refine Acz ⟨.inr rfl,[160],[],_,by decide,rfl,?_⟩;(try simp (disch:=omega) only [push_cast,seval,↓Adz,↓Abz,↓List.map_cons,↓List.map_nil,hL]);(first|done|(show AV.own _ _ _=_∧_)))
 | (refine Acz ⟨.inr rfl,[400],[],_,by decide,rfl,?_⟩;(try simp (disch:=omega) only [push_cast,seval,↓Adz,↓Abz,↓List.map_cons,↓List.map_nil,hL]);(first|done|(show AV.own _ _ _=_∧_)))
 | (refine Acz ⟨.inr rfl,[416],[],_,by decide,rfl,?_⟩;(try simp (disch:=omega) only [push_cast,seval,↓Adz,↓Abz,↓List.map_cons,↓List.map_nil,hL]);(first|done|(show AV.own _ _ _=_∧_))))<;>(try simp (disch:=omega) only [push_cast,seval,hL])))
 refine A0z (fun k:Nat=>mkS [(0,RI mem),(5,.own 128 k 1),(6,.own 160 L.length 1),(7,.int .i64 k)] [(128,IL (takesL mem (L.take k))),(160,IL L)])
  (fun k=>k≤L.length) (fun k=>L.length-k) 0 (Nat.zero_le _) ?_ ?_
 ·have e0:takesL mem []=[]:=rfl
  (refine Sub.of_lists ?_ ?_ ?_ ?_ ?_<;>simp [Vw.mkS,Vw.lk,Vw.hk,AV.inn,innL,Ajz,Ahz,Alz,-List.map_set,-List.getD_eq_getElem?_getD,e0])
 ·intro k hk
  have e1:(takesL mem (L.take k)).length=k:=by rw [takesL_length];simp;omega
  by_cases hlt:k<L.length
  ·obtain ⟨h1,h2⟩:=hat k hlt
   have e2:takesL mem (L.take (k+1))=takesL mem (L.take k)++[mem.getD (L.getD k 0).toNat 0]:=by rw [A9z L k hlt];simp [takesL]
   (repeat' (first
 | (first|refine Afz ?_|refine Aaz ?_)
 | ((first|refine Agz ?_|refine Aez ?_|refine Aoz ?_);simp (disch:=omega) only [push_cast,seval,e1])
 | ((first|refine Aiz (fun h=>?_) (fun h=>?_))<;>(try simp only [h])<;>(try simp only [bitvec_to_nat] at h)<;>(try simp only [h])<;>(first|(exfalso;omega)|(exfalso;simp_all;done)|(simp (disch:=omega) only [push_cast,seval,e1])|skip))
 | (refine Acz ⟨.inr rfl,[128],[],_,by decide,rfl,?_⟩;(try simp (disch:=omega) only [push_cast,seval,↓Adz,↓Abz,↓List.map_cons,↓List.map_nil,e1]))))
   refine ⟨k+1,by omega,by omega,?_⟩
   (refine Sub.of_lists ?_ ?_ ?_ ?_ ?_<;>simp [Vw.mkS,Vw.lk,Vw.hk,AV.inn,innL,Ajz,Ahz,Alz,-List.map_set,-List.getD_eq_getElem?_getD,e2])
  ·have:k=L.length:=by omega
   subst this
   rw [List.take_length] at e1
   rw [List.take_length]
   (repeat' (first
 | (first|refine Afz ?_|refine Aaz ?_)
 | ((first|refine Agz ?_|refine Aez ?_|refine Atz ?_);simp (disch:=omega) only [push_cast,seval,e1])
 | ((first|refine Aiz (fun h=>?_) (fun h=>?_))<;>(try simp only [h])<;>(try simp only [bitvec_to_nat] at h)<;>(try simp only [h])<;>(first|(exfalso;omega)|(exfalso;simp_all;done)|(simp (disch:=omega) only [push_cast,seval,e1])|skip))
 | (refine Acz ⟨.inr rfl,[128],[],_,by decide,rfl,?_⟩;(try simp (disch:=omega) only [push_cast,seval,↓Adz,↓Abz,↓List.map_cons,↓List.map_nil,e1]))))
   all_goals simp [OI,e1]

end Go.Proofs.YtapccmfnmiopoaaGreat
namespace Go.Proofs.YtapccmfnmiopoaaGreat
open VwM Vw Go

theorem width_ok (b:Int)(sh st:List Int)(n m:Nat)(hn:sh.length=n)(hm:st.length=m)(hb:good4 sh∧m=n):PCall Tryz.prog 36 [.agg [.int .i64 b,.rows false (IL sh) n,.rows false (IL st) m]] (fun r=>r=.int .i64 (wdt sh st)):=by
 subst hn hm
 obtain ⟨hg,hl⟩:=hb
 have h4:=hg.2
 refine Axz l36_eq rfl ?_
 unfold wdt
 by_cases h0:sh.length=0
 ·have h0':(sh.length:Int)=0:=by omega
  rw [if_pos h0]
  (repeat' (first
 | (first|refine Afz ?_|refine Aaz ?_)
 | ((first|refine Agz ?_|refine Aez ?_);simp (disch:=omega) only [push_cast,seval,h0'])
 | (refine Acz ⟨.inr rfl,_,rfl,?_⟩;(try simp (disch:=omega) only [push_cast,seval,h0']))))
  all_goals simp
 ·rw [if_neg h0]
  obtain ⟨k,hk⟩:∃ k,sh.length=k+1:=⟨sh.length-1,by omega⟩
  have hk':(sh.length:Int)=(k:Int)+1:=by omega
  have e1:(k:Int)+1-1=(k:Int):=by omega
  have hgd:=Cpz hg (k:=k) (by omega)
  have hks:k<sh.length:=by omega
  have hkt:k<st.length:=by omega
  rw [hk,Nat.add_sub_cancel]
  by_cases h1:st.getD k 0=1
  ·rw [if_pos h1]
   have e2:(((sh.getD k 0).toNat:Nat):Int)=sh.getD k 0:=by omega
   rw [e2]
   (repeat' (first
 | (first|refine Afz ?_|refine Aaz ?_)
 | ((first|refine Agz ?_|refine Aez ?_|refine Aoz ?_);simp (disch:=omega) only [push_cast,seval,hk',e1,h1])
 | ((first|refine Aiz (fun h=>?_) (fun h=>?_)|refine Bgz (fun h=>?_) (fun h=>?_))<;>(try simp only [h])<;>(try simp only [bitvec_to_nat] at h)<;>(try simp only [h])<;>(first|(exfalso;omega)|(exfalso;simp_all;done)|(simp (disch:=omega) only [push_cast,seval,hk',e1,h1])|skip))
 | (refine Acz ⟨.inr rfl,_,rfl,?_⟩;(try simp (disch:=omega) only [push_cast,seval,hk',e1,h1]))))
  ·rw [if_neg h1]
   (repeat' (first
 | (first|refine Afz ?_|refine Aaz ?_)
 | ((first|refine Agz ?_|refine Aez ?_);simp (disch:=omega) only [push_cast,seval,hk',e1,h1])
 | ((first|refine Bgz (fun h=>?_) (fun h=>?_))<;>(try simp only [h])<;>(try simp only [bitvec_to_nat] at h)<;>(try simp only [h])<;>(first|(exfalso;omega)|(exfalso;simp_all;done)|(simp (disch:=omega) only [push_cast,seval,hk',e1,h1])|skip))
 | (refine Acz ⟨.inr rfl,_,rfl,?_⟩;(try simp (disch:=omega) only [push_cast,seval,hk',e1,h1]))))
   all_goals simp


theorem rowOfO_ok (xs:List Int)(n:Nat)(a w:Int)(hn:xs.length=n)(hb:(0≤a∧0≤w)∧a+w≤n∧n≤1000):BCall Tryz.prog 37 [.own 0 n 1,.int .i64 a,.int .i64 w] [IL xs] (fun r H'=>r=.osl 0 n a.toNat w.toNat 1 w.toNat∧H'=[IL xs]):=by
 subst hn
 obtain ⟨⟨h0,h1⟩,h2,h3⟩:=hb
 obtain ⟨a,rfl⟩:∃ k:Nat,a=k:=⟨a.toNat,by omega⟩
 obtain ⟨w,rfl⟩:∃ k:Nat,w=k:=⟨w.toNat,by omega⟩
 refine Awz (pins:=[0]) (pin:=1) l37_eq rfl rfl rfl ?_
 have e1:((a:Int)+(w:Int)).toNat=a+w:=by omega
 have e2:a+w-a=w:=by omega
 simp only [Int.toNat_natCast]
 (repeat' (first
 | (first|refine Afz ?_|refine Aaz ?_)
 | ((first|refine Agz ?_);simp (disch:=omega) only [push_cast,seval,e1,e2,Nat.zero_add,Nat.mul_one])
 | (refine Acz ⟨.inr rfl,[],[],_,by decide,rfl,?_⟩;(try simp (disch:=omega) only [push_cast,seval,↓Adz,↓Abz,↓List.map_cons,↓List.map_nil,e1,e2,Nat.zero_add,Nat.mul_one]))))
theorem rowOfR_ok (xs:List Int)(n:Nat)(a w:Int)(hn:xs.length=n)(hb:(0≤a∧0≤w)∧a+w≤n∧n≤1000):BCall Tryz.prog 37 [.rows false (IL xs) n,.int .i64 a,.int .i64 w] [] (fun r H'=>r=.rows false (IL ((xs.drop a.toNat).take w.toNat)) w.toNat∧H'=[]):=by
 subst hn
 obtain ⟨⟨h0,h1⟩,h2,h3⟩:=hb
 obtain ⟨a,rfl⟩:∃ k:Nat,a=k:=⟨a.toNat,by omega⟩
 obtain ⟨w,rfl⟩:∃ k:Nat,w=k:=⟨w.toNat,by omega⟩
 refine Awz (pins:=[]) (pin:=0) l37_eq rfl rfl rfl ?_
 have e1:((a:Int)+(w:Int)).toNat=a+w:=by omega
 have e2:a+w-a=w:=by omega
 simp only [Int.toNat_natCast]
 (repeat' (first
 | (first|refine Afz ?_|refine Aaz ?_)
 | ((first|refine Agz ?_);simp (disch:=omega) only [push_cast,seval,e1,e2,IL_td,Nat.zero_add,Nat.mul_one])
 | (refine Acz ⟨.inr rfl,[],[],_,by decide,rfl,?_⟩;(try simp (disch:=omega) only [push_cast,seval,↓Adz,↓Abz,↓List.map_cons,↓List.map_nil,e1,e2,IL_td,Nat.zero_add,Nat.mul_one]))))


set_option maxHeartbeats 8000000 in
theorem Ijz (mem:List Int)(b:Int)(sh st:List Int)(q n m:Nat)(hq:mem.length=q)(hn:sh.length=n)(hm:st.length=m)(hb:seeB mem b sh st=true):BCall Tryz.prog 18 [.rows false (IL mem) q,.agg [.int .i64 b,.rows false (IL sh) n,.rows false (IL st) m]] [] (OI (takesL mem (offs b sh st))):=by
 subst hq hn hm
 obtain ⟨f1,f2,f3,f4,f5,f6⟩:=Ggz hb
 have hat:=fun k hk=>seeB_at (k:=k) hb hk
 have hol:=Bjz b sh st
 have hrow:=fun (k j:Nat) hk hj h=>offs_rowW (b:=b) (sh:=sh) (st:=st) (k:=k) (j:=j) f3 hk hj h
 have hdv:=wdt_dvd (st:=st) f3
 have hwl:=wdt_le (st:=st) f3
 have hwp:=wdt_pos (st:=st) f3
 have q1:okV b sh st∧st.length=sh.length:=⟨f1,f2⟩
 have q2:good4 sh∧st.length=sh.length:=⟨f3,f2⟩
 generalize hL:offs b sh st=L at *
 generalize hW:wdt sh st=W at *
 refine Awz (pins:=[]) (pin:=0) l18_eq rfl rfl rfl ?_
 (repeat' ((first
 | (first|refine Afz ?_|refine Aaz ?_)
 | (first|refine Agz ?_|refine Auz (mid:=l18r1a) (post:=l18r1b) Bfz (by decide) ?_)
 | (first|refine Anz false ?_|refine A7z false ?_)
 | (first|((first|refine Akz (cells_ok _ _ _ _ _ ?_ ?_ ?_) ?_|refine Asz (cells_ok _ _ _ _ _ ?_ ?_ ?_) ⟨_,_,rfl,rfl⟩ ?_);(iterate 3 (exact sd));rintro _ _ ⟨rfl,rfl⟩)|((first|refine Akz (Apz (width_ok _ _ _ _ _ ?_ ?_ ?_)) ?_|refine Asz (Apz (width_ok _ _ _ _ _ ?_ ?_ ?_)) ⟨_,_,rfl,rfl⟩ ?_);(iterate 3 (exact sd));rintro _ _ ⟨rfl,rfl⟩))
 | (refine Acz ⟨.inr rfl,[240],[],_,by decide,rfl,?_⟩;(try simp (disch:=omega) only [push_cast,seval,↓Adz,↓Abz,↓List.map_cons,↓List.map_nil,hL,hW])))<;>(try simp (disch:=omega) only [push_cast,seval,hL,hW])))
 refine A0z (fun k:Nat=>mkS [(0,RI mem),(5,.own 160 L.length 1),(6,.int .i64 W),(7,.own 240 L.length 1),(8,.int .i64 k)] [(240,IL (filled (fun k=>mem.getD (L.getD k 0).toNat 0) L.length k)),(160,IL L)])
  (fun k=>k≤L.length∧W ∣ k) (fun k=>L.length-k) 0 ⟨Nat.zero_le _,Nat.dvd_zero _⟩ ?_ ?_
 ·(refine Sub.of_lists ?_ ?_ ?_ ?_ ?_<;>simp [Vw.mkS,Vw.lk,Vw.hk,AV.inn,innL,Ajz,Ahz,Alz,-List.map_set,-List.getD_eq_getElem?_getD,Dcz])
 ·rintro k ⟨hk,hkd⟩
  have e1:=D2z (fun k=>mem.getD (L.getD k 0).toNat 0) L.length k
  by_cases hlt:k<L.length
  ·have hw1:=hwp (by omega)
   have hend:=row_end hw1 hdv hkd (by omega)
   obtain ⟨h1,h2⟩:=hat k hlt
   have hlast:=hat (k+(W-1)) (by omega)
   rw [hrow k (W-1) hkd (by omega) (by omega)] at hlast
   obtain ⟨c,hc⟩:∃ c:Nat,L.getD k 0=c:=⟨(L.getD k 0).toNat,by omega⟩
   have hr:=load_row (mem:=mem) (cells:=L) (n:=L.length) (k:=k) W (by omega) (by omega) (fun j hj=>by rw [hrow k j hkd hj (by omega)];omega)
   rw [hc] at hr
   rw [Int.toNat_natCast] at hr
   have hcw:c+W≤mem.length:=by omega
   have hkw:k+W≤L.length:=by omega
   have e2:min W W=W:=Nat.min_self W
   generalize hF:filled (fun k=>mem.getD (L.getD k 0).toNat 0) L.length k=F at *
   have e4:(((mem.drop c).take W).map (AV.int .i64)).take W=((mem.drop c).take W).map (AV.int .i64):=by rw [← List.map_take,List.take_take,Nat.min_self]
   have e5:((mem.drop c).take W).length=W:=by simp;omega
   (repeat' ((first
 | (first|refine Afz ?_|refine Aaz ?_)
 | (first|refine Agz ?_|refine Cgz (mid:=l18r5a) (post:=l18r5b) [192,240] Bfz (by decide) ?_|refine Aez ?_|refine Aoz ?_)
 | ((first|refine Aiz (fun h=>?_) (fun h=>?_))<;>(try simp only [h])<;>(try simp only [bitvec_to_nat] at h)<;>(try simp only [h])<;>(first|(exfalso;omega)|(exfalso;simp_all;done)|skip))
 | (first|((with_reducible refine Edz (f:=37) [240] false ?_);simp (disch:=omega) only [push_cast,seval,hc,e1,e2,e4,e5,hr,Int.toNat_natCast];(refine H4z (id:=240) (rowOfO_ok _ _ _ _ ?_ ?_) (by (simp (disch:=omega) only [push_cast,seval,hc,e1,e2,e4,e5,hr,Int.toNat_natCast])<;>rfl) (by decide) ⟨_,_,rfl,rfl⟩ ?_;(iterate 2 (exact sd));rintro _ _ ⟨rfl,rfl⟩))|((with_reducible refine Anz (f:=37) true ?_);simp (disch:=omega) only [push_cast,seval,hc,e1,e2,e4,e5,hr,Int.toNat_natCast];(refine Akz (rowOfR_ok _ _ _ _ ?_ ?_) ?_;(iterate 2 (exact sd));rintro _ _ ⟨rfl,rfl⟩)))
 | (refine Acz ⟨.inr rfl,[240],[],_,by decide,rfl,?_⟩;(try simp (disch:=omega) only [push_cast,seval,↓Adz,↓Abz,↓List.map_cons,↓List.map_nil,hc,e1,e2,e4,e5,hr,Int.toNat_natCast])))<;>(try simp (disch:=omega) only [push_cast,seval,hc,e1,e2,e4,e5,hr,Int.toNat_natCast])))
   refine ⟨k+W,⟨by omega,Nat.dvd_add hkd (Nat.dvd_refl W)⟩,by omega,?_⟩
   (refine Sub.of_lists ?_ ?_ ?_ ?_ ?_<;>simp [Vw.mkS,Vw.lk,Vw.hk,AV.inn,innL,Ajz,Ahz,Alz,-List.map_set,-List.getD_eq_getElem?_getD,hr])
  ·have hke:k=L.length:=by omega
   subst hke
   rw [Gcz] at e1
   rw [Gcz]
   (repeat' (first
 | (first|refine Afz ?_|refine Aaz ?_)
 | ((first|refine Agz ?_|refine Aez ?_|refine Atz ?_);simp (disch:=omega) only [push_cast,seval,e1])
 | ((first|refine Aiz (fun h=>?_) (fun h=>?_))<;>(try simp only [h])<;>(try simp only [bitvec_to_nat] at h)<;>(try simp only [h])<;>(first|(exfalso;omega)|(exfalso;simp_all;done)|(simp (disch:=omega) only [push_cast,seval,e1])|skip))
 | (refine Acz ⟨.inr rfl,[240],[],_,by decide,rfl,?_⟩;(try simp (disch:=omega) only [push_cast,seval,↓Adz,↓Abz,↓List.map_cons,↓List.map_nil,e1]))))
   all_goals simp [OI,e1]

end Go.Proofs.YtapccmfnmiopoaaGreat
namespace Go.Proofs.YtapccmfnmiopoaaGreat
open VwM Vw Go

end Go.Proofs.YtapccmfnmiopoaaGreat
namespace Go.Proofs.YtapccmfnmiopoaaGreat
open VwM Vw Go

end Go.Proofs.YtapccmfnmiopoaaGreat
namespace Go.Proofs.YtapccmfnmiopoaaGreat
open VwM Vw Go

theorem MVL_true (l:List Int):MVL true l=l:=rfl
theorem iLoad_ok (mem:List Int)(b:Int)(sh st:List Int)(q n m:Nat)(hq:mem.length=q)(hn:sh.length=n)(hm:st.length=m)(hb:q≤1099511627776∧n≤1099511627776∧m≤1099511627776):BCall Tryz.prog 12 [.rows false (IL mem) q,.agg [.int .i64 b,.rows false (IL sh) n,.rows false (IL st) m]] [] (OI (MVL (seeB mem b sh st) (takesL mem (offs b sh st)))):=by
 subst hq hn hm
 refine Awz (pins:=[]) (pin:=0) l12_eq rfl rfl rfl ?_
 cases h1:seeB mem b sh st with
 | false =>
  (repeat' ((first
 | (first|refine Afz ?_|refine Aaz ?_)
 | (first|refine Agz ?_|refine Aez ?_)
 | (first|refine Anz false ?_)
 | (first|(refine Akz (Apz (Grz _ _ _ _ _ _ _ ?_ ?_ ?_ ?_)) ?_;(iterate 4 (exact sd));rintro _ _ ⟨rfl,rfl⟩))
 | (refine Acz ⟨.inr rfl,[16000],[(16000,1)],_,by decide,rfl,?_⟩;(try simp (disch:=omega) only [push_cast,seval,↓Adz,↓Abz,↓List.map_cons,↓List.map_nil,h1])))<;>(try simp (disch:=omega) only [push_cast,seval,h1])))
  all_goals simp [OI,MVL]
 | true =>
  (repeat' ((first
 | (first|refine Afz ?_|refine Aaz ?_)
 | (first|refine Agz ?_|refine Aez ?_|refine Aoz ?_)
 | (first|refine Anz false ?_)
 | (first|(refine Akz (Apz (Grz _ _ _ _ _ _ _ ?_ ?_ ?_ ?_)) ?_;(iterate 4 (exact sd));rintro _ _ ⟨rfl,rfl⟩)|(refine Akz (Ijz _ _ _ _ _ _ _ ?_ ?_ ?_ ?_) ?_;(iterate 4 (exact sd));rintro _ _ ⟨rfl,rfl⟩))
 | (refine Acz ⟨.inr rfl,[112],[],_,by decide,rfl,?_⟩;(try simp (disch:=omega) only [push_cast,seval,↓Adz,↓Abz,↓List.map_cons,↓List.map_nil,h1]);(first|done|(show AV.own _ _ _=_∧_)))
 | (refine Acz ⟨.inr rfl,[176],[],_,by decide,rfl,?_⟩;(try simp (disch:=omega) only [push_cast,seval,↓Adz,↓Abz,↓List.map_cons,↓List.map_nil,h1]);(first|done|(show AV.own _ _ _=_∧_))))<;>(try simp (disch:=omega) only [push_cast,seval,h1])))
  all_goals simp [OI,MVL]


theorem takes_bound {mem L:List Int}(h:∀ x∈mem,0≤x∧x≤255):∀ x∈takesL mem L,0≤x∧x≤255:=by
 intro x hx
 unfold takesL at hx
 obtain ⟨i,_,rfl⟩:=List.mem_map.1 hx
 by_cases hl:i.toNat<mem.length
 ·exact h _ (Bcz hl)
 ·rw [List.getD,List.getElem?_eq_none (Nat.le_of_not_lt hl)]
  exact ⟨Int.le_refl 0,by decide⟩

end Go.Proofs.YtapccmfnmiopoaaGreat
namespace Go.Proofs.YtapccmfnmiopoaaGreat
open VwM Vw Go

set_option maxHeartbeats 8000000 in
theorem someMem_ok (bs:List Int)(p:Int)(hb:okB bs)(hp:0≤p∧p≤700000):BCall Tryz.prog 30 [.ref 0 2 0] [RD bs p] (fun r H'=>∃ xs q,(1≤xs.length∧xs.length≤60)∧(p≤q∧q≤p+70)∧r=.own 1 xs.length 1∧H'=[RD bs q,IL xs]):=by
 refine Awz (pins:=[0]) (pin:=1) l30_eq rfl rfl rfl ?_
 (repeat' ((first
 | (first|refine Afz ?_|refine Aaz ?_)
 | (first|refine Agz ?_)
 | (first|((with_reducible refine A6z (f:=58) (args:=[Operand.tmp 6,Operand.tmp 7]) [0,112] true ?_);simp (disch:=omega) only [push_cast,seval];(refine Ddz (id:=0) (id':=112) (by decide) (Egz _ _ _ _ ?_ ?_ ?_ ?_ ?_) (by (simp (disch:=omega) only [push_cast,seval])<;>rfl) (by (simp (disch:=omega) only [push_cast,seval])<;>rfl) ?_;(iterate 5 (exact sd));rintro _ _ ⟨x,hx,hx0,rfl,rfl⟩)))
 | (refine Acz ⟨.inr rfl,[80],[],_,by decide,rfl,?_⟩;(try simp (disch:=omega) only [push_cast,seval,↓Adz,↓Abz,↓List.map_cons,↓List.map_nil])))<;>(try simp (disch:=omega) only [push_cast,seval])))
 have hn:5≤x∧x≤60:=by
  simp only [E2z,G0z,List.mem_cons,List.not_mem_nil,or_false] at hx
  omega
 refine A0z (fun y:List Int×Int×Int=>mkS [(0,.ref 0 2 0),(3,.own 80 y.1.length 1),(4,.int .i64 y.2.1)] [(0,RD bs y.2.2),(80,IL y.1)])
  (fun y=>(5≤(y.1.length:Int)+y.2.1∧(y.1.length:Int)+y.2.1≤60)∧0≤y.2.1∧p≤y.2.2∧y.2.2+y.2.1≤p+62) (fun y=>y.2.1.toNat) ([],x,p+1) ⟨by simp;omega,by simp only;omega⟩ ?_ ?_
 ·(refine Sub.of_lists ?_ ?_ ?_ ?_ ?_<;>simp [Vw.mkS,Vw.lk,Vw.hk,AV.inn,innL,Ajz,Ahz,Alz,-List.map_set,-List.getD_eq_getElem?_getD])
 ·rintro ⟨xs,n,q⟩ ⟨hlen,h0,hq1,hq2⟩
  clear hx hx0 hn
  simp only at hlen h0 hq1 hq2 ⊢
  by_cases hlt:n > 0
  ·(repeat' ((first
 | (first|refine Afz ?_|refine Aaz ?_)
 | (first|refine Agz ?_|refine Aez ?_|refine Aoz ?_)
 | (first|((with_reducible refine A6z (f:=59) [0] true ?_);simp (disch:=omega) only [push_cast,seval,hlt];(refine Dqz (id:=0) (Dyz _ _ _ ?_ ?_) (by (simp (disch:=omega) only [push_cast,seval,hlt])<;>rfl) ?_;(iterate 2 (exact sd));rintro _ _ ⟨x,hx0,hx1,rfl,rfl⟩)))
 | (refine Acz ⟨.inr rfl,[80],[],_,by decide,rfl,?_⟩;(try simp (disch:=omega) only [push_cast,seval,↓Adz,↓Abz,↓List.map_cons,↓List.map_nil,hlt])))<;>(try simp (disch:=omega) only [push_cast,seval,hlt])))
   all_goals (refine ⟨(xs++[x],n-1,q+1),⟨by simp;omega,by simp only;omega⟩,by simp only;omega,?_⟩;(refine Sub.of_lists ?_ ?_ ?_ ?_ ?_<;>simp [Vw.mkS,Vw.lk,Vw.hk,AV.inn,innL,Ajz,Ahz,Alz,-List.map_set,-List.getD_eq_getElem?_getD]))
  ·have hx1:0<xs.length:=by omega
   (repeat' ((first
 | (first|refine Afz ?_|refine Aaz ?_)
 | (first|refine Agz ?_|refine Aez ?_|refine Aoz ?_|refine Atz ?_)
 | ((first|refine Aiz (fun h=>?_) (fun h=>?_))<;>(try simp only [h])<;>(try simp only [bitvec_to_nat] at h)<;>(try simp only [h])<;>(first|(exfalso;omega)|(exfalso;simp_all;done)|skip))
 | (first|((with_reducible refine A6z (f:=58) (args:=[Operand.tmp 22,Operand.tmp 23]) [0,368] true ?_);simp (disch:=omega) only [push_cast,seval,hlt,Ayz];(refine Ddz (id:=0) (id':=368) (by decide) (Egz _ _ _ _ ?_ ?_ ?_ ?_ ?_) (by (simp (disch:=omega) only [push_cast,seval,hlt,Ayz])<;>rfl) (by (simp (disch:=omega) only [push_cast,seval,hlt,Ayz])<;>rfl) ?_;(iterate 5 (exact sd));rintro _ _ ⟨x,hx,hx0,rfl,rfl⟩))|((with_reducible refine A6z (f:=59) [0] true ?_);simp (disch:=omega) only [push_cast,seval,hlt,Ayz];(refine Dqz (id:=0) (Dyz _ _ _ ?_ ?_) (by (simp (disch:=omega) only [push_cast,seval,hlt,Ayz])<;>rfl) ?_;(iterate 2 (exact sd));rintro _ _ ⟨x,hx0,hx1,rfl,rfl⟩)))
 | (refine Acz ⟨.inr rfl,[80],[],_,by decide,rfl,?_⟩;(try simp (disch:=omega) only [push_cast,seval,↓Adz,↓Abz,↓List.map_cons,↓List.map_nil,hlt,Ayz])))<;>(try simp (disch:=omega) only [push_cast,seval,hlt,Ayz])))
   all_goals first
    | (refine ⟨xs,q+1,⟨?_,?_⟩,?_,?_,?_⟩<;>first|omega|rfl|(simp;done)|(simp;omega))
    | (refine ⟨xs.set 0 x,q+1+1,⟨?_,?_⟩,?_,?_,?_⟩<;>first|omega|rfl|(simp;done)|(simp;omega))

end Go.Proofs.YtapccmfnmiopoaaGreat
namespace Go.Proofs.YtapccmfnmiopoaaGreat
open VwM Vw Go

abbrev OT (x y:List Int):AV→List (List AV)→Prop:=fun r H'=>r=.agg [.own 0 x.length 1,.own 1 y.length 1]∧H'=[IL x,IL y]
theorem vT_sh {x y:List Int}(h:vSh x=false):vT (x,y)=false:=by simp [vT,h]
theorem vT_len {x y:List Int}(h:¬ (y.length:Int)=pr x):vT (x,y)=false:=by simp [vT,h]
theorem vT_in {x y:List Int}(h:vSh x=true)(h2:(y.length:Int)=pr x):vT (x,y)=allI y (-1000000) 1000000:=by simp [vT,h,h2]
theorem Dtz {t:Tn}:vT t=true↔vSh t.1=true∧(t.2.length:Int)=pr t.1∧∀ x∈t.2,-1000000≤x∧x≤1000000:=by
 simp [vT,Boz,and_assoc]
theorem vT_len60 {t:Tn}(h:vT t=true):t.1.length≤4∧t.2.length≤60:=by
 obtain ⟨h1,h2,_⟩:=Dtz.1 h
 have:=(A5z h1).1.2
 have:=(A5z h1).2
 omega


theorem Jfz (x l:Int)(h0:0≤l)(h1:l≤100000000):PCall Tryz.prog 50 [.int .i64 x,.int .i64 l] (fun r=>r=.bool (decide (-l≤x)&&decide (x≤l))):=by
 refine Axz l50_eq rfl ?_
 (repeat' (first
 | (first|refine Afz ?_|refine Aaz ?_)
 | ((first|refine Agz ?_);simp (disch:=omega) only [push_cast,seval])
 | ((first|refine Bgz (fun h=>?_) (fun h=>?_))<;>(try simp only [h])<;>(try simp only [bitvec_to_nat] at h)<;>(try simp only [h])<;>(first|(exfalso;omega)|(exfalso;simp_all;done)|(simp (disch:=omega) only [push_cast,seval])|skip))
 | (refine Acz ⟨.inr rfl,_,rfl,?_⟩;(try simp (disch:=omega) only [push_cast,seval]))))
 all_goals (first|rfl|(simp_all;done)|(simp_all;omega)|(simp;omega)|(simp;grind)|(simp_all;grind)|skip)


set_option maxHeartbeats 4000000 in
theorem Emz (x y:List Int)(n m:Nat)(hn:x.length=n)(hm:y.length=m)(hb:n≤1099511627776∧m≤1099511627776):PCall Tryz.prog 26 [.agg [.rows false (IL x) n,.rows false (IL y) m]] (fun r=>r=.bool (vT (x,y))):=by
 subst hn hm
 refine Axz l26_eq rfl ?_
 cases hv:vSh x with
 | false =>
  rw [vT_sh hv]
  (repeat' ((first
 | (first|refine Afz ?_|refine Aaz ?_)
 | (first|refine Agz ?_|refine Auz (mid:=l26r1a) (post:=l26r1b) Bfz (by decide) ?_|refine Aez ?_)
 | (first|refine A7z false ?_)
 | (first|(refine Asz (Apz (Baz _ _ ?_ ?_)) ⟨_,_,rfl,rfl⟩ ?_;(iterate 2 (exact sd));rintro _ _ ⟨rfl,rfl⟩))
 | (refine Acz ⟨.inr rfl,_,rfl,?_⟩))<;>(try simp (disch:=omega) only [push_cast,seval,hv])))
 | true =>
  have hg:=(A5z hv).1
  have hl:=hg.2
  by_cases hz:(y.length:Int)=pr x
  ·rw [vT_in hv hz]
   (repeat' ((first
 | (first|refine Afz ?_|refine Aaz ?_)
 | (first|refine Agz ?_|refine Auz (mid:=l26r1a) (post:=l26r1b) Bfz (by decide) ?_|refine Aez ?_|refine Aoz ?_)
 | (first|refine A7z false ?_)
 | (first|(refine Asz (Apz (Baz _ _ ?_ ?_)) ⟨_,_,rfl,rfl⟩ ?_;(iterate 2 (exact sd));rintro _ _ ⟨rfl,rfl⟩)|(refine Asz (Apz (Dmz _ _ ?_ ?_)) ⟨_,_,rfl,rfl⟩ ?_;(iterate 2 (exact sd));rintro _ _ ⟨rfl,rfl⟩))
 | (refine Acz ⟨.inr rfl,_,rfl,?_⟩))<;>(try simp (disch:=omega) only [push_cast,seval,hv,hz])))
   refine A0z (fun k:Nat=>mkS [(19,RI y),(20,.int .i64 y.length),(21,.int .i64 k)] []) (fun k=>k≤y.length∧∀ j:Nat,j<k→-1000000≤y.getD j 0∧y.getD j 0≤1000000) (fun k=>y.length-k) 0 ⟨Nat.zero_le _,fun j h=>absurd h (Nat.not_lt_zero _)⟩ ?_ ?_
   ·(refine Sub.of_lists ?_ ?_ ?_ ?_ ?_<;>simp [Vw.mkS,Vw.lk,Vw.hk,AV.inn,innL,Ajz,Ahz,Alz,-List.map_set,-List.getD_eq_getElem?_getD,hz])
   ·rintro k ⟨hk,hj⟩
    by_cases hlt:k<y.length
    ·by_cases hin:-1000000≤y.getD k 0∧y.getD k 0≤1000000
     ·have hw:(decide (-1000000≤y.getD k 0)&&decide (y.getD k 0≤1000000))=true:=by
       rw [Bool.and_eq_true,decide_eq_true_eq,decide_eq_true_eq];exact hin
      (repeat' ((first
 | (first|refine Afz ?_|refine Aaz ?_)
 | (first|refine Agz ?_|refine Aez ?_|refine Aoz ?_)
 | ((first|refine Aiz (fun h=>?_) (fun h=>?_))<;>(try simp only [h])<;>(try simp only [bitvec_to_nat] at h)<;>(try simp only [h])<;>(first|(exfalso;omega)|(exfalso;simp_all;done)|skip))
 | (first|refine Anz false ?_)
 | (first|(refine Akz (Apz (Jfz _ _ ?_ ?_)) ?_;(iterate 2 (exact sd));rintro _ _ ⟨rfl,rfl⟩))
 | (refine Acz ⟨.inr rfl,_,rfl,?_⟩; (try simp (disch := omega) only [push_cast,seval,hw])))<;>(try simp (disch:=omega) only [push_cast,seval,hw])))
      refine ⟨k+1,⟨by omega,fun j h=>?_⟩,by omega,?_⟩
      ·by_cases hjk:j=k
       ·subst hjk;exact hin
       ·exact hj j (by omega)
      ·(refine Sub.of_lists ?_ ?_ ?_ ?_ ?_<;>simp [Vw.mkS,Vw.lk,Vw.hk,AV.inn,innL,Ajz,Ahz,Alz,-List.map_set,-List.getD_eq_getElem?_getD])
     ·have hw:(decide (-1000000≤y.getD k 0)&&decide (y.getD k 0≤1000000))=false:=by
       rw [Bool.and_eq_false_iff,decide_eq_false_iff_not,decide_eq_false_iff_not];omega
      rw [C5z (j:=k) hlt (by omega)]
      (repeat' ((first
 | (first|refine Afz ?_|refine Aaz ?_)
 | (first|refine Agz ?_|refine Aez ?_|refine Aoz ?_)
 | ((first|refine Aiz (fun h=>?_) (fun h=>?_))<;>(try simp only [h])<;>(try simp only [bitvec_to_nat] at h)<;>(try simp only [h])<;>(first|(exfalso;omega)|(exfalso;simp_all;done)|skip))
 | (first|refine Anz false ?_)
 | (first|(refine Akz (Apz (Jfz _ _ ?_ ?_)) ?_;(iterate 2 (exact sd));rintro _ _ ⟨rfl,rfl⟩))
 | (refine Acz ⟨.inr rfl,_,rfl,?_⟩))<;>(try simp (disch:=omega) only [push_cast,seval,hw])))
    ·rw [Drz fun j h=>hj j (by omega)]
     (repeat' (first
 | (first|refine Afz ?_|refine Aaz ?_)
 | ((first|refine Agz ?_|refine Aez ?_|refine Atz ?_);simp (disch:=omega) only [push_cast,seval])
 | ((first|refine Aiz (fun h=>?_) (fun h=>?_))<;>(try simp only [h])<;>(try simp only [bitvec_to_nat] at h)<;>(try simp only [h])<;>(first|(exfalso;omega)|(exfalso;simp_all;done)|(simp (disch:=omega) only [push_cast,seval])|skip))
 | (refine Acz ⟨.inr rfl,_,rfl,?_⟩;(try simp (disch:=omega) only [push_cast,seval]))))
  ·rw [vT_len hz]
   (repeat' ((first
 | (first|refine Afz ?_|refine Aaz ?_)
 | (first|refine Agz ?_|refine Auz (mid:=l26r1a) (post:=l26r1b) Bfz (by decide) ?_|refine Aez ?_)
 | (first|refine A7z false ?_)
 | (first|(refine Asz (Apz (Baz _ _ ?_ ?_)) ⟨_,_,rfl,rfl⟩ ?_;(iterate 2 (exact sd));rintro _ _ ⟨rfl,rfl⟩)|(refine Asz (Apz (Dmz _ _ ?_ ?_)) ⟨_,_,rfl,rfl⟩ ?_;(iterate 2 (exact sd));rintro _ _ ⟨rfl,rfl⟩))
 | (refine Acz ⟨.inr rfl,_,rfl,?_⟩))<;>(try simp (disch:=omega) only [push_cast,seval,hv,hz])))

end Go.Proofs.YtapccmfnmiopoaaGreat
