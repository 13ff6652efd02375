/- Texts of this verifier. -/
import Derived.Test.YtfccepgibbdfaaaGreatDoorCB4
import Derived.Test.YtfccepgibbdfaaaGreatDoorCM1
import Derived.Test.YtfccepgibbdfaaaGreatDoorCW3
import Derived.WalkKit
import Derived.LaidEql
import Derived.Stop.Asserts
import Derived.RowKitTokens
set_option maxHeartbeats 4000000
set_option linter.unusedSimpArgs false
set_option linter.unusedSectionVars false
set_option linter.unusedVariables false
set_option maxRecDepth 4000
namespace Go.Proofs.YtfccepgibbdfaaaGreatDoor
open VwM Vw Go
variable [SentA]
variable [PowA]

theorem I5z (b:Int)(sh st:List Int)(n m:Nat)(hn:sh.length=n)(hm:st.length=m)(hb:good4 sh∧m=n):PCall Tryz.prog 148 [.agg [.int .i64 b,.rows false (IL sh) n,.rows false (IL st) m]] (fun r=>r=.int .i64 (wdt sh st)):=by
 subst hn hm
 obtain ⟨hg,hl⟩:=hb
 have h4:=hg.2
 refine Atz l148_eq rfl ?_
 unfold wdt
 by_cases h0:sh.length=0
 ·have h0':(sh.length:Int)=0:=by omega
  rw [if_pos h0]
  (repeat' (first
 | (first|refine Afz ?_|refine Abz ?_)
 | ((first|refine Agz ?_|refine Acz ?_);simp (disch:=omega) only [push_cast,seval,h0'])
 | (refine Adz ⟨.inr rfl,_,rfl,?_⟩;(try simp (disch:=omega) only [push_cast,seval,h0']))))
  all_goals simp
 ·rw [if_neg h0]
  obtain ⟨k,hk⟩:∃ k,sh.length=k+1:=⟨sh.length-1,by omega⟩
  have hk':(sh.length:Int)=(k:Int)+1:=by omega
  have e1:(k:Int)+1-1=(k:Int):=by omega
  have hgd:=Clz hg (k:=k) (by omega)
  have hks:k<sh.length:=by omega
  have hkt:k<st.length:=by omega
  rw [hk,Nat.add_sub_cancel]
  by_cases h1:st.getD k 0=1
  ·rw [if_pos h1]
   have e2:(((sh.getD k 0).toNat:Nat):Int)=sh.getD k 0:=by omega
   rw [e2]
   (repeat' (first
 | (first|refine Afz ?_|refine Abz ?_)
 | ((first|refine Agz ?_|refine Acz ?_|refine Amz ?_);simp (disch:=omega) only [push_cast,seval,hk',e1,h1])
 | ((first|refine Alz (fun h=>?_) (fun h=>?_)|refine A4z (fun h=>?_) (fun h=>?_))<;>(try simp only [h])<;>(try simp only [bitvec_to_nat] at h)<;>(try simp only [h])<;>(first|(exfalso;omega)|(exfalso;simp_all;done)|(simp (disch:=omega) only [push_cast,seval,hk',e1,h1])|skip))
 | (refine Adz ⟨.inr rfl,_,rfl,?_⟩;(try simp (disch:=omega) only [push_cast,seval,hk',e1,h1]))))
  ·rw [if_neg h1]
   (repeat' (first
 | (first|refine Afz ?_|refine Abz ?_)
 | ((first|refine Agz ?_|refine Acz ?_);simp (disch:=omega) only [push_cast,seval,hk',e1,h1])
 | ((first|refine A4z (fun h=>?_) (fun h=>?_))<;>(try simp only [h])<;>(try simp only [bitvec_to_nat] at h)<;>(try simp only [h])<;>(first|(exfalso;omega)|(exfalso;simp_all;done)|(simp (disch:=omega) only [push_cast,seval,hk',e1,h1])|skip))
 | (refine Adz ⟨.inr rfl,_,rfl,?_⟩;(try simp (disch:=omega) only [push_cast,seval,hk',e1,h1]))))
   all_goals simp


theorem rowOfO_ok (xs:List Int)(n:Nat)(a w:Int)(hn:xs.length=n)(hb:(0≤a∧0≤w)∧a+w≤n∧n≤1000):BCall Tryz.prog 149 [.own 0 n 1,.int .i64 a,.int .i64 w] [IL xs] (fun r H'=>r=.osl 0 n a.toNat w.toNat 1 w.toNat∧H'=[IL xs]):=by
 subst hn
 obtain ⟨⟨h0,h1⟩,h2,h3⟩:=hb
 obtain ⟨a,rfl⟩:∃ k:Nat,a=k:=⟨a.toNat,by omega⟩
 obtain ⟨w,rfl⟩:∃ k:Nat,w=k:=⟨w.toNat,by omega⟩
 refine Avz (pins:=[0]) (pin:=1) l149_eq rfl rfl rfl ?_
 have e1:((a:Int)+(w:Int)).toNat=a+w:=by omega
 have e2:a+w-a=w:=by omega
 simp only [Int.toNat_natCast]
 (repeat' (first
 | (first|refine Afz ?_|refine Abz ?_)
 | ((first|refine Agz ?_);simp (disch:=omega) only [push_cast,seval,e1,e2,Nat.zero_add,Nat.mul_one])
 | (refine Adz ⟨.inr rfl,[],[],_,by decide,rfl,?_⟩;(try simp (disch:=omega) only [push_cast,seval,↓Ahz,↓Aez,↓List.map_cons,↓List.map_nil,e1,e2,Nat.zero_add,Nat.mul_one]))))
theorem rowOfR_ok (xs:List Int)(n:Nat)(a w:Int)(hn:xs.length=n)(hb:(0≤a∧0≤w)∧a+w≤n∧n≤1000):BCall Tryz.prog 149 [.rows false (IL xs) n,.int .i64 a,.int .i64 w] [] (fun r H'=>r=.rows false (IL ((xs.drop a.toNat).take w.toNat)) w.toNat∧H'=[]):=by
 subst hn
 obtain ⟨⟨h0,h1⟩,h2,h3⟩:=hb
 obtain ⟨a,rfl⟩:∃ k:Nat,a=k:=⟨a.toNat,by omega⟩
 obtain ⟨w,rfl⟩:∃ k:Nat,w=k:=⟨w.toNat,by omega⟩
 refine Avz (pins:=[]) (pin:=0) l149_eq rfl rfl rfl ?_
 have e1:((a:Int)+(w:Int)).toNat=a+w:=by omega
 have e2:a+w-a=w:=by omega
 simp only [Int.toNat_natCast]
 (repeat' (first
 | (first|refine Afz ?_|refine Abz ?_)
 | ((first|refine Agz ?_);simp (disch:=omega) only [push_cast,seval,e1,e2,IL_td,Nat.zero_add,Nat.mul_one])
 | (refine Adz ⟨.inr rfl,[],[],_,by decide,rfl,?_⟩;(try simp (disch:=omega) only [push_cast,seval,↓Ahz,↓Aez,↓List.map_cons,↓List.map_nil,e1,e2,IL_td,Nat.zero_add,Nat.mul_one]))))


set_option maxHeartbeats 8000000 in
theorem J5z (mem:List Int)(b:Int)(sh st:List Int)(q n m:Nat)(hq:mem.length=q)(hn:sh.length=n)(hm:st.length=m)(hb:seeB mem b sh st=true):BCall Tryz.prog 134 [.rows false (IL mem) q,.agg [.int .i64 b,.rows false (IL sh) n,.rows false (IL st) m]] [] (OI (takesL mem (offs b sh st))):=by
 subst hq hn hm
 obtain ⟨f1,f2,f3,f4,f5,f6⟩:=Cpz hb
 have hat:=fun k hk=>Jmz (k:=k) hb hk
 have hol:=Bdz b sh st
 have hrow:=fun (k j:Nat) hk hj h=>offs_rowW (b:=b) (sh:=sh) (st:=st) (k:=k) (j:=j) f3 hk hj h
 have hdv:=wdt_dvd (st:=st) f3
 have hwl:=wdt_le (st:=st) f3
 have hwp:=wdt_pos (st:=st) f3
 have q1:okV b sh st∧st.length=sh.length:=⟨f1,f2⟩
 have q2:good4 sh∧st.length=sh.length:=⟨f3,f2⟩
 generalize hL:offs b sh st=L at *
 generalize hW:wdt sh st=W at *
 refine Avz (pins:=[]) (pin:=0) l134_eq rfl rfl rfl ?_
 (repeat' ((first
 | (first|refine Afz ?_|refine Abz ?_)
 | (first|refine Agz ?_|refine Arz (mid:=l134r1a) (post:=l134r1b) mixed (by decide) ?_)
 | (first|refine Ajz false ?_|refine Aqz false ?_)
 | (first|((first|refine Aiz (Jfz _ _ _ _ _ ?_ ?_ ?_) ?_|refine Aoz (Jfz _ _ _ _ _ ?_ ?_ ?_) ⟨_,_,rfl,rfl⟩ ?_);(iterate 3 (exact sd));rintro _ _ ⟨rfl,rfl⟩)|((first|refine Aiz (Akz (I5z _ _ _ _ _ ?_ ?_ ?_)) ?_|refine Aoz (Akz (I5z _ _ _ _ _ ?_ ?_ ?_)) ⟨_,_,rfl,rfl⟩ ?_);(iterate 3 (exact sd));rintro _ _ ⟨rfl,rfl⟩))
 | (refine Adz ⟨.inr rfl,[240],[],_,by decide,rfl,?_⟩;(try simp (disch:=omega) only [push_cast,seval,↓Ahz,↓Aez,↓List.map_cons,↓List.map_nil,hL,hW])))<;>(try simp (disch:=omega) only [push_cast,seval,hL,hW])))
 refine A5z (fun k:Nat=>mkS [(0,RI mem),(5,.own 160 L.length 1),(6,.int .i64 W),(7,.own 240 L.length 1),(8,.int .i64 k)] [(240,IL (filled (fun k=>mem.getD (L.getD k 0).toNat 0) L.length k)),(160,IL L)])
  (fun k=>k≤L.length∧W ∣ k) (fun k=>L.length-k) 0 ⟨Nat.zero_le _,Nat.dvd_zero _⟩ ?_ ?_
 ·(refine Sub.of_lists ?_ ?_ ?_ ?_ ?_<;>simp [Vw.mkS,Vw.lk,Vw.hk,AV.inn,innL,Apz,Anz,Asz,-List.map_set,-List.getD_eq_getElem?_getD,Kgz])
 ·rintro k ⟨hk,hkd⟩
  have e1:=Fiz (fun k=>mem.getD (L.getD k 0).toNat 0) L.length k
  by_cases hlt:k<L.length
  ·have hw1:=hwp (by omega)
   have hend:=row_end hw1 hdv hkd (by omega)
   obtain ⟨h1,h2⟩:=hat k hlt
   have hlast:=hat (k+(W-1)) (by omega)
   rw [hrow k (W-1) hkd (by omega) (by omega)] at hlast
   obtain ⟨c,hc⟩:∃ c:Nat,L.getD k 0=c:=⟨(L.getD k 0).toNat,by omega⟩
   have hr:=load_row (mem:=mem) (cells:=L) (n:=L.length) (k:=k) W (by omega) (by omega) (fun j hj=>by rw [hrow k j hkd hj (by omega)];omega)
   rw [hc] at hr
   rw [Int.toNat_natCast] at hr
   have hcw:c+W≤mem.length:=by omega
   have hkw:k+W≤L.length:=by omega
   have e2:min W W=W:=Nat.min_self W
   generalize hF:filled (fun k=>mem.getD (L.getD k 0).toNat 0) L.length k=F at *
   have e4:(((mem.drop c).take W).map (AV.int .i64)).take W=((mem.drop c).take W).map (AV.int .i64):=by rw [← List.map_take,List.take_take,Nat.min_self]
   have e5:((mem.drop c).take W).length=W:=by simp;omega
   (repeat' ((first
 | (first|refine Afz ?_|refine Abz ?_)
 | (first|refine Agz ?_|refine Bbz (mid:=l134r5a) (post:=l134r5b) [192,240] mixed (by decide) ?_|refine Acz ?_|refine Amz ?_)
 | ((first|refine Alz (fun h=>?_) (fun h=>?_))<;>(try simp only [h])<;>(try simp only [bitvec_to_nat] at h)<;>(try simp only [h])<;>(first|(exfalso;omega)|(exfalso;simp_all;done)|skip))
 | (first|((with_reducible refine F3z (f:=149) [240] false ?_);simp (disch:=omega) only [push_cast,seval,hc,e1,e2,e4,e5,hr,Int.toNat_natCast];(refine qcall1D (id:=240) (rowOfO_ok _ _ _ _ ?_ ?_) (by (simp (disch:=omega) only [push_cast,seval,hc,e1,e2,e4,e5,hr,Int.toNat_natCast])<;>rfl) (by decide) ⟨_,_,rfl,rfl⟩ ?_;(iterate 2 (exact sd));rintro _ _ ⟨rfl,rfl⟩))|((with_reducible refine Ajz (f:=149) true ?_);simp (disch:=omega) only [push_cast,seval,hc,e1,e2,e4,e5,hr,Int.toNat_natCast];(refine Aiz (rowOfR_ok _ _ _ _ ?_ ?_) ?_;(iterate 2 (exact sd));rintro _ _ ⟨rfl,rfl⟩)))
 | (refine Adz ⟨.inr rfl,[240],[],_,by decide,rfl,?_⟩;(try simp (disch:=omega) only [push_cast,seval,↓Ahz,↓Aez,↓List.map_cons,↓List.map_nil,hc,e1,e2,e4,e5,hr,Int.toNat_natCast])))<;>(try simp (disch:=omega) only [push_cast,seval,hc,e1,e2,e4,e5,hr,Int.toNat_natCast])))
   refine ⟨k+W,⟨by omega,Nat.dvd_add hkd (Nat.dvd_refl W)⟩,by omega,?_⟩
   (refine Sub.of_lists ?_ ?_ ?_ ?_ ?_<;>simp [Vw.mkS,Vw.lk,Vw.hk,AV.inn,innL,Apz,Anz,Asz,-List.map_set,-List.getD_eq_getElem?_getD,hr])
  ·have hke:k=L.length:=by omega
   subst hke
   rw [Hmz] at e1
   rw [Hmz]
   (repeat' (first
 | (first|refine Afz ?_|refine Abz ?_)
 | ((first|refine Agz ?_|refine Acz ?_|refine Azz ?_);simp (disch:=omega) only [push_cast,seval,e1])
 | ((first|refine Alz (fun h=>?_) (fun h=>?_))<;>(try simp only [h])<;>(try simp only [bitvec_to_nat] at h)<;>(try simp only [h])<;>(first|(exfalso;omega)|(exfalso;simp_all;done)|(simp (disch:=omega) only [push_cast,seval,e1])|skip))
 | (refine Adz ⟨.inr rfl,[240],[],_,by decide,rfl,?_⟩;(try simp (disch:=omega) only [push_cast,seval,↓Ahz,↓Aez,↓List.map_cons,↓List.map_nil,e1]))))
   all_goals simp [OI,e1]

end Go.Proofs.YtfccepgibbdfaaaGreatDoor
namespace Go.Proofs.YtfccepgibbdfaaaGreatDoor
open VwM Vw Go
variable [SentA]
variable [PowA]

set_option maxHeartbeats 8000000 in
theorem Hoz (mem:List Int)(b:Int)(sh st vals:List Int)(q n m v:Nat)(hq:mem.length=q)(hn:sh.length=n)(hm:st.length=m)(hv:vals.length=v)(hb:seeB mem b sh st=true∧(v:Int)=pr sh):BCall Tryz.prog 131 [.rows false (IL mem) q,.agg [.int .i64 b,.rows false (IL sh) n,.rows false (IL st) m],.rows false (IL vals) v] [] (OI (putL mem (offs b sh st) vals)):=by
 subst hq hn hm hv
 obtain ⟨hb,hvp⟩:=hb
 obtain ⟨f1,f2,f3,f4,f5,f6⟩:=Cpz hb
 have hat:=fun k hk=>Jmz (k:=k) hb hk
 have hol:=Bdz b sh st
 have hrow:=fun (k j:Nat) hk hj h=>offs_rowW (b:=b) (sh:=sh) (st:=st) (k:=k) (j:=j) f3 hk hj h
 have hdv:=wdt_dvd (st:=st) f3
 have hwl:=wdt_le (st:=st) f3
 have hwp:=wdt_pos (st:=st) f3
 have q1:okV b sh st∧st.length=sh.length:=⟨f1,f2⟩
 have q2:good4 sh∧st.length=sh.length:=⟨f3,f2⟩
 have hvl:vals.length=(offs b sh st).length:=by omega
 generalize hL:offs b sh st=L at *
 generalize hW:wdt sh st=W at *
 have hml:mem.length≤1099511627776:=by omega
 refine Avz (pins:=[]) (pin:=0) l131_eq rfl rfl rfl ?_
 (repeat' ((first
 | (first|refine Afz ?_|refine Abz ?_)
 | (first|refine Agz ?_|refine Arz (mid:=l131r2a) (post:=l131r2b) mixed (by decide) ?_)
 | (first|refine Ajz false ?_|refine Aqz false ?_)
 | (first|((first|refine Aiz (Jez _ _ ?_ ?_) ?_|refine Aoz (Jez _ _ ?_ ?_) ⟨_,_,rfl,rfl⟩ ?_);(iterate 2 (exact sd));rintro _ _ ⟨rfl,rfl⟩)|((first|refine Aiz (Jfz _ _ _ _ _ ?_ ?_ ?_) ?_|refine Aoz (Jfz _ _ _ _ _ ?_ ?_ ?_) ⟨_,_,rfl,rfl⟩ ?_);(iterate 3 (exact sd));rintro _ _ ⟨rfl,rfl⟩)|((first|refine Aiz (Akz (I5z _ _ _ _ _ ?_ ?_ ?_)) ?_|refine Aoz (Akz (I5z _ _ _ _ _ ?_ ?_ ?_)) ⟨_,_,rfl,rfl⟩ ?_);(iterate 3 (exact sd));rintro _ _ ⟨rfl,rfl⟩))
 | (refine Adz ⟨.inr rfl,[192],[],_,by decide,rfl,?_⟩;(try simp (disch:=omega) only [push_cast,seval,↓Ahz,↓Aez,↓List.map_cons,↓List.map_nil,hL,hW])))<;>(try simp (disch:=omega) only [push_cast,seval,hL,hW])))
 refine A5z (fun k:Nat=>mkS [(2,RI vals),(7,.own 192 mem.length 1),(8,.own 224 L.length 1),(9,.int .i64 W),(10,.int .i64 k)] [(192,IL (putK mem L vals k)),(224,IL L)])
  (fun k=>k≤L.length∧W ∣ k) (fun k=>L.length-k) 0 ⟨Nat.zero_le _,Nat.dvd_zero _⟩ ?_ ?_
 ·have e0:putK mem L vals 0=mem:=rfl
  (refine Sub.of_lists ?_ ?_ ?_ ?_ ?_<;>simp [Vw.mkS,Vw.lk,Vw.hk,AV.inn,innL,Apz,Anz,Asz,-List.map_set,-List.getD_eq_getElem?_getD,e0])
 ·rintro k ⟨hk,hkd⟩
  have e1:=D4z mem L vals k
  by_cases hlt:k<L.length
  ·have hw1:=hwp (by omega)
   have hend:=row_end hw1 hdv hkd (by omega)
   obtain ⟨h1,h2⟩:=hat k hlt
   have hlast:=hat (k+(W-1)) (by omega)
   rw [hrow k (W-1) hkd (by omega) (by omega)] at hlast
   obtain ⟨c,hc⟩:∃ c:Nat,L.getD k 0=c:=⟨(L.getD k 0).toNat,by omega⟩
   have hr:=putK_row (mem:=mem) (cells:=L) (vals:=vals) (k:=k) W (by omega) (fun j hj=>by rw [hrow k j hkd hj (by omega)];omega)
   rw [hc] at hr
   rw [Int.toNat_natCast] at hr
   have hcw:c+W≤mem.length:=by omega
   have hkw:k+W≤vals.length:=by omega
   have e2:min W W=W:=Nat.min_self W
   generalize hF:putK mem L vals k=F at *
   have e4:(((vals.drop k).take W).map (AV.int .i64)).take W=((vals.drop k).take W).map (AV.int .i64):=by rw [← List.map_take,List.take_take,Nat.min_self]
   have e5:((vals.drop k).take W).length=W:=by simp;omega
   (repeat' ((first
 | (first|refine Afz ?_|refine Abz ?_)
 | (first|refine Agz ?_|refine Acz ?_|refine Amz ?_)
 | ((first|refine Alz (fun h=>?_) (fun h=>?_))<;>(try simp only [h])<;>(try simp only [bitvec_to_nat] at h)<;>(try simp only [h])<;>(first|(exfalso;omega)|(exfalso;simp_all;done)|skip))
 | (first|((with_reducible refine A9z (f:=149) [192] false ?_);simp (disch:=omega) only [push_cast,seval,hc,e1,e2,e4,e5,hr,Int.toNat_natCast];(refine I1z (id:=192) (rowOfO_ok _ _ _ _ ?_ ?_) (by (simp (disch:=omega) only [push_cast,seval,hc,e1,e2,e4,e5,hr,Int.toNat_natCast])<;>rfl) ?_;(iterate 2 (exact sd));rintro _ _ ⟨rfl,rfl⟩))|((with_reducible refine Ajz (f:=149) true ?_);simp (disch:=omega) only [push_cast,seval,hc,e1,e2,e4,e5,hr,Int.toNat_natCast];(refine Aiz (rowOfR_ok _ _ _ _ ?_ ?_) ?_;(iterate 2 (exact sd));rintro _ _ ⟨rfl,rfl⟩)))
 | (refine Adz ⟨.inr rfl,[192],[],_,by decide,rfl,?_⟩;(try simp (disch:=omega) only [push_cast,seval,↓Ahz,↓Aez,↓List.map_cons,↓List.map_nil,hc,e1,e2,e4,e5,hr,Int.toNat_natCast])))<;>(try simp (disch:=omega) only [push_cast,seval,hc,e1,e2,e4,e5,hr,Int.toNat_natCast])))
   refine ⟨k+W,⟨by omega,Nat.dvd_add hkd (Nat.dvd_refl W)⟩,by omega,?_⟩
   (refine Sub.of_lists ?_ ?_ ?_ ?_ ?_<;>simp [Vw.mkS,Vw.lk,Vw.hk,AV.inn,innL,Apz,Anz,Asz,-List.map_set,-List.getD_eq_getElem?_getD,hr])
  ·have hke:k=L.length:=by omega
   have e3:putK mem L vals k=putL mem L vals:=by rw [hke];rfl
   rw [e3] at e1
   rw [e3]
   (repeat' (first
 | (first|refine Afz ?_|refine Abz ?_)
 | ((first|refine Agz ?_|refine Acz ?_|refine Azz ?_);simp (disch:=omega) only [push_cast,seval,e1])
 | ((first|refine Alz (fun h=>?_) (fun h=>?_))<;>(try simp only [h])<;>(try simp only [bitvec_to_nat] at h)<;>(try simp only [h])<;>(first|(exfalso;omega)|(exfalso;simp_all;done)|(simp (disch:=omega) only [push_cast,seval,e1])|skip))
 | (refine Adz ⟨.inr rfl,[192],[],_,by decide,rfl,?_⟩;(try simp (disch:=omega) only [push_cast,seval,↓Ahz,↓Aez,↓List.map_cons,↓List.map_nil,e1]))))
   all_goals simp [OI,e1]

end Go.Proofs.YtfccepgibbdfaaaGreatDoor
namespace Go.Proofs.YtfccepgibbdfaaaGreatDoor
open VwM Vw Go
variable [SentA]
variable [PowA]

end Go.Proofs.YtfccepgibbdfaaaGreatDoor
namespace Go.Proofs.YtfccepgibbdfaaaGreatDoor
open VwM Vw Go
variable [SentA]
variable [PowA]

end Go.Proofs.YtfccepgibbdfaaaGreatDoor
namespace Go.Proofs.YtfccepgibbdfaaaGreatDoor
open VwM Vw Go
variable [SentA]
variable [PowA]

/-- A list and whether there is one: nothing without. -/
abbrev TB (v:Bool)(l:List Int):AV→List (List AV)→Prop:=fun r H'=>r=.tup [.own 0 (MVL v l).length 1,.bool v]∧H'=[IL (MVL v l)]
theorem MVL_true (l:List Int):MVL true l=l:=rfl
theorem MVL_false (l:List Int):MVL false l=[]:=rfl
theorem two_facts {mem:List Int}{b b':Int}{sh st sh' st':List Int}(h:twoB mem b sh st b' sh' st'=true):seeB mem b sh st=true∧seeB mem b' sh' st'=true∧sh=sh':=by
 simp only [twoB,Bool.and_eq_true,decide_eq_true_eq] at h
 exact ⟨h.1.1,h.1.2,h.2⟩
theorem iLoad_ok (mem:List Int)(b:Int)(sh st:List Int)(q n m:Nat)(hq:mem.length=q)(hn:sh.length=n)(hm:st.length=m)(hb:q≤1099511627776∧n≤1099511627776∧m≤1099511627776):BCall Tryz.prog 109 [.rows false (IL mem) q,.agg [.int .i64 b,.rows false (IL sh) n,.rows false (IL st) m]] [] (OI (MVL (seeB mem b sh st) (takesL mem (offs b sh st)))):=by
 subst hq hn hm
 refine Avz (pins:=[]) (pin:=0) l109_eq rfl rfl rfl ?_
 cases h1:seeB mem b sh st with
 | false =>
  (repeat' ((first
 | (first|refine Afz ?_|refine Abz ?_)
 | (first|refine Agz ?_|refine Acz ?_)
 | (first|refine Ajz false ?_)
 | (first|(refine Aiz (Akz (Dzz _ _ _ _ _ _ _ ?_ ?_ ?_ ?_)) ?_;(iterate 4 (exact sd));rintro _ _ ⟨rfl,rfl⟩))
 | (refine Adz ⟨.inr rfl,[16000],[(16000,1)],_,by decide,rfl,?_⟩;(try simp (disch:=omega) only [push_cast,seval,↓Ahz,↓Aez,↓List.map_cons,↓List.map_nil,h1])))<;>(try simp (disch:=omega) only [push_cast,seval,h1])))
  all_goals simp [OI,MVL]
 | true =>
  (repeat' ((first
 | (first|refine Afz ?_|refine Abz ?_)
 | (first|refine Agz ?_|refine Acz ?_|refine Amz ?_)
 | (first|refine Ajz false ?_)
 | (first|(refine Aiz (Akz (Dzz _ _ _ _ _ _ _ ?_ ?_ ?_ ?_)) ?_;(iterate 4 (exact sd));rintro _ _ ⟨rfl,rfl⟩)|(refine Aiz (J5z _ _ _ _ _ _ _ ?_ ?_ ?_ ?_) ?_;(iterate 4 (exact sd));rintro _ _ ⟨rfl,rfl⟩))
 | (refine Adz ⟨.inr rfl,[112],[],_,by decide,rfl,?_⟩;(try simp (disch:=omega) only [push_cast,seval,↓Ahz,↓Aez,↓List.map_cons,↓List.map_nil,h1]);(first|done|(show AV.own _ _ _=_∧_)))
 | (refine Adz ⟨.inr rfl,[176],[],_,by decide,rfl,?_⟩;(try simp (disch:=omega) only [push_cast,seval,↓Ahz,↓Aez,↓List.map_cons,↓List.map_nil,h1]);(first|done|(show AV.own _ _ _=_∧_))))<;>(try simp (disch:=omega) only [push_cast,seval,h1])))
  all_goals simp [OI,MVL]


set_option maxHeartbeats 8000000 in
theorem I8z (mem:List Int)(b:Int)(sh st:List Int)(b':Int)(sh' st':List Int)(q n m n' m':Nat)(hq:mem.length=q)(hn:sh.length=n)(hm:st.length=m)(hn':sh'.length=n')(hm':st'.length=m')(hb:(q≤1099511627776∧n≤1099511627776∧m≤1099511627776)∧n'≤1099511627776∧m'≤1099511627776):BCall Tryz.prog 119 [.rows false (IL mem) q,.agg [.int .i64 b,.rows false (IL sh) n,.rows false (IL st) m],.agg [.int .i64 b',.rows false (IL sh') n',.rows false (IL st') m']] [] (TB (twoB mem b sh st b' sh' st') (putL mem (offs b sh st) (takesL mem (offs b' sh' st')))):=by
 subst hq hn hm hn' hm'
 obtain ⟨⟨hb0,hb1,hb2⟩,hb3,hb4⟩:=hb
 have q0:(mem.length≤1099511627776∧sh.length≤1099511627776∧st.length≤1099511627776)∧sh'.length≤1099511627776∧st'.length≤1099511627776:=⟨⟨hb0,hb1,hb2⟩,hb3,hb4⟩
 refine Avz (pins:=[]) (pin:=0) l119_eq rfl rfl rfl ?_
 cases h:twoB mem b sh st b' sh' st' with
 | false =>
  (repeat' ((first
 | (first|refine Afz ?_|refine Abz ?_)
 | (first|refine Agz ?_|refine Acz ?_)
 | (first|refine Ajz false ?_)
 | (first|(refine Aiz (Akz (pair_ok _ _ _ _ _ _ _ _ _ _ _ _ ?_ ?_ ?_ ?_ ?_ ?_)) ?_;(iterate 6 (exact sd));rintro _ _ ⟨rfl,rfl⟩))
 | (refine Adz ⟨.inr rfl,[16000],[(16000,1)],_,by decide,rfl,?_⟩;(try simp (disch:=omega) only [push_cast,seval,↓Ahz,↓Aez,↓List.map_cons,↓List.map_nil,h])))<;>(try simp (disch:=omega) only [push_cast,seval,h])))
  all_goals simp [TB,MVL]
 | true =>
  obtain ⟨h1,h2,h3⟩:=two_facts h
  subst h3
  obtain ⟨f1,f2,f3,f4,f5,f6⟩:=Cpz h1
  obtain ⟨g1,g2,_,_,_,_⟩:=Cpz h2
  have o1:=Bdz b sh st
  have o2:=Bdz b' sh st'
  have c1:=(D2z.1 h1).2.2
  have c2:=(D2z.1 h2).2.2
  have q1:okV b sh st∧st.length=sh.length:=⟨f1,f2⟩
  have q2:okV b' sh st'∧st'.length=sh.length:=⟨g1,g2⟩
  have hp:(pr sh).toNat≤60:=by omega
  have hpc:(((pr sh).toNat:Nat):Int)=pr sh:=by omega
  have hsp:∃ c:Nat,pr sh=(c:Int)∧c≤60:=⟨(pr sh).toNat,by omega,by omega⟩
  obtain ⟨c,hc,hc60⟩:=hsp
  have hlL:(offs b sh st).length=c:=by omega
  have hlL':(offs b' sh st').length=c:=by omega
  generalize hL:offs b sh st=L at *
  generalize hL':offs b' sh st'=L' at *
  have tl:=takesL_length mem L'
  have k1:seeB mem b sh st=true∧(L'.length:Int)=pr sh:=⟨h1,by omega⟩
  have k2:(c=c∧c=c∧mem.length≤60∧c≤60)∧(∀ x∈L,0≤x∧x≤(mem.length:Int)-1)∧∀ x∈L',0≤x∧x≤(mem.length:Int)-1:=⟨⟨rfl,rfl,f6,hc60⟩,c1,c2⟩
  have k3:(c=c∧mem.length≤60∧c≤60)∧(∀ x∈L,0≤x∧x≤(mem.length:Int)-1)∧∀ x∈L',0≤x∧x≤(mem.length:Int)-1:=⟨⟨rfl,f6,hc60⟩,c1,c2⟩
  have k4:(c=c∧mem.length≤60∧c≤60)∧(∀ x∈L.reverse,0≤x∧x≤(mem.length:Int)-1)∧∀ x∈L'.reverse,0≤x∧x≤(mem.length:Int)-1:=⟨⟨rfl,f6,hc60⟩,fun x hx=>c1 x (List.mem_reverse.1 hx),fun x hx=>c2 x (List.mem_reverse.1 hx)⟩
  have k5:c≤1000:=by omega
  have lrL:L.reverse.length=c:=by rw [List.length_reverse];exact hlL
  have lrL':L'.reverse.length=c:=by rw [List.length_reverse];exact hlL'
  (repeat' ((first
 | (first|refine Afz ?_|refine Abz ?_)
 | (first|refine Agz ?_|refine Arz (mid:=l119r3a) (post:=l119r3b) mixed (by decide) ?_|refine Acz ?_|refine Amz ?_)
 | (first|refine Ajz false ?_|refine Aqz false ?_)
 | (first|((first|refine Aiz (Akz (pair_ok _ _ _ _ _ _ _ _ _ _ _ _ ?_ ?_ ?_ ?_ ?_ ?_)) ?_|refine Aoz (Akz (pair_ok _ _ _ _ _ _ _ _ _ _ _ _ ?_ ?_ ?_ ?_ ?_ ?_)) ⟨_,_,rfl,rfl⟩ ?_);(iterate 6 (exact sd));rintro _ _ ⟨rfl,rfl⟩)|((first|refine Aiz (I7z _ _ _ _ _ _ _ ?_ ?_ ?_ ?_) ?_|refine Aoz (I7z _ _ _ _ _ _ _ ?_ ?_ ?_ ?_) ⟨_,_,rfl,rfl⟩ ?_);(iterate 4 (exact sd));rintro _ _ ⟨rfl,rfl⟩)|((first|refine Aiz (sput_ok _ _ _ _ _ _ _ _ _ ?_ ?_ ?_ ?_ ?_) ?_|refine Aoz (sput_ok _ _ _ _ _ _ _ _ _ ?_ ?_ ?_ ?_ ?_) ⟨_,_,rfl,rfl⟩ ?_);(iterate 5 (exact sd));rintro _ _ ⟨rfl,rfl⟩))
 | (refine Adz ⟨.inr rfl,[288],[],_,by decide,rfl,?_⟩;(try simp (disch:=omega) only [push_cast,seval,↓Ahz,↓Aez,↓List.map_cons,↓List.map_nil,h,hL,hL',hc,hlL,hlL',tl,lrL,lrL',List.length_reverse,B2z,Int.toNat_natCast])))<;>(try simp (disch:=omega) only [push_cast,seval,h,hL,hL',hc,hlL,hlL',tl,lrL,lrL',List.length_reverse,B2z,Int.toNat_natCast])))
  all_goals simp [TB,MVL]


set_option maxHeartbeats 8000000 in
theorem iCopy_ok (mem:List Int)(b:Int)(sh st:List Int)(b':Int)(sh' st':List Int)(q n m n' m':Nat)(hq:mem.length=q)(hn:sh.length=n)(hm:st.length=m)(hn':sh'.length=n')(hm':st'.length=m')(hb:(q≤1099511627776∧n≤1099511627776∧m≤1099511627776)∧n'≤1099511627776∧m'≤1099511627776):BCall Tryz.prog 107 [.rows false (IL mem) q,.agg [.int .i64 b,.rows false (IL sh) n,.rows false (IL st) m],.agg [.int .i64 b',.rows false (IL sh') n',.rows false (IL st') m']] [] (TB (twoB mem b sh st b' sh' st') (putL mem (offs b sh st) (takesL mem (offs b' sh' st')))):=by
 subst hq hn hm hn' hm'
 obtain ⟨⟨hb0,hb1,hb2⟩,hb3,hb4⟩:=hb
 have q0:(mem.length≤1099511627776∧sh.length≤1099511627776∧st.length≤1099511627776)∧sh'.length≤1099511627776∧st'.length≤1099511627776:=⟨⟨hb0,hb1,hb2⟩,hb3,hb4⟩
 refine Avz (pins:=[]) (pin:=0) l107_eq rfl rfl rfl ?_
 cases h:twoB mem b sh st b' sh' st' with
 | false =>
  (repeat' ((first
 | (first|refine Afz ?_|refine Abz ?_)
 | (first|refine Agz ?_|refine Acz ?_)
 | (first|refine Ajz false ?_)
 | (first|(refine Aiz (Akz (F7z _ _ _ _ _ _ _ _ _ _ _ _ ?_ ?_ ?_ ?_ ?_ ?_)) ?_;(iterate 6 (exact sd));rintro _ _ ⟨rfl,rfl⟩))
 | (refine Adz ⟨.inr rfl,[16000],[(16000,1)],_,by decide,rfl,?_⟩;(try simp (disch:=omega) only [push_cast,seval,↓Ahz,↓Aez,↓List.map_cons,↓List.map_nil,h])))<;>(try simp (disch:=omega) only [push_cast,seval,h])))
  all_goals simp [TB,MVL]
 | true =>
  obtain ⟨h1,h2,h3⟩:=two_facts h
  subst h3
  obtain ⟨f1,f2,f3,f4,f5,f6⟩:=Cpz h1
  obtain ⟨g1,g2,_,_,_,_⟩:=Cpz h2
  have o1:=Bdz b sh st
  have o2:=Bdz b' sh st'
  have c1:=(D2z.1 h1).2.2
  have c2:=(D2z.1 h2).2.2
  have q1:okV b sh st∧st.length=sh.length:=⟨f1,f2⟩
  have q2:okV b' sh st'∧st'.length=sh.length:=⟨g1,g2⟩
  have hp:(pr sh).toNat≤60:=by omega
  have hpc:(((pr sh).toNat:Nat):Int)=pr sh:=by omega
  have hsp:∃ c:Nat,pr sh=(c:Int)∧c≤60:=⟨(pr sh).toNat,by omega,by omega⟩
  obtain ⟨c,hc,hc60⟩:=hsp
  have hlL:(offs b sh st).length=c:=by omega
  have hlL':(offs b' sh st').length=c:=by omega
  generalize hL:offs b sh st=L at *
  generalize hL':offs b' sh st'=L' at *
  have tl:=takesL_length mem L'
  have k1:seeB mem b sh st=true∧(L'.length:Int)=pr sh:=⟨h1,by omega⟩
  have k2:(c=c∧c=c∧mem.length≤60∧c≤60)∧(∀ x∈L,0≤x∧x≤(mem.length:Int)-1)∧∀ x∈L',0≤x∧x≤(mem.length:Int)-1:=⟨⟨rfl,rfl,f6,hc60⟩,c1,c2⟩
  have k3:(c=c∧mem.length≤60∧c≤60)∧(∀ x∈L,0≤x∧x≤(mem.length:Int)-1)∧∀ x∈L',0≤x∧x≤(mem.length:Int)-1:=⟨⟨rfl,f6,hc60⟩,c1,c2⟩
  have k4:(c=c∧mem.length≤60∧c≤60)∧(∀ x∈L.reverse,0≤x∧x≤(mem.length:Int)-1)∧∀ x∈L'.reverse,0≤x∧x≤(mem.length:Int)-1:=⟨⟨rfl,f6,hc60⟩,fun x hx=>c1 x (List.mem_reverse.1 hx),fun x hx=>c2 x (List.mem_reverse.1 hx)⟩
  have k5:c≤1000:=by omega
  have lrL:L.reverse.length=c:=by rw [List.length_reverse];exact hlL
  have lrL':L'.reverse.length=c:=by rw [List.length_reverse];exact hlL'
  (repeat' ((first
 | (first|refine Afz ?_|refine Abz ?_)
 | (first|refine Agz ?_|refine Arz (mid:=l107r3a) (post:=l107r3b) mixed (by decide) ?_|refine Acz ?_|refine Amz ?_)
 | (first|refine Ajz false ?_|refine Aqz false ?_)
 | (first|((first|refine Aiz (Akz (F7z _ _ _ _ _ _ _ _ _ _ _ _ ?_ ?_ ?_ ?_ ?_ ?_)) ?_|refine Aoz (Akz (F7z _ _ _ _ _ _ _ _ _ _ _ _ ?_ ?_ ?_ ?_ ?_ ?_)) ⟨_,_,rfl,rfl⟩ ?_);(iterate 6 (exact sd));rintro _ _ ⟨rfl,rfl⟩)|((first|refine Aiz (J5z _ _ _ _ _ _ _ ?_ ?_ ?_ ?_) ?_|refine Aoz (J5z _ _ _ _ _ _ _ ?_ ?_ ?_ ?_) ⟨_,_,rfl,rfl⟩ ?_);(iterate 4 (exact sd));rintro _ _ ⟨rfl,rfl⟩)|((first|refine Aiz (Hoz _ _ _ _ _ _ _ _ _ ?_ ?_ ?_ ?_ ?_) ?_|refine Aoz (Hoz _ _ _ _ _ _ _ _ _ ?_ ?_ ?_ ?_ ?_) ⟨_,_,rfl,rfl⟩ ?_);(iterate 5 (exact sd));rintro _ _ ⟨rfl,rfl⟩))
 | (refine Adz ⟨.inr rfl,[288],[],_,by decide,rfl,?_⟩;(try simp (disch:=omega) only [push_cast,seval,↓Ahz,↓Aez,↓List.map_cons,↓List.map_nil,h,hL,hL',hc,hlL,hlL',tl,lrL,lrL',List.length_reverse,B2z,Int.toNat_natCast])))<;>(try simp (disch:=omega) only [push_cast,seval,h,hL,hL',hc,hlL,hlL',tl,lrL,lrL',List.length_reverse,B2z,Int.toNat_natCast])))
  all_goals simp [TB,MVL]


theorem Faz {mem L:List Int}(h:∀ x∈mem,0≤x∧x≤255):∀ x∈takesL mem L,0≤x∧x≤255:=by
 intro x hx
 unfold takesL at hx
 obtain ⟨i,_,rfl⟩:=List.mem_map.1 hx
 by_cases hl:i.toNat<mem.length
 ·exact h _ (Ddz hl)
 ·rw [List.getD,List.getElem?_eq_none (Nat.le_of_not_lt hl)]
  exact ⟨Int.le_refl 0,by decide⟩

end Go.Proofs.YtfccepgibbdfaaaGreatDoor
namespace Go.Proofs.YtfccepgibbdfaaaGreatDoor
open VwM Vw Go
variable [SentA]
variable [PowA]

end Go.Proofs.YtfccepgibbdfaaaGreatDoor
namespace Go.Proofs.YtfccepgibbdfaaaGreatDoor
open VwM Vw Go
variable [SentA]
variable [PowA]

theorem mul64_ok (k:Int)(hk:0≤k∧k≤1000):PCall Tryz.prog 161 [.int .u64 1,.int .u64 k] (fun r=>r=.tup [.int .u64 0,.int .u64 k]):=by
 obtain ⟨h0,h1⟩:=hk
 have a1:bits .and .u64 1 4294967295=1:=Mvz ⟨by decide,by decide⟩
 have a2:bits .and .u64 k 4294967295=k:=Mvz ⟨h0,by omega⟩
 have a3:bits .and .u64 0 4294967295=0:=Mvz ⟨by decide,by decide⟩
 have s1:Int.fdiv 1 4294967296=0:=by decide
 have s2:Int.fdiv k 4294967296=0:=shr_small ⟨h0,by omega⟩
 have s3:Int.fdiv 0 4294967296=0:=by decide
 have b1:IntKind.bits .u64=64:=rfl
 have e32:(2:Int) ^ (min 32 64)=4294967296:=by decide
 have w1:IntKind.u64.wrap k=k:=by rw [IntKind.wrap_u64];omega
 have w0:IntKind.u64.wrap 0=0:=by decide
 refine Atz l161_eq rfl ?_
 (repeat' (first
 | (first|refine Afz ?_|refine Abz ?_)
 | ((first|refine Agz ?_);simp (disch:=omega) only [push_cast,seval,a1,a2,a3,s1,s2,s3,b1,e32,w1,w0,Int.one_mul,Int.zero_mul,Int.mul_zero,Int.zero_add,Int.add_zero])
 | (refine Adz ⟨.inr rfl,_,rfl,?_⟩;(try simp (disch:=omega) only [push_cast,seval,a1,a2,a3,s1,s2,s3,b1,e32,w1,w0,Int.one_mul,Int.zero_mul,Int.mul_zero,Int.zero_add,Int.add_zero]))))


theorem mul_ok (k:Int)(hk:0≤k∧k≤1000):PCall Tryz.prog 150 [.int .u64 1,.int .u64 k] (fun r=>r=.tup [.int .u64 0,.int .u64 k]):=by
 refine Atz l150_eq rfl ?_
 (repeat' ((first
 | (first|refine Afz ?_|refine Abz ?_)
 | (first|refine Agz ?_|refine Acz ?_|refine Amz ?_)
 | (first|refine Ajz false ?_)
 | (first|(refine Aiz (Akz (mul64_ok _ ?_)) ?_;(exact sd);rintro _ _ ⟨rfl,rfl⟩))
 | (refine Adz ⟨.inr rfl,_,rfl,?_⟩))<;>(try simp (disch:=omega) only [push_cast,seval])))


set_option maxHeartbeats 8000000 in
theorem repI_ok (x:Int)(k:Nat)(hk:k≤1000):BCall Tryz.prog 132 [.rows false (IL [x]) 1,.int .i64 k] [] (fun r H'=>r=.own 0 k 1∧H'=[IL (rpt [x] k)]):=by
 have w1:IntKind.u64.wrap (k:Int)=k:=by rw [IntKind.wrap_u64];omega
 have w0:IntKind.u64.wrap 1=1:=by decide
 have w2:IntKind.i64.wrap (k:Int)=k:=by rw [IntKind.wrap_i64];omega
 have w3:IntKind.u64.wrap ((1:Nat):Int)=1:=by decide
 refine Avz (pins:=[]) (pin:=0) l132_eq rfl rfl rfl ?_
 by_cases h0:k=0
 ·subst h0
  have z1:IntKind.u64.wrap 0=0:=by decide
  have z2:IntKind.i64.wrap 0=0:=by decide
  (repeat' ((first
 | (first|refine Afz ?_|refine Abz ?_)
 | (first|refine Agz ?_|refine Acz ?_|refine Amz ?_)
 | (first|refine Ajz false ?_)
 | (first|(refine Aiz (Akz (mul_ok _ ?_)) ?_;(exact sd);rintro _ _ ⟨rfl,rfl⟩))
 | (refine Adz ⟨.inr rfl,[480],[],_,by decide,rfl,?_⟩;(try simp (disch:=omega) only [push_cast,seval,↓Ahz,↓Aez,↓List.map_cons,↓List.map_nil,w0,w1,w2,w3,z1,z2,Int.natCast_zero])))<;>(try simp (disch:=omega) only [push_cast,seval,w0,w1,w2,w3,z1,z2,Int.natCast_zero])))
  refine A5z (fun n:Nat=>mkS [(7,.own 480 0 1),(8,.int .i64 0)] [(480,[])]) (fun n=>n=0) (fun n=>n) 0 rfl ?_ ?_
  ·(refine Sub.of_lists ?_ ?_ ?_ ?_ ?_<;>simp [Vw.mkS,Vw.lk,Vw.hk,AV.inn,innL,Apz,Anz,Asz,-List.map_set,-List.getD_eq_getElem?_getD,setRange])
  ·intro n hn
   (repeat' (first
 | (first|refine Afz ?_|refine Abz ?_)
 | ((first|refine Agz ?_|refine Acz ?_|refine Azz ?_);simp (disch:=omega) only [push_cast,seval])
 | (refine Adz ⟨.inr rfl,[480],[],_,by decide,rfl,?_⟩;(try simp (disch:=omega) only [push_cast,seval,↓Ahz,↓Aez,↓List.map_cons,↓List.map_nil]))))
   all_goals (first|exact ⟨rfl,rfl⟩|rfl|skip)
 ·have hm1:min 1 k=1:=by omega
  have hz:List.replicate k (AV.int .i64 0)=IL (rpt [0] k):=by rw [L3z];simp
  have e0:setRange ((rpt [0] k).map (AV.int .i64)) 0 [AV.int .i64 x]=(rpK [x] [0] k 1).map (AV.int .i64):=by
   obtain ⟨j,rfl⟩:∃ j,k=j+1:=⟨k-1,by omega⟩
   simp [rpK,rpt,setRange]
  have lz:(rpt [0] k).length=k:=by rw [B7z];simp
  (repeat' ((first
 | (first|refine Afz ?_|refine Abz ?_)
 | (first|refine Agz ?_|refine Acz ?_|refine Amz ?_)
 | ((first|refine Alz (fun h=>?_) (fun h=>?_))<;>(try simp only [h])<;>(try simp only [bitvec_to_nat] at h)<;>(try simp only [h])<;>(first|(exfalso;omega)|(exfalso;simp_all;done)|skip))
 | (first|refine Ajz false ?_)
 | (first|(refine Aiz (Akz (mul_ok _ ?_)) ?_;(exact sd);rintro _ _ ⟨rfl,rfl⟩))
 | (refine Adz ⟨.inr rfl,[480],[],_,by decide,rfl,?_⟩;(try simp (disch:=omega) only [push_cast,seval,↓Ahz,↓Aez,↓List.map_cons,↓List.map_nil,w0,w1,w2,w3,hm1,hz,e0,lz])))<;>(try simp (disch:=omega) only [push_cast,seval,w0,w1,w2,w3,hm1,hz,e0,lz])))
  refine A5z (fun n:Nat=>mkS [(7,.own 480 k 1),(8,.int .i64 n)] [(480,IL (rpK [x] [0] k n))]) (fun n=>1≤n∧n≤k) (fun n=>k-n) 1 (by omega) ?_ ?_
  ·(refine Sub.of_lists ?_ ?_ ?_ ?_ ?_<;>simp [Vw.mkS,Vw.lk,Vw.hk,AV.inn,innL,Apz,Anz,Asz,-List.map_set,-List.getD_eq_getElem?_getD])
  ·rintro n ⟨hn1,hnk⟩
   have lk:=rpK_length (c:=[x]) (z:=[0]) (k:=k) (n:=n) rfl hnk
   by_cases hlt:n<k
   ·obtain ⟨m,hm⟩:∃ m,min n (k-n)=m:=⟨_,rfl⟩
    have hmn:m≤n:=by omega
    have hmk:n+m≤k:=by omega
    have hm0:1≤m:=by omega
    have r1:((rpK [x] [0] k n).map (AV.int .i64)).take (n)=(rpt [x] n).map (AV.int .i64):=by
     rw [← List.map_take]
     exact congrArg _ (by simpa using rpK_take (c:=[x]) (z:=[0]) (k:=k) (n:=n) (m:=n) (Nat.le_refl n))
    have r2:((rpt [x] n).map (AV.int .i64)).take (m)=(rpt [x] m).map (AV.int .i64):=by
     rw [← List.map_take]
     exact congrArg _ (by simpa using rpt_take [x] n m hmn)
    have r3:=rpK_step (c:=[x]) (z:=[0]) (k:=k) (n:=n) (m:=m) rfl hmn hmk
    simp only [List.length_cons,List.length_nil,Nat.zero_add,Nat.mul_one,Nat.reduceAdd] at r3 lk
    have lc:=B7z [x] n
    simp only [List.length_cons,List.length_nil,Nat.zero_add,Nat.mul_one,Nat.reduceAdd] at lc
    generalize rpK [x] [0] k n=F at *
    (repeat' (first
 | (first|refine Afz ?_|refine Abz ?_)
 | ((first|refine Agz ?_|refine Bbz (mid:=l132r9a) (post:=l132r9b) [480,1000000041,1000000044] mixed (by decide) ?_|refine Acz ?_|refine Amz ?_);simp (disch:=omega) only [push_cast,seval,hm,r1,r2,r3,lk,lc,Nat.zero_add,Nat.sub_zero,Nat.mul_one,List.drop_zero])
 | ((first|refine Alz (fun h=>?_) (fun h=>?_))<;>(try simp only [h])<;>(try simp only [bitvec_to_nat] at h)<;>(try simp only [h])<;>(first|(exfalso;omega)|(exfalso;simp_all;done)|(simp (disch:=omega) only [push_cast,seval,hm,r1,r2,r3,lk,lc,Nat.zero_add,Nat.sub_zero,Nat.mul_one,List.drop_zero])|skip))
 | (refine Adz ⟨.inr rfl,[480],[],_,by decide,rfl,?_⟩;(try simp (disch:=omega) only [push_cast,seval,↓Ahz,↓Aez,↓List.map_cons,↓List.map_nil,hm,r1,r2,r3,lk,lc,Nat.zero_add,Nat.sub_zero,Nat.mul_one,List.drop_zero]))))
    refine ⟨n+m,by omega,by omega,?_⟩
    (refine Sub.of_lists ?_ ?_ ?_ ?_ ?_<;>simp [Vw.mkS,Vw.lk,Vw.hk,AV.inn,innL,Apz,Anz,Asz,-List.map_set,-List.getD_eq_getElem?_getD,r3])
   ·have hke:n=k:=by omega
    subst hke
    rw [rpK_all] at lk
    simp only [List.length_cons,List.length_nil,Nat.zero_add,Nat.mul_one,Nat.reduceAdd] at lk
    rw [rpK_all]
    (repeat' (first
 | (first|refine Afz ?_|refine Abz ?_)
 | ((first|refine Agz ?_|refine Acz ?_|refine Azz ?_);simp (disch:=omega) only [push_cast,seval,lk])
 | ((first|refine Alz (fun h=>?_) (fun h=>?_))<;>(try simp only [h])<;>(try simp only [bitvec_to_nat] at h)<;>(try simp only [h])<;>(first|(exfalso;omega)|(exfalso;simp_all;done)|(simp (disch:=omega) only [push_cast,seval,lk])|skip))
 | (refine Adz ⟨.inr rfl,[480],[],_,by decide,rfl,?_⟩;(try simp (disch:=omega) only [push_cast,seval,↓Ahz,↓Aez,↓List.map_cons,↓List.map_nil,lk]))))
    all_goals (try exact ⟨rfl,rfl⟩)

end Go.Proofs.YtfccepgibbdfaaaGreatDoor
namespace Go.Proofs.YtfccepgibbdfaaaGreatDoor
open VwM Vw Go
variable [SentA]
variable [PowA]

/-- A value can be stored everywhere. -/
def filB (mem:List Int)(b:Int)(sh st:List Int)(x:Int):Bool:=seeB mem b sh st&&(decide (0≤x)&&decide (x≤255))
def filL (mem:List Int)(b:Int)(sh st:List Int)(x:Int):List Int:=putL mem (offs b sh st) (rpt [x] (pr sh).toNat)
theorem rpt_at {x:Int}{n k:Nat}(h:k<n):(rpt [x] n).getD k 0=x:=by rw [L3z];simp [List.getD,h]


theorem Ejz (x:Int):PCall Tryz.prog 84 [.rows false [.int .i64 x] 1] (fun r=>r=.bool (allI [x] 0 255)):=Gyz [x] 1 rfl (by decide)


set_option maxHeartbeats 8000000 in
theorem sFill_ok (mem:List Int)(b:Int)(sh st:List Int)(x:Int)(q n m:Nat)(hq:mem.length=q)(hn:sh.length=n)(hm:st.length=m)(hb:q≤1099511627776∧n≤1099511627776∧m≤1099511627776):BCall Tryz.prog 118 [.rows false (IL mem) q,.agg [.int .i64 b,.rows false (IL sh) n,.rows false (IL st) m],.int .i64 x] [] (TB (filB mem b sh st x) (filL mem b sh st x)):=by
 subst hq hn hm
 refine Avz (pins:=[]) (pin:=0) l118_eq rfl rfl rfl ?_
 unfold filB
 cases h1:seeB mem b sh st with
 | false =>
  (repeat' ((first
 | (first|refine Afz ?_|refine Abz ?_)
 | (first|refine Agz ?_|refine Acz ?_)
 | (first|refine Ajz false ?_)
 | (first|(refine Aiz (Akz (Igz _ _ _ _ _ _ _ ?_ ?_ ?_ ?_)) ?_;(iterate 4 (exact sd));rintro _ _ ⟨rfl,rfl⟩))
 | (refine Adz ⟨.inr rfl,[16000],[(16000,1)],_,by decide,rfl,?_⟩;(try simp (disch:=omega) only [push_cast,seval,↓Ahz,↓Aez,↓List.map_cons,↓List.map_nil,h1])))<;>(try simp (disch:=omega) only [push_cast,seval,h1])))
  all_goals simp [TB,MVL]
 | true =>
 obtain ⟨f1,f2,f3,f4,f5,f6⟩:=Cpz h1
 by_cases hx:0≤x∧x≤255
 ·have hx':(decide (0≤x)&&decide (x≤255))=true:=by simp [hx]
  have hxa:allI [x] 0 255=true:=by simp [allI,hx]
  obtain ⟨hx1,hx2⟩:=hx
  have hol:=Bdz b sh st
  have hml:mem.length≤1099511627776:=by omega
  have q1:okV b sh st∧st.length=sh.length:=⟨f1,f2⟩
  obtain ⟨c,hc⟩:∃ c:Nat,pr sh=(c:Int):=⟨(pr sh).toNat,by omega⟩
  have hcn:(pr sh).toNat=c:=by omega
  have hck:c≤1000:=by omega
  have hrl:(rpt [x] c).length=c:=by rw [B7z];simp
  have k1:seeB mem b sh st=true∧(c:Int)=pr sh:=⟨h1,by omega⟩
  have hpl:=C3z mem (offs b sh st) (rpt [x] c)
  rw [hx',filL,hcn]
  have hat:=fun k hk=>Jmz (k:=k) h1 hk
  rw [hcn] at hol
  generalize hL:offs b sh st=L at *
  clear k1
  (repeat' ((first
 | (first|refine Afz ?_|refine Abz ?_)
 | (first|refine Agz ?_|refine Acz ?_|refine Amz ?_)
 | (first|refine Ajz false ?_)
 | (first|(refine Aiz (Akz (Igz _ _ _ _ _ _ _ ?_ ?_ ?_ ?_)) ?_;(iterate 4 (exact sd));rintro _ _ ⟨rfl,rfl⟩)|(refine Aiz (Akz (A1z _ _ _)) ?_;rintro _ _ ⟨rfl,rfl⟩)|(refine Aiz (Foz _ _ ?_ ?_) ?_;(iterate 2 (exact sd));rintro _ _ ⟨rfl,rfl⟩)|(refine Aiz (Diz _ _ _ _ _ ?_ ?_ ?_) ?_;(iterate 3 (exact sd));rintro _ _ ⟨rfl,rfl⟩))
 | (refine Adz ⟨.inr rfl,[336],[],_,by decide,rfl,?_⟩;(try simp (disch:=omega) only [push_cast,seval,↓Ahz,↓Aez,↓List.map_cons,↓List.map_nil,h1,hx1,hx2,hL])))<;>(try simp (disch:=omega) only [push_cast,seval,h1,hx1,hx2,hL])))
  refine A5z (fun k:Nat=>mkS [(2,.int .i64 x),(8,.own 336 mem.length 1),(9,.own 368 L.length 1),(10,.int .i64 k)] [(336,IL (putK mem L (rpt [x] c) k)),(368,IL L)])
   (fun k=>k≤L.length) (fun k=>L.length-k) 0 (Nat.zero_le _) ?_ ?_
  ·have e0:putK mem L (rpt [x] c) 0=mem:=rfl
   (refine Sub.of_lists ?_ ?_ ?_ ?_ ?_<;>simp [Vw.mkS,Vw.lk,Vw.hk,AV.inn,innL,Apz,Anz,Asz,-List.map_set,-List.getD_eq_getElem?_getD,e0])
  ·intro k hk
   have e1:=D4z mem L (rpt [x] c) k
   by_cases hlt:k<L.length
   ·obtain ⟨g1,g2⟩:=hat k hlt
    have g3:(L.getD k 0).toNat<mem.length:=by omega
    have e2:putK mem L (rpt [x] c) (k+1)=(putK mem L (rpt [x] c) k).set (L.getD k 0).toNat x:=by simp only [putK];rw [rpt_at (by omega)]
    generalize putK mem L (rpt [x] c) k=p at *
    (repeat' (first
 | (first|refine Afz ?_|refine Abz ?_)
 | ((first|refine Agz ?_|refine Acz ?_|refine Amz ?_);simp (disch:=omega) only [push_cast,seval,e1])
 | ((first|refine Alz (fun h=>?_) (fun h=>?_))<;>(try simp only [h])<;>(try simp only [bitvec_to_nat] at h)<;>(try simp only [h])<;>(first|(exfalso;omega)|(exfalso;simp_all;done)|(simp (disch:=omega) only [push_cast,seval,e1])|skip))
 | (refine Adz ⟨.inr rfl,[336],[],_,by decide,rfl,?_⟩;(try simp (disch:=omega) only [push_cast,seval,↓Ahz,↓Aez,↓List.map_cons,↓List.map_nil,e1]))))
    refine ⟨k+1,by omega,by omega,?_⟩
    (refine Sub.of_lists ?_ ?_ ?_ ?_ ?_<;>simp [Vw.mkS,Vw.lk,Vw.hk,AV.inn,innL,Apz,Anz,Asz,-List.map_set,-List.getD_eq_getElem?_getD,e2,A2z])
   ·have hke:k=L.length:=by omega
    have e3:putK mem L (rpt [x] c) k=putL mem L (rpt [x] c):=by rw [hke];rfl
    rw [e3]
    (repeat' (first
 | (first|refine Afz ?_|refine Abz ?_)
 | ((first|refine Agz ?_|refine Acz ?_|refine Azz ?_);simp (disch:=omega) only [push_cast,seval,hpl])
 | ((first|refine Alz (fun h=>?_) (fun h=>?_))<;>(try simp only [h])<;>(try simp only [bitvec_to_nat] at h)<;>(try simp only [h])<;>(first|(exfalso;omega)|(exfalso;simp_all;done)|(simp (disch:=omega) only [push_cast,seval,hpl])|skip))
 | (refine Adz ⟨.inr rfl,[336],[],_,by decide,rfl,?_⟩;(try simp (disch:=omega) only [push_cast,seval,↓Ahz,↓Aez,↓List.map_cons,↓List.map_nil,hpl]))))
    all_goals simp [TB,MVL,hpl]
 ·have hx':(decide (0≤x)&&decide (x≤255))=false:=by
   rw [Bool.eq_false_iff]
   intro h
   simp at h
   exact hx h
  have hxa:allI [x] 0 255=false:=by
   rw [Bool.eq_false_iff]
   intro h
   simp [allI] at h
   exact hx h
  rw [hx']
  (repeat' ((first
 | (first|refine Afz ?_|refine Abz ?_)
 | (first|refine Agz ?_|refine Acz ?_)
 | (first|refine Ajz false ?_)
 | (first|(refine Aiz (Akz (Igz _ _ _ _ _ _ _ ?_ ?_ ?_ ?_)) ?_;(iterate 4 (exact sd));rintro _ _ ⟨rfl,rfl⟩)|(refine Aiz (Akz (A1z _ _ _)) ?_;rintro _ _ ⟨rfl,rfl⟩))
 | (refine Adz ⟨.inr rfl,[16000],[(16000,1)],_,by decide,rfl,?_⟩;(try simp (disch:=omega) only [push_cast,seval,↓Ahz,↓Aez,↓List.map_cons,↓List.map_nil,h1,hx',hxa])))<;>(try simp (disch:=omega) only [push_cast,seval,h1,hx',hxa])))
  all_goals simp [TB,MVL]


set_option maxHeartbeats 8000000 in
theorem iFill_ok (mem:List Int)(b:Int)(sh st:List Int)(x:Int)(q n m:Nat)(hq:mem.length=q)(hn:sh.length=n)(hm:st.length=m)(hb:q≤1099511627776∧n≤1099511627776∧m≤1099511627776):BCall Tryz.prog 106 [.rows false (IL mem) q,.agg [.int .i64 b,.rows false (IL sh) n,.rows false (IL st) m],.int .i64 x] [] (TB (filB mem b sh st x) (filL mem b sh st x)):=by
 subst hq hn hm
 refine Avz (pins:=[]) (pin:=0) l106_eq rfl rfl rfl ?_
 unfold filB
 cases h1:seeB mem b sh st with
 | false =>
  (repeat' ((first
 | (first|refine Afz ?_|refine Abz ?_)
 | (first|refine Agz ?_|refine Acz ?_)
 | (first|refine Ajz false ?_)
 | (first|(refine Aiz (Akz (Dzz _ _ _ _ _ _ _ ?_ ?_ ?_ ?_)) ?_;(iterate 4 (exact sd));rintro _ _ ⟨rfl,rfl⟩))
 | (refine Adz ⟨.inr rfl,[16000],[(16000,1)],_,by decide,rfl,?_⟩;(try simp (disch:=omega) only [push_cast,seval,↓Ahz,↓Aez,↓List.map_cons,↓List.map_nil,h1])))<;>(try simp (disch:=omega) only [push_cast,seval,h1])))
  all_goals simp [TB,MVL]
 | true =>
 obtain ⟨f1,f2,f3,f4,f5,f6⟩:=Cpz h1
 by_cases hx:0≤x∧x≤255
 ·have hx':(decide (0≤x)&&decide (x≤255))=true:=by simp [hx]
  have hxa:allI [x] 0 255=true:=by simp [allI,hx]
  obtain ⟨hx1,hx2⟩:=hx
  have hol:=Bdz b sh st
  have hml:mem.length≤1099511627776:=by omega
  have q1:okV b sh st∧st.length=sh.length:=⟨f1,f2⟩
  obtain ⟨c,hc⟩:∃ c:Nat,pr sh=(c:Int):=⟨(pr sh).toNat,by omega⟩
  have hcn:(pr sh).toNat=c:=by omega
  have hck:c≤1000:=by omega
  have hrl:(rpt [x] c).length=c:=by rw [B7z];simp
  have k1:seeB mem b sh st=true∧(c:Int)=pr sh:=⟨h1,by omega⟩
  have hpl:=C3z mem (offs b sh st) (rpt [x] c)
  rw [hx',filL,hcn]
  (repeat' ((first
 | (first|refine Afz ?_|refine Abz ?_)
 | (first|refine Agz ?_|refine Bbz (mid:=l106r3a) (post:=l106r3b) [] mixed (by decide) ?_|refine Acz ?_|refine Amz ?_)
 | (first|refine Ajz false ?_|refine Aqz false ?_)
 | (first|((first|refine Aiz (Akz (Dzz _ _ _ _ _ _ _ ?_ ?_ ?_ ?_)) ?_|refine Aoz (Akz (Dzz _ _ _ _ _ _ _ ?_ ?_ ?_ ?_)) ⟨_,_,rfl,rfl⟩ ?_);(iterate 4 (exact sd));rintro _ _ ⟨rfl,rfl⟩)|((first|refine Aiz (Akz (Ejz _)) ?_|refine Aoz (Akz (Ejz _)) ⟨_,_,rfl,rfl⟩ ?_);rintro _ _ ⟨rfl,rfl⟩)|((first|refine Aiz (Akz (C8z _ _ _ _ _ _ ?_ ?_)) ?_|refine Aoz (Akz (C8z _ _ _ _ _ _ ?_ ?_)) ⟨_,_,rfl,rfl⟩ ?_);(iterate 2 (exact sd));rintro _ _ ⟨rfl,rfl⟩)|((first|refine Aiz (repI_ok _ _ ?_) ?_|refine Aoz (repI_ok _ _ ?_) ⟨_,_,rfl,rfl⟩ ?_);(exact sd);rintro _ _ ⟨rfl,rfl⟩)|((first|refine Aiz (Hoz _ _ _ _ _ _ _ _ _ ?_ ?_ ?_ ?_ ?_) ?_|refine Aoz (Hoz _ _ _ _ _ _ _ _ _ ?_ ?_ ?_ ?_ ?_) ⟨_,_,rfl,rfl⟩ ?_);(iterate 5 (exact sd));rintro _ _ ⟨rfl,rfl⟩))
 | (refine Adz ⟨.inr rfl,[400],[],_,by decide,rfl,?_⟩;(try simp (disch:=omega) only [push_cast,seval,↓Ahz,↓Aez,↓List.map_cons,↓List.map_nil,h1,hx1,hx2,hxa,hc,hrl,List.length_replicate,List.length_cons,List.length_nil])))<;>(try simp (disch:=omega) only [push_cast,seval,h1,hx1,hx2,hxa,hc,hrl,List.length_replicate,List.length_cons,List.length_nil])))
  all_goals simp [TB,MVL]
 ·have hx':(decide (0≤x)&&decide (x≤255))=false:=by
   rw [Bool.eq_false_iff]
   intro h
   simp at h
   exact hx h
  have hxa:allI [x] 0 255=false:=by
   rw [Bool.eq_false_iff]
   intro h
   simp [allI] at h
   exact hx h
  rw [hx']
  (repeat' ((first
 | (first|refine Afz ?_|refine Abz ?_)
 | (first|refine Agz ?_|refine Acz ?_)
 | (first|refine Ajz false ?_)
 | (first|(refine Aiz (Akz (Dzz _ _ _ _ _ _ _ ?_ ?_ ?_ ?_)) ?_;(iterate 4 (exact sd));rintro _ _ ⟨rfl,rfl⟩)|(refine Aiz (Akz (Ejz _)) ?_;rintro _ _ ⟨rfl,rfl⟩))
 | (refine Adz ⟨.inr rfl,[16000],[(16000,1)],_,by decide,rfl,?_⟩;(try simp (disch:=omega) only [push_cast,seval,↓Ahz,↓Aez,↓List.map_cons,↓List.map_nil,h1,hx',hxa])))<;>(try simp (disch:=omega) only [push_cast,seval,h1,hx',hxa])))
  all_goals simp [TB,MVL]

end Go.Proofs.YtfccepgibbdfaaaGreatDoor
namespace Go.Proofs.YtfccepgibbdfaaaGreatDoor
open VwM Vw Go
variable [SentA]
variable [PowA]

open Go.RowKit Go.Extern.Stop Go.Stop Go.Extern in
open Go.RowKit Go.Extern.Stop Go.Stop Go.Extern in
theorem isTypeOf1 (v:Value)(w:World):(Extern.ReflectliteType.typeOf #[.iface 202 v]).run Tryz.prog w=.ok (.iface 139 (.agg #[.pointer (some ⟨5,202,none⟩)])) w:=by kernel_rfl
open Go.RowKit Go.Extern.Stop Go.Stop Go.Extern Go.Extern.ReflectliteType in
theorem isComparable (w : World) : ((Extern.ReflectliteType.method fun t => do Extern.Rtype.noPackHeld "Comparable" t; pure (.bool (← typeInfo t).comparable)) #[.agg #[.pointer (some ⟨5,202,none⟩)]]).run Tryz.prog w = .ok (.bool true) w := by kernel_rfl
open Go.RowKit Go.Extern.Stop Go.Stop Go.Extern Go.Extern.ReflectliteType in
theorem L2z (w:World):Sem.run Tryz.prog (callFunc 193 #[.agg #[.pointer (some ⟨5,202,none⟩)]]) w=Result.ok (Next.value (Value.bool true)) w:=by
 have h := @run_callFunc_extern Tryz.prog 193 _ (Extern.ReflectliteType.method fun t => do Extern.Rtype.noPackHeld "Comparable" t; pure (.bool (← typeInfo t).comparable)) Tryz.func193 (by kernel_rfl) (by kernel_rfl) (by kernel_rfl) (by kernel_rfl)
 rw [h,isComparable]
 rfl
theorem H0z (v : Value) (w : World) : (Go.method 339 139 v "Comparable").run Tryz.prog w = .ok (193,v) w := by kernel_rfl
theorem isComp:(Tryz.prog.info? 202).map (·.comparable)=some true:=by kernel_rfl
theorem isSize:(Tryz.prog.info? 227).map (·.size)=some 1:=by kernel_rfl
open Go.RowKit Go.Extern.Stop Go.Stop Go.Extern in
set_option maxHeartbeats 16000000 in
theorem is_same (a:Addr)(w:World) :
  Calls Tryz.prog 47 #[.iface 202 (.pointer (some a)),.iface 202 (.pointer (some a))] w fun e w'=>e=.returned (.bool true)∧w'=w:=by
 obtain ⟨i,hi,hcmp⟩:=Option.map_eq_some_iff.1 isComp
 obtain ⟨j,hj,hjs⟩:=Option.map_eq_some_iff.1 isSize
 have h8:=@run_callFunc_extern Tryz.prog 85 _ Extern.ReflectliteType.typeOf Tryz.func85 (by kernel_rfl) (by kernel_rfl) (by kernel_rfl) (by kernel_rfl)
 have h32:=L2z
 have tT:=isTypeOf1
 have mR:=H0z
 have heq:=run_eql_iface_ptr_same (P:=Tryz.prog) w a Tryz.underlying76 Tryz.underlying202 hi hcmp hj
 go_enter Tryz.func47,Tryz.ntmps47
 go_wp2
 all_goals (try (refine wp_loop_rounds 1 ?_;rw [rounds_succ];go_wp2))
 all_goals (try (go_ret;exact ⟨rfl,rfl⟩))
open Go.RowKit Go.Extern.Stop Go.Stop Go.Extern in
theorem is_nil (b:Addr)(w:World) :
  Calls Tryz.prog 47 #[.nilIface,.iface 202 (.pointer (some b))] w fun e w'=>e=.returned (.bool false)∧w'=w:=by
 have hn:=run_eql_iface_nil_left (P:=Tryz.prog) w 202 (.pointer (some b)) Tryz.underlying76
 go_enter Tryz.func47,Tryz.ntmps47
 go_wp2
 go_ret
 exact ⟨rfl,rfl⟩

end Go.Proofs.YtfccepgibbdfaaaGreatDoor
