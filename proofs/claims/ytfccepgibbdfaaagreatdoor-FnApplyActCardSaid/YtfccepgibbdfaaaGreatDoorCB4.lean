/- Texts of this verifier. -/
import Derived.Test.YtfccepgibbdfaaaGreatDoorCB3
import Derived.Test.YtfccepgibbdfaaaGreatDoorCM1
import Derived.Test.YtfccepgibbdfaaaGreatDoorCW3
set_option maxHeartbeats 4000000
set_option linter.unusedSimpArgs false
set_option linter.unusedSectionVars false
set_option linter.unusedVariables false
set_option maxRecDepth 4000
namespace Go.Proofs.YtfccepgibbdfaaaGreatDoor
open VwM Vw Go
variable [SentA]
variable [PowA]

theorem Csz (b:Int)(sh st:List Int)(n m:Nat)(d:Int)(hn:sh.length=n)(hm:st.length=m)(hb:n≤1099511627776∧m≤1099511627776):PCall Tryz.prog 123 [.agg [.int .i64 b,.rows false (IL sh) n,.rows false (IL st) m],.int .i64 d] (fun r=>r=.bool (vV b sh st&&(decide (0≤d)&&decide (d≤(n:Int)-1)))):=by
 subst hn hm
 obtain ⟨hb1,hb2⟩:=hb
 refine Atz l123_eq rfl ?_
 cases hv:vV b sh st with
 | false =>
  (repeat' ((first
 | (first|refine Afz ?_|refine Abz ?_)
 | (first|refine Agz ?_)
 | (first|refine Ajz false ?_)
 | (first|(refine Aiz (Akz (Blz _ _ _ _ _ ?_ ?_ ?_)) ?_;(iterate 3 (exact sd));rintro _ _ ⟨rfl,rfl⟩))
 | (refine Adz ⟨.inr rfl,_,rfl,?_⟩))<;>(try simp (disch:=omega) only [push_cast,seval,hv])))
  all_goals (try simp)
 | true =>
  (repeat' ((first
 | (first|refine Afz ?_|refine Abz ?_)
 | (first|refine Agz ?_)
 | (first|refine Ajz false ?_)
 | (first|(refine Aiz (Akz (Blz _ _ _ _ _ ?_ ?_ ?_)) ?_;(iterate 3 (exact sd));rintro _ _ ⟨rfl,rfl⟩)|(refine Aiz (Akz (Dwz _ _)) ?_;rintro _ _ ⟨rfl,rfl⟩))
 | (refine Adz ⟨.inr rfl,_,rfl,?_⟩))<;>(try simp (disch:=omega) only [push_cast,seval,hv])))
  all_goals (try simp)


theorem Egz (e s:Int):PCall Tryz.prog 127 [.int .i64 e,.int .i64 s] (fun r=>r=.agg [.int .i64 e,.int .i64 (dmS e s)]):=by
 refine Atz l127_eq rfl ?_
 unfold dmS
 by_cases h:e<2
 ·rw [if_pos h]
  (repeat' (first
 | (first|refine Afz ?_|refine Abz ?_)
 | ((first|refine Agz ?_|refine Acz ?_);simp (disch:=omega) only [push_cast,seval,h])
 | (refine Adz ⟨.inr rfl,_,rfl,?_⟩;(try simp (disch:=omega) only [push_cast,seval,h]))))
 ·rw [if_neg h]
  (repeat' (first
 | (first|refine Afz ?_|refine Abz ?_)
 | ((first|refine Agz ?_|refine Acz ?_|refine Amz ?_);simp (disch:=omega) only [push_cast,seval,h])
 | (refine Adz ⟨.inr rfl,_,rfl,?_⟩;(try simp (disch:=omega) only [push_cast,seval,h]))))


set_option maxHeartbeats 8000000 in
theorem C7z (b:Int)(sh st:List Int)(p0 p1 p2 p3:Int)(D E:List Int)(n m k:Nat)(hm:st.length=m)(hk:E.length=D.length∧D.length=k)(hb:((m≤4∧(-1000000≤b∧b≤1000000)∧∀ i,i<m→(-60≤at4 p0 p1 p2 p3 i∧at4 p0 p1 p2 p3 i≤60)∧-12960000≤st.getD i 0∧st.getD i 0≤12960000)∧k≤1000)∧good4 D) :
  BCall Tryz.prog 129 [.agg [.int .i64 b,.rows false (IL sh) n,.rows false (IL st) m,.int .i64 p0,.int .i64 p1,.int .i64 p2,.int .i64 p3,.rows false (IL (dm D E)) k]] [] (OV (stB D (b+dot (at4 p0 p1 p2 p3) st m)) D (stE D E)):=by
 subst hm
 obtain ⟨hk1,hk2⟩:=hk
 subst hk2
 obtain ⟨hb,hg⟩:=hb
 have hg4:=hg.2
 refine Avz (pins:=[]) (pin:=0) l129_eq rfl rfl rfl ?_
 have hkk:E.length=D.length∧D.length=D.length:=⟨hk1,rfl⟩
 unfold stB stE
 by_cases hz:pr D=0
 ·rw [if_pos hz,if_pos hz]
  (repeat' ((first
 | (first|refine Afz ?_|refine Abz ?_)
 | (first|refine Agz ?_|refine Bbz (mid:=l129r3a) (post:=l129r3b) [48,1000000009,1000000010,1000000013] mixed (by decide) ?_|refine Acz ?_)
 | (first|refine Ajz false ?_)
 | (first|(refine Aiz (Iuz _ _ _ _ _ _ _ _ _ _ _ _ ?_ ?_ ?_) ?_;(iterate 3 (exact sd));rintro _ _ ⟨rfl,rfl⟩)|(refine Aiz (Akz (C8z _ _ _ _ _ _ ?_ ?_)) ?_;(iterate 2 (exact sd));rintro _ _ ⟨rfl,rfl⟩))
 | (refine Adz ⟨.inr rfl,[80,192],[],_,by decide,rfl,?_⟩;(try simp (disch:=omega) only [push_cast,seval,↓Ahz,↓Aez,↓List.map_cons,↓List.map_nil,hz,List.length_replicate])))<;>(try simp (disch:=omega) only [push_cast,seval,hz,List.length_replicate])))
  all_goals simp [OV]
 ·rw [if_neg hz,if_neg hz]
  (repeat' ((first
 | (first|refine Afz ?_|refine Abz ?_)
 | (first|refine Agz ?_|refine Acz ?_|refine Amz ?_)
 | (first|refine Ajz false ?_)
 | (first|(refine Aiz (Iuz _ _ _ _ _ _ _ _ _ _ _ _ ?_ ?_ ?_) ?_;(iterate 3 (exact sd));rintro _ _ ⟨rfl,rfl⟩)|(refine Aiz (Akz (C8z _ _ _ _ _ _ ?_ ?_)) ?_;(iterate 2 (exact sd));rintro _ _ ⟨rfl,rfl⟩))
 | (refine Adz ⟨.inr rfl,[80,81],[],_,by decide,rfl,?_⟩;(try simp (disch:=omega) only [push_cast,seval,↓Ahz,↓Aez,↓List.map_cons,↓List.map_nil,hz])))<;>(try simp (disch:=omega) only [push_cast,seval,hz])))
  all_goals simp [OV]


set_option maxHeartbeats 16000000 in
theorem Efz (b:Int)(sh st:List Int)(n m:Nat)(d:Int)(f t w:Int)(hf ht:Bool)(hn:sh.length=n)(hm:st.length=m)(hb:n≤1099511627776∧m≤1099511627776) :
  BCall Tryz.prog 105 [.agg [.int .i64 b,.rows false (IL sh) n,.rows false (IL st) m],.int .i64 d,slc f t w hf ht] [] (MV (sdOk b sh st d f t w hf ht) (cutB b sh st d.toNat f t w hf ht) (cutSh sh d.toNat f t w hf ht) (cutSt sh st d.toNat f t w hf ht)):=by
 subst hn hm
 obtain ⟨hb1,hb2⟩:=hb
 refine Avz (pins:=[]) (pin:=0) l105_eq rfl rfl rfl ?_
 cases hv:vV b sh st with
 | false =>
  have e:sdOk b sh st d f t w hf ht=false:=by simp [sdOk,hv]
  rw [e]
  (repeat' ((first
 | (first|refine Afz ?_|refine Abz ?_)
 | (first|refine Agz ?_|refine Acz ?_)
 | (first|refine Ajz false ?_)
 | (first|(refine Aiz (Akz (Csz _ _ _ _ _ _ ?_ ?_ ?_)) ?_;(iterate 3 (exact sd));rintro _ _ ⟨rfl,rfl⟩))
 | (refine Adz ⟨.inr rfl,[16000,16016],[(16000,1),(16016,1)],_,by decide,rfl,?_⟩;(try simp (disch:=omega) only [push_cast,seval,↓Ahz,↓Aez,↓List.map_cons,↓List.map_nil,hv])))<;>(try simp (disch:=omega) only [push_cast,seval,hv])))
  all_goals simp [MV,MVB,MVL]
 | true =>
 by_cases hd:0≤d∧d≤(sh.length:Int)-1
 ·cases hs:vS f t w hf ht with
  | false =>
   have e:sdOk b sh st d f t w hf ht=false:=by simp [sdOk,hs]
   have hd':=Lrz hd
   rw [e]
   (repeat' ((first
 | (first|refine Afz ?_|refine Abz ?_)
 | (first|refine Agz ?_|refine Acz ?_)
 | (first|refine Ajz false ?_)
 | (first|(refine Aiz (Akz (Csz _ _ _ _ _ _ ?_ ?_ ?_)) ?_;(iterate 3 (exact sd));rintro _ _ ⟨rfl,rfl⟩)|(refine Aiz (Akz (Bmz _ _ _ _ _)) ?_;rintro _ _ ⟨rfl,rfl⟩))
 | (refine Adz ⟨.inr rfl,[16000,16016],[(16000,1),(16016,1)],_,by decide,rfl,?_⟩;(try simp (disch:=omega) only [push_cast,seval,↓Ahz,↓Aez,↓List.map_cons,↓List.map_nil,hv,hd',hs])))<;>(try simp (disch:=omega) only [push_cast,seval,hv,hd',hs])))
   all_goals simp [MV,MVB,MVL]
  | true =>
   have hd':=Lrz hd
   obtain ⟨j,rfl⟩:∃ j:Nat,d=j:=⟨d.toNat,by omega⟩
   have hj:j<sh.length:=by omega
   have e:sdOk b sh st j f t w hf ht=true:=by simp only [sdOk,hv,hs,hd',Int.toNat_natCast,Bool.true_and,vV_cut hv hj hs]
   rw [e]
   simp only [Int.toNat_natCast]
   obtain ⟨hok,hlen⟩:=Dsz hv
   have hl4:=hok.1.1.2
   have hn6:=Clz hok.1.1 hj
   have hq1:st.length=sh.length∧sh.length≤1000:=by omega
   have hvr:=Giz (f:=f) (t:=t) (b:=w) (hf:=hf) (ht:=ht) hn6 hs
   have hc:=cutK_cast hn6 hs
   have hst6:=K0z (Cmz.1 hv).2.1 hj
   have hw6:=(Iaz.1 hs).2.2.1
   have hmb:=mul_bd (x:=st.getD j 0) (y:=w) (p:=60) (q:=200) (by omega) (by omega)
   have hcl:=Gbz (sh:=sh) (st:=st) hlen j f t w hf ht
   have hk60:=Msz hn6 hs
   unfold cutSh
   rcases (by omega:j=0∨j=1∨j=2∨j=3) with rfl|rfl|rfl|rfl
   ·rw [show ((0:Nat):Int)=0 from rfl] at hd' ⊢
    obtain ⟨k1,k2,k3,k4⟩:=Fnz hv hj hs (at4_0 _)
    have kb:=And.intro (And.intro k1 (show sh.length≤1000 by omega)) k2
    generalize cutB b sh st 0 f t w hf ht=cB at *
    generalize cutSt sh st 0 f t w hf ht=cS at *
    generalize hSF:sFrom f (sh.getD 0 0) w hf=sF at *
    generalize hST:sTo t (sh.getD 0 0) w ht=sT at *
    generalize hKK:cutK (sh.getD 0 0) f t w hf ht=K at *
    have hkk:(st.set 0 (dmS K (st.getD 0 0*w))).length=(sh.set 0 (K:Int)).length∧(sh.set 0 (K:Int)).length=sh.length:=by simp;omega
    have hj0:0<sh.length:=hj
    have hj2:0<st.length:=by omega
    have ds:=dm_set (sh:=sh) (st:=st) (k:=0) (K:Int) (dmS K (st.getD 0 0*w)) hj hlen
    rw [show 0*2=0 from rfl] at ds
    have hdl:=Ctz (sh:=sh) (st:=st) hlen
    have k5:(stE (sh.set 0 (K:Int)) (st.set 0 (dmS K (st.getD 0 0*w)))).length≤4:=by rw [k4];omega
    clear hcl
    have hdl2:(dm (sh.set 0 (K:Int)) (st.set 0 (dmS K (st.getD 0 0*w)))).length=sh.length*2:=by rw [Ctz (by simp;omega)];simp
    generalize hXX:dmS K (st.getD 0 0*w)=XX at *
    (repeat' ((first
 | (first|refine Afz ?_|refine Abz ?_)
 | (first|refine Agz ?_|refine Arz (mid:=l105r3a) (post:=l105r3b) mixed (by decide) ?_|refine Arz (mid:=l105r6a) (post:=l105r6b) mixed (by decide) ?_|refine Acz ?_|refine Amz ?_)
 | ((first|refine A4z (fun h=>?_) (fun h=>?_))<;>(try simp only [h])<;>(try simp only [bitvec_to_nat] at h)<;>(try simp only [h])<;>(first|(exfalso;omega)|(exfalso;simp_all;done)|skip))
 | (first|((with_reducible refine Ajz (f:=126) true ?_);simp (disch:=omega) only [push_cast,seval,hv,hd',hs,hSF,hST,hc,hdl,hdl2,A6z,A2z,ds,hXX,k3,k4];(refine Aiz (Gfz _ _ _ _ _ ?_ ?_ ?_) ?_;(iterate 3 (exact sd));rintro _ _ ⟨rfl,rfl⟩)))
 | (first|refine Ajz false ?_|refine Aqz false ?_)
 | (first|((first|refine Aiz (Akz (Csz _ _ _ _ _ _ ?_ ?_ ?_)) ?_|refine Aoz (Akz (Csz _ _ _ _ _ _ ?_ ?_ ?_)) ⟨_,_,rfl,rfl⟩ ?_);(iterate 3 (exact sd));rintro _ _ ⟨rfl,rfl⟩)|((first|refine Aiz (Akz (Bmz _ _ _ _ _)) ?_|refine Aoz (Akz (Bmz _ _ _ _ _)) ⟨_,_,rfl,rfl⟩ ?_);rintro _ _ ⟨rfl,rfl⟩)|((first|refine Aiz (Akz (F4z _ _ _ _ _ _ ?_ ?_)) ?_|refine Aoz (Akz (F4z _ _ _ _ _ _ ?_ ?_)) ⟨_,_,rfl,rfl⟩ ?_);(iterate 2 (exact sd));rintro _ _ ⟨rfl,rfl⟩)|((first|refine Aiz (Akz (Ehz _ _ _ ?_)) ?_|refine Aoz (Akz (Ehz _ _ _ ?_)) ⟨_,_,rfl,rfl⟩ ?_);(exact sd);rintro _ _ ⟨rfl,rfl⟩)|((first|refine Aiz (Akz (Egz _ _)) ?_|refine Aoz (Akz (Egz _ _)) ⟨_,_,rfl,rfl⟩ ?_);rintro _ _ ⟨rfl,rfl⟩)|((first|refine Aiz (C7z _ _ _ _ _ _ _ _ _ _ _ _ ?_ ?_ ?_) ?_|refine Aoz (C7z _ _ _ _ _ _ _ _ _ _ _ _ ?_ ?_ ?_) ⟨_,_,rfl,rfl⟩ ?_);(iterate 3 (exact sd));rintro _ _ ⟨rfl,rfl⟩))
 | (refine Adz ⟨.inr rfl,[800,801],[],_,by decide,rfl,?_⟩;(try simp (disch:=omega) only [push_cast,seval,↓Ahz,↓Aez,↓List.map_cons,↓List.map_nil,hv,hd',hs,hSF,hST,hc,hdl,hdl2,A6z,A2z,ds,hXX,k3,k4])))<;>(try simp (disch:=omega) only [push_cast,seval,hv,hd',hs,hSF,hST,hc,hdl,hdl2,A6z,A2z,ds,hXX,k3,k4])))
    all_goals exact ⟨rfl,rfl⟩
   ·rw [show ((1:Nat):Int)=1 from rfl] at hd' ⊢
    obtain ⟨k1,k2,k3,k4⟩:=Fnz hv hj hs (at4_1 _)
    have kb:=And.intro (And.intro k1 (show sh.length≤1000 by omega)) k2
    generalize cutB b sh st 1 f t w hf ht=cB at *
    generalize cutSt sh st 1 f t w hf ht=cS at *
    generalize hSF:sFrom f (sh.getD 1 0) w hf=sF at *
    generalize hST:sTo t (sh.getD 1 0) w ht=sT at *
    generalize hKK:cutK (sh.getD 1 0) f t w hf ht=K at *
    have hkk:(st.set 1 (dmS K (st.getD 1 0*w))).length=(sh.set 1 (K:Int)).length∧(sh.set 1 (K:Int)).length=sh.length:=by simp;omega
    have hj0:1<sh.length:=hj
    have hj2:1<st.length:=by omega
    have ds:=dm_set (sh:=sh) (st:=st) (k:=1) (K:Int) (dmS K (st.getD 1 0*w)) hj hlen
    rw [show 1*2=2 from rfl] at ds
    have hdl:=Ctz (sh:=sh) (st:=st) hlen
    have k5:(stE (sh.set 1 (K:Int)) (st.set 1 (dmS K (st.getD 1 0*w)))).length≤4:=by rw [k4];omega
    clear hcl
    have hdl2:(dm (sh.set 1 (K:Int)) (st.set 1 (dmS K (st.getD 1 0*w)))).length=sh.length*2:=by rw [Ctz (by simp;omega)];simp
    generalize hXX:dmS K (st.getD 1 0*w)=XX at *
    (repeat' ((first
 | (first|refine Afz ?_|refine Abz ?_)
 | (first|refine Agz ?_|refine Arz (mid:=l105r3a) (post:=l105r3b) mixed (by decide) ?_|refine Arz (mid:=l105r6a) (post:=l105r6b) mixed (by decide) ?_|refine Acz ?_|refine Amz ?_)
 | ((first|refine A4z (fun h=>?_) (fun h=>?_))<;>(try simp only [h])<;>(try simp only [bitvec_to_nat] at h)<;>(try simp only [h])<;>(first|(exfalso;omega)|(exfalso;simp_all;done)|skip))
 | (first|((with_reducible refine Ajz (f:=126) true ?_);simp (disch:=omega) only [push_cast,seval,hv,hd',hs,hSF,hST,hc,hdl,hdl2,A6z,A2z,ds,hXX,k3,k4];(refine Aiz (Gfz _ _ _ _ _ ?_ ?_ ?_) ?_;(iterate 3 (exact sd));rintro _ _ ⟨rfl,rfl⟩)))
 | (first|refine Ajz false ?_|refine Aqz false ?_)
 | (first|((first|refine Aiz (Akz (Csz _ _ _ _ _ _ ?_ ?_ ?_)) ?_|refine Aoz (Akz (Csz _ _ _ _ _ _ ?_ ?_ ?_)) ⟨_,_,rfl,rfl⟩ ?_);(iterate 3 (exact sd));rintro _ _ ⟨rfl,rfl⟩)|((first|refine Aiz (Akz (Bmz _ _ _ _ _)) ?_|refine Aoz (Akz (Bmz _ _ _ _ _)) ⟨_,_,rfl,rfl⟩ ?_);rintro _ _ ⟨rfl,rfl⟩)|((first|refine Aiz (Akz (F4z _ _ _ _ _ _ ?_ ?_)) ?_|refine Aoz (Akz (F4z _ _ _ _ _ _ ?_ ?_)) ⟨_,_,rfl,rfl⟩ ?_);(iterate 2 (exact sd));rintro _ _ ⟨rfl,rfl⟩)|((first|refine Aiz (Akz (Ehz _ _ _ ?_)) ?_|refine Aoz (Akz (Ehz _ _ _ ?_)) ⟨_,_,rfl,rfl⟩ ?_);(exact sd);rintro _ _ ⟨rfl,rfl⟩)|((first|refine Aiz (Akz (Egz _ _)) ?_|refine Aoz (Akz (Egz _ _)) ⟨_,_,rfl,rfl⟩ ?_);rintro _ _ ⟨rfl,rfl⟩)|((first|refine Aiz (C7z _ _ _ _ _ _ _ _ _ _ _ _ ?_ ?_ ?_) ?_|refine Aoz (C7z _ _ _ _ _ _ _ _ _ _ _ _ ?_ ?_ ?_) ⟨_,_,rfl,rfl⟩ ?_);(iterate 3 (exact sd));rintro _ _ ⟨rfl,rfl⟩))
 | (refine Adz ⟨.inr rfl,[800,801],[],_,by decide,rfl,?_⟩;(try simp (disch:=omega) only [push_cast,seval,↓Ahz,↓Aez,↓List.map_cons,↓List.map_nil,hv,hd',hs,hSF,hST,hc,hdl,hdl2,A6z,A2z,ds,hXX,k3,k4])))<;>(try simp (disch:=omega) only [push_cast,seval,hv,hd',hs,hSF,hST,hc,hdl,hdl2,A6z,A2z,ds,hXX,k3,k4])))
    all_goals exact ⟨rfl,rfl⟩
   ·rw [show ((2:Nat):Int)=2 from rfl] at hd' ⊢
    obtain ⟨k1,k2,k3,k4⟩:=Fnz hv hj hs (at4_2 _)
    have kb:=And.intro (And.intro k1 (show sh.length≤1000 by omega)) k2
    generalize cutB b sh st 2 f t w hf ht=cB at *
    generalize cutSt sh st 2 f t w hf ht=cS at *
    generalize hSF:sFrom f (sh.getD 2 0) w hf=sF at *
    generalize hST:sTo t (sh.getD 2 0) w ht=sT at *
    generalize hKK:cutK (sh.getD 2 0) f t w hf ht=K at *
    have hkk:(st.set 2 (dmS K (st.getD 2 0*w))).length=(sh.set 2 (K:Int)).length∧(sh.set 2 (K:Int)).length=sh.length:=by simp;omega
    have hj0:2<sh.length:=hj
    have hj2:2<st.length:=by omega
    have ds:=dm_set (sh:=sh) (st:=st) (k:=2) (K:Int) (dmS K (st.getD 2 0*w)) hj hlen
    rw [show 2*2=4 from rfl] at ds
    have hdl:=Ctz (sh:=sh) (st:=st) hlen
    have k5:(stE (sh.set 2 (K:Int)) (st.set 2 (dmS K (st.getD 2 0*w)))).length≤4:=by rw [k4];omega
    clear hcl
    have hdl2:(dm (sh.set 2 (K:Int)) (st.set 2 (dmS K (st.getD 2 0*w)))).length=sh.length*2:=by rw [Ctz (by simp;omega)];simp
    generalize hXX:dmS K (st.getD 2 0*w)=XX at *
    (repeat' ((first
 | (first|refine Afz ?_|refine Abz ?_)
 | (first|refine Agz ?_|refine Arz (mid:=l105r3a) (post:=l105r3b) mixed (by decide) ?_|refine Arz (mid:=l105r6a) (post:=l105r6b) mixed (by decide) ?_|refine Acz ?_|refine Amz ?_)
 | ((first|refine A4z (fun h=>?_) (fun h=>?_))<;>(try simp only [h])<;>(try simp only [bitvec_to_nat] at h)<;>(try simp only [h])<;>(first|(exfalso;omega)|(exfalso;simp_all;done)|skip))
 | (first|((with_reducible refine Ajz (f:=126) true ?_);simp (disch:=omega) only [push_cast,seval,hv,hd',hs,hSF,hST,hc,hdl,hdl2,A6z,A2z,ds,hXX,k3,k4];(refine Aiz (Gfz _ _ _ _ _ ?_ ?_ ?_) ?_;(iterate 3 (exact sd));rintro _ _ ⟨rfl,rfl⟩)))
 | (first|refine Ajz false ?_|refine Aqz false ?_)
 | (first|((first|refine Aiz (Akz (Csz _ _ _ _ _ _ ?_ ?_ ?_)) ?_|refine Aoz (Akz (Csz _ _ _ _ _ _ ?_ ?_ ?_)) ⟨_,_,rfl,rfl⟩ ?_);(iterate 3 (exact sd));rintro _ _ ⟨rfl,rfl⟩)|((first|refine Aiz (Akz (Bmz _ _ _ _ _)) ?_|refine Aoz (Akz (Bmz _ _ _ _ _)) ⟨_,_,rfl,rfl⟩ ?_);rintro _ _ ⟨rfl,rfl⟩)|((first|refine Aiz (Akz (F4z _ _ _ _ _ _ ?_ ?_)) ?_|refine Aoz (Akz (F4z _ _ _ _ _ _ ?_ ?_)) ⟨_,_,rfl,rfl⟩ ?_);(iterate 2 (exact sd));rintro _ _ ⟨rfl,rfl⟩)|((first|refine Aiz (Akz (Ehz _ _ _ ?_)) ?_|refine Aoz (Akz (Ehz _ _ _ ?_)) ⟨_,_,rfl,rfl⟩ ?_);(exact sd);rintro _ _ ⟨rfl,rfl⟩)|((first|refine Aiz (Akz (Egz _ _)) ?_|refine Aoz (Akz (Egz _ _)) ⟨_,_,rfl,rfl⟩ ?_);rintro _ _ ⟨rfl,rfl⟩)|((first|refine Aiz (C7z _ _ _ _ _ _ _ _ _ _ _ _ ?_ ?_ ?_) ?_|refine Aoz (C7z _ _ _ _ _ _ _ _ _ _ _ _ ?_ ?_ ?_) ⟨_,_,rfl,rfl⟩ ?_);(iterate 3 (exact sd));rintro _ _ ⟨rfl,rfl⟩))
 | (refine Adz ⟨.inr rfl,[800,801],[],_,by decide,rfl,?_⟩;(try simp (disch:=omega) only [push_cast,seval,↓Ahz,↓Aez,↓List.map_cons,↓List.map_nil,hv,hd',hs,hSF,hST,hc,hdl,hdl2,A6z,A2z,ds,hXX,k3,k4])))<;>(try simp (disch:=omega) only [push_cast,seval,hv,hd',hs,hSF,hST,hc,hdl,hdl2,A6z,A2z,ds,hXX,k3,k4])))
    all_goals exact ⟨rfl,rfl⟩
   ·rw [show ((3:Nat):Int)=3 from rfl] at hd' ⊢
    obtain ⟨k1,k2,k3,k4⟩:=Fnz hv hj hs (at4_3 _)
    have kb:=And.intro (And.intro k1 (show sh.length≤1000 by omega)) k2
    generalize cutB b sh st 3 f t w hf ht=cB at *
    generalize cutSt sh st 3 f t w hf ht=cS at *
    generalize hSF:sFrom f (sh.getD 3 0) w hf=sF at *
    generalize hST:sTo t (sh.getD 3 0) w ht=sT at *
    generalize hKK:cutK (sh.getD 3 0) f t w hf ht=K at *
    have hkk:(st.set 3 (dmS K (st.getD 3 0*w))).length=(sh.set 3 (K:Int)).length∧(sh.set 3 (K:Int)).length=sh.length:=by simp;omega
    have hj0:3<sh.length:=hj
    have hj2:3<st.length:=by omega
    have ds:=dm_set (sh:=sh) (st:=st) (k:=3) (K:Int) (dmS K (st.getD 3 0*w)) hj hlen
    rw [show 3*2=6 from rfl] at ds
    have hdl:=Ctz (sh:=sh) (st:=st) hlen
    have k5:(stE (sh.set 3 (K:Int)) (st.set 3 (dmS K (st.getD 3 0*w)))).length≤4:=by rw [k4];omega
    clear hcl
    have hdl2:(dm (sh.set 3 (K:Int)) (st.set 3 (dmS K (st.getD 3 0*w)))).length=sh.length*2:=by rw [Ctz (by simp;omega)];simp
    generalize hXX:dmS K (st.getD 3 0*w)=XX at *
    (repeat' ((first
 | (first|refine Afz ?_|refine Abz ?_)
 | (first|refine Agz ?_|refine Arz (mid:=l105r3a) (post:=l105r3b) mixed (by decide) ?_|refine Arz (mid:=l105r6a) (post:=l105r6b) mixed (by decide) ?_|refine Acz ?_|refine Amz ?_)
 | ((first|refine A4z (fun h=>?_) (fun h=>?_))<;>(try simp only [h])<;>(try simp only [bitvec_to_nat] at h)<;>(try simp only [h])<;>(first|(exfalso;omega)|(exfalso;simp_all;done)|skip))
 | (first|((with_reducible refine Ajz (f:=126) true ?_);simp (disch:=omega) only [push_cast,seval,hv,hd',hs,hSF,hST,hc,hdl,hdl2,A6z,A2z,ds,hXX,k3,k4];(refine Aiz (Gfz _ _ _ _ _ ?_ ?_ ?_) ?_;(iterate 3 (exact sd));rintro _ _ ⟨rfl,rfl⟩)))
 | (first|refine Ajz false ?_|refine Aqz false ?_)
 | (first|((first|refine Aiz (Akz (Csz _ _ _ _ _ _ ?_ ?_ ?_)) ?_|refine Aoz (Akz (Csz _ _ _ _ _ _ ?_ ?_ ?_)) ⟨_,_,rfl,rfl⟩ ?_);(iterate 3 (exact sd));rintro _ _ ⟨rfl,rfl⟩)|((first|refine Aiz (Akz (Bmz _ _ _ _ _)) ?_|refine Aoz (Akz (Bmz _ _ _ _ _)) ⟨_,_,rfl,rfl⟩ ?_);rintro _ _ ⟨rfl,rfl⟩)|((first|refine Aiz (Akz (F4z _ _ _ _ _ _ ?_ ?_)) ?_|refine Aoz (Akz (F4z _ _ _ _ _ _ ?_ ?_)) ⟨_,_,rfl,rfl⟩ ?_);(iterate 2 (exact sd));rintro _ _ ⟨rfl,rfl⟩)|((first|refine Aiz (Akz (Ehz _ _ _ ?_)) ?_|refine Aoz (Akz (Ehz _ _ _ ?_)) ⟨_,_,rfl,rfl⟩ ?_);(exact sd);rintro _ _ ⟨rfl,rfl⟩)|((first|refine Aiz (Akz (Egz _ _)) ?_|refine Aoz (Akz (Egz _ _)) ⟨_,_,rfl,rfl⟩ ?_);rintro _ _ ⟨rfl,rfl⟩)|((first|refine Aiz (C7z _ _ _ _ _ _ _ _ _ _ _ _ ?_ ?_ ?_) ?_|refine Aoz (C7z _ _ _ _ _ _ _ _ _ _ _ _ ?_ ?_ ?_) ⟨_,_,rfl,rfl⟩ ?_);(iterate 3 (exact sd));rintro _ _ ⟨rfl,rfl⟩))
 | (refine Adz ⟨.inr rfl,[800,801],[],_,by decide,rfl,?_⟩;(try simp (disch:=omega) only [push_cast,seval,↓Ahz,↓Aez,↓List.map_cons,↓List.map_nil,hv,hd',hs,hSF,hST,hc,hdl,hdl2,A6z,A2z,ds,hXX,k3,k4])))<;>(try simp (disch:=omega) only [push_cast,seval,hv,hd',hs,hSF,hST,hc,hdl,hdl2,A6z,A2z,ds,hXX,k3,k4])))
    all_goals exact ⟨rfl,rfl⟩
 ·have hd':=fls_and hd
  have e:sdOk b sh st d f t w hf ht=false:=by simp only [sdOk,hd',Bool.and_false,Bool.false_and]
  rw [e]
  (repeat' ((first
 | (first|refine Afz ?_|refine Abz ?_)
 | (first|refine Agz ?_|refine Acz ?_)
 | (first|refine Ajz false ?_)
 | (first|(refine Aiz (Akz (Csz _ _ _ _ _ _ ?_ ?_ ?_)) ?_;(iterate 3 (exact sd));rintro _ _ ⟨rfl,rfl⟩))
 | (refine Adz ⟨.inr rfl,[16000,16016],[(16000,1),(16016,1)],_,by decide,rfl,?_⟩;(try simp (disch:=omega) only [push_cast,seval,↓Ahz,↓Aez,↓List.map_cons,↓List.map_nil,hv,hd'])))<;>(try simp (disch:=omega) only [push_cast,seval,hv,hd'])))
  all_goals simp [MV,MVB,MVL]

end Go.Proofs.YtfccepgibbdfaaaGreatDoor
namespace Go.Proofs.YtfccepgibbdfaaaGreatDoor
open VwM Vw Go
variable [SentA]
variable [PowA]

theorem seeB_mem {mem:List Int}{b:Int}{sh st:List Int}(h:vMem mem=false):seeB mem b sh st=false:=by simp [seeB,h]
theorem seeB_view {mem:List Int}{b:Int}{sh st:List Int}(h:vV b sh st=false):seeB mem b sh st=false:=by simp [seeB,h]
theorem seeB_rest {mem:List Int}{b:Int}{sh st:List Int}(h1:vMem mem=true)(h2:vV b sh st=true):seeB mem b sh st=allI (offs b sh st) 0 ((mem.length:Int)-1):=by simp [seeB,h1,h2]
theorem fitB_see {mem:List Int}{b:Int}{sh st:List Int}(h1:vMem mem=true):fitB b sh st (mem.length:Int)=seeB mem b sh st:=by
 have:=(Cnz.1 h1).1
 have h3:((mem.length:Int)≤60)=True:=eq_true (by omega)
 have h4:((0:Int)≤(mem.length:Int))=True:=eq_true (by omega)
 simp only [fitB,seeB,h1,h3,h4,decide_true,Bool.and_true,Bool.true_and]


theorem Hnz (xs:List Int)(n:Nat)(hn:xs.length=n)(hb:n≤1099511627776):PCall Tryz.prog 55 [.rows false (IL xs) n] (fun r=>r=.bool (vMem xs)):=by
 subst hn
 refine Atz l55_eq rfl ?_
 by_cases h4:xs.length≤60
 ·cases ha:allI xs 0 255 with
  | false =>
   (repeat' ((first
 | (first|refine Afz ?_|refine Abz ?_)
 | (first|refine Agz ?_)
 | ((first|refine A4z (fun h=>?_) (fun h=>?_))<;>(try simp only [h])<;>(try simp only [bitvec_to_nat] at h)<;>(try simp only [h])<;>(first|(exfalso;omega)|(exfalso;simp_all;done)|skip))
 | (first|refine Ajz false ?_)
 | (first|(refine Aiz (Akz (C1z _ _ _ _ ?_ ?_)) ?_;(iterate 2 (exact sd));rintro _ _ ⟨rfl,rfl⟩))
 | (refine Adz ⟨.inr rfl,_,rfl,?_⟩))<;>(try simp (disch:=omega) only [push_cast,seval,ha])))
   all_goals simp [vMem,ha]
  | true =>
   (repeat' ((first
 | (first|refine Afz ?_|refine Abz ?_)
 | (first|refine Agz ?_)
 | ((first|refine A4z (fun h=>?_) (fun h=>?_))<;>(try simp only [h])<;>(try simp only [bitvec_to_nat] at h)<;>(try simp only [h])<;>(first|(exfalso;omega)|(exfalso;simp_all;done)|skip))
 | (first|refine Ajz false ?_)
 | (first|(refine Aiz (Akz (C1z _ _ _ _ ?_ ?_)) ?_;(iterate 2 (exact sd));rintro _ _ ⟨rfl,rfl⟩))
 | (refine Adz ⟨.inr rfl,_,rfl,?_⟩))<;>(try simp (disch:=omega) only [push_cast,seval,ha])))
   all_goals simp [vMem,ha,h4]
 ·(repeat' (first
 | (first|refine Afz ?_|refine Abz ?_)
 | ((first|refine Agz ?_);simp (disch:=omega) only [push_cast,seval])
 | ((first|refine A4z (fun h=>?_) (fun h=>?_))<;>(try simp only [h])<;>(try simp only [bitvec_to_nat] at h)<;>(try simp only [h])<;>(first|(exfalso;omega)|(exfalso;simp_all;done)|(simp (disch:=omega) only [push_cast,seval])|skip))
 | (refine Adz ⟨.inr rfl,_,rfl,?_⟩;(try simp (disch:=omega) only [push_cast,seval]))))
  all_goals simp [vMem,h4]


theorem Gyz (xs:List Int)(n:Nat)(hn:xs.length=n)(hb:n≤1099511627776):PCall Tryz.prog 84 [.rows false (IL xs) n] (fun r=>r=.bool (allI xs 0 255)):=by
 subst hn
 refine Atz l84_eq rfl ?_
 (repeat' (first
 | (first|refine Afz ?_|refine Abz ?_)
 | ((first|refine Agz ?_);simp (disch:=omega) only [push_cast,seval])
 | (refine Adz ⟨.inr rfl,_,rfl,?_⟩;(try simp (disch:=omega) only [push_cast,seval]))))
 refine A5z (fun k:Nat=>mkS [(5,RI xs),(6,.int .i64 xs.length),(7,.int .i64 k)] []) (fun k=>k≤xs.length∧∀ j:Nat,j<k→0≤xs.getD j 0∧xs.getD j 0≤255) (fun k=>xs.length-k) 0 ⟨Nat.zero_le _,fun j h=>absurd h (Nat.not_lt_zero _)⟩ ?_ ?_
 ·(refine Sub.of_lists ?_ ?_ ?_ ?_ ?_<;>simp [Vw.mkS,Vw.lk,Vw.hk,AV.inn,innL,Apz,Anz,Asz,-List.map_set,-List.getD_eq_getElem?_getD])
 ·rintro k ⟨hk,hj⟩
  by_cases hlt:k<xs.length
  ·(repeat' ((first
 | (first|refine Afz ?_|refine Abz ?_)
 | (first|refine Agz ?_|refine Acz ?_|refine Amz ?_)
 | ((first|refine Alz (fun h=>?_) (fun h=>?_))<;>(try simp only [h])<;>(try simp only [bitvec_to_nat] at h)<;>(try simp only [h])<;>(first|(exfalso;omega)|(exfalso;simp_all;done)|skip))
 | (first|refine Ajz false ?_)
 | (first|(refine Aiz (Akz (Dwz _ _)) ?_;rintro _ _ ⟨rfl,rfl⟩))
 | (refine Adz ⟨.inr rfl,_,rfl,?_⟩))<;>(try simp (disch:=omega) only [push_cast,seval])))
   ·rw [E3z (j:=k) hlt (by assumption)]
   ·refine ⟨k+1,⟨by omega,fun j h=>?_⟩,by omega,?_⟩
    ·by_cases hjk:j=k
     ·subst hjk;assumption
     ·exact hj j (by omega)
    ·(refine Sub.of_lists ?_ ?_ ?_ ?_ ?_<;>simp [Vw.mkS,Vw.lk,Vw.hk,AV.inn,innL,Apz,Anz,Asz,-List.map_set,-List.getD_eq_getElem?_getD])
  ·have ha:allI xs 0 255=true:=Gez fun j h=>hj j (by omega)
   (repeat' (first
 | (first|refine Afz ?_|refine Abz ?_)
 | ((first|refine Agz ?_|refine Acz ?_|refine Azz ?_);simp (disch:=omega) only [push_cast,seval])
 | ((first|refine Alz (fun h=>?_) (fun h=>?_))<;>(try simp only [h])<;>(try simp only [bitvec_to_nat] at h)<;>(try simp only [h])<;>(first|(exfalso;omega)|(exfalso;simp_all;done)|(simp (disch:=omega) only [push_cast,seval])|skip))
 | (refine Adz ⟨.inr rfl,_,rfl,?_⟩;(try simp (disch:=omega) only [push_cast,seval]))))
   simp [ha]


theorem H1z (xs:List Int)(n:Nat)(hn:xs.length=n)(hb:n≤1099511627776):PCall Tryz.prog 45 [.rows false (IL xs) n] (fun r=>r=.bool (vMem xs)):=by
 subst hn
 refine Atz l45_eq rfl ?_
 by_cases h4:xs.length≤60
 ·(repeat' ((first
 | (first|refine Afz ?_|refine Abz ?_)
 | (first|refine Agz ?_)
 | ((first|refine A4z (fun h=>?_) (fun h=>?_))<;>(try simp only [h])<;>(try simp only [bitvec_to_nat] at h)<;>(try simp only [h])<;>(first|(exfalso;omega)|(exfalso;simp_all;done)|skip))
 | (first|refine Ajz false ?_)
 | (first|(refine Aiz (Akz (Caz _)) ?_;rintro _ _ ⟨rfl,rfl⟩)|(refine Aiz (Akz (Gyz _ _ ?_ ?_)) ?_;(iterate 2 (exact sd));rintro _ _ ⟨rfl,rfl⟩))
 | (refine Adz ⟨.inr rfl,_,rfl,?_⟩))<;>(try simp (disch:=omega) only [push_cast,seval])))
  all_goals simp [vMem,h4]
 ·(repeat' ((first
 | (first|refine Afz ?_|refine Abz ?_)
 | (first|refine Agz ?_)
 | ((first|refine A4z (fun h=>?_) (fun h=>?_))<;>(try simp only [h])<;>(try simp only [bitvec_to_nat] at h)<;>(try simp only [h])<;>(first|(exfalso;omega)|(exfalso;simp_all;done)|skip))
 | (first|refine Ajz false ?_)
 | (first|(refine Aiz (Akz (Caz _)) ?_;rintro _ _ ⟨rfl,rfl⟩))
 | (refine Adz ⟨.inr rfl,_,rfl,?_⟩))<;>(try simp (disch:=omega) only [push_cast,seval])))
  all_goals simp [vMem,h4]


theorem Igz (mem:List Int)(b:Int)(sh st:List Int)(q n m:Nat)(hq:mem.length=q)(hn:sh.length=n)(hm:st.length=m)(hb:q≤1099511627776∧n≤1099511627776∧m≤1099511627776):PCall Tryz.prog 140 [.rows false (IL mem) q,.agg [.int .i64 b,.rows false (IL sh) n,.rows false (IL st) m]] (fun r=>r=.bool (seeB mem b sh st)):=by
 subst hq hn hm
 obtain ⟨hb0,hb1,hb2⟩:=hb
 refine Atz l140_eq rfl ?_
 cases hm:vMem mem with
 | false =>
  rw [seeB_mem hm]
  (repeat' ((first
 | (first|refine Afz ?_|refine Abz ?_)
 | (first|refine Agz ?_)
 | (first|refine Ajz false ?_)
 | (first|(refine Aiz (Akz (Hnz _ _ ?_ ?_)) ?_;(iterate 2 (exact sd));rintro _ _ ⟨rfl,rfl⟩))
 | (refine Adz ⟨.inr rfl,_,rfl,?_⟩))<;>(try simp (disch:=omega) only [push_cast,seval,hm])))
 | true =>
 have h60:=(Cnz.1 hm).1
 cases hv:vV b sh st with
 | false =>
  rw [seeB_view hv]
  (repeat' ((first
 | (first|refine Afz ?_|refine Abz ?_)
 | (first|refine Agz ?_)
 | (first|refine Ajz false ?_)
 | (first|(refine Aiz (Akz (Hnz _ _ ?_ ?_)) ?_;(iterate 2 (exact sd));rintro _ _ ⟨rfl,rfl⟩)|(refine Aiz (Akz (A3z _ _ _ _ _ ?_ ?_ ?_)) ?_;(iterate 3 (exact sd));rintro _ _ ⟨rfl,rfl⟩))
 | (refine Adz ⟨.inr rfl,_,rfl,?_⟩))<;>(try simp (disch:=omega) only [push_cast,seval,hm,hv])))
 | true =>
  have hok:=(Dsz hv).1
  have q1:okV b sh st∧-1000000≤(mem.length:Int)∧(mem.length:Int)≤1000000:=⟨hok,by omega,by omega⟩
  rw [seeB_rest hm hv]
  (repeat' ((first
 | (first|refine Afz ?_|refine Abz ?_)
 | (first|refine Agz ?_)
 | (first|refine Ajz false ?_)
 | (first|(refine Aiz (Akz (Hnz _ _ ?_ ?_)) ?_;(iterate 2 (exact sd));rintro _ _ ⟨rfl,rfl⟩)|(refine Aiz (Akz (A3z _ _ _ _ _ ?_ ?_ ?_)) ?_;(iterate 3 (exact sd));rintro _ _ ⟨rfl,rfl⟩)|(refine Aiz (Akz (sfits_ok _ _ _ _ _ _ ?_ ?_ ?_)) ?_;(iterate 3 (exact sd));rintro _ _ ⟨rfl,rfl⟩))
 | (refine Adz ⟨.inr rfl,_,rfl,?_⟩))<;>(try simp (disch:=omega) only [push_cast,seval,hm,hv])))


theorem Dzz (mem:List Int)(b:Int)(sh st:List Int)(q n m:Nat)(hq:mem.length=q)(hn:sh.length=n)(hm:st.length=m)(hb:q≤1099511627776∧n≤1099511627776∧m≤1099511627776):PCall Tryz.prog 130 [.rows false (IL mem) q,.agg [.int .i64 b,.rows false (IL sh) n,.rows false (IL st) m]] (fun r=>r=.bool (seeB mem b sh st)):=by
 subst hq hn hm
 obtain ⟨hb0,hb1,hb2⟩:=hb
 refine Atz l130_eq rfl ?_
 cases hm:vMem mem with
 | false =>
  rw [seeB_mem hm]
  (repeat' ((first
 | (first|refine Afz ?_|refine Abz ?_)
 | (first|refine Agz ?_)
 | (first|refine Ajz false ?_)
 | (first|(refine Aiz (Akz (H1z _ _ ?_ ?_)) ?_;(iterate 2 (exact sd));rintro _ _ ⟨rfl,rfl⟩))
 | (refine Adz ⟨.inr rfl,_,rfl,?_⟩))<;>(try simp (disch:=omega) only [push_cast,seval,hm])))
 | true =>
  have e:=fitB_see (b:=b) (sh:=sh) (st:=st) hm
  (repeat' ((first
 | (first|refine Afz ?_|refine Abz ?_)
 | (first|refine Agz ?_)
 | (first|refine Ajz false ?_)
 | (first|(refine Aiz (Akz (H1z _ _ ?_ ?_)) ?_;(iterate 2 (exact sd));rintro _ _ ⟨rfl,rfl⟩)|(refine Aiz (Akz (D0z _ _ _ _ _ _ ?_ ?_ ?_)) ?_;(iterate 3 (exact sd));rintro _ _ ⟨rfl,rfl⟩))
 | (refine Adz ⟨.inr rfl,_,rfl,?_⟩))<;>(try simp (disch:=omega) only [push_cast,seval,hm,e])))


/-- Two views of an equal shape fit. -/
def twoB (mem:List Int)(b:Int)(sh st:List Int)(b':Int)(sh' st':List Int):Bool:=seeB mem b sh st&&seeB mem b' sh' st'&&decide (sh=sh')


theorem pair_ok (mem:List Int)(b:Int)(sh st:List Int)(b':Int)(sh' st':List Int)(q n m n' m':Nat)(hq:mem.length=q)(hn:sh.length=n)(hm:st.length=m)(hn':sh'.length=n')(hm':st'.length=m')(hb:(q≤1099511627776∧n≤1099511627776∧m≤1099511627776)∧n'≤1099511627776∧m'≤1099511627776):PCall Tryz.prog 141 [.rows false (IL mem) q,.agg [.int .i64 b,.rows false (IL sh) n,.rows false (IL st) m],.agg [.int .i64 b',.rows false (IL sh') n',.rows false (IL st') m']] (fun r=>r=.bool (twoB mem b sh st b' sh' st')):=by
 subst hq hn hm hn' hm'
 obtain ⟨⟨hb0,hb1,hb2⟩,hb3,hb4⟩:=hb
 have q1:mem.length≤1099511627776∧sh.length≤1099511627776∧st.length≤1099511627776:=⟨hb0,hb1,hb2⟩
 have q2:mem.length≤1099511627776∧sh'.length≤1099511627776∧st'.length≤1099511627776:=⟨hb0,hb3,hb4⟩
 refine Atz l141_eq rfl ?_
 unfold twoB
 cases h1:seeB mem b sh st with
 | false =>
  (repeat' ((first
 | (first|refine Afz ?_|refine Abz ?_)
 | (first|refine Agz ?_)
 | (first|refine Ajz false ?_)
 | (first|(refine Aiz (Akz (Igz _ _ _ _ _ _ _ ?_ ?_ ?_ ?_)) ?_;(iterate 4 (exact sd));rintro _ _ ⟨rfl,rfl⟩))
 | (refine Adz ⟨.inr rfl,_,rfl,?_⟩))<;>(try simp (disch:=omega) only [push_cast,seval,h1])))
  all_goals simp
 | true =>
 cases h2:seeB mem b' sh' st' with
 | false =>
  (repeat' ((first
 | (first|refine Afz ?_|refine Abz ?_)
 | (first|refine Agz ?_)
 | (first|refine Ajz false ?_)
 | (first|(refine Aiz (Akz (Igz _ _ _ _ _ _ _ ?_ ?_ ?_ ?_)) ?_;(iterate 4 (exact sd));rintro _ _ ⟨rfl,rfl⟩))
 | (refine Adz ⟨.inr rfl,_,rfl,?_⟩))<;>(try simp (disch:=omega) only [push_cast,seval,h1,h2])))
  all_goals simp
 | true =>
  (repeat' ((first
 | (first|refine Afz ?_|refine Abz ?_)
 | (first|refine Agz ?_)
 | (first|refine Ajz false ?_)
 | (first|(refine Aiz (Akz (Igz _ _ _ _ _ _ _ ?_ ?_ ?_ ?_)) ?_;(iterate 4 (exact sd));rintro _ _ ⟨rfl,rfl⟩)|(refine Aiz (Akz (sameInts_ok _ _ _ _ ?_ ?_ ?_)) ?_;(iterate 3 (exact sd));rintro _ _ ⟨rfl,rfl⟩))
 | (refine Adz ⟨.inr rfl,_,rfl,?_⟩))<;>(try simp (disch:=omega) only [push_cast,seval,h1,h2])))
  all_goals simp


theorem F7z (mem:List Int)(b:Int)(sh st:List Int)(b':Int)(sh' st':List Int)(q n m n' m':Nat)(hq:mem.length=q)(hn:sh.length=n)(hm:st.length=m)(hn':sh'.length=n')(hm':st'.length=m')(hb:(q≤1099511627776∧n≤1099511627776∧m≤1099511627776)∧n'≤1099511627776∧m'≤1099511627776):PCall Tryz.prog 133 [.rows false (IL mem) q,.agg [.int .i64 b,.rows false (IL sh) n,.rows false (IL st) m],.agg [.int .i64 b',.rows false (IL sh') n',.rows false (IL st') m']] (fun r=>r=.bool (twoB mem b sh st b' sh' st')):=by
 subst hq hn hm hn' hm'
 obtain ⟨⟨hb0,hb1,hb2⟩,hb3,hb4⟩:=hb
 have q1:mem.length≤1099511627776∧sh.length≤1099511627776∧st.length≤1099511627776:=⟨hb0,hb1,hb2⟩
 have q2:mem.length≤1099511627776∧sh'.length≤1099511627776∧st'.length≤1099511627776:=⟨hb0,hb3,hb4⟩
 refine Atz l133_eq rfl ?_
 unfold twoB
 cases h1:seeB mem b sh st with
 | false =>
  (repeat' ((first
 | (first|refine Afz ?_|refine Abz ?_)
 | (first|refine Agz ?_)
 | (first|refine Ajz false ?_)
 | (first|(refine Aiz (Akz (Dzz _ _ _ _ _ _ _ ?_ ?_ ?_ ?_)) ?_;(iterate 4 (exact sd));rintro _ _ ⟨rfl,rfl⟩))
 | (refine Adz ⟨.inr rfl,_,rfl,?_⟩))<;>(try simp (disch:=omega) only [push_cast,seval,h1])))
  all_goals simp
 | true =>
 cases h2:seeB mem b' sh' st' with
 | false =>
  (repeat' ((first
 | (first|refine Afz ?_|refine Abz ?_)
 | (first|refine Agz ?_)
 | (first|refine Ajz false ?_)
 | (first|(refine Aiz (Akz (Dzz _ _ _ _ _ _ _ ?_ ?_ ?_ ?_)) ?_;(iterate 4 (exact sd));rintro _ _ ⟨rfl,rfl⟩))
 | (refine Adz ⟨.inr rfl,_,rfl,?_⟩))<;>(try simp (disch:=omega) only [push_cast,seval,h1,h2])))
  all_goals simp
 | true =>
  (repeat' ((first
 | (first|refine Afz ?_|refine Abz ?_)
 | (first|refine Agz ?_)
 | (first|refine Ajz false ?_)
 | (first|(refine Aiz (Akz (Dzz _ _ _ _ _ _ _ ?_ ?_ ?_ ?_)) ?_;(iterate 4 (exact sd));rintro _ _ ⟨rfl,rfl⟩)|(refine Aiz (Akz (sequal_ok _ _ _ _ ?_ ?_ ?_)) ?_;(iterate 3 (exact sd));rintro _ _ ⟨rfl,rfl⟩))
 | (refine Adz ⟨.inr rfl,_,rfl,?_⟩))<;>(try simp (disch:=omega) only [push_cast,seval,h1,h2])))
  all_goals simp


theorem Cpz {mem:List Int}{b:Int}{sh st:List Int}(h:seeB mem b sh st=true):okV b sh st∧st.length=sh.length∧good4 sh∧0≤pr sh∧pr sh≤60∧mem.length≤60:=by
 obtain ⟨h1,h2,h3⟩:=D2z.1 h
 obtain ⟨hok,hl⟩:=Dsz h2
 have hs:=Cbz (Cmz.1 h2).1
 exact ⟨hok,hl,hs.1,hs.2.1,hs.2.2,(Cnz.1 h1).1⟩


theorem I7z (mem:List Int)(b:Int)(sh st:List Int)(q n m:Nat)(hq:mem.length=q)(hn:sh.length=n)(hm:st.length=m)(hb:seeB mem b sh st=true):BCall Tryz.prog 61 [.rows false (IL mem) q,.agg [.int .i64 b,.rows false (IL sh) n,.rows false (IL st) m]] [] (OI (takesL mem (offs b sh st))):=by
 subst hq hn hm
 obtain ⟨f1,f2,f3,f4,f5,f6⟩:=Cpz hb
 have hat:=fun k hk=>Jmz (k:=k) hb hk
 have hol:=Bdz b sh st
 generalize hL:offs b sh st=L at *
 refine Avz (pins:=[]) (pin:=0) l61_eq rfl rfl rfl ?_
 (repeat' ((first
 | (first|refine Afz ?_|refine Abz ?_)
 | (first|refine Agz ?_)
 | (first|refine Ajz false ?_)
 | (first|(refine Aiz (Diz _ _ _ _ _ ?_ ?_ ?_) ?_;(iterate 3 (exact sd));rintro _ _ ⟨rfl,rfl⟩))
 | (refine Adz ⟨.inr rfl,[128],[],_,by decide,rfl,?_⟩;(try simp (disch:=omega) only [push_cast,seval,↓Ahz,↓Aez,↓List.map_cons,↓List.map_nil,hL]);(first|done|(show AV.own _ _ _=_∧_)))
 | (refine Adz ⟨.inr rfl,[160],[],_,by decide,rfl,?_⟩;(try simp (disch:=omega) only [push_cast,seval,↓Ahz,↓Aez,↓List.map_cons,↓List.map_nil,hL]);(first|done|(show AV.own _ _ _=_∧_)))
 | (refine Adz ⟨.inr rfl,[400],[],_,by decide,rfl,?_⟩;(try simp (disch:=omega) only [push_cast,seval,↓Ahz,↓Aez,↓List.map_cons,↓List.map_nil,hL]);(first|done|(show AV.own _ _ _=_∧_)))
 | (refine Adz ⟨.inr rfl,[416],[],_,by decide,rfl,?_⟩;(try simp (disch:=omega) only [push_cast,seval,↓Ahz,↓Aez,↓List.map_cons,↓List.map_nil,hL]);(first|done|(show AV.own _ _ _=_∧_))))<;>(try simp (disch:=omega) only [push_cast,seval,hL])))
 refine A5z (fun k:Nat=>mkS [(0,RI mem),(5,.own 128 k 1),(6,.own 160 L.length 1),(7,.int .i64 k)] [(128,IL (takesL mem (L.take k))),(160,IL L)])
  (fun k=>k≤L.length) (fun k=>L.length-k) 0 (Nat.zero_le _) ?_ ?_
 ·have e0:takesL mem []=[]:=rfl
  (refine Sub.of_lists ?_ ?_ ?_ ?_ ?_<;>simp [Vw.mkS,Vw.lk,Vw.hk,AV.inn,innL,Apz,Anz,Asz,-List.map_set,-List.getD_eq_getElem?_getD,e0])
 ·intro k hk
  have e1:(takesL mem (L.take k)).length=k:=by rw [takesL_length];simp;omega
  by_cases hlt:k<L.length
  ·obtain ⟨h1,h2⟩:=hat k hlt
   have e2:takesL mem (L.take (k+1))=takesL mem (L.take k)++[mem.getD (L.getD k 0).toNat 0]:=by rw [B1z L k hlt];simp [takesL]
   (repeat' (first
 | (first|refine Afz ?_|refine Abz ?_)
 | ((first|refine Agz ?_|refine Acz ?_|refine Amz ?_);simp (disch:=omega) only [push_cast,seval,e1])
 | ((first|refine Alz (fun h=>?_) (fun h=>?_))<;>(try simp only [h])<;>(try simp only [bitvec_to_nat] at h)<;>(try simp only [h])<;>(first|(exfalso;omega)|(exfalso;simp_all;done)|(simp (disch:=omega) only [push_cast,seval,e1])|skip))
 | (refine Adz ⟨.inr rfl,[128],[],_,by decide,rfl,?_⟩;(try simp (disch:=omega) only [push_cast,seval,↓Ahz,↓Aez,↓List.map_cons,↓List.map_nil,e1]))))
   refine ⟨k+1,by omega,by omega,?_⟩
   (refine Sub.of_lists ?_ ?_ ?_ ?_ ?_<;>simp [Vw.mkS,Vw.lk,Vw.hk,AV.inn,innL,Apz,Anz,Asz,-List.map_set,-List.getD_eq_getElem?_getD,e2])
  ·have:k=L.length:=by omega
   subst this
   rw [List.take_length] at e1
   rw [List.take_length]
   (repeat' (first
 | (first|refine Afz ?_|refine Abz ?_)
 | ((first|refine Agz ?_|refine Acz ?_|refine Azz ?_);simp (disch:=omega) only [push_cast,seval,e1])
 | ((first|refine Alz (fun h=>?_) (fun h=>?_))<;>(try simp only [h])<;>(try simp only [bitvec_to_nat] at h)<;>(try simp only [h])<;>(first|(exfalso;omega)|(exfalso;simp_all;done)|(simp (disch:=omega) only [push_cast,seval,e1])|skip))
 | (refine Adz ⟨.inr rfl,[128],[],_,by decide,rfl,?_⟩;(try simp (disch:=omega) only [push_cast,seval,↓Ahz,↓Aez,↓List.map_cons,↓List.map_nil,e1]))))
   all_goals simp [OI,e1]


theorem sput_ok (mem:List Int)(b:Int)(sh st vals:List Int)(q n m v:Nat)(hq:mem.length=q)(hn:sh.length=n)(hm:st.length=m)(hv:vals.length=v)(hb:seeB mem b sh st=true∧(v:Int)=pr sh):BCall Tryz.prog 142 [.rows false (IL mem) q,.agg [.int .i64 b,.rows false (IL sh) n,.rows false (IL st) m],.rows false (IL vals) v] [] (OI (putL mem (offs b sh st) vals)):=by
 subst hq hn hm hv
 obtain ⟨hb,hvp⟩:=hb
 obtain ⟨f1,f2,f3,f4,f5,f6⟩:=Cpz hb
 have hat:=fun k hk=>Jmz (k:=k) hb hk
 have hol:=Bdz b sh st
 have hvl:vals.length=(offs b sh st).length:=by omega
 generalize hL:offs b sh st=L at *
 have hpl:mem.length≤1099511627776:=by omega
 refine Avz (pins:=[]) (pin:=0) l142_eq rfl rfl rfl ?_
 (repeat' ((first
 | (first|refine Afz ?_|refine Abz ?_)
 | (first|refine Agz ?_)
 | (first|refine Ajz false ?_)
 | (first|(refine Aiz (Foz _ _ ?_ ?_) ?_;(iterate 2 (exact sd));rintro _ _ ⟨rfl,rfl⟩)|(refine Aiz (Diz _ _ _ _ _ ?_ ?_ ?_) ?_;(iterate 3 (exact sd));rintro _ _ ⟨rfl,rfl⟩))
 | (refine Adz ⟨.inr rfl,[176],[],_,by decide,rfl,?_⟩;(try simp (disch:=omega) only [push_cast,seval,↓Ahz,↓Aez,↓List.map_cons,↓List.map_nil,hL]);(first|done|(show AV.own _ _ _=_∧_)))
 | (refine Adz ⟨.inr rfl,[208],[],_,by decide,rfl,?_⟩;(try simp (disch:=omega) only [push_cast,seval,↓Ahz,↓Aez,↓List.map_cons,↓List.map_nil,hL]);(first|done|(show AV.own _ _ _=_∧_))))<;>(try simp (disch:=omega) only [push_cast,seval,hL])))
 refine A5z (fun k:Nat=>mkS [(2,RI vals),(7,.own 176 mem.length 1),(8,.own 208 L.length 1),(9,.int .i64 k)] [(176,IL (putK mem L vals k)),(208,IL L)])
  (fun k=>k≤L.length) (fun k=>L.length-k) 0 (Nat.zero_le _) ?_ ?_
 ·have e0:putK mem L vals 0=mem:=rfl
  (refine Sub.of_lists ?_ ?_ ?_ ?_ ?_<;>simp [Vw.mkS,Vw.lk,Vw.hk,AV.inn,innL,Apz,Anz,Asz,-List.map_set,-List.getD_eq_getElem?_getD,e0])
 ·intro k hk
  have e1:=D4z mem L vals k
  by_cases hlt:k<L.length
  ·obtain ⟨h1,h2⟩:=hat k hlt
   have h3:(L.getD k 0).toNat<mem.length:=by omega
   have h4:k<vals.length:=by omega
   have e2:putK mem L vals (k+1)=(putK mem L vals k).set (L.getD k 0).toNat (vals.getD k 0):=rfl
   generalize putK mem L vals k=p at *
   (repeat' (first
 | (first|refine Afz ?_|refine Abz ?_)
 | ((first|refine Agz ?_|refine Arz (mid:=l142r5a) (post:=l142r5b) mixed (by decide) ?_|refine Acz ?_|refine Amz ?_);simp (disch:=omega) only [push_cast,seval,e1])
 | ((first|refine Alz (fun h=>?_) (fun h=>?_))<;>(try simp only [h])<;>(try simp only [bitvec_to_nat] at h)<;>(try simp only [h])<;>(first|(exfalso;omega)|(exfalso;simp_all;done)|(simp (disch:=omega) only [push_cast,seval,e1])|skip))
 | (refine Adz ⟨.inr rfl,[176],[],_,by decide,rfl,?_⟩;(try simp (disch:=omega) only [push_cast,seval,↓Ahz,↓Aez,↓List.map_cons,↓List.map_nil,e1]))))
   refine ⟨k+1,by omega,by omega,?_⟩
   (refine Sub.of_lists ?_ ?_ ?_ ?_ ?_<;>simp [Vw.mkS,Vw.lk,Vw.hk,AV.inn,innL,Apz,Anz,Asz,-List.map_set,-List.getD_eq_getElem?_getD,e2,A2z])
  ·have hke:k=L.length:=by omega
   have e3:putK mem L vals k=putL mem L vals:=by rw [hke];rfl
   rw [e3] at e1
   rw [e3]
   (repeat' (first
 | (first|refine Afz ?_|refine Abz ?_)
 | ((first|refine Agz ?_|refine Acz ?_|refine Azz ?_);simp (disch:=omega) only [push_cast,seval,e1])
 | ((first|refine Alz (fun h=>?_) (fun h=>?_))<;>(try simp only [h])<;>(try simp only [bitvec_to_nat] at h)<;>(try simp only [h])<;>(first|(exfalso;omega)|(exfalso;simp_all;done)|(simp (disch:=omega) only [push_cast,seval,e1])|skip))
 | (refine Adz ⟨.inr rfl,[176],[],_,by decide,rfl,?_⟩;(try simp (disch:=omega) only [push_cast,seval,↓Ahz,↓Aez,↓List.map_cons,↓List.map_nil,e1]))))
   all_goals simp [OI,e1]

end Go.Proofs.YtfccepgibbdfaaaGreatDoor
