/- Texts of this verifier. -/
import Derived.Test.YtkpcjppnjmhanaaGreatDoorCB3
import Derived.Test.YtkpcjppnjmhanaaGreatDoorCM1
import Derived.Test.YtkpcjppnjmhanaaGreatDoorCW3
set_option maxHeartbeats 4000000
set_option linter.unusedSimpArgs false
set_option linter.unusedSectionVars false
set_option linter.unusedVariables false
set_option maxRecDepth 4000
namespace Go.Proofs.YtkpcjppnjmhanaaGreatDoor
open VwM Vw Go
variable [SentA]

theorem Bzz (b:Int) (sh st:List Int) (n m:Nat) (d:Int) (hn:sh.length=n) (hm:st.length=m) (hb:n ≤ 1099511627776 ∧ m ≤ 1099511627776):PCall Tryz.prog 114 [.agg [.int .i64 b,.rows false (IL sh) n,.rows false (IL st) m],.int .i64 d] (fun r=>r=.bool (vV b sh st && (decide (0 ≤ d) && decide (d ≤ (n:Int) - 1)))):=by
  subst hn hm
  obtain ⟨hb1,hb2⟩:=hb
  refine Awz l114_eq rfl ?_
  cases hv:vV b sh st with
  | false =>
    (repeat' (first
 | (first|refine Ahz ?_|refine Abz ?_)
 | ((first|refine Aiz ?_);simp (disch:=omega) only [push_cast,seval,l114r0,l114r1,hv])
 | ((first|refine Alz false ?_);simp (disch:=omega) only [push_cast,seval,hv])
 | ((first|((first|refine Akz (Ajz (Ayz _ _ _ _ _ ?_ ?_ ?_)) ?_|refine Agz (Ajz (Ayz _ _ _ _ _ ?_ ?_ ?_)) ⟨_,_,rfl,rfl⟩ ?_);(iterate 3 (exact sd));rintro _ _ ⟨rfl,rfl⟩))<;>(try simp (disch:=omega) only [push_cast,seval,hv]))
 | (refine Aez ⟨.inr rfl,_,rfl,?_⟩;(try simp (disch:=omega) only [push_cast,seval,hv]))))
    all_goals (try simp)
  | true =>
    (repeat' (first
 | (first|refine Ahz ?_|refine Abz ?_)
 | ((first|refine Aiz ?_);simp (disch:=omega) only [push_cast,seval,l114r0,l114r1,hv])
 | ((first|refine Alz false ?_);simp (disch:=omega) only [push_cast,seval,hv])
 | ((first|((first|refine Akz (Ajz (Ayz _ _ _ _ _ ?_ ?_ ?_)) ?_|refine Agz (Ajz (Ayz _ _ _ _ _ ?_ ?_ ?_)) ⟨_,_,rfl,rfl⟩ ?_);(iterate 3 (exact sd));rintro _ _ ⟨rfl,rfl⟩)|((first|refine Akz (Ajz (B5z _ _)) ?_|refine Agz (Ajz (B5z _ _)) ⟨_,_,rfl,rfl⟩ ?_);rintro _ _ ⟨rfl,rfl⟩))<;>(try simp (disch:=omega) only [push_cast,seval,hv]))
 | (refine Aez ⟨.inr rfl,_,rfl,?_⟩;(try simp (disch:=omega) only [push_cast,seval,hv]))))
    all_goals (try simp)


theorem D4z (e s:Int):PCall Tryz.prog 118 [.int .i64 e,.int .i64 s] (fun r=>r=.agg [.int .i64 e,.int .i64 (dmS e s)]):=by
  refine Awz l118_eq rfl ?_
  unfold dmS
  by_cases h:e < 2
  · rw [if_pos h]
    (repeat' (first
 | (first|refine Ahz ?_|refine Abz ?_)
 | ((first|refine Aiz ?_|refine Adz ?_);simp (disch:=omega) only [push_cast,seval,l118r0,l118r1,l118r2,l118r3,h])
 | (refine Aez ⟨.inr rfl,_,rfl,?_⟩;(try simp (disch:=omega) only [push_cast,seval,h]))))
  · rw [if_neg h]
    (repeat' (first
 | (first|refine Ahz ?_|refine Abz ?_)
 | ((first|refine Aiz ?_|refine Adz ?_|refine Aoz ?_);simp (disch:=omega) only [push_cast,seval,l118r0,l118r1,l118r2,l118r3,h])
 | (refine Aez ⟨.inr rfl,_,rfl,?_⟩;(try simp (disch:=omega) only [push_cast,seval,h]))))


set_option maxHeartbeats 8000000 in
theorem Cvz (b:Int) (sh st:List Int) (p0 p1 p2 p3:Int) (D E:List Int) (n m k:Nat) (hm:st.length=m) (hk:E.length=D.length ∧ D.length=k) (hb:((m ≤ 4 ∧ (-1000000 ≤ b ∧ b ≤ 1000000) ∧ ∀ i,i < m → (-60 ≤ at4 p0 p1 p2 p3 i ∧ at4 p0 p1 p2 p3 i ≤ 60) ∧ -12960000 ≤ st.getD i 0 ∧ st.getD i 0 ≤ 12960000) ∧ k ≤ 1000) ∧ good4 D) :
    BCall Tryz.prog 120 [.agg [.int .i64 b,.rows false (IL sh) n,.rows false (IL st) m,.int .i64 p0,.int .i64 p1,.int .i64 p2,.int .i64 p3,.rows false (IL (dm D E)) k]] [] (OV (stB D (b + dot (at4 p0 p1 p2 p3) st m)) D (stE D E)):=by
  subst hm
  obtain ⟨hk1,hk2⟩:=hk
  subst hk2
  obtain ⟨hb,hg⟩:=hb
  have hg4:=hg.2
  refine Axz (pins:=[]) (pin:=0) l120_eq rfl rfl rfl ?_
  have hkk:E.length=D.length ∧ D.length=D.length:=⟨hk1,rfl⟩
  unfold stB stE
  by_cases hz:pr D=0
  · rw [if_pos hz,if_pos hz]
    (repeat' (first
 | (first|refine Ahz ?_|refine Abz ?_)
 | ((first|refine Aiz ?_|refine Buz (mid:=l120r3a) (post:=l120r3b) [48,1000000009,1000000010,1000000013] mixed (by decide) ?_|refine Adz ?_);simp (disch:=omega) only [push_cast,seval,l120r0,l120r1,l120r2,l120r3a,l120r3b,l120r3,l120r4,hz,List.length_replicate])
 | ((first|refine Alz false ?_);simp (disch:=omega) only [push_cast,seval,hz,List.length_replicate])
 | ((first|((first|refine Akz (D0z _ _ _ _ _ _ _ _ _ _ _ _ ?_ ?_ ?_) ?_|refine Agz (D0z _ _ _ _ _ _ _ _ _ _ _ _ ?_ ?_ ?_) ⟨_,_,rfl,rfl⟩ ?_);(iterate 3 (exact sd));rintro _ _ ⟨rfl,rfl⟩)|((first|refine Akz (Ajz (Bxz _ _ _ _ _ _ ?_ ?_)) ?_|refine Agz (Ajz (Bxz _ _ _ _ _ _ ?_ ?_)) ⟨_,_,rfl,rfl⟩ ?_);(iterate 2 (exact sd));rintro _ _ ⟨rfl,rfl⟩))<;>(try simp (disch:=omega) only [push_cast,seval,hz,List.length_replicate]))
 | (refine Aez ⟨.inr rfl,[80,192],[],_,by decide,rfl,?_⟩;(try simp (disch:=omega) only [push_cast,seval,↓Afz,↓Acz,↓List.map_cons,↓List.map_nil,hz,List.length_replicate]))))
    all_goals simp [OV]
  · rw [if_neg hz,if_neg hz]
    (repeat' (first
 | (first|refine Ahz ?_|refine Abz ?_)
 | ((first|refine Aiz ?_|refine Adz ?_|refine Aoz ?_);simp (disch:=omega) only [push_cast,seval,l120r0,l120r1,l120r2,l120r3a,l120r3b,l120r3,l120r4,hz])
 | ((first|refine Alz false ?_);simp (disch:=omega) only [push_cast,seval,hz])
 | ((first|((first|refine Akz (D0z _ _ _ _ _ _ _ _ _ _ _ _ ?_ ?_ ?_) ?_|refine Agz (D0z _ _ _ _ _ _ _ _ _ _ _ _ ?_ ?_ ?_) ⟨_,_,rfl,rfl⟩ ?_);(iterate 3 (exact sd));rintro _ _ ⟨rfl,rfl⟩)|((first|refine Akz (Ajz (Bxz _ _ _ _ _ _ ?_ ?_)) ?_|refine Agz (Ajz (Bxz _ _ _ _ _ _ ?_ ?_)) ⟨_,_,rfl,rfl⟩ ?_);(iterate 2 (exact sd));rintro _ _ ⟨rfl,rfl⟩))<;>(try simp (disch:=omega) only [push_cast,seval,hz]))
 | (refine Aez ⟨.inr rfl,[80,81],[],_,by decide,rfl,?_⟩;(try simp (disch:=omega) only [push_cast,seval,↓Afz,↓Acz,↓List.map_cons,↓List.map_nil,hz]))))
    all_goals simp [OV]


set_option maxHeartbeats 16000000 in
theorem D2z (b:Int) (sh st:List Int) (n m:Nat) (d:Int) (f t w:Int) (hf ht:Bool) (hn:sh.length=n) (hm:st.length=m) (hb:n ≤ 1099511627776 ∧ m ≤ 1099511627776) :
    BCall Tryz.prog 76 [.agg [.int .i64 b,.rows false (IL sh) n,.rows false (IL st) m],.int .i64 d,slc f t w hf ht] [] (MV (sdOk b sh st d f t w hf ht) (cutB b sh st d.toNat f t w hf ht) (cutSh sh d.toNat f t w hf ht) (cutSt sh st d.toNat f t w hf ht)):=by
  subst hn hm
  obtain ⟨hb1,hb2⟩:=hb
  refine Axz (pins:=[]) (pin:=0) l76_eq rfl rfl rfl ?_
  cases hv:vV b sh st with
  | false =>
    have e:sdOk b sh st d f t w hf ht=false:=by simp [sdOk,hv]
    rw [e]
    (repeat' (first
 | (first|refine Ahz ?_|refine Abz ?_)
 | ((first|refine Aiz ?_|refine Adz ?_);simp (disch:=omega) only [push_cast,seval,l76r0,l76r1,l76r2,l76r3a,l76r3b,l76r3,l76r4,l76r5,l76r6a,l76r6b,l76r6,l76r7,hv])
 | ((first|refine Alz false ?_);simp (disch:=omega) only [push_cast,seval,hv])
 | ((first|((first|refine Akz (Ajz (Bzz _ _ _ _ _ _ ?_ ?_ ?_)) ?_|refine Agz (Ajz (Bzz _ _ _ _ _ _ ?_ ?_ ?_)) ⟨_,_,rfl,rfl⟩ ?_);(iterate 3 (exact sd));rintro _ _ ⟨rfl,rfl⟩))<;>(try simp (disch:=omega) only [push_cast,seval,hv]))
 | (refine Aez ⟨.inr rfl,[16000,16016],[(16000,1),(16016,1)],_,by decide,rfl,?_⟩;(try simp (disch:=omega) only [push_cast,seval,↓Afz,↓Acz,↓List.map_cons,↓List.map_nil,hv]))))
    all_goals simp [MV,MVB,MVL]
  | true =>
  by_cases hd:0 ≤ d ∧ d ≤ (sh.length:Int) - 1
  · cases hs:vS f t w hf ht with
    | false =>
      have e:sdOk b sh st d f t w hf ht=false:=by simp [sdOk,hs]
      have hd':=Lcz hd
      rw [e]
      (repeat' (first
 | (first|refine Ahz ?_|refine Abz ?_)
 | ((first|refine Aiz ?_|refine Adz ?_);simp (disch:=omega) only [push_cast,seval,l76r0,l76r1,l76r2,l76r3a,l76r3b,l76r3,l76r4,l76r5,l76r6a,l76r6b,l76r6,l76r7,hv,hd',hs])
 | ((first|refine Alz false ?_);simp (disch:=omega) only [push_cast,seval,hv,hd',hs])
 | ((first|((first|refine Akz (Ajz (Bzz _ _ _ _ _ _ ?_ ?_ ?_)) ?_|refine Agz (Ajz (Bzz _ _ _ _ _ _ ?_ ?_ ?_)) ⟨_,_,rfl,rfl⟩ ?_);(iterate 3 (exact sd));rintro _ _ ⟨rfl,rfl⟩)|((first|refine Akz (Ajz (Biz _ _ _ _ _)) ?_|refine Agz (Ajz (Biz _ _ _ _ _)) ⟨_,_,rfl,rfl⟩ ?_);rintro _ _ ⟨rfl,rfl⟩))<;>(try simp (disch:=omega) only [push_cast,seval,hv,hd',hs]))
 | (refine Aez ⟨.inr rfl,[16000,16016],[(16000,1),(16016,1)],_,by decide,rfl,?_⟩;(try simp (disch:=omega) only [push_cast,seval,↓Afz,↓Acz,↓List.map_cons,↓List.map_nil,hv,hd',hs]))))
      all_goals simp [MV,MVB,MVL]
    | true =>
      have hd':=Lcz hd
      obtain ⟨j,rfl⟩:∃ j:Nat,d=j:=⟨d.toNat,by omega⟩
      have hj:j < sh.length:=by omega
      have e:sdOk b sh st j f t w hf ht=true:=by simp only [sdOk,hv,hs,hd',Int.toNat_natCast,Bool.true_and,vV_cut hv hj hs]
      rw [e]
      simp only [Int.toNat_natCast]
      obtain ⟨hok,hlen⟩:=Cjz hv
      have hl4:=hok.1.1.2
      have hn6:=Cyz hok.1.1 hj
      have hq1:st.length=sh.length ∧ sh.length ≤ 1000:=by omega
      have hvr:=F2z (f:=f) (t:=t) (b:=w) (hf:=hf) (ht:=ht) hn6 hs
      have hc:=cutK_cast hn6 hs
      have hst6:=Khz (Chz.1 hv).2.1 hj
      have hw6:=(Hwz.1 hs).2.2.1
      have hmb:=mul_bd (x:=st.getD j 0) (y:=w) (p:=60) (q:=200) (by omega) (by omega)
      have hcl:=Ftz (sh:=sh) (st:=st) hlen j f t w hf ht
      have hk60:=Mdz hn6 hs
      unfold cutSh
      rcases (by omega:j=0 ∨ j=1 ∨ j=2 ∨ j=3) with rfl|rfl|rfl|rfl
      · rw [show ((0:Nat):Int)=0 from rfl] at hd' ⊢
        obtain ⟨k1,k2,k3,k4⟩:=E6z hv hj hs (at4_0 _)
        have kb:=And.intro (And.intro k1 (show sh.length ≤ 1000 by omega)) k2
        generalize cutB b sh st 0 f t w hf ht=cB at *
        generalize cutSt sh st 0 f t w hf ht=cS at *
        generalize hSF:sFrom f (sh.getD 0 0) w hf=sF at *
        generalize hST:sTo t (sh.getD 0 0) w ht=sT at *
        generalize hKK:cutK (sh.getD 0 0) f t w hf ht=K at *
        have hkk:(st.set 0 (dmS K (st.getD 0 0 * w))).length=(sh.set 0 (K:Int)).length ∧ (sh.set 0 (K:Int)).length=sh.length:=by simp;omega
        have hj0:0 < sh.length:=hj
        have hj2:0 < st.length:=by omega
        have ds:=dm_set (sh:=sh) (st:=st) (k:=0) (K:Int) (dmS K (st.getD 0 0 * w)) hj hlen
        rw [show 0 * 2=0 from rfl] at ds
        have hdl:=Clz (sh:=sh) (st:=st) hlen
        have k5:(stE (sh.set 0 (K:Int)) (st.set 0 (dmS K (st.getD 0 0 * w)))).length ≤ 4:=by rw [k4];omega
        clear hcl
        have hdl2:(dm (sh.set 0 (K:Int)) (st.set 0 (dmS K (st.getD 0 0 * w)))).length=sh.length * 2:=by rw [Clz (by simp;omega)];simp
        generalize hXX:dmS K (st.getD 0 0 * w)=XX at *
        (repeat' (first
 | (first|refine Ahz ?_|refine Abz ?_)
 | ((first|refine Aiz ?_|refine Auz (mid:=l76r3a) (post:=l76r3b) mixed (by decide) ?_|refine Auz (mid:=l76r6a) (post:=l76r6b) mixed (by decide) ?_|refine Adz ?_|refine Aoz ?_);simp (disch:=omega) only [push_cast,seval,l76r0,l76r1,l76r2,l76r3a,l76r3b,l76r3,l76r4,l76r5,l76r6a,l76r6b,l76r6,l76r7,hv,hd',hs,hSF,hST,hc,hdl,hdl2,A8z,A5z,ds,hXX,k3,k4])
 | ((first|refine Bbz (fun h=>?_) (fun h=>?_))<;>(try simp only [h])<;>(try simp only [bitvec_to_nat] at h)<;>(try simp only [h])<;>(first|(exfalso;omega)|(exfalso;simp_all;done)|(simp (disch:=omega) only [push_cast,seval,hv,hd',hs,hSF,hST,hc,hdl,hdl2,A8z,A5z,ds,hXX,k3,k4])|skip))
 | ((first|((with_reducible refine Alz (f:=117) true ?_);simp (disch:=omega) only [push_cast,seval,hv,hd',hs,hSF,hST,hc,hdl,hdl2,A8z,A5z,ds,hXX,k3,k4];(refine Akz (Fwz _ _ _ _ _ ?_ ?_ ?_) ?_;(iterate 3 (exact sd));rintro _ _ ⟨rfl,rfl⟩)))<;>(try simp (disch:=omega) only [push_cast,seval,hv,hd',hs,hSF,hST,hc,hdl,hdl2,A8z,A5z,ds,hXX,k3,k4]))
 | ((first|refine Alz false ?_|refine A0z false ?_);simp (disch:=omega) only [push_cast,seval,hv,hd',hs,hSF,hST,hc,hdl,hdl2,A8z,A5z,ds,hXX,k3,k4])
 | ((first|((first|refine Akz (Ajz (Bzz _ _ _ _ _ _ ?_ ?_ ?_)) ?_|refine Agz (Ajz (Bzz _ _ _ _ _ _ ?_ ?_ ?_)) ⟨_,_,rfl,rfl⟩ ?_);(iterate 3 (exact sd));rintro _ _ ⟨rfl,rfl⟩)|((first|refine Akz (Ajz (Biz _ _ _ _ _)) ?_|refine Agz (Ajz (Biz _ _ _ _ _)) ⟨_,_,rfl,rfl⟩ ?_);rintro _ _ ⟨rfl,rfl⟩)|((first|refine Akz (Ajz (Fgz _ _ _ _ _ _ ?_ ?_)) ?_|refine Agz (Ajz (Fgz _ _ _ _ _ _ ?_ ?_)) ⟨_,_,rfl,rfl⟩ ?_);(iterate 2 (exact sd));rintro _ _ ⟨rfl,rfl⟩)|((first|refine Akz (Ajz (D5z _ _ _ ?_)) ?_|refine Agz (Ajz (D5z _ _ _ ?_)) ⟨_,_,rfl,rfl⟩ ?_);(exact sd);rintro _ _ ⟨rfl,rfl⟩)|((first|refine Akz (Ajz (D4z _ _)) ?_|refine Agz (Ajz (D4z _ _)) ⟨_,_,rfl,rfl⟩ ?_);rintro _ _ ⟨rfl,rfl⟩)|((first|refine Akz (Cvz _ _ _ _ _ _ _ _ _ _ _ _ ?_ ?_ ?_) ?_|refine Agz (Cvz _ _ _ _ _ _ _ _ _ _ _ _ ?_ ?_ ?_) ⟨_,_,rfl,rfl⟩ ?_);(iterate 3 (exact sd));rintro _ _ ⟨rfl,rfl⟩))<;>(try simp (disch:=omega) only [push_cast,seval,hv,hd',hs,hSF,hST,hc,hdl,hdl2,A8z,A5z,ds,hXX,k3,k4]))
 | (refine Aez ⟨.inr rfl,[800,801],[],_,by decide,rfl,?_⟩;(try simp (disch:=omega) only [push_cast,seval,↓Afz,↓Acz,↓List.map_cons,↓List.map_nil,hv,hd',hs,hSF,hST,hc,hdl,hdl2,A8z,A5z,ds,hXX,k3,k4]))))
        all_goals exact ⟨rfl,rfl⟩
      · rw [show ((1:Nat):Int)=1 from rfl] at hd' ⊢
        obtain ⟨k1,k2,k3,k4⟩:=E6z hv hj hs (at4_1 _)
        have kb:=And.intro (And.intro k1 (show sh.length ≤ 1000 by omega)) k2
        generalize cutB b sh st 1 f t w hf ht=cB at *
        generalize cutSt sh st 1 f t w hf ht=cS at *
        generalize hSF:sFrom f (sh.getD 1 0) w hf=sF at *
        generalize hST:sTo t (sh.getD 1 0) w ht=sT at *
        generalize hKK:cutK (sh.getD 1 0) f t w hf ht=K at *
        have hkk:(st.set 1 (dmS K (st.getD 1 0 * w))).length=(sh.set 1 (K:Int)).length ∧ (sh.set 1 (K:Int)).length=sh.length:=by simp;omega
        have hj0:1 < sh.length:=hj
        have hj2:1 < st.length:=by omega
        have ds:=dm_set (sh:=sh) (st:=st) (k:=1) (K:Int) (dmS K (st.getD 1 0 * w)) hj hlen
        rw [show 1 * 2=2 from rfl] at ds
        have hdl:=Clz (sh:=sh) (st:=st) hlen
        have k5:(stE (sh.set 1 (K:Int)) (st.set 1 (dmS K (st.getD 1 0 * w)))).length ≤ 4:=by rw [k4];omega
        clear hcl
        have hdl2:(dm (sh.set 1 (K:Int)) (st.set 1 (dmS K (st.getD 1 0 * w)))).length=sh.length * 2:=by rw [Clz (by simp;omega)];simp
        generalize hXX:dmS K (st.getD 1 0 * w)=XX at *
        (repeat' (first
 | (first|refine Ahz ?_|refine Abz ?_)
 | ((first|refine Aiz ?_|refine Auz (mid:=l76r3a) (post:=l76r3b) mixed (by decide) ?_|refine Auz (mid:=l76r6a) (post:=l76r6b) mixed (by decide) ?_|refine Adz ?_|refine Aoz ?_);simp (disch:=omega) only [push_cast,seval,l76r0,l76r1,l76r2,l76r3a,l76r3b,l76r3,l76r4,l76r5,l76r6a,l76r6b,l76r6,l76r7,hv,hd',hs,hSF,hST,hc,hdl,hdl2,A8z,A5z,ds,hXX,k3,k4])
 | ((first|refine Bbz (fun h=>?_) (fun h=>?_))<;>(try simp only [h])<;>(try simp only [bitvec_to_nat] at h)<;>(try simp only [h])<;>(first|(exfalso;omega)|(exfalso;simp_all;done)|(simp (disch:=omega) only [push_cast,seval,hv,hd',hs,hSF,hST,hc,hdl,hdl2,A8z,A5z,ds,hXX,k3,k4])|skip))
 | ((first|((with_reducible refine Alz (f:=117) true ?_);simp (disch:=omega) only [push_cast,seval,hv,hd',hs,hSF,hST,hc,hdl,hdl2,A8z,A5z,ds,hXX,k3,k4];(refine Akz (Fwz _ _ _ _ _ ?_ ?_ ?_) ?_;(iterate 3 (exact sd));rintro _ _ ⟨rfl,rfl⟩)))<;>(try simp (disch:=omega) only [push_cast,seval,hv,hd',hs,hSF,hST,hc,hdl,hdl2,A8z,A5z,ds,hXX,k3,k4]))
 | ((first|refine Alz false ?_|refine A0z false ?_);simp (disch:=omega) only [push_cast,seval,hv,hd',hs,hSF,hST,hc,hdl,hdl2,A8z,A5z,ds,hXX,k3,k4])
 | ((first|((first|refine Akz (Ajz (Bzz _ _ _ _ _ _ ?_ ?_ ?_)) ?_|refine Agz (Ajz (Bzz _ _ _ _ _ _ ?_ ?_ ?_)) ⟨_,_,rfl,rfl⟩ ?_);(iterate 3 (exact sd));rintro _ _ ⟨rfl,rfl⟩)|((first|refine Akz (Ajz (Biz _ _ _ _ _)) ?_|refine Agz (Ajz (Biz _ _ _ _ _)) ⟨_,_,rfl,rfl⟩ ?_);rintro _ _ ⟨rfl,rfl⟩)|((first|refine Akz (Ajz (Fgz _ _ _ _ _ _ ?_ ?_)) ?_|refine Agz (Ajz (Fgz _ _ _ _ _ _ ?_ ?_)) ⟨_,_,rfl,rfl⟩ ?_);(iterate 2 (exact sd));rintro _ _ ⟨rfl,rfl⟩)|((first|refine Akz (Ajz (D5z _ _ _ ?_)) ?_|refine Agz (Ajz (D5z _ _ _ ?_)) ⟨_,_,rfl,rfl⟩ ?_);(exact sd);rintro _ _ ⟨rfl,rfl⟩)|((first|refine Akz (Ajz (D4z _ _)) ?_|refine Agz (Ajz (D4z _ _)) ⟨_,_,rfl,rfl⟩ ?_);rintro _ _ ⟨rfl,rfl⟩)|((first|refine Akz (Cvz _ _ _ _ _ _ _ _ _ _ _ _ ?_ ?_ ?_) ?_|refine Agz (Cvz _ _ _ _ _ _ _ _ _ _ _ _ ?_ ?_ ?_) ⟨_,_,rfl,rfl⟩ ?_);(iterate 3 (exact sd));rintro _ _ ⟨rfl,rfl⟩))<;>(try simp (disch:=omega) only [push_cast,seval,hv,hd',hs,hSF,hST,hc,hdl,hdl2,A8z,A5z,ds,hXX,k3,k4]))
 | (refine Aez ⟨.inr rfl,[800,801],[],_,by decide,rfl,?_⟩;(try simp (disch:=omega) only [push_cast,seval,↓Afz,↓Acz,↓List.map_cons,↓List.map_nil,hv,hd',hs,hSF,hST,hc,hdl,hdl2,A8z,A5z,ds,hXX,k3,k4]))))
        all_goals exact ⟨rfl,rfl⟩
      · rw [show ((2:Nat):Int)=2 from rfl] at hd' ⊢
        obtain ⟨k1,k2,k3,k4⟩:=E6z hv hj hs (at4_2 _)
        have kb:=And.intro (And.intro k1 (show sh.length ≤ 1000 by omega)) k2
        generalize cutB b sh st 2 f t w hf ht=cB at *
        generalize cutSt sh st 2 f t w hf ht=cS at *
        generalize hSF:sFrom f (sh.getD 2 0) w hf=sF at *
        generalize hST:sTo t (sh.getD 2 0) w ht=sT at *
        generalize hKK:cutK (sh.getD 2 0) f t w hf ht=K at *
        have hkk:(st.set 2 (dmS K (st.getD 2 0 * w))).length=(sh.set 2 (K:Int)).length ∧ (sh.set 2 (K:Int)).length=sh.length:=by simp;omega
        have hj0:2 < sh.length:=hj
        have hj2:2 < st.length:=by omega
        have ds:=dm_set (sh:=sh) (st:=st) (k:=2) (K:Int) (dmS K (st.getD 2 0 * w)) hj hlen
        rw [show 2 * 2=4 from rfl] at ds
        have hdl:=Clz (sh:=sh) (st:=st) hlen
        have k5:(stE (sh.set 2 (K:Int)) (st.set 2 (dmS K (st.getD 2 0 * w)))).length ≤ 4:=by rw [k4];omega
        clear hcl
        have hdl2:(dm (sh.set 2 (K:Int)) (st.set 2 (dmS K (st.getD 2 0 * w)))).length=sh.length * 2:=by rw [Clz (by simp;omega)];simp
        generalize hXX:dmS K (st.getD 2 0 * w)=XX at *
        (repeat' (first
 | (first|refine Ahz ?_|refine Abz ?_)
 | ((first|refine Aiz ?_|refine Auz (mid:=l76r3a) (post:=l76r3b) mixed (by decide) ?_|refine Auz (mid:=l76r6a) (post:=l76r6b) mixed (by decide) ?_|refine Adz ?_|refine Aoz ?_);simp (disch:=omega) only [push_cast,seval,l76r0,l76r1,l76r2,l76r3a,l76r3b,l76r3,l76r4,l76r5,l76r6a,l76r6b,l76r6,l76r7,hv,hd',hs,hSF,hST,hc,hdl,hdl2,A8z,A5z,ds,hXX,k3,k4])
 | ((first|refine Bbz (fun h=>?_) (fun h=>?_))<;>(try simp only [h])<;>(try simp only [bitvec_to_nat] at h)<;>(try simp only [h])<;>(first|(exfalso;omega)|(exfalso;simp_all;done)|(simp (disch:=omega) only [push_cast,seval,hv,hd',hs,hSF,hST,hc,hdl,hdl2,A8z,A5z,ds,hXX,k3,k4])|skip))
 | ((first|((with_reducible refine Alz (f:=117) true ?_);simp (disch:=omega) only [push_cast,seval,hv,hd',hs,hSF,hST,hc,hdl,hdl2,A8z,A5z,ds,hXX,k3,k4];(refine Akz (Fwz _ _ _ _ _ ?_ ?_ ?_) ?_;(iterate 3 (exact sd));rintro _ _ ⟨rfl,rfl⟩)))<;>(try simp (disch:=omega) only [push_cast,seval,hv,hd',hs,hSF,hST,hc,hdl,hdl2,A8z,A5z,ds,hXX,k3,k4]))
 | ((first|refine Alz false ?_|refine A0z false ?_);simp (disch:=omega) only [push_cast,seval,hv,hd',hs,hSF,hST,hc,hdl,hdl2,A8z,A5z,ds,hXX,k3,k4])
 | ((first|((first|refine Akz (Ajz (Bzz _ _ _ _ _ _ ?_ ?_ ?_)) ?_|refine Agz (Ajz (Bzz _ _ _ _ _ _ ?_ ?_ ?_)) ⟨_,_,rfl,rfl⟩ ?_);(iterate 3 (exact sd));rintro _ _ ⟨rfl,rfl⟩)|((first|refine Akz (Ajz (Biz _ _ _ _ _)) ?_|refine Agz (Ajz (Biz _ _ _ _ _)) ⟨_,_,rfl,rfl⟩ ?_);rintro _ _ ⟨rfl,rfl⟩)|((first|refine Akz (Ajz (Fgz _ _ _ _ _ _ ?_ ?_)) ?_|refine Agz (Ajz (Fgz _ _ _ _ _ _ ?_ ?_)) ⟨_,_,rfl,rfl⟩ ?_);(iterate 2 (exact sd));rintro _ _ ⟨rfl,rfl⟩)|((first|refine Akz (Ajz (D5z _ _ _ ?_)) ?_|refine Agz (Ajz (D5z _ _ _ ?_)) ⟨_,_,rfl,rfl⟩ ?_);(exact sd);rintro _ _ ⟨rfl,rfl⟩)|((first|refine Akz (Ajz (D4z _ _)) ?_|refine Agz (Ajz (D4z _ _)) ⟨_,_,rfl,rfl⟩ ?_);rintro _ _ ⟨rfl,rfl⟩)|((first|refine Akz (Cvz _ _ _ _ _ _ _ _ _ _ _ _ ?_ ?_ ?_) ?_|refine Agz (Cvz _ _ _ _ _ _ _ _ _ _ _ _ ?_ ?_ ?_) ⟨_,_,rfl,rfl⟩ ?_);(iterate 3 (exact sd));rintro _ _ ⟨rfl,rfl⟩))<;>(try simp (disch:=omega) only [push_cast,seval,hv,hd',hs,hSF,hST,hc,hdl,hdl2,A8z,A5z,ds,hXX,k3,k4]))
 | (refine Aez ⟨.inr rfl,[800,801],[],_,by decide,rfl,?_⟩;(try simp (disch:=omega) only [push_cast,seval,↓Afz,↓Acz,↓List.map_cons,↓List.map_nil,hv,hd',hs,hSF,hST,hc,hdl,hdl2,A8z,A5z,ds,hXX,k3,k4]))))
        all_goals exact ⟨rfl,rfl⟩
      · rw [show ((3:Nat):Int)=3 from rfl] at hd' ⊢
        obtain ⟨k1,k2,k3,k4⟩:=E6z hv hj hs (at4_3 _)
        have kb:=And.intro (And.intro k1 (show sh.length ≤ 1000 by omega)) k2
        generalize cutB b sh st 3 f t w hf ht=cB at *
        generalize cutSt sh st 3 f t w hf ht=cS at *
        generalize hSF:sFrom f (sh.getD 3 0) w hf=sF at *
        generalize hST:sTo t (sh.getD 3 0) w ht=sT at *
        generalize hKK:cutK (sh.getD 3 0) f t w hf ht=K at *
        have hkk:(st.set 3 (dmS K (st.getD 3 0 * w))).length=(sh.set 3 (K:Int)).length ∧ (sh.set 3 (K:Int)).length=sh.length:=by simp;omega
        have hj0:3 < sh.length:=hj
        have hj2:3 < st.length:=by omega
        have ds:=dm_set (sh:=sh) (st:=st) (k:=3) (K:Int) (dmS K (st.getD 3 0 * w)) hj hlen
        rw [show 3 * 2=6 from rfl] at ds
        have hdl:=Clz (sh:=sh) (st:=st) hlen
        have k5:(stE (sh.set 3 (K:Int)) (st.set 3 (dmS K (st.getD 3 0 * w)))).length ≤ 4:=by rw [k4];omega
        clear hcl
        have hdl2:(dm (sh.set 3 (K:Int)) (st.set 3 (dmS K (st.getD 3 0 * w)))).length=sh.length * 2:=by rw [Clz (by simp;omega)];simp
        generalize hXX:dmS K (st.getD 3 0 * w)=XX at *
        (repeat' (first
 | (first|refine Ahz ?_|refine Abz ?_)
 | ((first|refine Aiz ?_|refine Auz (mid:=l76r3a) (post:=l76r3b) mixed (by decide) ?_|refine Auz (mid:=l76r6a) (post:=l76r6b) mixed (by decide) ?_|refine Adz ?_|refine Aoz ?_);simp (disch:=omega) only [push_cast,seval,l76r0,l76r1,l76r2,l76r3a,l76r3b,l76r3,l76r4,l76r5,l76r6a,l76r6b,l76r6,l76r7,hv,hd',hs,hSF,hST,hc,hdl,hdl2,A8z,A5z,ds,hXX,k3,k4])
 | ((first|refine Bbz (fun h=>?_) (fun h=>?_))<;>(try simp only [h])<;>(try simp only [bitvec_to_nat] at h)<;>(try simp only [h])<;>(first|(exfalso;omega)|(exfalso;simp_all;done)|(simp (disch:=omega) only [push_cast,seval,hv,hd',hs,hSF,hST,hc,hdl,hdl2,A8z,A5z,ds,hXX,k3,k4])|skip))
 | ((first|((with_reducible refine Alz (f:=117) true ?_);simp (disch:=omega) only [push_cast,seval,hv,hd',hs,hSF,hST,hc,hdl,hdl2,A8z,A5z,ds,hXX,k3,k4];(refine Akz (Fwz _ _ _ _ _ ?_ ?_ ?_) ?_;(iterate 3 (exact sd));rintro _ _ ⟨rfl,rfl⟩)))<;>(try simp (disch:=omega) only [push_cast,seval,hv,hd',hs,hSF,hST,hc,hdl,hdl2,A8z,A5z,ds,hXX,k3,k4]))
 | ((first|refine Alz false ?_|refine A0z false ?_);simp (disch:=omega) only [push_cast,seval,hv,hd',hs,hSF,hST,hc,hdl,hdl2,A8z,A5z,ds,hXX,k3,k4])
 | ((first|((first|refine Akz (Ajz (Bzz _ _ _ _ _ _ ?_ ?_ ?_)) ?_|refine Agz (Ajz (Bzz _ _ _ _ _ _ ?_ ?_ ?_)) ⟨_,_,rfl,rfl⟩ ?_);(iterate 3 (exact sd));rintro _ _ ⟨rfl,rfl⟩)|((first|refine Akz (Ajz (Biz _ _ _ _ _)) ?_|refine Agz (Ajz (Biz _ _ _ _ _)) ⟨_,_,rfl,rfl⟩ ?_);rintro _ _ ⟨rfl,rfl⟩)|((first|refine Akz (Ajz (Fgz _ _ _ _ _ _ ?_ ?_)) ?_|refine Agz (Ajz (Fgz _ _ _ _ _ _ ?_ ?_)) ⟨_,_,rfl,rfl⟩ ?_);(iterate 2 (exact sd));rintro _ _ ⟨rfl,rfl⟩)|((first|refine Akz (Ajz (D5z _ _ _ ?_)) ?_|refine Agz (Ajz (D5z _ _ _ ?_)) ⟨_,_,rfl,rfl⟩ ?_);(exact sd);rintro _ _ ⟨rfl,rfl⟩)|((first|refine Akz (Ajz (D4z _ _)) ?_|refine Agz (Ajz (D4z _ _)) ⟨_,_,rfl,rfl⟩ ?_);rintro _ _ ⟨rfl,rfl⟩)|((first|refine Akz (Cvz _ _ _ _ _ _ _ _ _ _ _ _ ?_ ?_ ?_) ?_|refine Agz (Cvz _ _ _ _ _ _ _ _ _ _ _ _ ?_ ?_ ?_) ⟨_,_,rfl,rfl⟩ ?_);(iterate 3 (exact sd));rintro _ _ ⟨rfl,rfl⟩))<;>(try simp (disch:=omega) only [push_cast,seval,hv,hd',hs,hSF,hST,hc,hdl,hdl2,A8z,A5z,ds,hXX,k3,k4]))
 | (refine Aez ⟨.inr rfl,[800,801],[],_,by decide,rfl,?_⟩;(try simp (disch:=omega) only [push_cast,seval,↓Afz,↓Acz,↓List.map_cons,↓List.map_nil,hv,hd',hs,hSF,hST,hc,hdl,hdl2,A8z,A5z,ds,hXX,k3,k4]))))
        all_goals exact ⟨rfl,rfl⟩
  · have hd':=fls_and hd
    have e:sdOk b sh st d f t w hf ht=false:=by simp only [sdOk,hd',Bool.and_false,Bool.false_and]
    rw [e]
    (repeat' (first
 | (first|refine Ahz ?_|refine Abz ?_)
 | ((first|refine Aiz ?_|refine Adz ?_);simp (disch:=omega) only [push_cast,seval,l76r0,l76r1,l76r2,l76r3a,l76r3b,l76r3,l76r4,l76r5,l76r6a,l76r6b,l76r6,l76r7,hv,hd'])
 | ((first|refine Alz false ?_);simp (disch:=omega) only [push_cast,seval,hv,hd'])
 | ((first|((first|refine Akz (Ajz (Bzz _ _ _ _ _ _ ?_ ?_ ?_)) ?_|refine Agz (Ajz (Bzz _ _ _ _ _ _ ?_ ?_ ?_)) ⟨_,_,rfl,rfl⟩ ?_);(iterate 3 (exact sd));rintro _ _ ⟨rfl,rfl⟩))<;>(try simp (disch:=omega) only [push_cast,seval,hv,hd']))
 | (refine Aez ⟨.inr rfl,[16000,16016],[(16000,1),(16016,1)],_,by decide,rfl,?_⟩;(try simp (disch:=omega) only [push_cast,seval,↓Afz,↓Acz,↓List.map_cons,↓List.map_nil,hv,hd']))))
    all_goals simp [MV,MVB,MVL]

end Go.Proofs.YtkpcjppnjmhanaaGreatDoor
namespace Go.Proofs.YtkpcjppnjmhanaaGreatDoor
open VwM Vw Go
variable [SentA]

theorem seeB_mem {mem:List Int} {b:Int} {sh st:List Int} (h:vMem mem=false):seeB mem b sh st=false:=by simp [seeB,h]
theorem seeB_view {mem:List Int} {b:Int} {sh st:List Int} (h:vV b sh st=false):seeB mem b sh st=false:=by simp [seeB,h]
theorem seeB_rest {mem:List Int} {b:Int} {sh st:List Int} (h1:vMem mem=true) (h2:vV b sh st=true):seeB mem b sh st=allI (offs b sh st) 0 ((mem.length:Int) - 1):=by simp [seeB,h1,h2]
theorem C6z (xs:List Int) (n:Nat) (hn:xs.length=n) (hb:n ≤ 1099511627776):PCall Tryz.prog 87 [.rows false (IL xs) n] (fun r=>r=.bool (vMem xs)):=by
  subst hn
  refine Awz l87_eq rfl ?_
  by_cases h4:xs.length ≤ 60
  · cases ha:allI xs 0 255 with
    | false =>
      (repeat' (first
 | (first|refine Ahz ?_|refine Abz ?_)
 | ((first|refine Aiz ?_);simp (disch:=omega) only [push_cast,seval,l87r0,l87r1,ha])
 | ((first|refine Bbz (fun h=>?_) (fun h=>?_))<;>(try simp only [h])<;>(try simp only [bitvec_to_nat] at h)<;>(try simp only [h])<;>(first|(exfalso;omega)|(exfalso;simp_all;done)|(simp (disch:=omega) only [push_cast,seval,ha])|skip))
 | ((first|refine Alz false ?_);simp (disch:=omega) only [push_cast,seval,ha])
 | ((first|((first|refine Akz (Ajz (Bqz _ _ _ _ ?_ ?_)) ?_|refine Agz (Ajz (Bqz _ _ _ _ ?_ ?_)) ⟨_,_,rfl,rfl⟩ ?_);(iterate 2 (exact sd));rintro _ _ ⟨rfl,rfl⟩))<;>(try simp (disch:=omega) only [push_cast,seval,ha]))
 | (refine Aez ⟨.inr rfl,_,rfl,?_⟩;(try simp (disch:=omega) only [push_cast,seval,ha]))))
      all_goals simp [vMem,ha]
    | true =>
      (repeat' (first
 | (first|refine Ahz ?_|refine Abz ?_)
 | ((first|refine Aiz ?_);simp (disch:=omega) only [push_cast,seval,l87r0,l87r1,ha])
 | ((first|refine Bbz (fun h=>?_) (fun h=>?_))<;>(try simp only [h])<;>(try simp only [bitvec_to_nat] at h)<;>(try simp only [h])<;>(first|(exfalso;omega)|(exfalso;simp_all;done)|(simp (disch:=omega) only [push_cast,seval,ha])|skip))
 | ((first|refine Alz false ?_);simp (disch:=omega) only [push_cast,seval,ha])
 | ((first|((first|refine Akz (Ajz (Bqz _ _ _ _ ?_ ?_)) ?_|refine Agz (Ajz (Bqz _ _ _ _ ?_ ?_)) ⟨_,_,rfl,rfl⟩ ?_);(iterate 2 (exact sd));rintro _ _ ⟨rfl,rfl⟩))<;>(try simp (disch:=omega) only [push_cast,seval,ha]))
 | (refine Aez ⟨.inr rfl,_,rfl,?_⟩;(try simp (disch:=omega) only [push_cast,seval,ha]))))
      all_goals simp [vMem,ha,h4]
  · (repeat' (first
 | (first|refine Ahz ?_|refine Abz ?_)
 | ((first|refine Aiz ?_);simp (disch:=omega) only [push_cast,seval,l87r0,l87r1])
 | ((first|refine Bbz (fun h=>?_) (fun h=>?_))<;>(try simp only [h])<;>(try simp only [bitvec_to_nat] at h)<;>(try simp only [h])<;>(first|(exfalso;omega)|(exfalso;simp_all;done)|(simp (disch:=omega) only [push_cast,seval])|skip))
 | (refine Aez ⟨.inr rfl,_,rfl,?_⟩;(try simp (disch:=omega) only [push_cast,seval]))))
    all_goals simp [vMem,h4]


theorem Gjz (xs:List Int) (n:Nat) (hn:xs.length=n) (hb:n ≤ 1099511627776):PCall Tryz.prog 92 [.rows false (IL xs) n] (fun r=>r=.bool (allI xs 0 255)):=by
  subst hn
  refine Awz l92_eq rfl ?_
  (repeat' (first
 | (first|refine Ahz ?_|refine Abz ?_)
 | ((first|refine Aiz ?_);simp (disch:=omega) only [push_cast,seval,l92r0,l92r1,l92r2,l92r3,l92r4,l92r5,l92r6,l92r7])
 | (refine Aez ⟨.inr rfl,_,rfl,?_⟩;(try simp (disch:=omega) only [push_cast,seval]))))
  refine Baz (fun k:Nat=>mkS [(5,RI xs),(6,.int .i64 xs.length),(7,.int .i64 k)] []) (fun k=>k ≤ xs.length ∧ ∀ j:Nat,j < k → 0 ≤ xs.getD j 0 ∧ xs.getD j 0 ≤ 255) (fun k=>xs.length - k) 0 ⟨Nat.zero_le _,fun j h=>absurd h (Nat.not_lt_zero _)⟩ ?_ ?_
  · (refine Sub.of_lists ?_ ?_ ?_ ?_ ?_<;>simp [Vw.mkS,Vw.lk,Vw.hk,AV.inn,innL,Apz,Anz,Aqz,-List.map_set,-List.getD_eq_getElem?_getD])
  · rintro k ⟨hk,hj⟩
    by_cases hlt:k < xs.length
    · (repeat' (first
 | (first|refine Ahz ?_|refine Abz ?_)
 | ((first|refine Aiz ?_|refine Adz ?_|refine Aoz ?_);simp (disch:=omega) only [push_cast,seval,l92r0,l92r1,l92r2,l92r3,l92r4,l92r5,l92r6,l92r7])
 | ((first|refine Amz (fun h=>?_) (fun h=>?_))<;>(try simp only [h])<;>(try simp only [bitvec_to_nat] at h)<;>(try simp only [h])<;>(first|(exfalso;omega)|(exfalso;simp_all;done)|(simp (disch:=omega) only [push_cast,seval])|skip))
 | ((first|refine Alz false ?_);simp (disch:=omega) only [push_cast,seval])
 | ((first|((first|refine Akz (Ajz (B5z _ _)) ?_|refine Agz (Ajz (B5z _ _)) ⟨_,_,rfl,rfl⟩ ?_);rintro _ _ ⟨rfl,rfl⟩))<;>(try simp (disch:=omega) only [push_cast,seval]))
 | (refine Aez ⟨.inr rfl,_,rfl,?_⟩;(try simp (disch:=omega) only [push_cast,seval]))))
      · rw [Giz (j:=k) hlt (by assumption)]
      · refine ⟨k + 1,⟨by omega,fun j h=>?_⟩,by omega,?_⟩
        · by_cases hjk:j=k
          · subst hjk;assumption
          · exact hj j (by omega)
        · (refine Sub.of_lists ?_ ?_ ?_ ?_ ?_<;>simp [Vw.mkS,Vw.lk,Vw.hk,AV.inn,innL,Apz,Anz,Aqz,-List.map_set,-List.getD_eq_getElem?_getD])
    · have ha:allI xs 0 255=true:=Htz fun j h=>hj j (by omega)
      (repeat' (first
 | (first|refine Ahz ?_|refine Abz ?_)
 | ((first|refine Aiz ?_|refine Adz ?_|refine A2z ?_);simp (disch:=omega) only [push_cast,seval,l92r0,l92r1,l92r2,l92r3,l92r4,l92r5,l92r6,l92r7])
 | ((first|refine Amz (fun h=>?_) (fun h=>?_))<;>(try simp only [h])<;>(try simp only [bitvec_to_nat] at h)<;>(try simp only [h])<;>(first|(exfalso;omega)|(exfalso;simp_all;done)|(simp (disch:=omega) only [push_cast,seval])|skip))
 | (refine Aez ⟨.inr rfl,_,rfl,?_⟩;(try simp (disch:=omega) only [push_cast,seval]))))
      simp [ha]


theorem Gcz (xs:List Int) (n:Nat) (hn:xs.length=n) (hb:n ≤ 1099511627776):PCall Tryz.prog 53 [.rows false (IL xs) n] (fun r=>r=.bool (vMem xs)):=by
  subst hn
  refine Awz l53_eq rfl ?_
  by_cases h4:xs.length ≤ 60
  · (repeat' (first
 | (first|refine Ahz ?_|refine Abz ?_)
 | ((first|refine Aiz ?_);simp (disch:=omega) only [push_cast,seval,l53r0,l53r1])
 | ((first|refine Bbz (fun h=>?_) (fun h=>?_))<;>(try simp only [h])<;>(try simp only [bitvec_to_nat] at h)<;>(try simp only [h])<;>(first|(exfalso;omega)|(exfalso;simp_all;done)|(simp (disch:=omega) only [push_cast,seval])|skip))
 | ((first|refine Alz false ?_);simp (disch:=omega) only [push_cast,seval])
 | ((first|((first|refine Akz (Ajz (Dnz _)) ?_|refine Agz (Ajz (Dnz _)) ⟨_,_,rfl,rfl⟩ ?_);rintro _ _ ⟨rfl,rfl⟩)|((first|refine Akz (Ajz (Gjz _ _ ?_ ?_)) ?_|refine Agz (Ajz (Gjz _ _ ?_ ?_)) ⟨_,_,rfl,rfl⟩ ?_);(iterate 2 (exact sd));rintro _ _ ⟨rfl,rfl⟩))<;>(try simp (disch:=omega) only [push_cast,seval]))
 | (refine Aez ⟨.inr rfl,_,rfl,?_⟩;(try simp (disch:=omega) only [push_cast,seval]))))
    all_goals simp [vMem,h4]
  · (repeat' (first
 | (first|refine Ahz ?_|refine Abz ?_)
 | ((first|refine Aiz ?_);simp (disch:=omega) only [push_cast,seval,l53r0,l53r1])
 | ((first|refine Bbz (fun h=>?_) (fun h=>?_))<;>(try simp only [h])<;>(try simp only [bitvec_to_nat] at h)<;>(try simp only [h])<;>(first|(exfalso;omega)|(exfalso;simp_all;done)|(simp (disch:=omega) only [push_cast,seval])|skip))
 | ((first|refine Alz false ?_);simp (disch:=omega) only [push_cast,seval])
 | ((first|((first|refine Akz (Ajz (Dnz _)) ?_|refine Agz (Ajz (Dnz _)) ⟨_,_,rfl,rfl⟩ ?_);rintro _ _ ⟨rfl,rfl⟩))<;>(try simp (disch:=omega) only [push_cast,seval]))
 | (refine Aez ⟨.inr rfl,_,rfl,?_⟩;(try simp (disch:=omega) only [push_cast,seval]))))
    all_goals simp [vMem,h4]


theorem Djz (mem:List Int) (b:Int) (sh st:List Int) (q n m:Nat) (hq:mem.length=q) (hn:sh.length=n) (hm:st.length=m) (hb:q ≤ 1099511627776 ∧ n ≤ 1099511627776 ∧ m ≤ 1099511627776):PCall Tryz.prog 98 [.rows false (IL mem) q,.agg [.int .i64 b,.rows false (IL sh) n,.rows false (IL st) m]] (fun r=>r=.bool (seeB mem b sh st)):=by
  subst hq hn hm
  obtain ⟨hb0,hb1,hb2⟩:=hb
  refine Awz l98_eq rfl ?_
  cases hm:vMem mem with
  | false =>
    rw [seeB_mem hm]
    (repeat' (first
 | (first|refine Ahz ?_|refine Abz ?_)
 | ((first|refine Aiz ?_);simp (disch:=omega) only [push_cast,seval,l98r0,l98r1,hm])
 | ((first|refine Alz false ?_);simp (disch:=omega) only [push_cast,seval,hm])
 | ((first|((first|refine Akz (Ajz (C6z _ _ ?_ ?_)) ?_|refine Agz (Ajz (C6z _ _ ?_ ?_)) ⟨_,_,rfl,rfl⟩ ?_);(iterate 2 (exact sd));rintro _ _ ⟨rfl,rfl⟩))<;>(try simp (disch:=omega) only [push_cast,seval,hm]))
 | (refine Aez ⟨.inr rfl,_,rfl,?_⟩;(try simp (disch:=omega) only [push_cast,seval,hm]))))
  | true =>
  have h60:=(Dcz.1 hm).1
  cases hv:vV b sh st with
  | false =>
    rw [seeB_view hv]
    (repeat' (first
 | (first|refine Ahz ?_|refine Abz ?_)
 | ((first|refine Aiz ?_);simp (disch:=omega) only [push_cast,seval,l98r0,l98r1,hm,hv])
 | ((first|refine Alz false ?_);simp (disch:=omega) only [push_cast,seval,hm,hv])
 | ((first|((first|refine Akz (Ajz (C6z _ _ ?_ ?_)) ?_|refine Agz (Ajz (C6z _ _ ?_ ?_)) ⟨_,_,rfl,rfl⟩ ?_);(iterate 2 (exact sd));rintro _ _ ⟨rfl,rfl⟩)|((first|refine Akz (Ajz (Arz _ _ _ _ _ ?_ ?_ ?_)) ?_|refine Agz (Ajz (Arz _ _ _ _ _ ?_ ?_ ?_)) ⟨_,_,rfl,rfl⟩ ?_);(iterate 3 (exact sd));rintro _ _ ⟨rfl,rfl⟩))<;>(try simp (disch:=omega) only [push_cast,seval,hm,hv]))
 | (refine Aez ⟨.inr rfl,_,rfl,?_⟩;(try simp (disch:=omega) only [push_cast,seval,hm,hv]))))
  | true =>
    have hok:=(Cjz hv).1
    have q1:okV b sh st ∧ -1000000 ≤ (mem.length:Int) ∧ (mem.length:Int) ≤ 1000000:=⟨hok,by omega,by omega⟩
    rw [seeB_rest hm hv]
    (repeat' (first
 | (first|refine Ahz ?_|refine Abz ?_)
 | ((first|refine Aiz ?_);simp (disch:=omega) only [push_cast,seval,l98r0,l98r1,hm,hv])
 | ((first|refine Alz false ?_);simp (disch:=omega) only [push_cast,seval,hm,hv])
 | ((first|((first|refine Akz (Ajz (C6z _ _ ?_ ?_)) ?_|refine Agz (Ajz (C6z _ _ ?_ ?_)) ⟨_,_,rfl,rfl⟩ ?_);(iterate 2 (exact sd));rintro _ _ ⟨rfl,rfl⟩)|((first|refine Akz (Ajz (Arz _ _ _ _ _ ?_ ?_ ?_)) ?_|refine Agz (Ajz (Arz _ _ _ _ _ ?_ ?_ ?_)) ⟨_,_,rfl,rfl⟩ ?_);(iterate 3 (exact sd));rintro _ _ ⟨rfl,rfl⟩)|((first|refine Akz (Ajz (sfits_ok _ _ _ _ _ _ ?_ ?_ ?_)) ?_|refine Agz (Ajz (sfits_ok _ _ _ _ _ _ ?_ ?_ ?_)) ⟨_,_,rfl,rfl⟩ ?_);(iterate 3 (exact sd));rintro _ _ ⟨rfl,rfl⟩))<;>(try simp (disch:=omega) only [push_cast,seval,hm,hv]))
 | (refine Aez ⟨.inr rfl,_,rfl,?_⟩;(try simp (disch:=omega) only [push_cast,seval,hm,hv]))))


/-- Two views of an equal shape fit. -/
def twoB (mem:List Int) (b:Int) (sh st:List Int) (b':Int) (sh' st':List Int):Bool:=seeB mem b sh st && seeB mem b' sh' st' && decide (sh=sh')


theorem Luz (mem:List Int) (b:Int) (sh st:List Int) (b':Int) (sh' st':List Int) (q n m n' m':Nat) (hq:mem.length=q) (hn:sh.length=n) (hm:st.length=m) (hn':sh'.length=n') (hm':st'.length=m') (hb:(q ≤ 1099511627776 ∧ n ≤ 1099511627776 ∧ m ≤ 1099511627776) ∧ n' ≤ 1099511627776 ∧ m' ≤ 1099511627776):PCall Tryz.prog 107 [.rows false (IL mem) q,.agg [.int .i64 b,.rows false (IL sh) n,.rows false (IL st) m],.agg [.int .i64 b',.rows false (IL sh') n',.rows false (IL st') m']] (fun r=>r=.bool (twoB mem b sh st b' sh' st')):=by
  subst hq hn hm hn' hm'
  obtain ⟨⟨hb0,hb1,hb2⟩,hb3,hb4⟩:=hb
  have q1:mem.length ≤ 1099511627776 ∧ sh.length ≤ 1099511627776 ∧ st.length ≤ 1099511627776:=⟨hb0,hb1,hb2⟩
  have q2:mem.length ≤ 1099511627776 ∧ sh'.length ≤ 1099511627776 ∧ st'.length ≤ 1099511627776:=⟨hb0,hb3,hb4⟩
  refine Awz l107_eq rfl ?_
  unfold twoB
  cases h1:seeB mem b sh st with
  | false =>
    (repeat' (first
 | (first|refine Ahz ?_|refine Abz ?_)
 | ((first|refine Aiz ?_);simp (disch:=omega) only [push_cast,seval,l107r0,l107r1,h1])
 | ((first|refine Alz false ?_);simp (disch:=omega) only [push_cast,seval,h1])
 | ((first|((first|refine Akz (Ajz (Djz _ _ _ _ _ _ _ ?_ ?_ ?_ ?_)) ?_|refine Agz (Ajz (Djz _ _ _ _ _ _ _ ?_ ?_ ?_ ?_)) ⟨_,_,rfl,rfl⟩ ?_);(iterate 4 (exact sd));rintro _ _ ⟨rfl,rfl⟩))<;>(try simp (disch:=omega) only [push_cast,seval,h1]))
 | (refine Aez ⟨.inr rfl,_,rfl,?_⟩;(try simp (disch:=omega) only [push_cast,seval,h1]))))
    all_goals simp
  | true =>
  cases h2:seeB mem b' sh' st' with
  | false =>
    (repeat' (first
 | (first|refine Ahz ?_|refine Abz ?_)
 | ((first|refine Aiz ?_);simp (disch:=omega) only [push_cast,seval,l107r0,l107r1,h1,h2])
 | ((first|refine Alz false ?_);simp (disch:=omega) only [push_cast,seval,h1,h2])
 | ((first|((first|refine Akz (Ajz (Djz _ _ _ _ _ _ _ ?_ ?_ ?_ ?_)) ?_|refine Agz (Ajz (Djz _ _ _ _ _ _ _ ?_ ?_ ?_ ?_)) ⟨_,_,rfl,rfl⟩ ?_);(iterate 4 (exact sd));rintro _ _ ⟨rfl,rfl⟩))<;>(try simp (disch:=omega) only [push_cast,seval,h1,h2]))
 | (refine Aez ⟨.inr rfl,_,rfl,?_⟩;(try simp (disch:=omega) only [push_cast,seval,h1,h2]))))
    all_goals simp
  | true =>
    (repeat' (first
 | (first|refine Ahz ?_|refine Abz ?_)
 | ((first|refine Aiz ?_);simp (disch:=omega) only [push_cast,seval,l107r0,l107r1,h1,h2])
 | ((first|refine Alz false ?_);simp (disch:=omega) only [push_cast,seval,h1,h2])
 | ((first|((first|refine Akz (Ajz (Djz _ _ _ _ _ _ _ ?_ ?_ ?_ ?_)) ?_|refine Agz (Ajz (Djz _ _ _ _ _ _ _ ?_ ?_ ?_ ?_)) ⟨_,_,rfl,rfl⟩ ?_);(iterate 4 (exact sd));rintro _ _ ⟨rfl,rfl⟩)|((first|refine Akz (Ajz (I4z _ _ _ _ ?_ ?_ ?_)) ?_|refine Agz (Ajz (I4z _ _ _ _ ?_ ?_ ?_)) ⟨_,_,rfl,rfl⟩ ?_);(iterate 3 (exact sd));rintro _ _ ⟨rfl,rfl⟩))<;>(try simp (disch:=omega) only [push_cast,seval,h1,h2]))
 | (refine Aez ⟨.inr rfl,_,rfl,?_⟩;(try simp (disch:=omega) only [push_cast,seval,h1,h2]))))
    all_goals simp


theorem Eiz {mem:List Int} {b:Int} {sh st:List Int} (h:seeB mem b sh st=true):okV b sh st ∧ st.length=sh.length ∧ good4 sh ∧ 0 ≤ pr sh ∧ pr sh ≤ 60 ∧ mem.length ≤ 60:=by
  obtain ⟨h1,h2,h3⟩:=G9z.1 h
  obtain ⟨hok,hl⟩:=Cjz h2
  have hs:=Caz (Chz.1 h2).1
  exact ⟨hok,hl,hs.1,hs.2.1,hs.2.2,(Dcz.1 h1).1⟩


theorem Ipz (mem:List Int) (b:Int) (sh st:List Int) (q n m:Nat) (hq:mem.length=q) (hn:sh.length=n) (hm:st.length=m) (hb:seeB mem b sh st=true):BCall Tryz.prog 52 [.rows false (IL mem) q,.agg [.int .i64 b,.rows false (IL sh) n,.rows false (IL st) m]] [] (OI (takesL mem (offs b sh st))):=by
  subst hq hn hm
  obtain ⟨f1,f2,f3,f4,f5,f6⟩:=Eiz hb
  have hat:=fun k hk=>seeB_at (k:=k) hb hk
  have hol:=Bez b sh st
  generalize hL:offs b sh st=L at *
  refine Axz (pins:=[]) (pin:=0) l52_eq rfl rfl rfl ?_
  (repeat' (first
 | (first|refine Ahz ?_|refine Abz ?_)
 | ((first|refine Aiz ?_);simp (disch:=omega) only [push_cast,seval,l52r0,l52r1,l52r2,l52r3,l52r4,l52r5,l52r6,l52r7,hL])
 | ((first|refine Alz false ?_);simp (disch:=omega) only [push_cast,seval,hL])
 | ((first|((first|refine Akz (Brz _ _ _ _ _ ?_ ?_ ?_) ?_|refine Agz (Brz _ _ _ _ _ ?_ ?_ ?_) ⟨_,_,rfl,rfl⟩ ?_);(iterate 3 (exact sd));rintro _ _ ⟨rfl,rfl⟩))<;>(try simp (disch:=omega) only [push_cast,seval,hL]))
 | (refine Aez ⟨.inr rfl,[128],[],_,by decide,rfl,?_⟩;(try simp (disch:=omega) only [push_cast,seval,↓Afz,↓Acz,↓List.map_cons,↓List.map_nil,hL]);(first|done|(show AV.own _ _ _=_ ∧ _)))
 | (refine Aez ⟨.inr rfl,[160],[],_,by decide,rfl,?_⟩;(try simp (disch:=omega) only [push_cast,seval,↓Afz,↓Acz,↓List.map_cons,↓List.map_nil,hL]);(first|done|(show AV.own _ _ _=_ ∧ _)))
 | (refine Aez ⟨.inr rfl,[400],[],_,by decide,rfl,?_⟩;(try simp (disch:=omega) only [push_cast,seval,↓Afz,↓Acz,↓List.map_cons,↓List.map_nil,hL]);(first|done|(show AV.own _ _ _=_ ∧ _)))
 | (refine Aez ⟨.inr rfl,[416],[],_,by decide,rfl,?_⟩;(try simp (disch:=omega) only [push_cast,seval,↓Afz,↓Acz,↓List.map_cons,↓List.map_nil,hL]);(first|done|(show AV.own _ _ _=_ ∧ _)))))
  refine Baz (fun k:Nat=>mkS [(0,RI mem),(5,.own 128 k 1),(6,.own 160 L.length 1),(7,.int .i64 k)] [(128,IL (takesL mem (L.take k))),(160,IL L)])
    (fun k=>k ≤ L.length) (fun k=>L.length - k) 0 (Nat.zero_le _) ?_ ?_
  · have e0:takesL mem []=[]:=rfl
    (refine Sub.of_lists ?_ ?_ ?_ ?_ ?_<;>simp [Vw.mkS,Vw.lk,Vw.hk,AV.inn,innL,Apz,Anz,Aqz,-List.map_set,-List.getD_eq_getElem?_getD,e0])
  · intro k hk
    have e1:(takesL mem (L.take k)).length=k:=by rw [takesL_length];simp;omega
    by_cases hlt:k < L.length
    · obtain ⟨h1,h2⟩:=hat k hlt
      have e2:takesL mem (L.take (k + 1))=takesL mem (L.take k) ++ [mem.getD (L.getD k 0).toNat 0]:=by rw [B1z L k hlt];simp [takesL]
      (repeat' (first
 | (first|refine Ahz ?_|refine Abz ?_)
 | ((first|refine Aiz ?_|refine Adz ?_|refine Aoz ?_);simp (disch:=omega) only [push_cast,seval,l52r0,l52r1,l52r2,l52r3,l52r4,l52r5,l52r6,l52r7,e1])
 | ((first|refine Amz (fun h=>?_) (fun h=>?_))<;>(try simp only [h])<;>(try simp only [bitvec_to_nat] at h)<;>(try simp only [h])<;>(first|(exfalso;omega)|(exfalso;simp_all;done)|(simp (disch:=omega) only [push_cast,seval,e1])|skip))
 | (refine Aez ⟨.inr rfl,[128],[],_,by decide,rfl,?_⟩;(try simp (disch:=omega) only [push_cast,seval,↓Afz,↓Acz,↓List.map_cons,↓List.map_nil,e1]))))
      refine ⟨k + 1,by omega,by omega,?_⟩
      (refine Sub.of_lists ?_ ?_ ?_ ?_ ?_<;>simp [Vw.mkS,Vw.lk,Vw.hk,AV.inn,innL,Apz,Anz,Aqz,-List.map_set,-List.getD_eq_getElem?_getD,e2])
    · have:k=L.length:=by omega
      subst this
      rw [List.take_length] at e1
      rw [List.take_length]
      (repeat' (first
 | (first|refine Ahz ?_|refine Abz ?_)
 | ((first|refine Aiz ?_|refine Adz ?_|refine A2z ?_);simp (disch:=omega) only [push_cast,seval,l52r0,l52r1,l52r2,l52r3,l52r4,l52r5,l52r6,l52r7,e1])
 | ((first|refine Amz (fun h=>?_) (fun h=>?_))<;>(try simp only [h])<;>(try simp only [bitvec_to_nat] at h)<;>(try simp only [h])<;>(first|(exfalso;omega)|(exfalso;simp_all;done)|(simp (disch:=omega) only [push_cast,seval,e1])|skip))
 | (refine Aez ⟨.inr rfl,[128],[],_,by decide,rfl,?_⟩;(try simp (disch:=omega) only [push_cast,seval,↓Afz,↓Acz,↓List.map_cons,↓List.map_nil,e1]))))
      all_goals simp [OI,e1]


theorem sput_ok (mem:List Int) (b:Int) (sh st vals:List Int) (q n m v:Nat) (hq:mem.length=q) (hn:sh.length=n) (hm:st.length=m) (hv:vals.length=v) (hb:seeB mem b sh st=true ∧ (v:Int)=pr sh):BCall Tryz.prog 108 [.rows false (IL mem) q,.agg [.int .i64 b,.rows false (IL sh) n,.rows false (IL st) m],.rows false (IL vals) v] [] (OI (putL mem (offs b sh st) vals)):=by
  subst hq hn hm hv
  obtain ⟨hb,hvp⟩:=hb
  obtain ⟨f1,f2,f3,f4,f5,f6⟩:=Eiz hb
  have hat:=fun k hk=>seeB_at (k:=k) hb hk
  have hol:=Bez b sh st
  have hvl:vals.length=(offs b sh st).length:=by omega
  generalize hL:offs b sh st=L at *
  have hpl:mem.length ≤ 1099511627776:=by omega
  refine Axz (pins:=[]) (pin:=0) l108_eq rfl rfl rfl ?_
  (repeat' (first
 | (first|refine Ahz ?_|refine Abz ?_)
 | ((first|refine Aiz ?_);simp (disch:=omega) only [push_cast,seval,l108r0,l108r1,l108r2,l108r3,l108r4,l108r5a,l108r5b,l108r5,l108r6,l108r7,hL])
 | ((first|refine Alz false ?_);simp (disch:=omega) only [push_cast,seval,hL])
 | ((first|((first|refine Akz (Cnz _ _ ?_ ?_) ?_|refine Agz (Cnz _ _ ?_ ?_) ⟨_,_,rfl,rfl⟩ ?_);(iterate 2 (exact sd));rintro _ _ ⟨rfl,rfl⟩)|((first|refine Akz (Brz _ _ _ _ _ ?_ ?_ ?_) ?_|refine Agz (Brz _ _ _ _ _ ?_ ?_ ?_) ⟨_,_,rfl,rfl⟩ ?_);(iterate 3 (exact sd));rintro _ _ ⟨rfl,rfl⟩))<;>(try simp (disch:=omega) only [push_cast,seval,hL]))
 | (refine Aez ⟨.inr rfl,[176],[],_,by decide,rfl,?_⟩;(try simp (disch:=omega) only [push_cast,seval,↓Afz,↓Acz,↓List.map_cons,↓List.map_nil,hL]);(first|done|(show AV.own _ _ _=_ ∧ _)))
 | (refine Aez ⟨.inr rfl,[208],[],_,by decide,rfl,?_⟩;(try simp (disch:=omega) only [push_cast,seval,↓Afz,↓Acz,↓List.map_cons,↓List.map_nil,hL]);(first|done|(show AV.own _ _ _=_ ∧ _)))))
  refine Baz (fun k:Nat=>mkS [(2,RI vals),(7,.own 176 mem.length 1),(8,.own 208 L.length 1),(9,.int .i64 k)] [(176,IL (putK mem L vals k)),(208,IL L)])
    (fun k=>k ≤ L.length) (fun k=>L.length - k) 0 (Nat.zero_le _) ?_ ?_
  · have e0:putK mem L vals 0=mem:=rfl
    (refine Sub.of_lists ?_ ?_ ?_ ?_ ?_<;>simp [Vw.mkS,Vw.lk,Vw.hk,AV.inn,innL,Apz,Anz,Aqz,-List.map_set,-List.getD_eq_getElem?_getD,e0])
  · intro k hk
    have e1:=Ezz mem L vals k
    by_cases hlt:k < L.length
    · obtain ⟨h1,h2⟩:=hat k hlt
      have h3:(L.getD k 0).toNat < mem.length:=by omega
      have h4:k < vals.length:=by omega
      have e2:putK mem L vals (k + 1)=(putK mem L vals k).set (L.getD k 0).toNat (vals.getD k 0):=rfl
      generalize putK mem L vals k=p at *
      (repeat' (first
 | (first|refine Ahz ?_|refine Abz ?_)
 | ((first|refine Aiz ?_|refine Auz (mid:=l108r5a) (post:=l108r5b) mixed (by decide) ?_|refine Adz ?_|refine Aoz ?_);simp (disch:=omega) only [push_cast,seval,l108r0,l108r1,l108r2,l108r3,l108r4,l108r5a,l108r5b,l108r5,l108r6,l108r7,e1])
 | ((first|refine Amz (fun h=>?_) (fun h=>?_))<;>(try simp only [h])<;>(try simp only [bitvec_to_nat] at h)<;>(try simp only [h])<;>(first|(exfalso;omega)|(exfalso;simp_all;done)|(simp (disch:=omega) only [push_cast,seval,e1])|skip))
 | (refine Aez ⟨.inr rfl,[176],[],_,by decide,rfl,?_⟩;(try simp (disch:=omega) only [push_cast,seval,↓Afz,↓Acz,↓List.map_cons,↓List.map_nil,e1]))))
      refine ⟨k + 1,by omega,by omega,?_⟩
      (refine Sub.of_lists ?_ ?_ ?_ ?_ ?_<;>simp [Vw.mkS,Vw.lk,Vw.hk,AV.inn,innL,Apz,Anz,Aqz,-List.map_set,-List.getD_eq_getElem?_getD,e2,A5z])
    · have hke:k=L.length:=by omega
      have e3:putK mem L vals k=putL mem L vals:=by rw [hke];rfl
      rw [e3] at e1
      rw [e3]
      (repeat' (first
 | (first|refine Ahz ?_|refine Abz ?_)
 | ((first|refine Aiz ?_|refine Adz ?_|refine A2z ?_);simp (disch:=omega) only [push_cast,seval,l108r0,l108r1,l108r2,l108r3,l108r4,l108r5a,l108r5b,l108r5,l108r6,l108r7,e1])
 | ((first|refine Amz (fun h=>?_) (fun h=>?_))<;>(try simp only [h])<;>(try simp only [bitvec_to_nat] at h)<;>(try simp only [h])<;>(first|(exfalso;omega)|(exfalso;simp_all;done)|(simp (disch:=omega) only [push_cast,seval,e1])|skip))
 | (refine Aez ⟨.inr rfl,[176],[],_,by decide,rfl,?_⟩;(try simp (disch:=omega) only [push_cast,seval,↓Afz,↓Acz,↓List.map_cons,↓List.map_nil,e1]))))
      all_goals simp [OI,e1]

end Go.Proofs.YtkpcjppnjmhanaaGreatDoor
namespace Go.Proofs.YtkpcjppnjmhanaaGreatDoor
open VwM Vw Go
variable [SentA]

end Go.Proofs.YtkpcjppnjmhanaaGreatDoor
namespace Go.Proofs.YtkpcjppnjmhanaaGreatDoor
open VwM Vw Go
variable [SentA]

end Go.Proofs.YtkpcjppnjmhanaaGreatDoor
namespace Go.Proofs.YtkpcjppnjmhanaaGreatDoor
open VwM Vw Go
variable [SentA]

/-- A list and whether there is one: nothing without. -/
abbrev TB (v:Bool) (l:List Int):AV → List (List AV) → Prop:=fun r H'=>r=.tup [.own 0 (MVL v l).length 1,.bool v] ∧ H'=[IL (MVL v l)]
theorem MVL_true (l:List Int):MVL true l=l:=rfl
theorem MVL_false (l:List Int):MVL false l=[]:=rfl
theorem two_facts {mem:List Int} {b b':Int} {sh st sh' st':List Int} (h:twoB mem b sh st b' sh' st'=true):seeB mem b sh st=true ∧ seeB mem b' sh' st'=true ∧ sh=sh':=by
  simp only [twoB,Bool.and_eq_true,decide_eq_true_eq] at h
  exact ⟨h.1.1,h.1.2,h.2⟩
set_option maxHeartbeats 8000000 in
theorem Irz (mem:List Int) (b:Int) (sh st:List Int) (b':Int) (sh' st':List Int) (q n m n' m':Nat) (hq:mem.length=q) (hn:sh.length=n) (hm:st.length=m) (hn':sh'.length=n') (hm':st'.length=m') (hb:(q ≤ 1099511627776 ∧ n ≤ 1099511627776 ∧ m ≤ 1099511627776) ∧ n' ≤ 1099511627776 ∧ m' ≤ 1099511627776):BCall Tryz.prog 67 [.rows false (IL mem) q,.agg [.int .i64 b,.rows false (IL sh) n,.rows false (IL st) m],.agg [.int .i64 b',.rows false (IL sh') n',.rows false (IL st') m']] [] (TB (twoB mem b sh st b' sh' st') (putL mem (offs b sh st) (takesL mem (offs b' sh' st')))):=by
  subst hq hn hm hn' hm'
  obtain ⟨⟨hb0,hb1,hb2⟩,hb3,hb4⟩:=hb
  have q0:(mem.length ≤ 1099511627776 ∧ sh.length ≤ 1099511627776 ∧ st.length ≤ 1099511627776) ∧ sh'.length ≤ 1099511627776 ∧ st'.length ≤ 1099511627776:=⟨⟨hb0,hb1,hb2⟩,hb3,hb4⟩
  refine Axz (pins:=[]) (pin:=0) l67_eq rfl rfl rfl ?_
  cases h:twoB mem b sh st b' sh' st' with
  | false =>
    (repeat' (first
 | (first|refine Ahz ?_|refine Abz ?_)
 | ((first|refine Aiz ?_|refine Adz ?_);simp (disch:=omega) only [push_cast,seval,l67r0,l67r1,l67r2,l67r3a,l67r3b,l67r3,h])
 | ((first|refine Alz false ?_);simp (disch:=omega) only [push_cast,seval,h])
 | ((first|((first|refine Akz (Ajz (Luz _ _ _ _ _ _ _ _ _ _ _ _ ?_ ?_ ?_ ?_ ?_ ?_)) ?_|refine Agz (Ajz (Luz _ _ _ _ _ _ _ _ _ _ _ _ ?_ ?_ ?_ ?_ ?_ ?_)) ⟨_,_,rfl,rfl⟩ ?_);(iterate 6 (exact sd));rintro _ _ ⟨rfl,rfl⟩))<;>(try simp (disch:=omega) only [push_cast,seval,h]))
 | (refine Aez ⟨.inr rfl,[16000],[(16000,1)],_,by decide,rfl,?_⟩;(try simp (disch:=omega) only [push_cast,seval,↓Afz,↓Acz,↓List.map_cons,↓List.map_nil,h]))))
    all_goals simp [TB,MVL]
  | true =>
    obtain ⟨h1,h2,h3⟩:=two_facts h
    subst h3
    obtain ⟨f1,f2,f3,f4,f5,f6⟩:=Eiz h1
    obtain ⟨g1,g2,_,_,_,_⟩:=Eiz h2
    have o1:=Bez b sh st
    have o2:=Bez b' sh st'
    have c1:=(G9z.1 h1).2.2
    have c2:=(G9z.1 h2).2.2
    have q1:okV b sh st ∧ st.length=sh.length:=⟨f1,f2⟩
    have q2:okV b' sh st' ∧ st'.length=sh.length:=⟨g1,g2⟩
    have hp:(pr sh).toNat ≤ 60:=by omega
    have hpc:(((pr sh).toNat:Nat):Int)=pr sh:=by omega
    have hsp:∃ c:Nat,pr sh=(c:Int) ∧ c ≤ 60:=⟨(pr sh).toNat,by omega,by omega⟩
    obtain ⟨c,hc,hc60⟩:=hsp
    have hlL:(offs b sh st).length=c:=by omega
    have hlL':(offs b' sh st').length=c:=by omega
    generalize hL:offs b sh st=L at *
    generalize hL':offs b' sh st'=L' at *
    have tl:=takesL_length mem L'
    have k1:seeB mem b sh st=true ∧ (L'.length:Int)=pr sh:=⟨h1,by omega⟩
    have k2:(c=c ∧ c=c ∧ mem.length ≤ 60 ∧ c ≤ 60) ∧ (∀ x ∈ L,0 ≤ x ∧ x ≤ (mem.length:Int) - 1) ∧ ∀ x ∈ L',0 ≤ x ∧ x ≤ (mem.length:Int) - 1:=⟨⟨rfl,rfl,f6,hc60⟩,c1,c2⟩
    have k3:(c=c ∧ mem.length ≤ 60 ∧ c ≤ 60) ∧ (∀ x ∈ L,0 ≤ x ∧ x ≤ (mem.length:Int) - 1) ∧ ∀ x ∈ L',0 ≤ x ∧ x ≤ (mem.length:Int) - 1:=⟨⟨rfl,f6,hc60⟩,c1,c2⟩
    have k4:(c=c ∧ mem.length ≤ 60 ∧ c ≤ 60) ∧ (∀ x ∈ L.reverse,0 ≤ x ∧ x ≤ (mem.length:Int) - 1) ∧ ∀ x ∈ L'.reverse,0 ≤ x ∧ x ≤ (mem.length:Int) - 1:=⟨⟨rfl,f6,hc60⟩,fun x hx=>c1 x (List.mem_reverse.1 hx),fun x hx=>c2 x (List.mem_reverse.1 hx)⟩
    have k5:c ≤ 1000:=by omega
    have lrL:L.reverse.length=c:=by rw [List.length_reverse];exact hlL
    have lrL':L'.reverse.length=c:=by rw [List.length_reverse];exact hlL'
    (repeat' (first
 | (first|refine Ahz ?_|refine Abz ?_)
 | ((first|refine Aiz ?_|refine Auz (mid:=l67r3a) (post:=l67r3b) mixed (by decide) ?_|refine Adz ?_|refine Aoz ?_);simp (disch:=omega) only [push_cast,seval,l67r0,l67r1,l67r2,l67r3a,l67r3b,l67r3,h,hL,hL',hc,hlL,hlL',tl,lrL,lrL',List.length_reverse,Ctz,Int.toNat_natCast])
 | ((first|refine Alz false ?_|refine A0z false ?_);simp (disch:=omega) only [push_cast,seval,h,hL,hL',hc,hlL,hlL',tl,lrL,lrL',List.length_reverse,Ctz,Int.toNat_natCast])
 | ((first|((first|refine Akz (Ajz (Luz _ _ _ _ _ _ _ _ _ _ _ _ ?_ ?_ ?_ ?_ ?_ ?_)) ?_|refine Agz (Ajz (Luz _ _ _ _ _ _ _ _ _ _ _ _ ?_ ?_ ?_ ?_ ?_ ?_)) ⟨_,_,rfl,rfl⟩ ?_);(iterate 6 (exact sd));rintro _ _ ⟨rfl,rfl⟩)|((first|refine Akz (Ipz _ _ _ _ _ _ _ ?_ ?_ ?_ ?_) ?_|refine Agz (Ipz _ _ _ _ _ _ _ ?_ ?_ ?_ ?_) ⟨_,_,rfl,rfl⟩ ?_);(iterate 4 (exact sd));rintro _ _ ⟨rfl,rfl⟩)|((first|refine Akz (sput_ok _ _ _ _ _ _ _ _ _ ?_ ?_ ?_ ?_ ?_) ?_|refine Agz (sput_ok _ _ _ _ _ _ _ _ _ ?_ ?_ ?_ ?_ ?_) ⟨_,_,rfl,rfl⟩ ?_);(iterate 5 (exact sd));rintro _ _ ⟨rfl,rfl⟩))<;>(try simp (disch:=omega) only [push_cast,seval,h,hL,hL',hc,hlL,hlL',tl,lrL,lrL',List.length_reverse,Ctz,Int.toNat_natCast]))
 | (refine Aez ⟨.inr rfl,[288],[],_,by decide,rfl,?_⟩;(try simp (disch:=omega) only [push_cast,seval,↓Afz,↓Acz,↓List.map_cons,↓List.map_nil,h,hL,hL',hc,hlL,hlL',tl,lrL,lrL',List.length_reverse,Ctz,Int.toNat_natCast]))))
    all_goals simp [TB,MVL]


theorem I3z {mem L:List Int} (h:∀ x ∈ mem,0 ≤ x ∧ x ≤ 255):∀ x ∈ takesL mem L,0 ≤ x ∧ x ≤ 255:=by
  intro x hx
  unfold takesL at hx
  obtain ⟨i,_,rfl⟩:=List.mem_map.1 hx
  by_cases hl:i.toNat < mem.length
  · exact h _ (C9z hl)
  · rw [List.getD,List.getElem?_eq_none (Nat.le_of_not_lt hl)]
    exact ⟨Int.le_refl 0,by decide⟩

end Go.Proofs.YtkpcjppnjmhanaaGreatDoor
namespace Go.Proofs.YtkpcjppnjmhanaaGreatDoor
open VwM Vw Go
variable [SentA]

end Go.Proofs.YtkpcjppnjmhanaaGreatDoor
