/- Texts of this verifier. -/
import Derived.Test.YtfccepgibbdfaaaGreatDoorCB1
import Derived.Test.YtfccepgibbdfaaaGreatDoorCM1
set_option maxHeartbeats 4000000
set_option linter.unusedSimpArgs false
set_option linter.unusedSectionVars false
set_option linter.unusedVariables false
set_option maxRecDepth 4000
namespace Go.Proofs.YtfccepgibbdfaaaGreatDoor
open VwM Vw Go
variable [SentA]
variable [PowA]

theorem C9z (st:List Int)(n:Nat)(d:Nat)(hn:st.length=n)(hb:n≤1099511627776):PCall Tryz.prog 89 [.rows false (IL st) n,.int .i64 d] (fun r=>r=.bool (vSt st d)):=by
 subst hn
 refine Atz l89_eq rfl ?_
 by_cases hd:st.length=d
 ·subst hd
  (repeat' (first
 | (first|refine Afz ?_|refine Abz ?_)
 | ((first|refine Agz ?_|refine Acz ?_|refine Amz ?_);simp (disch:=omega) only [push_cast,seval])
 | (refine Adz ⟨.inr rfl,_,rfl,?_⟩;(try simp (disch:=omega) only [push_cast,seval]))))
  refine A5z (fun k:Nat=>mkS [(11,RI st),(12,.int .i64 st.length),(13,.int .i64 k)] []) (fun k=>k≤st.length∧∀ j:Nat,j<k→-60≤st.getD j 0∧st.getD j 0≤60) (fun k=>st.length-k) 0 ⟨Nat.zero_le _,fun j h=>absurd h (Nat.not_lt_zero _)⟩ ?_ ?_
  ·(refine Sub.of_lists ?_ ?_ ?_ ?_ ?_<;>simp [Vw.mkS,Vw.lk,Vw.hk,AV.inn,innL,Apz,Anz,Asz,-List.map_set,-List.getD_eq_getElem?_getD])
  ·rintro k ⟨hk,hj⟩
   by_cases hlt:k<st.length
   ·(repeat' ((first
 | (first|refine Afz ?_|refine Abz ?_)
 | (first|refine Agz ?_|refine Acz ?_|refine Amz ?_)
 | ((first|refine Alz (fun h=>?_) (fun h=>?_))<;>(try simp only [h])<;>(try simp only [bitvec_to_nat] at h)<;>(try simp only [h])<;>(first|(exfalso;omega)|(exfalso;simp_all;done)|skip))
 | (first|refine Ajz false ?_)
 | (first|(refine Aiz (Akz (Jhz _ _ ?_ ?_)) ?_;(iterate 2 (exact sd));rintro _ _ ⟨rfl,rfl⟩))
 | (refine Adz ⟨.inr rfl,_,rfl,?_⟩))<;>(try simp (disch:=omega) only [push_cast,seval])))
    ·have:allI st (-60) 60=false:=E3z (j:=k) hlt (by omega)
     simp [vSt,this]
    ·refine ⟨k+1,⟨by omega,fun j h=>?_⟩,by omega,?_⟩
     ·by_cases hjk:j=k
      ·subst hjk;assumption
      ·exact hj j (by omega)
     ·(refine Sub.of_lists ?_ ?_ ?_ ?_ ?_<;>simp [Vw.mkS,Vw.lk,Vw.hk,AV.inn,innL,Apz,Anz,Asz,-List.map_set,-List.getD_eq_getElem?_getD])
   ·have ha:allI st (-60) 60=true:=Gez fun j h=>hj j (by omega)
    (repeat' (first
 | (first|refine Afz ?_|refine Abz ?_)
 | ((first|refine Agz ?_|refine Acz ?_|refine Azz ?_);simp (disch:=omega) only [push_cast,seval])
 | ((first|refine Alz (fun h=>?_) (fun h=>?_))<;>(try simp only [h])<;>(try simp only [bitvec_to_nat] at h)<;>(try simp only [h])<;>(first|(exfalso;omega)|(exfalso;simp_all;done)|(simp (disch:=omega) only [push_cast,seval])|skip))
 | (refine Adz ⟨.inr rfl,_,rfl,?_⟩;(try simp (disch:=omega) only [push_cast,seval]))))
    simp [vSt,ha]
 ·have hd':¬ (st.length:Int)=d:=by omega
  (repeat' (first
 | (first|refine Afz ?_|refine Abz ?_)
 | ((first|refine Agz ?_|refine Acz ?_);simp (disch:=omega) only [push_cast,seval,hd'])
 | (refine Adz ⟨.inr rfl,_,rfl,?_⟩;(try simp (disch:=omega) only [push_cast,seval,hd']))))
  simp [vSt,hd]


theorem K3z (b:Int)(cs st idx:List Int)(n m p:Nat)(hm:st.length=m)(hp:idx.length=p)(hb:(p≤m∧p≤4)∧(-1000000≤b∧b≤1000000)∧∀ i,i<p→(-60≤idx.getD i 0∧idx.getD i 0≤60)∧-12960000≤st.getD i 0∧st.getD i 0≤12960000):PCall Tryz.prog 121 [.agg [.int .i64 b,.rows false (IL cs) n,.rows false (IL st) m],.rows false (IL idx) p] (fun r=>r=.int .i64 (b+dot (fun i=>idx.getD i 0) st p)):=by
 subst hm hp
 obtain ⟨⟨h1,h2⟩,⟨h3,h4⟩,hb⟩:=hb
 refine Atz l121_eq rfl ?_
 (repeat' (first
 | (first|refine Afz ?_|refine Abz ?_)
 | ((first|refine Agz ?_);simp (disch:=omega) only [push_cast,seval])
 | (refine Adz ⟨.inr rfl,_,rfl,?_⟩;(try simp (disch:=omega) only [push_cast,seval]))))
 refine A5z (fun k:Nat=>mkS [(1,RI idx),(2,.ref 32 3 0),(5,.int .i64 (b+dot (fun i=>idx.getD i 0) st k)),(6,.int .i64 k)] [(32,[.int .i64 b,.rows false (IL cs) n,RI st])]) (fun k=>k≤idx.length) (fun k=>idx.length-k) 0 (Nat.zero_le _) ?_ ?_
 ·(refine Sub.of_lists ?_ ?_ ?_ ?_ ?_<;>simp [Vw.mkS,Vw.lk,Vw.hk,AV.inn,innL,Apz,Anz,Asz,-List.map_set,-List.getD_eq_getElem?_getD,dot])
 ·intro k hk
  by_cases hlt:k<idx.length
  ·have q1:=H5z (f:=fun i=>idx.getD i 0) (st:=st) (B:=60) (C:=12960000) k fun i hi=>hb i (by omega)
   have q2:=Fez (hb k hlt).1 (hb k hlt).2
   have q3:k<st.length:=by omega
   (repeat' (first
 | (first|refine Afz ?_|refine Abz ?_)
 | ((first|refine Agz ?_|refine Arz (mid:=l121r4a) (post:=l121r4b) mixed (by decide) ?_|refine Acz ?_|refine Amz ?_);simp (disch:=omega) only [push_cast,seval])
 | ((first|refine Alz (fun h=>?_) (fun h=>?_))<;>(try simp only [h])<;>(try simp only [bitvec_to_nat] at h)<;>(try simp only [h])<;>(first|(exfalso;omega)|(exfalso;simp_all;done)|(simp (disch:=omega) only [push_cast,seval])|skip))
 | (refine Adz ⟨.inr rfl,_,rfl,?_⟩;(try simp (disch:=omega) only [push_cast,seval]))))
   refine ⟨k+1,by omega,by omega,?_⟩
   (refine Sub.of_lists ?_ ?_ ?_ ?_ ?_<;>simp [Vw.mkS,Vw.lk,Vw.hk,AV.inn,innL,Apz,Anz,Asz,-List.map_set,-List.getD_eq_getElem?_getD,dot,Int.add_assoc])
  ·(repeat' (first
 | (first|refine Afz ?_|refine Abz ?_)
 | ((first|refine Agz ?_|refine Acz ?_|refine Azz ?_);simp (disch:=omega) only [push_cast,seval])
 | ((first|refine Alz (fun h=>?_) (fun h=>?_))<;>(try simp only [h])<;>(try simp only [bitvec_to_nat] at h)<;>(try simp only [h])<;>(first|(exfalso;omega)|(exfalso;simp_all;done)|(simp (disch:=omega) only [push_cast,seval])|skip))
 | (refine Adz ⟨.inr rfl,_,rfl,?_⟩;(try simp (disch:=omega) only [push_cast,seval]))))
   rw [show k=idx.length by omega]


/-- What keeps a view's cells from overflowing. -/
def okV (b:Int)(sh st:List Int):Prop:=(good4 sh∧pr sh≤60)∧(-1000000≤b∧b≤1000000)∧sh.length≤st.length∧∀ i,i<sh.length→-12960000≤st.getD i 0∧st.getD i 0≤12960000
theorem okV_dig {b:Int}{sh st:List Int}(h:okV b sh st){k:Int}(hk:0≤k)(hk2:k<pr sh):∀ i,i<sh.length→(-60≤dig sh k i∧dig sh k i≤60)∧-12960000≤st.getD i 0∧st.getD i 0≤12960000:=fun i hi=>by
 obtain ⟨⟨hg,_⟩,_,_,hs⟩:=h
 have h1:=dig_isIx hg hk hk2 i hi
 have h2:=Clz hg hi
 exact ⟨by omega,hs i hi⟩
theorem unr_getD {sh:List Int}{k:Int}{i:Nat}(h:i<sh.length):(unr sh k).getD i 0=dig sh k i:=by simp [unr,List.getD,h]
theorem Fjz {sh st:List Int}{k:Int}:dot (fun i=>(unr sh k).getD i 0) st sh.length=dot (dig sh k) st sh.length:=E0z fun i hi=>unr_getD hi
theorem dot_digP {sh st:List Int}{k:Int}:dot (digP sh k) st sh.length=dot (dig sh k) st sh.length:=E0z fun i hi=>by unfold digP;rw [if_pos hi]
def offsT (b:Int)(sh st:List Int)(j:Nat):List Int:=(List.range j).map fun k:Nat=>cellK b sh st k
theorem offsT_zero (b:Int)(sh st:List Int):offsT b sh st 0=[]:=rfl
theorem offsT_succ (b:Int)(sh st:List Int)(j:Nat):offsT b sh st (j+1)=offsT b sh st j++[cellK b sh st j]:=by simp [offsT,List.range_succ]
theorem offsT_length (b:Int)(sh st:List Int)(j:Nat):(offsT b sh st j).length=j:=by simp [offsT]
theorem offsT_all (b:Int)(sh st:List Int):offsT b sh st (pr sh).toNat=offs b sh st:=rfl


theorem Diz (b:Int)(sh st:List Int)(n m:Nat)(hn:sh.length=n)(hm:st.length=m)(hb:okV b sh st):BCall Tryz.prog 101 [.agg [.int .i64 b,.rows false (IL sh) n,.rows false (IL st) m]] [] (OI (offs b sh st)):=by
 subst hn hm
 obtain ⟨⟨hg,hp60⟩,⟨hb1,hb2⟩,hls,hst⟩:=hb
 have hl:=hg.2
 have hp0:=(Dmz hg).1
 refine Avz (pins:=[]) (pin:=0) l101_eq rfl rfl rfl ?_
 (repeat' (first
 | (first|refine Afz ?_|refine Abz ?_)
 | ((first|refine Agz ?_);simp (disch:=omega) only [push_cast,seval])
 | (refine Adz ⟨.inr rfl,[80],[],_,by decide,rfl,?_⟩;(try simp (disch:=omega) only [push_cast,seval,↓Ahz,↓Aez,↓List.map_cons,↓List.map_nil]);(first|done|(show AV.own _ _ _=_∧_)))
 | (refine Adz ⟨.inr rfl,[144],[],_,by decide,rfl,?_⟩;(try simp (disch:=omega) only [push_cast,seval,↓Ahz,↓Aez,↓List.map_cons,↓List.map_nil]);(first|done|(show AV.own _ _ _=_∧_)))
 | (refine Adz ⟨.inr rfl,[288],[],_,by decide,rfl,?_⟩;(try simp (disch:=omega) only [push_cast,seval,↓Ahz,↓Aez,↓List.map_cons,↓List.map_nil]);(first|done|(show AV.own _ _ _=_∧_)))
 | (refine Adz ⟨.inr rfl,[304],[],_,by decide,rfl,?_⟩;(try simp (disch:=omega) only [push_cast,seval,↓Ahz,↓Aez,↓List.map_cons,↓List.map_nil]);(first|done|(show AV.own _ _ _=_∧_)))
 | (refine Adz ⟨.inr rfl,[320],[],_,by decide,rfl,?_⟩;(try simp (disch:=omega) only [push_cast,seval,↓Ahz,↓Aez,↓List.map_cons,↓List.map_nil]);(first|done|(show AV.own _ _ _=_∧_)))
 | (refine Adz ⟨.inr rfl,[336],[],_,by decide,rfl,?_⟩;(try simp (disch:=omega) only [push_cast,seval,↓Ahz,↓Aez,↓List.map_cons,↓List.map_nil]);(first|done|(show AV.own _ _ _=_∧_)))))
 refine A5z (fun k:Nat=>mkS [(1,.ref 16 3 0),(3,.own 80 k 1),(4,.int .i64 k)] [(16,[.int .i64 b,RI sh,RI st]),(80,IL (offsT b sh st k))])
  (fun k=>k≤(pr sh).toNat) (fun k=>(pr sh).toNat-k) 0 (Nat.zero_le _) ?_ ?_
 ·(refine Sub.of_lists ?_ ?_ ?_ ?_ ?_<;>simp [Vw.mkS,Vw.lk,Vw.hk,AV.inn,innL,Apz,Anz,Asz,-List.map_set,-List.getD_eq_getElem?_getD,offsT_zero])
 ·intro k hk
  have hol:=offsT_length b sh st k
  by_cases hlt:k<(pr sh).toNat
  ·have hgk:good4 sh∧0≤(k:Int)∧(k:Int)<pr sh:=⟨hg,by omega,by omega⟩
   have hdg:=okV_dig (b:=b) (st:=st) ⟨⟨hg,hp60⟩,⟨hb1,hb2⟩,hls,hst⟩ hgk.2.1 hgk.2.2
   have hlu:=Ibz sh k
   have q:(sh.length≤st.length∧sh.length≤4)∧(-1000000≤b∧b≤1000000)∧∀ i,i<sh.length→(-60≤(unr sh k).getD i 0∧(unr sh k).getD i 0≤60)∧-12960000≤st.getD i 0∧st.getD i 0≤12960000:=⟨⟨hls,hl⟩,⟨hb1,hb2⟩,fun i hi=>by rw [unr_getD hi];exact hdg i hi⟩
   have hlt':(k:Int)<pr sh:=hgk.2.2
   (repeat' ((first
 | (first|refine Afz ?_|refine Abz ?_)
 | (first|refine Agz ?_|refine Arz (mid:=l101r4a) (post:=l101r4b) mixed (by decide) ?_|refine Acz ?_|refine Amz ?_)
 | (first|refine Ajz false ?_|refine Aqz false ?_)
 | (first|((first|refine Aiz (Akz (Dqz _ _ ?_ ?_)) ?_|refine Aoz (Akz (Dqz _ _ ?_ ?_)) ⟨_,_,rfl,rfl⟩ ?_);(iterate 2 (exact sd));rintro _ _ ⟨rfl,rfl⟩)|((first|refine Aiz (unrank_ok _ _ _ ?_ ?_) ?_|refine Aoz (Akz (G1z (unrank_ok _ _ _ ?_ ?_))) ⟨_,_,rfl,rfl⟩ ?_);(iterate 2 (exact sd));rintro _ _ ⟨rfl,rfl⟩)|((first|refine Aiz (Akz (K3z _ _ _ _ _ _ _ ?_ ?_ ?_)) ?_|refine Aoz (Akz (K3z _ _ _ _ _ _ _ ?_ ?_ ?_)) ⟨_,_,rfl,rfl⟩ ?_);(iterate 3 (exact sd));rintro _ _ ⟨rfl,rfl⟩))
 | (refine Adz ⟨.inr rfl,[80],[],_,by decide,rfl,?_⟩;(try simp (disch:=omega) only [push_cast,seval,↓Ahz,↓Aez,↓List.map_cons,↓List.map_nil,hlt',hlu,hol,Fjz]);(first|done|(show AV.own _ _ _=_∧_)))
 | (refine Adz ⟨.inr rfl,[144],[],_,by decide,rfl,?_⟩;(try simp (disch:=omega) only [push_cast,seval,↓Ahz,↓Aez,↓List.map_cons,↓List.map_nil,hlt',hlu,hol,Fjz]);(first|done|(show AV.own _ _ _=_∧_)))
 | (refine Adz ⟨.inr rfl,[288],[],_,by decide,rfl,?_⟩;(try simp (disch:=omega) only [push_cast,seval,↓Ahz,↓Aez,↓List.map_cons,↓List.map_nil,hlt',hlu,hol,Fjz]);(first|done|(show AV.own _ _ _=_∧_)))
 | (refine Adz ⟨.inr rfl,[304],[],_,by decide,rfl,?_⟩;(try simp (disch:=omega) only [push_cast,seval,↓Ahz,↓Aez,↓List.map_cons,↓List.map_nil,hlt',hlu,hol,Fjz]);(first|done|(show AV.own _ _ _=_∧_)))
 | (refine Adz ⟨.inr rfl,[320],[],_,by decide,rfl,?_⟩;(try simp (disch:=omega) only [push_cast,seval,↓Ahz,↓Aez,↓List.map_cons,↓List.map_nil,hlt',hlu,hol,Fjz]);(first|done|(show AV.own _ _ _=_∧_)))
 | (refine Adz ⟨.inr rfl,[336],[],_,by decide,rfl,?_⟩;(try simp (disch:=omega) only [push_cast,seval,↓Ahz,↓Aez,↓List.map_cons,↓List.map_nil,hlt',hlu,hol,Fjz]);(first|done|(show AV.own _ _ _=_∧_))))<;>(try simp (disch:=omega) only [push_cast,seval,hlt',hlu,hol,Fjz])))
   refine ⟨k+1,by omega,by omega,?_⟩
   have e:b+dot (dig sh k) st sh.length=cellK b sh st k:=rfl
   (refine Sub.of_lists ?_ ?_ ?_ ?_ ?_<;>simp [Vw.mkS,Vw.lk,Vw.hk,AV.inn,innL,Apz,Anz,Asz,-List.map_set,-List.getD_eq_getElem?_getD,offsT_succ,e])
  ·have hlt':¬ (k:Int)<pr sh:=by omega
   (repeat' ((first
 | (first|refine Afz ?_|refine Abz ?_)
 | (first|refine Agz ?_|refine Acz ?_|refine Azz ?_)
 | (first|refine Ajz false ?_)
 | (first|(refine Aiz (Akz (Dqz _ _ ?_ ?_)) ?_;(iterate 2 (exact sd));rintro _ _ ⟨rfl,rfl⟩))
 | (refine Adz ⟨.inr rfl,[80],[],_,by decide,rfl,?_⟩;(try simp (disch:=omega) only [push_cast,seval,↓Ahz,↓Aez,↓List.map_cons,↓List.map_nil,hlt',hol]);(first|done|(show AV.own _ _ _=_∧_)))
 | (refine Adz ⟨.inr rfl,[144],[],_,by decide,rfl,?_⟩;(try simp (disch:=omega) only [push_cast,seval,↓Ahz,↓Aez,↓List.map_cons,↓List.map_nil,hlt',hol]);(first|done|(show AV.own _ _ _=_∧_)))
 | (refine Adz ⟨.inr rfl,[288],[],_,by decide,rfl,?_⟩;(try simp (disch:=omega) only [push_cast,seval,↓Ahz,↓Aez,↓List.map_cons,↓List.map_nil,hlt',hol]);(first|done|(show AV.own _ _ _=_∧_)))
 | (refine Adz ⟨.inr rfl,[304],[],_,by decide,rfl,?_⟩;(try simp (disch:=omega) only [push_cast,seval,↓Ahz,↓Aez,↓List.map_cons,↓List.map_nil,hlt',hol]);(first|done|(show AV.own _ _ _=_∧_)))
 | (refine Adz ⟨.inr rfl,[320],[],_,by decide,rfl,?_⟩;(try simp (disch:=omega) only [push_cast,seval,↓Ahz,↓Aez,↓List.map_cons,↓List.map_nil,hlt',hol]);(first|done|(show AV.own _ _ _=_∧_)))
 | (refine Adz ⟨.inr rfl,[336],[],_,by decide,rfl,?_⟩;(try simp (disch:=omega) only [push_cast,seval,↓Ahz,↓Aez,↓List.map_cons,↓List.map_nil,hlt',hol]);(first|done|(show AV.own _ _ _=_∧_))))<;>(try simp (disch:=omega) only [push_cast,seval,hlt',hol])))
   have:k=(pr sh).toNat:=by omega
   rw [this,offsT_all]
   simp [OI,Bdz]


theorem cell_ok (b:Int)(cs:List Int)(f:Nat→Int)(st:List Int)(n m:Nat)(hm:st.length=m)(hb:m≤4∧(-1000000≤b∧b≤1000000)∧∀ i,i<m→(-60≤f i∧f i≤60)∧-12960000≤st.getD i 0∧st.getD i 0≤12960000):PCall Tryz.prog 158 [.agg [.int .i64 b,.rows false (IL cs) n,.rows false (IL st) m],AP f] (fun r=>r=.int .i64 (b+dot f st m)):=by
 subst hm
 obtain ⟨h1,⟨h2,h3⟩,h4⟩:=hb
 have q:st.length≤4∧∀ i,i<st.length→(-60≤f i∧f i≤60)∧-12960000≤st.getD i 0∧st.getD i 0≤12960000:=⟨h1,h4⟩
 have q1:=H5z (f:=f) (st:=st) (B:=60) (C:=12960000) st.length h4
 refine Atz l158_eq rfl ?_
 (repeat' ((first
 | (first|refine Afz ?_|refine Abz ?_)
 | (first|refine Agz ?_|refine Arz (mid:=l158r1a) (post:=l158r1b) mixed (by decide) ?_)
 | (first|refine Aqz false ?_)
 | (first|(refine Aoz (Akz (along_ok _ _ _ ?_ ?_)) ⟨_,_,rfl,rfl⟩ ?_;(iterate 2 (exact sd));rintro _ _ ⟨rfl,rfl⟩))
 | (refine Adz ⟨.inr rfl,_,rfl,?_⟩))<;>(try simp (disch:=omega) only [push_cast,seval])))


theorem Jfz (b:Int)(sh st:List Int)(n m:Nat)(hn:sh.length=n)(hm:st.length=m)(hb:okV b sh st∧st.length=sh.length):BCall Tryz.prog 147 [.agg [.int .i64 b,.rows false (IL sh) n,.rows false (IL st) m]] [] (OI (offs b sh st)):=by
 subst hn hm
 obtain ⟨⟨⟨hg,hp60⟩,⟨hb1,hb2⟩,hls,hst⟩,hle⟩:=hb
 have hl:=hg.2
 have hp0:=(Dmz hg).1
 refine Avz (pins:=[]) (pin:=0) l147_eq rfl rfl rfl ?_
 (repeat' ((first
 | (first|refine Afz ?_|refine Abz ?_)
 | (first|refine Agz ?_)
 | (first|refine Ajz false ?_)
 | (first|(refine Aiz (Akz (C8z _ _ _ _ _ _ ?_ ?_)) ?_;(iterate 2 (exact sd));rintro _ _ ⟨rfl,rfl⟩))
 | (refine Adz ⟨.inr rfl,[96],[],_,by decide,rfl,?_⟩;(try simp (disch:=omega) only [push_cast,seval,↓Ahz,↓Aez,↓List.map_cons,↓List.map_nil]);(first|done|(show AV.own _ _ _=_∧_)))
 | (refine Adz ⟨.inr rfl,[112],[],_,by decide,rfl,?_⟩;(try simp (disch:=omega) only [push_cast,seval,↓Ahz,↓Aez,↓List.map_cons,↓List.map_nil]);(first|done|(show AV.own _ _ _=_∧_)))
 | (refine Adz ⟨.inr rfl,[304],[],_,by decide,rfl,?_⟩;(try simp (disch:=omega) only [push_cast,seval,↓Ahz,↓Aez,↓List.map_cons,↓List.map_nil]);(first|done|(show AV.own _ _ _=_∧_)))
 | (refine Adz ⟨.inr rfl,[320],[],_,by decide,rfl,?_⟩;(try simp (disch:=omega) only [push_cast,seval,↓Ahz,↓Aez,↓List.map_cons,↓List.map_nil]);(first|done|(show AV.own _ _ _=_∧_))))<;>(try simp (disch:=omega) only [push_cast,seval])))
 refine A5z (fun k:Nat=>mkS [(1,.ref 16 3 0),(3,.own 112 (pr sh).toNat 1),(9,.int .i64 (pr sh)),(10,.int .i64 k)] [(16,[.int .i64 b,RI sh,RI st]),(112,IL (filled (fun k:Nat=>cellK b sh st k) (pr sh).toNat k))])
  (fun k=>k≤(pr sh).toNat) (fun k=>(pr sh).toNat-k) 0 (Nat.zero_le _) ?_ ?_
 ·have e0:max (pr sh) 0=pr sh:=by omega
  (refine Sub.of_lists ?_ ?_ ?_ ?_ ?_<;>simp [Vw.mkS,Vw.lk,Vw.hk,AV.inn,innL,Apz,Anz,Asz,-List.map_set,-List.getD_eq_getElem?_getD,Kgz,e0])
 ·intro k hk
  by_cases hlt:k<(pr sh).toNat
  ·have hgk:good4 sh∧0≤(k:Int)∧(k:Int)<pr sh:=⟨hg,by omega,by omega⟩
   have hdg:=okV_dig (b:=b) (st:=st) ⟨⟨hg,hp60⟩,⟨hb1,hb2⟩,hls,hst⟩ hgk.2.1 hgk.2.2
   have q:st.length≤4∧(-1000000≤b∧b≤1000000)∧∀ i,i<st.length→(-60≤digP sh k i∧digP sh k i≤60)∧-12960000≤st.getD i 0∧st.getD i 0≤12960000:=⟨by omega,⟨hb1,hb2⟩,fun i hi=>by
    unfold digP
    rw [if_pos (by omega)]
    exact hdg i (by omega)⟩
   have hlt':(k:Int)<pr sh:=hgk.2.2
   (repeat' ((first
 | (first|refine Afz ?_|refine Abz ?_)
 | (first|refine Agz ?_|refine Arz (mid:=l147r5a) (post:=l147r5b) mixed (by decide) ?_|refine Acz ?_|refine Amz ?_)
 | (first|refine Aqz false ?_)
 | (first|(refine Aoz (Akz (placesAt_ok _ _ _ ?_ ?_)) ⟨_,_,rfl,rfl⟩ ?_;(iterate 2 (exact sd));rintro _ _ ⟨rfl,rfl⟩)|(refine Aoz (Akz (cell_ok _ _ _ _ _ _ ?_ ?_)) ⟨_,_,rfl,rfl⟩ ?_;(iterate 2 (exact sd));rintro _ _ ⟨rfl,rfl⟩))
 | (refine Adz ⟨.inr rfl,[96],[],_,by decide,rfl,?_⟩;(try simp (disch:=omega) only [push_cast,seval,↓Ahz,↓Aez,↓List.map_cons,↓List.map_nil,hlt']);(first|done|(show AV.own _ _ _=_∧_)))
 | (refine Adz ⟨.inr rfl,[112],[],_,by decide,rfl,?_⟩;(try simp (disch:=omega) only [push_cast,seval,↓Ahz,↓Aez,↓List.map_cons,↓List.map_nil,hlt']);(first|done|(show AV.own _ _ _=_∧_)))
 | (refine Adz ⟨.inr rfl,[304],[],_,by decide,rfl,?_⟩;(try simp (disch:=omega) only [push_cast,seval,↓Ahz,↓Aez,↓List.map_cons,↓List.map_nil,hlt']);(first|done|(show AV.own _ _ _=_∧_)))
 | (refine Adz ⟨.inr rfl,[320],[],_,by decide,rfl,?_⟩;(try simp (disch:=omega) only [push_cast,seval,↓Ahz,↓Aez,↓List.map_cons,↓List.map_nil,hlt']);(first|done|(show AV.own _ _ _=_∧_))))<;>(try simp (disch:=omega) only [push_cast,seval,hlt'])))
   refine ⟨k+1,by omega,by omega,?_⟩
   have e:b+dot (digP sh k) st st.length=cellK b sh st k:=by rw [hle,dot_digP];rfl
   have e2:=Lgz (fun k:Nat=>cellK b sh st k) (pr sh).toNat k hlt
   (refine Sub.of_lists ?_ ?_ ?_ ?_ ?_<;>simp [Vw.mkS,Vw.lk,Vw.hk,AV.inn,innL,Apz,Anz,Asz,-List.map_set,-List.getD_eq_getElem?_getD,A2z,e,e2])
  ·have hlt':¬ (k:Int)<pr sh:=by omega
   (repeat' (first
 | (first|refine Afz ?_|refine Abz ?_)
 | ((first|refine Agz ?_|refine Acz ?_|refine Azz ?_);simp (disch:=omega) only [push_cast,seval,hlt'])
 | (refine Adz ⟨.inr rfl,[96],[],_,by decide,rfl,?_⟩;(try simp (disch:=omega) only [push_cast,seval,↓Ahz,↓Aez,↓List.map_cons,↓List.map_nil,hlt']);(first|done|(show AV.own _ _ _=_∧_)))
 | (refine Adz ⟨.inr rfl,[112],[],_,by decide,rfl,?_⟩;(try simp (disch:=omega) only [push_cast,seval,↓Ahz,↓Aez,↓List.map_cons,↓List.map_nil,hlt']);(first|done|(show AV.own _ _ _=_∧_)))
 | (refine Adz ⟨.inr rfl,[304],[],_,by decide,rfl,?_⟩;(try simp (disch:=omega) only [push_cast,seval,↓Ahz,↓Aez,↓List.map_cons,↓List.map_nil,hlt']);(first|done|(show AV.own _ _ _=_∧_)))
 | (refine Adz ⟨.inr rfl,[320],[],_,by decide,rfl,?_⟩;(try simp (disch:=omega) only [push_cast,seval,↓Ahz,↓Aez,↓List.map_cons,↓List.map_nil,hlt']);(first|done|(show AV.own _ _ _=_∧_)))))
   have:k=(pr sh).toNat:=by omega
   rw [this,filled_all]
   simp [OI,offs]


theorem Knz (b:Int)(sh st:List Int)(n m:Nat)(hn:sh.length=n)(hm:st.length=m)(hb:good4 sh∧vSt st sh.length=true∧-1000000≤b∧b≤1000000):PCall Tryz.prog 52 [.agg [.int .i64 b,.rows false (IL sh) n,.rows false (IL st) m]] (fun r=>r=.tup [.int .i64 (bdL b sh st),.int .i64 (bdH b sh st)]):=by
 subst hn hm
 obtain ⟨hg,hs,hb1,hb2⟩:=hb
 have hl:=hg.2
 have hle:=(Dyz.1 hs).1
 refine Atz l52_eq rfl ?_
 unfold bdL bdH
 by_cases hz:pr sh=0
 ·(repeat' ((first
 | (first|refine Afz ?_|refine Abz ?_)
 | (first|refine Agz ?_|refine Acz ?_)
 | (first|refine Ajz false ?_)
 | (first|(refine Aiz (Akz (C8z _ _ _ _ _ _ ?_ ?_)) ?_;(iterate 2 (exact sd));rintro _ _ ⟨rfl,rfl⟩))
 | (refine Adz ⟨.inr rfl,_,rfl,?_⟩))<;>(try simp (disch:=omega) only [push_cast,seval,hz])))
 ·(repeat' ((first
 | (first|refine Afz ?_|refine Abz ?_)
 | (first|refine Agz ?_|refine Arz (mid:=l52r3a) (post:=l52r3b) mixed (by decide) ?_|refine Acz ?_|refine Amz ?_)
 | (first|refine Ajz false ?_)
 | (first|(refine Aiz (Akz (C8z _ _ _ _ _ _ ?_ ?_)) ?_;(iterate 2 (exact sd));rintro _ _ ⟨rfl,rfl⟩))
 | (refine Adz ⟨.inr rfl,_,rfl,?_⟩))<;>(try simp (disch:=omega) only [push_cast,seval,hz])))
  refine A5z (fun k:Nat=>mkS [(1,.ref 16 3 0),(4,.int .i64 (b+lowS sh st k)),(5,.int .i64 (b+highS sh st k)),(17,RI st),(18,.int .i64 st.length),(19,.int .i64 k)] [(16,[.int .i64 b,RI sh,RI st])])
   (fun k=>k≤st.length) (fun k=>st.length-k) 0 (Nat.zero_le _) ?_ ?_
  ·(refine Sub.of_lists ?_ ?_ ?_ ?_ ?_<;>simp [Vw.mkS,Vw.lk,Vw.hk,AV.inn,innL,Apz,Anz,Asz,-List.map_set,-List.getD_eq_getElem?_getD,lowS,highS])
  ·intro k hk
   by_cases hlt:k<st.length
   ·have h1:=Clz hg (k:=k) (by omega)
    have h2:=K0z hs (i:=k) (by omega)
    have h3:=mul_bd (x:=sh.getD k 0-1) (y:=st.getD k 0) (p:=60) (q:=60) (by omega) (by omega)
    have h4:=Hzz hg hs k (by omega)
    have h5:k<sh.length:=by omega
    (repeat' (first
 | (first|refine Afz ?_|refine Abz ?_)
 | ((first|refine Agz ?_|refine Acz ?_|refine Amz ?_);simp (disch:=omega) only [push_cast,seval])
 | ((first|refine Alz (fun h=>?_) (fun h=>?_))<;>(try simp only [h])<;>(try simp only [bitvec_to_nat] at h)<;>(try simp only [h])<;>(first|(exfalso;omega)|(exfalso;simp_all;done)|(simp (disch:=omega) only [push_cast,seval])|skip))
 | (refine Adz ⟨.inr rfl,_,rfl,?_⟩;(try simp (disch:=omega) only [push_cast,seval]))))
    refine ⟨k+1,by omega,by omega,?_⟩
    (refine Sub.of_lists ?_ ?_ ?_ ?_ ?_<;>simp [Vw.mkS,Vw.lk,Vw.hk,AV.inn,innL,Apz,Anz,Asz,-List.map_set,-List.getD_eq_getElem?_getD,lowS,highS,Int.add_assoc])
   ·(repeat' (first
 | (first|refine Afz ?_|refine Abz ?_)
 | ((first|refine Agz ?_|refine Acz ?_|refine Azz ?_);simp (disch:=omega) only [push_cast,seval])
 | ((first|refine Alz (fun h=>?_) (fun h=>?_))<;>(try simp only [h])<;>(try simp only [bitvec_to_nat] at h)<;>(try simp only [h])<;>(first|(exfalso;omega)|(exfalso;simp_all;done)|(simp (disch:=omega) only [push_cast,seval])|skip))
 | (refine Adz ⟨.inr rfl,_,rfl,?_⟩;(try simp (disch:=omega) only [push_cast,seval]))))
    rw [← hle,show k=st.length by omega]

end Go.Proofs.YtfccepgibbdfaaaGreatDoor
namespace Go.Proofs.YtfccepgibbdfaaaGreatDoor
open VwM Vw Go
variable [SentA]
variable [PowA]

theorem okV_of {b:Int}{sh st:List Int}(h1:vSh sh=true)(h2:vSt st sh.length=true)(h3:0≤b∧b≤60):okV b sh st∧st.length=sh.length:=by
 have hg:=Cbz h1
 have hs:=(Dyz.1 h2).1
 exact ⟨⟨⟨hg.1,hg.2.2⟩,by omega,by omega,fun i hi=>by have:=K0z h2 hi;omega⟩,hs⟩
theorem Dsz {b:Int}{sh st:List Int}(h:vV b sh st=true):okV b sh st∧st.length=sh.length:=by
 obtain ⟨h1,h2,h3,_⟩:=Cmz.1 h
 exact okV_of h1 h2 h3
theorem vV_shape {b:Int}{sh st:List Int}(h:vSh sh=false):vV b sh st=false:=by simp [vV,h]
theorem vV_str {b:Int}{sh st:List Int}(h:vSt st sh.length=false):vV b sh st=false:=by simp [vV,h]
theorem vV_base {b:Int}{sh st:List Int}(h:¬ (0≤b∧b≤60)):vV b sh st=false:=by
 rw [Bool.eq_false_iff];intro h';exact h (Cmz.1 h').2.2.1
theorem vV_rest {b:Int}{sh st:List Int}(h1:vSh sh=true)(h2:vSt st sh.length=true)(h3:0≤b∧b≤60):vV b sh st=(decide (pr sh=0) || allI (offs b sh st) 0 59):=by
 simp [vV,h1,h2,h3]


theorem A3z (b:Int)(sh st:List Int)(n m:Nat)(hn:sh.length=n)(hm:st.length=m)(hb:n≤1099511627776∧m≤1099511627776):PCall Tryz.prog 92 [.agg [.int .i64 b,.rows false (IL sh) n,.rows false (IL st) m]] (fun r=>r=.bool (vV b sh st)):=by
 subst hn hm
 obtain ⟨hb1,hb2⟩:=hb
 refine Atz l92_eq rfl ?_
 cases hv:vSh sh with
 | false =>
  rw [vV_shape hv]
  (repeat' ((first
 | (first|refine Afz ?_|refine Abz ?_)
 | (first|refine Agz ?_)
 | (first|refine Ajz false ?_)
 | (first|(refine Aiz (Akz (Cjz _ _ ?_ ?_)) ?_;(iterate 2 (exact sd));rintro _ _ ⟨rfl,rfl⟩))
 | (refine Adz ⟨.inr rfl,_,rfl,?_⟩))<;>(try simp (disch:=omega) only [push_cast,seval,hv])))
 | true =>
 have hg:=(Cbz hv).1
 by_cases hl:st.length=sh.length
 ·have hl':(st.length:Int)=sh.length:=by omega
  cases ha:allI st (-60) 60 with
  | false =>
   rw [vV_str (by simp [vSt,ha])]
   (repeat' ((first
 | (first|refine Afz ?_|refine Abz ?_)
 | (first|refine Agz ?_)
 | (first|refine Ajz false ?_)
 | (first|(refine Aiz (Akz (Cjz _ _ ?_ ?_)) ?_;(iterate 2 (exact sd));rintro _ _ ⟨rfl,rfl⟩)|(refine Aiz (Akz (C1z _ _ _ _ ?_ ?_)) ?_;(iterate 2 (exact sd));rintro _ _ ⟨rfl,rfl⟩))
 | (refine Adz ⟨.inr rfl,_,rfl,?_⟩))<;>(try simp (disch:=omega) only [push_cast,seval,hv,hl',ha])))
  | true =>
   have hs:vSt st sh.length=true:=by simp [vSt,hl,ha]
   by_cases hr:0≤b∧b≤60
   ·have hok:=(okV_of hv hs hr).1
    rw [vV_rest hv hs hr]
    obtain ⟨hr1,hr2⟩:=hr
    have hol:=Bdz b sh st
    have hpb:=(Cbz hv).2
    have hb3:(offs b sh st).length≤1099511627776:=by omega
    by_cases hz:pr sh=0
    ·(repeat' ((first
 | (first|refine Afz ?_|refine Abz ?_)
 | (first|refine Agz ?_)
 | (first|refine Ajz false ?_)
 | (first|(refine Aiz (Akz (Cjz _ _ ?_ ?_)) ?_;(iterate 2 (exact sd));rintro _ _ ⟨rfl,rfl⟩)|(refine Aiz (Akz (C1z _ _ _ _ ?_ ?_)) ?_;(iterate 2 (exact sd));rintro _ _ ⟨rfl,rfl⟩)|(refine Aiz (Akz (A1z _ _ _)) ?_;rintro _ _ ⟨rfl,rfl⟩)|(refine Aiz (Akz (Dqz _ _ ?_ ?_)) ?_;(iterate 2 (exact sd));rintro _ _ ⟨rfl,rfl⟩))
 | (refine Adz ⟨.inr rfl,_,rfl,?_⟩; (try simp (disch := omega) only [push_cast,seval,hv,hl',ha,hr1,hr2,hz])))<;>(try simp (disch:=omega) only [push_cast,seval,hv,hl',ha,hr1,hr2,hz])))
     all_goals simp
    ·(repeat' ((first
 | (first|refine Afz ?_|refine Abz ?_)
 | (first|refine Agz ?_)
 | (first|refine Ajz false ?_)
 | (first|(refine Aiz (Akz (Cjz _ _ ?_ ?_)) ?_;(iterate 2 (exact sd));rintro _ _ ⟨rfl,rfl⟩)|(refine Aiz (Akz (C1z _ _ _ _ ?_ ?_)) ?_;(iterate 2 (exact sd));rintro _ _ ⟨rfl,rfl⟩)|(refine Aiz (Akz (A1z _ _ _)) ?_;rintro _ _ ⟨rfl,rfl⟩)|(refine Aiz (Akz (Dqz _ _ ?_ ?_)) ?_;(iterate 2 (exact sd));rintro _ _ ⟨rfl,rfl⟩)|(refine Aiz (Diz _ _ _ _ _ ?_ ?_ ?_) ?_;(iterate 3 (exact sd));rintro _ _ ⟨rfl,rfl⟩))
 | (refine Adz ⟨.inr rfl,_,rfl,?_⟩; (try simp (disch := omega) only [push_cast,seval,hv,hl',ha,hr1,hr2,hz])))<;>(try simp (disch:=omega) only [push_cast,seval,hv,hl',ha,hr1,hr2,hz])))
     all_goals simp
   ·rw [vV_base hr]
    have hr':(decide (0≤b)&&decide (b≤60))=false:=by
     rw [Bool.eq_false_iff];intro h;simp at h;exact hr h
    (repeat' ((first
 | (first|refine Afz ?_|refine Abz ?_)
 | (first|refine Agz ?_)
 | (first|refine Ajz false ?_)
 | (first|(refine Aiz (Akz (Cjz _ _ ?_ ?_)) ?_;(iterate 2 (exact sd));rintro _ _ ⟨rfl,rfl⟩)|(refine Aiz (Akz (C1z _ _ _ _ ?_ ?_)) ?_;(iterate 2 (exact sd));rintro _ _ ⟨rfl,rfl⟩)|(refine Aiz (Akz (A1z _ _ _)) ?_;rintro _ _ ⟨rfl,rfl⟩))
 | (refine Adz ⟨.inr rfl,_,rfl,?_⟩))<;>(try simp (disch:=omega) only [push_cast,seval,hv,hl',ha,hr'])))
 ·have hl':¬ (st.length:Int)=sh.length:=by omega
  rw [vV_str (by simp [vSt,hl])]
  (repeat' ((first
 | (first|refine Afz ?_|refine Abz ?_)
 | (first|refine Agz ?_)
 | (first|refine Ajz false ?_)
 | (first|(refine Aiz (Akz (Cjz _ _ ?_ ?_)) ?_;(iterate 2 (exact sd));rintro _ _ ⟨rfl,rfl⟩))
 | (refine Adz ⟨.inr rfl,_,rfl,?_⟩))<;>(try simp (disch:=omega) only [push_cast,seval,hv,hl'])))


theorem Blz (b:Int)(sh st:List Int)(n m:Nat)(hn:sh.length=n)(hm:st.length=m)(hb:n≤1099511627776∧m≤1099511627776):PCall Tryz.prog 50 [.agg [.int .i64 b,.rows false (IL sh) n,.rows false (IL st) m]] (fun r=>r=.bool (vV b sh st)):=by
 subst hn hm
 obtain ⟨hb1,hb2⟩:=hb
 refine Atz l50_eq rfl ?_
 cases hv:vSh sh with
 | false =>
  rw [vV_shape hv]
  (repeat' ((first
 | (first|refine Afz ?_|refine Abz ?_)
 | (first|refine Agz ?_|refine Acz ?_)
 | (first|refine Ajz false ?_)
 | (first|(refine Aiz (Akz (Czz _ _ ?_ ?_)) ?_;(iterate 2 (exact sd));rintro _ _ ⟨rfl,rfl⟩))
 | (refine Adz ⟨.inr rfl,_,rfl,?_⟩))<;>(try simp (disch:=omega) only [push_cast,seval,hv])))
 | true =>
 have hg:=(Cbz hv).1
 cases hs:vSt st sh.length with
 | false =>
  rw [vV_str hs]
  (repeat' ((first
 | (first|refine Afz ?_|refine Abz ?_)
 | (first|refine Agz ?_|refine Acz ?_)
 | (first|refine Ajz false ?_)
 | (first|(refine Aiz (Akz (Czz _ _ ?_ ?_)) ?_;(iterate 2 (exact sd));rintro _ _ ⟨rfl,rfl⟩)|(refine Aiz (Akz (C9z _ _ _ ?_ ?_)) ?_;(iterate 2 (exact sd));rintro _ _ ⟨rfl,rfl⟩))
 | (refine Adz ⟨.inr rfl,_,rfl,?_⟩))<;>(try simp (disch:=omega) only [push_cast,seval,hv,hs])))
 | true =>
  by_cases hr:0≤b∧b≤60
  ·rw [vV_rest hv hs hr]
   obtain ⟨hr1,hr2⟩:=hr
   have hbb:good4 sh∧vSt st sh.length=true∧-1000000≤b∧b≤1000000:=⟨hg,hs,by omega⟩
   by_cases hz:pr sh=0
   ·(repeat' ((first
 | (first|refine Afz ?_|refine Abz ?_)
 | (first|refine Agz ?_|refine Acz ?_|refine Amz ?_)
 | (first|refine Ajz false ?_)
 | (first|(refine Aiz (Akz (Czz _ _ ?_ ?_)) ?_;(iterate 2 (exact sd));rintro _ _ ⟨rfl,rfl⟩)|(refine Aiz (Akz (C9z _ _ _ ?_ ?_)) ?_;(iterate 2 (exact sd));rintro _ _ ⟨rfl,rfl⟩)|(refine Aiz (Akz (Dwz _ _)) ?_;rintro _ _ ⟨rfl,rfl⟩)|(refine Aiz (Akz (Knz _ _ _ _ _ ?_ ?_ ?_)) ?_;(iterate 3 (exact sd));rintro _ _ ⟨rfl,rfl⟩)|(refine Aiz (Akz (C8z _ _ _ _ _ _ ?_ ?_)) ?_;(iterate 2 (exact sd));rintro _ _ ⟨rfl,rfl⟩))
 | (refine Adz ⟨.inr rfl,_,rfl,?_⟩))<;>(try simp (disch:=omega) only [push_cast,seval,hv,hs,hr1,hr2,hz])))
    all_goals simp
   ·have hpb:=(Cbz hv).2
    rw [bd_all hg (by omega)]
    have e1:bdL b sh st=b+lowS sh st sh.length:=if_neg hz
    have e2:bdH b sh st=b+highS sh st sh.length:=if_neg hz
    (repeat' ((first
 | (first|refine Afz ?_|refine Abz ?_)
 | (first|refine Agz ?_|refine Acz ?_|refine Amz ?_)
 | ((first|refine A4z (fun h=>?_) (fun h=>?_))<;>(try simp only [h])<;>(try simp only [bitvec_to_nat] at h)<;>(try simp only [h])<;>(first|(exfalso;omega)|(exfalso;simp_all;done)|skip))
 | (first|refine Ajz false ?_)
 | (first|(refine Aiz (Akz (Czz _ _ ?_ ?_)) ?_;(iterate 2 (exact sd));rintro _ _ ⟨rfl,rfl⟩)|(refine Aiz (Akz (C9z _ _ _ ?_ ?_)) ?_;(iterate 2 (exact sd));rintro _ _ ⟨rfl,rfl⟩)|(refine Aiz (Akz (Dwz _ _)) ?_;rintro _ _ ⟨rfl,rfl⟩)|(refine Aiz (Akz (Knz _ _ _ _ _ ?_ ?_ ?_)) ?_;(iterate 3 (exact sd));rintro _ _ ⟨rfl,rfl⟩)|(refine Aiz (Akz (C8z _ _ _ _ _ _ ?_ ?_)) ?_;(iterate 2 (exact sd));rintro _ _ ⟨rfl,rfl⟩))
 | (refine Adz ⟨.inr rfl,_,rfl,?_⟩))<;>(try simp (disch:=omega) only [push_cast,seval,hv,hs,hr1,hr2,hz,e1,e2])))
    all_goals (simp [hz];try omega)
  ·rw [vV_base hr]
   have hr':(decide (0≤b)&&decide (b≤60))=false:=by
    rw [Bool.eq_false_iff];intro h;simp at h;exact hr h
   (repeat' ((first
 | (first|refine Afz ?_|refine Abz ?_)
 | (first|refine Agz ?_|refine Acz ?_)
 | (first|refine Ajz false ?_)
 | (first|(refine Aiz (Akz (Czz _ _ ?_ ?_)) ?_;(iterate 2 (exact sd));rintro _ _ ⟨rfl,rfl⟩)|(refine Aiz (Akz (C9z _ _ _ ?_ ?_)) ?_;(iterate 2 (exact sd));rintro _ _ ⟨rfl,rfl⟩)|(refine Aiz (Akz (Dwz _ _)) ?_;rintro _ _ ⟨rfl,rfl⟩))
 | (refine Adz ⟨.inr rfl,_,rfl,?_⟩))<;>(try simp (disch:=omega) only [push_cast,seval,hv,hs,hr'])))


def fitB (b:Int)(sh st:List Int)(s:Int):Bool:=vV b sh st&&(decide (0≤s)&&decide (s≤60))&&allI (offs b sh st) 0 (s-1)


theorem sfits_ok (b:Int)(sh st:List Int)(s:Int)(n m:Nat)(hn:sh.length=n)(hm:st.length=m)(hb:okV b sh st∧-1000000≤s∧s≤1000000):PCall Tryz.prog 93 [.agg [.int .i64 b,.rows false (IL sh) n,.rows false (IL st) m],.int .i64 s] (fun r=>r=.bool (allI (offs b sh st) 0 (s-1))):=by
 subst hn hm
 obtain ⟨hok,hs1,hs2⟩:=hb
 have hol:=Bdz b sh st
 have hpb:=hok.1.2
 have hlb:(offs b sh st).length≤1099511627776:=by omega
 refine Atz l93_eq rfl ?_
 (repeat' ((first
 | (first|refine Afz ?_|refine Abz ?_)
 | (first|refine Agz ?_)
 | (first|refine Ajz false ?_)
 | (first|(refine Aiz (Diz _ _ _ _ _ ?_ ?_ ?_) ?_;(iterate 3 (exact sd));rintro _ _ ⟨rfl,rfl⟩)|(refine Aiz (Akz (C1z _ _ _ _ ?_ ?_)) ?_;(iterate 2 (exact sd));rintro _ _ ⟨rfl,rfl⟩))
 | (refine Adz ⟨.inr rfl,_,rfl,?_⟩))<;>(try simp (disch:=omega) only [push_cast,seval])))


theorem D0z (b:Int)(sh st:List Int)(s:Int)(n m:Nat)(hn:sh.length=n)(hm:st.length=m)(hb:n≤1099511627776∧m≤1099511627776):PCall Tryz.prog 21 [.agg [.int .i64 b,.rows false (IL sh) n,.rows false (IL st) m],.int .i64 s] (fun r=>r=.bool (fitB b sh st s)):=by
 subst hn hm
 obtain ⟨hb1,hb2⟩:=hb
 refine Atz l21_eq rfl ?_
 unfold fitB
 cases hv:vV b sh st with
 | false =>
  (repeat' ((first
 | (first|refine Afz ?_|refine Abz ?_)
 | (first|refine Agz ?_|refine Acz ?_)
 | (first|refine Ajz false ?_)
 | (first|(refine Aiz (Akz (Blz _ _ _ _ _ ?_ ?_ ?_)) ?_;(iterate 3 (exact sd));rintro _ _ ⟨rfl,rfl⟩))
 | (refine Adz ⟨.inr rfl,_,rfl,?_⟩))<;>(try simp (disch:=omega) only [push_cast,seval,hv])))
  all_goals simp
 | true =>
  obtain ⟨h1,h2,h3,-⟩:=Cmz.1 hv
  have hg:=(Cbz h1).1
  have q:good4 sh∧vSt st sh.length=true∧-1000000≤b∧b≤1000000:=⟨hg,h2,by omega⟩
  by_cases hr:0≤s∧s≤60
  ·obtain ⟨hr1,hr2⟩:=hr
   have hpb:=(Cbz h1).2
   have e:allI (offs b sh st) 0 (s-1)=decide (bdH b sh st<s):=by
    by_cases hz:pr sh=0
    ·have h0:offs b sh st=[]:=by unfold offs;rw [hz];rfl
     rw [h0,bdH,if_pos hz]
     simp [allI]
     omega
    ·rw [bd_all hg (by omega),bdH,if_neg hz]
     have h5:=vV_cells hv _ (low_offs (b:=b) (st:=st) hg (by omega)).1
     rw [Bool.eq_iff_iff]
     simp
     omega
   rw [e]
   (repeat' ((first
 | (first|refine Afz ?_|refine Abz ?_)
 | (first|refine Agz ?_|refine Acz ?_|refine Amz ?_)
 | (first|refine Ajz false ?_)
 | (first|(refine Aiz (Akz (Blz _ _ _ _ _ ?_ ?_ ?_)) ?_;(iterate 3 (exact sd));rintro _ _ ⟨rfl,rfl⟩)|(refine Aiz (Akz (Dwz _ _)) ?_;rintro _ _ ⟨rfl,rfl⟩)|(refine Aiz (Akz (Knz _ _ _ _ _ ?_ ?_ ?_)) ?_;(iterate 3 (exact sd));rintro _ _ ⟨rfl,rfl⟩))
 | (refine Adz ⟨.inr rfl,_,rfl,?_⟩))<;>(try simp (disch:=omega) only [push_cast,seval,hv,hr1,hr2])))
   all_goals simp [hr1,hr2]
  ·have hr':(decide (0≤s)&&decide (s≤60))=false:=by
    rw [Bool.eq_false_iff];intro h;simp at h;exact hr h
   (repeat' ((first
 | (first|refine Afz ?_|refine Abz ?_)
 | (first|refine Agz ?_|refine Acz ?_)
 | (first|refine Ajz false ?_)
 | (first|(refine Aiz (Akz (Blz _ _ _ _ _ ?_ ?_ ?_)) ?_;(iterate 3 (exact sd));rintro _ _ ⟨rfl,rfl⟩)|(refine Aiz (Akz (Dwz _ _)) ?_;rintro _ _ ⟨rfl,rfl⟩))
 | (refine Adz ⟨.inr rfl,_,rfl,?_⟩))<;>(try simp (disch:=omega) only [push_cast,seval,hv,hr'])))
   all_goals simp [hr']

end Go.Proofs.YtfccepgibbdfaaaGreatDoor
namespace Go.Proofs.YtfccepgibbdfaaaGreatDoor
open VwM Vw Go
variable [SentA]
variable [PowA]

theorem sequal_ok (xs ys:List Int)(n m:Nat)(hn:xs.length=n)(hm:ys.length=m)(hb:n≤1099511627776∧m≤1099511627776):PCall Tryz.prog 151 [.rows false (IL xs) n,.rows false (IL ys) m] (fun r=>r=.bool (decide (xs=ys))):=by
 subst hn hm
 refine Atz l151_eq rfl ?_
 by_cases hl:xs.length=ys.length
 ·have hl':(xs.length:Int)=ys.length:=by omega
  (repeat' (first
 | (first|refine Afz ?_|refine Abz ?_)
 | ((first|refine Agz ?_|refine Acz ?_|refine Amz ?_);simp (disch:=omega) only [push_cast,seval,hl'])
 | (refine Adz ⟨.inr rfl,_,rfl,?_⟩;(try simp (disch:=omega) only [push_cast,seval,hl']))))
  refine A5z (fun k:Nat=>mkS [(0,RI xs),(1,RI ys),(11,RI xs),(12,.int .i64 xs.length),(13,.int .i64 k)] []) (fun k=>k≤xs.length∧∀ j:Nat,j<k→xs.getD j 0=ys.getD j 0) (fun k=>xs.length-k) 0 ⟨Nat.zero_le _,fun j h=>absurd h (Nat.not_lt_zero _)⟩ ?_ ?_
  ·(refine Sub.of_lists ?_ ?_ ?_ ?_ ?_<;>simp [Vw.mkS,Vw.lk,Vw.hk,AV.inn,innL,Apz,Anz,Asz,-List.map_set,-List.getD_eq_getElem?_getD,hl])
  ·rintro k ⟨hk,hj⟩
   by_cases hlt:k<xs.length
   ·(repeat' (first
 | (first|refine Afz ?_|refine Abz ?_)
 | ((first|refine Agz ?_|refine Arz (mid:=l151r6a) (post:=l151r6b) mixed (by decide) ?_|refine Acz ?_|refine Amz ?_);simp (disch:=omega) only [push_cast,seval])
 | ((first|refine Alz (fun h=>?_) (fun h=>?_))<;>(try simp only [h])<;>(try simp only [bitvec_to_nat] at h)<;>(try simp only [h])<;>(first|(exfalso;omega)|(exfalso;simp_all;done)|(simp (disch:=omega) only [push_cast,seval])|skip))
 | (refine Adz ⟨.inr rfl,_,rfl,?_⟩;(try simp (disch:=omega) only [push_cast,seval]))))
    ·simp;rintro rfl;exact absurd rfl ‹_›
    ·refine ⟨k+1,⟨by omega,fun j h=>?_⟩,by omega,?_⟩
     ·by_cases hjk:j=k
      ·subst hjk;assumption
      ·exact hj j (by omega)
     ·(refine Sub.of_lists ?_ ?_ ?_ ?_ ?_<;>simp [Vw.mkS,Vw.lk,Vw.hk,AV.inn,innL,Apz,Anz,Asz,-List.map_set,-List.getD_eq_getElem?_getD])
   ·(repeat' (first
 | (first|refine Afz ?_|refine Abz ?_)
 | ((first|refine Agz ?_|refine Acz ?_|refine Azz ?_);simp (disch:=omega) only [push_cast,seval])
 | ((first|refine Alz (fun h=>?_) (fun h=>?_))<;>(try simp only [h])<;>(try simp only [bitvec_to_nat] at h)<;>(try simp only [h])<;>(first|(exfalso;omega)|(exfalso;simp_all;done)|(simp (disch:=omega) only [push_cast,seval])|skip))
 | (refine Adz ⟨.inr rfl,_,rfl,?_⟩;(try simp (disch:=omega) only [push_cast,seval]))))
    have:xs=ys:=Goz hl fun j h=>hj j (by omega)
    simp [this]
 ·have hl':¬ (xs.length:Int)=ys.length:=by omega
  have:¬ xs=ys:=by rintro rfl;exact hl rfl
  (repeat' (first
 | (first|refine Afz ?_|refine Abz ?_)
 | ((first|refine Agz ?_|refine Acz ?_);simp (disch:=omega) only [push_cast,seval,hl'])
 | (refine Adz ⟨.inr rfl,_,rfl,?_⟩;(try simp (disch:=omega) only [push_cast,seval,hl']))))
  simp [this]


theorem sameInts_ok (xs ys:List Int)(n m:Nat)(hn:xs.length=n)(hm:ys.length=m)(hb:n≤1099511627776∧m≤1099511627776):PCall Tryz.prog 157 [.rows false (IL xs) n,.rows false (IL ys) m] (fun r=>r=.bool (decide (xs=ys))):=by
 subst hn hm
 refine Atz l157_eq rfl ?_
 by_cases hl:xs.length=ys.length
 ·have hl':(xs.length:Int)=ys.length:=by omega
  (repeat' (first
 | (first|refine Afz ?_|refine Abz ?_)
 | ((first|refine Agz ?_|refine Acz ?_|refine Amz ?_);simp (disch:=omega) only [push_cast,seval,hl'])
 | (refine Adz ⟨.inr rfl,_,rfl,?_⟩;(try simp (disch:=omega) only [push_cast,seval,hl']))))
  refine A5z (fun k:Nat=>mkS [(0,RI xs),(1,RI ys),(5,.int .i64 k)] []) (fun k=>k≤xs.length∧∀ j:Nat,j<k→xs.getD j 0=ys.getD j 0) (fun k=>xs.length-k) 0 ⟨Nat.zero_le _,fun j h=>absurd h (Nat.not_lt_zero _)⟩ ?_ ?_
  ·(refine Sub.of_lists ?_ ?_ ?_ ?_ ?_<;>simp [Vw.mkS,Vw.lk,Vw.hk,AV.inn,innL,Apz,Anz,Asz,-List.map_set,-List.getD_eq_getElem?_getD,hl])
  ·rintro k ⟨hk,hj⟩
   by_cases hlt:k<xs.length
   ·(repeat' (first
 | (first|refine Afz ?_|refine Abz ?_)
 | ((first|refine Agz ?_|refine Arz (mid:=l157r5a) (post:=l157r5b) mixed (by decide) ?_|refine Acz ?_|refine Amz ?_);simp (disch:=omega) only [push_cast,seval])
 | ((first|refine Alz (fun h=>?_) (fun h=>?_))<;>(try simp only [h])<;>(try simp only [bitvec_to_nat] at h)<;>(try simp only [h])<;>(first|(exfalso;omega)|(exfalso;simp_all;done)|(simp (disch:=omega) only [push_cast,seval])|skip))
 | (refine Adz ⟨.inr rfl,_,rfl,?_⟩;(try simp (disch:=omega) only [push_cast,seval]))))
    ·simp;rintro rfl;exact absurd rfl ‹_›
    ·refine ⟨k+1,⟨by omega,fun j h=>?_⟩,by omega,?_⟩
     ·by_cases hjk:j=k
      ·subst hjk;assumption
      ·exact hj j (by omega)
     ·(refine Sub.of_lists ?_ ?_ ?_ ?_ ?_<;>simp [Vw.mkS,Vw.lk,Vw.hk,AV.inn,innL,Apz,Anz,Asz,-List.map_set,-List.getD_eq_getElem?_getD])
   ·(repeat' (first
 | (first|refine Afz ?_|refine Abz ?_)
 | ((first|refine Agz ?_|refine Acz ?_|refine Azz ?_);simp (disch:=omega) only [push_cast,seval])
 | ((first|refine Alz (fun h=>?_) (fun h=>?_))<;>(try simp only [h])<;>(try simp only [bitvec_to_nat] at h)<;>(try simp only [h])<;>(first|(exfalso;omega)|(exfalso;simp_all;done)|(simp (disch:=omega) only [push_cast,seval])|skip))
 | (refine Adz ⟨.inr rfl,_,rfl,?_⟩;(try simp (disch:=omega) only [push_cast,seval]))))
    have:xs=ys:=Goz hl fun j h=>hj j (by omega)
    simp [this]
 ·have hl':¬ (xs.length:Int)=ys.length:=by omega
  have:¬ xs=ys:=by rintro rfl;exact hl rfl
  (repeat' (first
 | (first|refine Afz ?_|refine Abz ?_)
 | ((first|refine Agz ?_|refine Acz ?_);simp (disch:=omega) only [push_cast,seval,hl'])
 | (refine Adz ⟨.inr rfl,_,rfl,?_⟩;(try simp (disch:=omega) only [push_cast,seval,hl']))))
  simp [this]


end Go.Proofs.YtfccepgibbdfaaaGreatDoor
namespace Go.Proofs.YtfccepgibbdfaaaGreatDoor
open VwM Vw Go
variable [SentA]
variable [PowA]

end Go.Proofs.YtfccepgibbdfaaaGreatDoor
