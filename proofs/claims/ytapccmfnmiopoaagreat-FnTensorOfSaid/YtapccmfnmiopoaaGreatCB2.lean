/- Texts of this verifier. -/
import Derived.Test.YtapccmfnmiopoaaGreatCB1
import Derived.Test.YtapccmfnmiopoaaGreatCM1
set_option maxHeartbeats 4000000
set_option linter.unusedSimpArgs false
set_option linter.unusedVariables false
set_option maxRecDepth 4000
namespace Go.Proofs.YtapccmfnmiopoaaGreat
open VwM Vw Go

theorem I7z (xs:List Int)(n:Nat)(hn:xs.length=n)(hg:good4 xs):BCall Tryz.prog 95 [.rows false (IL xs) n] [] (OI (rowS xs)):=by
 subst hn
 have hl:=hg.2
 refine Awz (pins:=[]) (pin:=0) l95_eq rfl rfl rfl ?_
 (repeat' (first
 | (first|refine Afz ?_|refine Aaz ?_)
 | ((first|refine Agz ?_);simp (disch:=omega) only [push_cast,seval])
 | (refine Acz ⟨.inr rfl,[128],[],_,by decide,rfl,?_⟩;(try simp (disch:=omega) only [push_cast,seval,↓Adz,↓Abz,↓List.map_cons,↓List.map_nil]);(first|done|(show AV.own _ _ _=_∧_)))))
 refine A0z (fun k:Nat=>mkS [(0,RI xs),(5,.int .i64 ((xs.length:Int)-1-(k:Int))),(4,.int .i64 (pr (xs.drop (xs.length-k)))),(3,.own 128 xs.length 1)] [(128,IL (filledD (fun i:Nat=>pr (xs.drop (i+1))) xs.length k))])
  (fun k=>k≤xs.length) (fun k=>xs.length-k) 0 (Nat.zero_le _) ?_ ?_
 ·(refine Sub.of_lists ?_ ?_ ?_ ?_ ?_<;>simp [Vw.mkS,Vw.lk,Vw.hk,AV.inn,innL,Ajz,Ahz,Alz,-List.map_set,-List.getD_eq_getElem?_getD,Hoz,Flz])
 ·intro k hk
  by_cases hlt:k<xs.length
  ·have e1:=Guz xs.length k hlt
   have h1:=Cmz (Hcz hg (xs.length-1-k))
   have h2:=pr_drop xs (xs.length-1-k) (by omega)
   rw [Int.mul_comm,show xs.length-1-k+1=xs.length-k by omega] at h2
   have e3:=Itz (fun i:Nat=>pr (xs.drop (i+1))) xs.length k hlt
   simp only [show xs.length-1-k+1=xs.length-k by omega] at e3
   (repeat' (first
 | (first|refine Afz ?_|refine Aaz ?_)
 | ((first|refine Agz ?_|refine Aez ?_|refine Aoz ?_);simp (disch:=omega) only [push_cast,seval,e1])
 | ((first|refine Aiz (fun h=>?_) (fun h=>?_))<;>(try simp only [h])<;>(try simp only [bitvec_to_nat] at h)<;>(try simp only [h])<;>(first|(exfalso;omega)|(exfalso;simp_all;done)|(simp (disch:=omega) only [push_cast,seval,e1])|skip))
 | (refine Acz ⟨.inr rfl,[128],[],_,by decide,rfl,?_⟩;(try simp (disch:=omega) only [push_cast,seval,↓Adz,↓Abz,↓List.map_cons,↓List.map_nil,e1]);(first|done|(show AV.own _ _ _=_∧_)))))
   refine ⟨k+1,by omega,by omega,?_⟩
   have e4:(xs.length:Int)-1-((k:Int)+1)=(xs.length:Int)-1-(k:Int)-1:=by omega
   have e5:xs.length-(k+1)=xs.length-1-k:=by omega
   (refine Sub.of_lists ?_ ?_ ?_ ?_ ?_<;>simp [Vw.mkS,Vw.lk,Vw.hk,AV.inn,innL,Ajz,Ahz,Alz,-List.map_set,-List.getD_eq_getElem?_getD,Ayz,e3,h2,e4,e5])
  ·(repeat' (first
 | (first|refine Afz ?_|refine Aaz ?_)
 | ((first|refine Agz ?_|refine Aez ?_|refine Atz ?_);simp (disch:=omega) only [push_cast,seval])
 | ((first|refine Aiz (fun h=>?_) (fun h=>?_))<;>(try simp only [h])<;>(try simp only [bitvec_to_nat] at h)<;>(try simp only [h])<;>(first|(exfalso;omega)|(exfalso;simp_all;done)|(simp (disch:=omega) only [push_cast,seval])|skip))
 | (refine Acz ⟨.inr rfl,[128],[],_,by decide,rfl,?_⟩;(try simp (disch:=omega) only [push_cast,seval,↓Adz,↓Abz,↓List.map_cons,↓List.map_nil]);(first|done|(show AV.own _ _ _=_∧_)))))
   have e:k=xs.length:=by omega
   rw [e,Iuz]
   simp [OI,rowS]


theorem Fnz (xs:List Int)(n:Nat)(hn:xs.length=n)(hb:n≤1099511627776):BCall Tryz.prog 91 [.rows false (IL xs) n] [] (OI (if vSh xs=true then rowS xs else [])):=by
 subst hn
 refine Awz (pins:=[]) (pin:=0) l91_eq rfl rfl rfl ?_
 cases hv:vSh xs with
 | false =>
  (repeat' ((first
 | (first|refine Afz ?_|refine Aaz ?_)
 | (first|refine Agz ?_|refine Aez ?_)
 | (first|refine Anz false ?_)
 | (first|(refine Akz (Apz (Baz _ _ ?_ ?_)) ?_;(iterate 2 (exact sd));rintro _ _ ⟨rfl,rfl⟩))
 | (refine Acz ⟨.inr rfl,[16000],[(16000,1)],_,by decide,rfl,?_⟩;(try simp (disch:=omega) only [push_cast,seval,↓Adz,↓Abz,↓List.map_cons,↓List.map_nil,hv])))<;>(try simp (disch:=omega) only [push_cast,seval,hv])))
  all_goals simp [OI]
 | true =>
  have hg:=(A5z hv).1
  have hl:=hg.2
  (repeat' ((first
 | (first|refine Afz ?_|refine Aaz ?_)
 | (first|refine Agz ?_|refine Aez ?_|refine Aoz ?_)
 | (first|refine Anz false ?_)
 | (first|(refine Akz (Apz (Baz _ _ ?_ ?_)) ?_;(iterate 2 (exact sd));rintro _ _ ⟨rfl,rfl⟩))
 | (refine Acz ⟨.inr rfl,[96],[],_,by decide,rfl,?_⟩;(try simp (disch:=omega) only [push_cast,seval,↓Adz,↓Abz,↓List.map_cons,↓List.map_nil,hv]);(first|done|(show AV.own _ _ _=_∧_)))
 | (refine Acz ⟨.inr rfl,[160],[],_,by decide,rfl,?_⟩;(try simp (disch:=omega) only [push_cast,seval,↓Adz,↓Abz,↓List.map_cons,↓List.map_nil,hv]);(first|done|(show AV.own _ _ _=_∧_)))
 | (refine Acz ⟨.inr rfl,[352],[],_,by decide,rfl,?_⟩;(try simp (disch:=omega) only [push_cast,seval,↓Adz,↓Abz,↓List.map_cons,↓List.map_nil,hv]);(first|done|(show AV.own _ _ _=_∧_))))<;>(try simp (disch:=omega) only [push_cast,seval,hv])))
  refine A0z (fun k:Nat=>mkS [(0,RI xs),(13,.int .i64 k),(12,.int .i64 xs.length),(3,.own 160 xs.length 1)] [(160,IL (filled (fun i:Nat=>pr (xs.drop (i+1))) xs.length k))])
   (fun k=>k≤xs.length) (fun k=>xs.length-k) 0 (Nat.zero_le _) ?_ ?_
  ·(refine Sub.of_lists ?_ ?_ ?_ ?_ ?_<;>simp [Vw.mkS,Vw.lk,Vw.hk,AV.inn,innL,Ajz,Ahz,Alz,-List.map_set,-List.getD_eq_getElem?_getD,Dcz])
  ·intro k hk
   have hgk:=Hcz hg (k+1)
   have e1:(xs.drop (k+1)).length=xs.length-(k+1):=by simp
   (repeat' ((first
 | (first|refine Afz ?_|refine Aaz ?_)
 | (first|refine Agz ?_|refine Aez ?_|refine Aoz ?_|refine Atz ?_)
 | ((first|refine Aiz (fun h=>?_) (fun h=>?_))<;>(try simp only [h])<;>(try simp only [bitvec_to_nat] at h)<;>(try simp only [h])<;>(first|(exfalso;omega)|(exfalso;simp_all;done)|skip))
 | (first|refine Anz false ?_)
 | (first|(refine Akz (Apz (Dmz _ _ ?_ ?_)) ?_;(iterate 2 (exact sd));rintro _ _ ⟨rfl,rfl⟩))
 | (refine Acz ⟨.inr rfl,[96],[],_,by decide,rfl,?_⟩;(try simp (disch:=omega) only [push_cast,seval,↓Adz,↓Abz,↓List.map_cons,↓List.map_nil,hv]);(first|done|(show AV.own _ _ _=_∧_)))
 | (refine Acz ⟨.inr rfl,[160],[],_,by decide,rfl,?_⟩;(try simp (disch:=omega) only [push_cast,seval,↓Adz,↓Abz,↓List.map_cons,↓List.map_nil,hv]);(first|done|(show AV.own _ _ _=_∧_)))
 | (refine Acz ⟨.inr rfl,[352],[],_,by decide,rfl,?_⟩;(try simp (disch:=omega) only [push_cast,seval,↓Adz,↓Abz,↓List.map_cons,↓List.map_nil,hv]);(first|done|(show AV.own _ _ _=_∧_))))<;>(try simp (disch:=omega) only [push_cast,seval,hv])))
   ·refine ⟨k+1,by omega,by omega,?_⟩
    have e:=C4z (fun i:Nat=>pr (xs.drop (i+1))) xs.length k (by omega)
    (refine Sub.of_lists ?_ ?_ ?_ ?_ ?_<;>simp [Vw.mkS,Vw.lk,Vw.hk,AV.inn,innL,Ajz,Ahz,Alz,-List.map_set,-List.getD_eq_getElem?_getD,Ayz,e])
   ·have e:k=xs.length:=by omega
    rw [e,Ffz]
    simp [OI,rowS]


theorem unrank_ok (xs:List Int)(n:Nat)(k:Int)(hn:xs.length=n)(hg:good4 xs∧0≤k∧k<pr xs):BCall Tryz.prog 69 [.rows false (IL xs) n,.int .i64 k] [] (OI (unr xs k)):=by
 subst hn
 obtain ⟨hg,hk0,hk1⟩:=hg
 have hl:=hg.2
 have hprb:=Cmz hg
 have hp:=Cwz hg (by omega)
 refine Awz (pins:=[]) (pin:=0) l69_eq rfl rfl rfl ?_
 (repeat' (first
 | (first|refine Afz ?_|refine Aaz ?_)
 | ((first|refine Agz ?_);simp (disch:=omega) only [push_cast,seval])
 | (refine Acz ⟨.inr rfl,[144],[],_,by decide,rfl,?_⟩;(try simp (disch:=omega) only [push_cast,seval,↓Adz,↓Abz,↓List.map_cons,↓List.map_nil]);(first|done|(show AV.own _ _ _=_∧_)))))
 refine A0z (fun j:Nat=>mkS [(0,RI xs),(6,.int .i64 ((xs.length:Int)-1-(j:Int))),(1,.int .i64 (kS xs k j)),(5,.own 144 xs.length 1)] [(144,IL (filledD (dig xs k) xs.length j))])
  (fun j=>j≤xs.length) (fun j=>xs.length-j) 0 (Nat.zero_le _) ?_ ?_
 ·(refine Sub.of_lists ?_ ?_ ?_ ?_ ?_<;>simp [Vw.mkS,Vw.lk,Vw.hk,AV.inn,innL,Ajz,Ahz,Alz,-List.map_set,-List.getD_eq_getElem?_getD,Hoz,kS])
 ·intro j hj
  by_cases hlt:j<xs.length
  ·have e1:=Guz xs.length j hlt
   have h1:=C2z hk0 hp j hj
   have h2:=C2z hk0 hp (j+1) hlt
   have h3:=hp (xs.length-1-j) (by omega)
   have h4:¬ xs.getD (xs.length-1-j) 0=0:=by omega
   simp only [kS] at h2
   have e3:=Itz (dig xs k) xs.length j hlt
   have e6:dig xs k (xs.length-1-j)=(kS xs k j).tmod (xs.getD (xs.length-1-j) 0):=by
    unfold dig
    rw [show xs.length-1-(xs.length-1-j)=j by omega]
   rw [e6] at e3
   (repeat' (first
 | (first|refine Afz ?_|refine Aaz ?_)
 | ((first|refine Agz ?_|refine Aez ?_|refine Aoz ?_);simp (disch:=omega) only [push_cast,seval,e1,h4])
 | ((first|refine Aiz (fun h=>?_) (fun h=>?_))<;>(try simp only [h])<;>(try simp only [bitvec_to_nat] at h)<;>(try simp only [h])<;>(first|(exfalso;omega)|(exfalso;simp_all;done)|(simp (disch:=omega) only [push_cast,seval,e1,h4])|skip))
 | (refine Acz ⟨.inr rfl,[144],[],_,by decide,rfl,?_⟩;(try simp (disch:=omega) only [push_cast,seval,↓Adz,↓Abz,↓List.map_cons,↓List.map_nil,e1,h4]);(first|done|(show AV.own _ _ _=_∧_)))))
   refine ⟨j+1,by omega,by omega,?_⟩
   have e4:(xs.length:Int)-1-((j:Int)+1)=(xs.length:Int)-1-(j:Int)-1:=by omega
   (refine Sub.of_lists ?_ ?_ ?_ ?_ ?_<;>simp [Vw.mkS,Vw.lk,Vw.hk,AV.inn,innL,Ajz,Ahz,Alz,-List.map_set,-List.getD_eq_getElem?_getD,Ayz,e3,e4,kS])
  ·(repeat' (first
 | (first|refine Afz ?_|refine Aaz ?_)
 | ((first|refine Agz ?_|refine Aez ?_|refine Atz ?_);simp (disch:=omega) only [push_cast,seval])
 | ((first|refine Aiz (fun h=>?_) (fun h=>?_))<;>(try simp only [h])<;>(try simp only [bitvec_to_nat] at h)<;>(try simp only [h])<;>(first|(exfalso;omega)|(exfalso;simp_all;done)|(simp (disch:=omega) only [push_cast,seval])|skip))
 | (refine Acz ⟨.inr rfl,[144],[],_,by decide,rfl,?_⟩;(try simp (disch:=omega) only [push_cast,seval,↓Adz,↓Abz,↓List.map_cons,↓List.map_nil]);(first|done|(show AV.own _ _ _=_∧_)))))
   have e:j=xs.length:=by omega
   rw [e,Iuz]
   simp [OI,unr]


theorem placesAt_ok (xs:List Int)(n:Nat)(k:Int)(hn:xs.length=n)(hg:good4 xs∧0≤k∧k<pr xs):PCall Tryz.prog 63 [.rows false (IL xs) n,.int .i64 k] (fun r=>r=AP (digP xs k)):=by
 subst hn
 obtain ⟨hg,hk0,hk1⟩:=hg
 have hl:=hg.2
 have hprb:=Cmz hg
 have hp:=Cwz hg (by omega)
 refine Axz l63_eq rfl ?_
 (repeat' (first
 | (first|refine Afz ?_|refine Aaz ?_)
 | ((first|refine Agz ?_);simp (disch:=omega) only [push_cast,seval])
 | (refine Acz ⟨.inr rfl,_,rfl,?_⟩;(try simp (disch:=omega) only [push_cast,seval]))))
 refine A0z (fun j:Nat=>mkS [(0,RI xs),(4,.ref 64 4 0),(5,.ref 80 4 0),(6,.int .i64 ((xs.length:Int)-1-(j:Int))),(1,.int .i64 (kS xs k j))] [(64,IL (pad4 fun _=>0)),(80,IL (pad4 (padD xs k j)))])
  (fun j=>j≤xs.length) (fun j=>xs.length-j) 0 (Nat.zero_le _) ?_ ?_
 ·have e:pad4 (padD xs k 0)=pad4 fun _=>0:=G5z fun i _=>by unfold padD;rw [if_neg (by omega)]
  rw [e]
  (refine Sub.of_lists ?_ ?_ ?_ ?_ ?_<;>simp [Vw.mkS,Vw.lk,Vw.hk,AV.inn,innL,Ajz,Ahz,Alz,-List.map_set,-List.getD_eq_getElem?_getD,pad4,kS])
 ·intro j hj
  by_cases hlt:j<xs.length
  ·have e1:=Guz xs.length j hlt
   have h1:=C2z hk0 hp j hj
   have h2:=C2z hk0 hp (j+1) hlt
   have h3:=hp (xs.length-1-j) (by omega)
   have h4:¬ xs.getD (xs.length-1-j) 0=0:=by omega
   simp only [kS] at h2
   have e6:dig xs k (xs.length-1-j)=(kS xs k j).tmod (xs.getD (xs.length-1-j) 0):=by
    unfold dig
    rw [show xs.length-1-(xs.length-1-j)=j by omega]
   have e3:(pad4 (padD xs k j)).set (xs.length-1-j) ((kS xs k j).tmod (xs.getD (xs.length-1-j) 0))=pad4 (padD xs k (j+1)):=by
    rw [pad4_set _ _ _ (by omega),← e6]
    refine G5z fun i hi=>?_
    unfold padD
    by_cases h:i=xs.length-1-j
    ·subst h;rw [if_pos rfl,if_pos (by omega)]
    ·rw [if_neg h]
     by_cases h5:i<xs.length∧xs.length-j≤i
     ·rw [if_pos h5,if_pos (by omega)]
     ·rw [if_neg h5,if_neg (by omega)]
   (repeat' (first
 | (first|refine Afz ?_|refine Aaz ?_)
 | ((first|refine Agz ?_|refine Aez ?_|refine Aoz ?_);simp (disch:=omega) only [push_cast,seval,e1,h4])
 | ((first|refine Aiz (fun h=>?_) (fun h=>?_))<;>(try simp only [h])<;>(try simp only [bitvec_to_nat] at h)<;>(try simp only [h])<;>(first|(exfalso;omega)|(exfalso;simp_all;done)|(simp (disch:=omega) only [push_cast,seval,e1,h4])|skip))
 | (refine Acz ⟨.inr rfl,_,rfl,?_⟩;(try simp (disch:=omega) only [push_cast,seval,e1,h4]))))
   refine ⟨j+1,by omega,by omega,?_⟩
   have e4:(xs.length:Int)-1-((j:Int)+1)=(xs.length:Int)-1-(j:Int)-1:=by omega
   (refine Sub.of_lists ?_ ?_ ?_ ?_ ?_<;>simp [Vw.mkS,Vw.lk,Vw.hk,AV.inn,innL,Ajz,Ahz,Alz,-List.map_set,-List.getD_eq_getElem?_getD,Ayz,e3,e4,kS])
  ·have e:j=xs.length:=by omega
   (repeat' (first
 | (first|refine Afz ?_|refine Aaz ?_)
 | ((first|refine Agz ?_|refine Aez ?_|refine Atz ?_);simp (disch:=omega) only [push_cast,seval])
 | ((first|refine Aiz (fun h=>?_) (fun h=>?_))<;>(try simp only [h])<;>(try simp only [bitvec_to_nat] at h)<;>(try simp only [h])<;>(first|(exfalso;omega)|(exfalso;simp_all;done)|(simp (disch:=omega) only [push_cast,seval])|skip))
 | (refine Acz ⟨.inr rfl,_,rfl,?_⟩;(try simp (disch:=omega) only [push_cast,seval]))))
   subst e
   have e2:pad4 (padD xs k xs.length)=pad4 (digP xs k):=G5z fun i _=>by
    unfold digP padD
    by_cases h:i<xs.length
    ·rw [if_pos ⟨h,by omega⟩,if_pos h]
    ·rw [if_neg (fun hh=>h hh.1),if_neg h]
   rw [e2]


theorem clone_ok (xs:List Int)(n:Nat)(hn:xs.length=n)(hb:n≤1099511627776):BCall Tryz.prog 34 [.rows false (IL xs) n] [] (OI xs):=by
 subst hn
 refine Awz (pins:=[]) (pin:=0) l34_eq rfl rfl rfl ?_
 (repeat' (first
 | (first|refine Afz ?_|refine Aaz ?_)
 | ((first|refine Agz ?_);simp (disch:=omega) only [push_cast,seval])
 | (refine Acz ⟨.inr rfl,[80],[],_,by decide,rfl,?_⟩;(try simp (disch:=omega) only [push_cast,seval,↓Adz,↓Abz,↓List.map_cons,↓List.map_nil]);(first|done|(show AV.own _ _ _=_∧_)))
 | (refine Acz ⟨.inr rfl,[112],[],_,by decide,rfl,?_⟩;(try simp (disch:=omega) only [push_cast,seval,↓Adz,↓Abz,↓List.map_cons,↓List.map_nil]);(first|done|(show AV.own _ _ _=_∧_)))))
 refine nil_split (fun h0=>?_) ?_
 ·(try simp (disch:=omega) only [push_cast,seval])
  (repeat' (first
 | (first|refine Afz ?_|refine Aaz ?_)
 | ((first|refine Agz ?_|refine Aez ?_);simp (disch:=omega) only [push_cast,seval])
 | (refine Acz ⟨.inr rfl,[16000],[(16000,1)],_,by decide,rfl,?_⟩;(try simp (disch:=omega) only [push_cast,seval,↓Adz,↓Abz,↓List.map_cons,↓List.map_nil]))))
  have:xs=[]:=List.eq_nil_of_length_eq_zero h0
  simp [OI,this]
 ·(try simp (disch:=omega) only [push_cast,seval])
  (repeat' (first
 | (first|refine Afz ?_|refine Aaz ?_)
 | ((first|refine Agz ?_|refine Aez ?_|refine Aoz ?_);simp (disch:=omega) only [push_cast,seval])
 | (refine Acz ⟨.inr rfl,[80],[],_,by decide,rfl,?_⟩;(try simp (disch:=omega) only [push_cast,seval,↓Adz,↓Abz,↓List.map_cons,↓List.map_nil]);(first|done|(show AV.own _ _ _=_∧_)))
 | (refine Acz ⟨.inr rfl,[112],[],_,by decide,rfl,?_⟩;(try simp (disch:=omega) only [push_cast,seval,↓Adz,↓Abz,↓List.map_cons,↓List.map_nil]);(first|done|(show AV.own _ _ _=_∧_)))))
  all_goals simp [OI]

end Go.Proofs.YtapccmfnmiopoaaGreat
namespace Go.Proofs.YtapccmfnmiopoaaGreat
open VwM Vw Go

theorem along_ok (f:Nat→Int)(st:List Int)(n:Nat)(hn:st.length=n)(hb:n≤4∧∀ i,i<n→(-60≤f i∧f i≤60)∧-12960000≤st.getD i 0∧st.getD i 0≤12960000):PCall Tryz.prog 71 [AP f,.rows false (IL st) n] (fun r=>r=.int .i64 (dot f st n)):=by
 subst hn
 obtain ⟨hl,hb⟩:=hb
 refine Axz l71_eq rfl ?_
 (repeat' (first
 | (first|refine Afz ?_|refine Aaz ?_)
 | ((first|refine Agz ?_);simp (disch:=omega) only [push_cast,seval])
 | (refine Acz ⟨.inr rfl,_,rfl,?_⟩;(try simp (disch:=omega) only [push_cast,seval]))))
 refine A0z (fun k:Nat=>mkS [(2,.ref 32 4 0),(5,.int .i64 (dot f st k)),(8,RI st),(9,.int .i64 st.length),(10,.int .i64 k)] [(32,IL (pad4 f))]) (fun k=>k≤st.length) (fun k=>st.length-k) 0 (Nat.zero_le _) ?_ ?_
 ·(refine Sub.of_lists ?_ ?_ ?_ ?_ ?_<;>simp [Vw.mkS,Vw.lk,Vw.hk,AV.inn,innL,Ajz,Ahz,Alz,-List.map_set,-List.getD_eq_getElem?_getD,dot,pad4])
 ·intro k hk
  by_cases hlt:k<st.length
  ·have h1:=Gvz (f:=f) (st:=st) (B:=60) (C:=12960000) k fun i hi=>hb i (by omega)
   have h2:=Dzz (hb k hlt).1 (hb k hlt).2
   have h3:=pad4_getD f k (by omega)
   (repeat' (first
 | (first|refine Afz ?_|refine Aaz ?_)
 | ((first|refine Agz ?_|refine Aez ?_|refine Aoz ?_);simp (disch:=omega) only [push_cast,seval,h3])
 | ((first|refine Aiz (fun h=>?_) (fun h=>?_))<;>(try simp only [h])<;>(try simp only [bitvec_to_nat] at h)<;>(try simp only [h])<;>(first|(exfalso;omega)|(exfalso;simp_all;done)|(simp (disch:=omega) only [push_cast,seval,h3])|skip))
 | (refine Acz ⟨.inr rfl,_,rfl,?_⟩;(try simp (disch:=omega) only [push_cast,seval,h3]))))
   refine ⟨k+1,by omega,by omega,?_⟩
   (refine Sub.of_lists ?_ ?_ ?_ ?_ ?_<;>simp [Vw.mkS,Vw.lk,Vw.hk,AV.inn,innL,Ajz,Ahz,Alz,-List.map_set,-List.getD_eq_getElem?_getD,dot])
  ·(repeat' (first
 | (first|refine Afz ?_|refine Aaz ?_)
 | ((first|refine Agz ?_|refine Aez ?_|refine Atz ?_);simp (disch:=omega) only [push_cast,seval])
 | ((first|refine Aiz (fun h=>?_) (fun h=>?_))<;>(try simp only [h])<;>(try simp only [bitvec_to_nat] at h)<;>(try simp only [h])<;>(first|(exfalso;omega)|(exfalso;simp_all;done)|(simp (disch:=omega) only [push_cast,seval])|skip))
 | (refine Acz ⟨.inr rfl,_,rfl,?_⟩;(try simp (disch:=omega) only [push_cast,seval]))))
   rw [show k=st.length by omega]

end Go.Proofs.YtapccmfnmiopoaaGreat
namespace Go.Proofs.YtapccmfnmiopoaaGreat
open VwM Vw Go

theorem Joz (xs:List Int)(n:Nat)(hn:xs.length=n)(hb:n≤1099511627776):BCall Tryz.prog 17 [.rows false (IL xs) n] [] (OI xs):=by
 subst hn
 refine Awz (pins:=[]) (pin:=0) l17_eq rfl rfl rfl ?_
 (repeat' ((first
 | (first|refine Afz ?_|refine Aaz ?_)
 | (first|refine Agz ?_)
 | (first|refine Anz false ?_)
 | (first|(refine Akz (clone_ok _ _ ?_ ?_) ?_;(iterate 2 (exact sd));rintro _ _ ⟨rfl,rfl⟩))
 | (refine Acz ⟨.inr rfl,[64],[],_,by decide,rfl,?_⟩;(try simp (disch:=omega) only [push_cast,seval,↓Adz,↓Abz,↓List.map_cons,↓List.map_nil]);(first|done|(show AV.own _ _ _=_∧_))))<;>(try simp (disch:=omega) only [push_cast,seval])))
 all_goals simp [OI]


theorem D9z (b:Int)(sh:List Int)(n:Nat)(cs:List AV)(m:Nat)(fr:Bool)(hn:sh.length=n)(hg:good4 sh):PCall Tryz.prog 46 [.agg [.int .i64 b,.rows false (IL sh) n,.rows fr cs m]] (fun r=>r=.int .i64 (pr sh)):=by
 subst hn
 refine Axz l46_eq rfl ?_
 (repeat' ((first
 | (first|refine Afz ?_|refine Aaz ?_)
 | (first|refine Agz ?_)
 | (first|refine Anz false ?_)
 | (first|(refine Akz (Apz (Dmz _ _ ?_ ?_)) ?_;(iterate 2 (exact sd));rintro _ _ ⟨rfl,rfl⟩))
 | (refine Acz ⟨.inr rfl,_,rfl,?_⟩))<;>(try simp (disch:=omega) only [push_cast,seval])))


theorem sNewView_ok (xs:List Int)(n:Nat)(hn:xs.length=n)(hb:n≤1099511627776):BCall Tryz.prog 80 [.rows false (IL xs) n] [] (OV 0 (if vSh xs=true then xs else []) (if vSh xs=true then newSt xs else [])):=by
 subst hn
 refine Awz (pins:=[]) (pin:=0) l80_eq rfl rfl rfl ?_
 cases hv:vSh xs with
 | false =>
  (repeat' ((first
 | (first|refine Afz ?_|refine Aaz ?_)
 | (first|refine Agz ?_|refine Aez ?_)
 | (first|refine Anz false ?_)
 | (first|(refine Akz (Apz (Bhz _ _ ?_ ?_)) ?_;(iterate 2 (exact sd));rintro _ _ ⟨rfl,rfl⟩))
 | (refine Acz ⟨.inr rfl,[16000,16016],[(16000,1),(16016,1)],_,by decide,rfl,?_⟩;(try simp (disch:=omega) only [push_cast,seval,↓Adz,↓Abz,↓List.map_cons,↓List.map_nil,hv])))<;>(try simp (disch:=omega) only [push_cast,seval,hv])))
  all_goals simp [OV]
 | true =>
  have hg:=(A5z hv).1
  have hl:=hg.2
  by_cases hz:pr xs=0
  ·(repeat' ((first
 | (first|refine Afz ?_|refine Aaz ?_)
 | (first|refine Agz ?_|refine Auz (mid:=l80r4a) (post:=l80r4b) Bfz (by decide) ?_|refine Aez ?_|refine Aoz ?_)
 | (first|refine Anz false ?_|refine A7z false ?_)
 | (first|((first|refine Akz (Apz (Bhz _ _ ?_ ?_)) ?_|refine Asz (Apz (Bhz _ _ ?_ ?_)) ⟨_,_,rfl,rfl⟩ ?_);(iterate 2 (exact sd));rintro _ _ ⟨rfl,rfl⟩)|((first|refine Akz (Apz (B1z _ _ ?_ ?_)) ?_|refine Asz (Apz (B1z _ _ ?_ ?_)) ⟨_,_,rfl,rfl⟩ ?_);(iterate 2 (exact sd));rintro _ _ ⟨rfl,rfl⟩)|((first|refine Akz (Ctz _ _ ?_ ?_) ?_|refine Asz (Ctz _ _ ?_ ?_) ⟨_,_,rfl,rfl⟩ ?_);(iterate 2 (exact sd));rintro _ _ ⟨rfl,rfl⟩))
 | (refine Acz ⟨.inr rfl,[176,224],[],_,by decide,rfl,?_⟩;(try simp (disch:=omega) only [push_cast,seval,↓Adz,↓Abz,↓List.map_cons,↓List.map_nil,hv,hz])))<;>(try simp (disch:=omega) only [push_cast,seval,hv,hz])))
   all_goals simp [OV,newSt,hz,IL]
  ·(repeat' ((first
 | (first|refine Afz ?_|refine Aaz ?_)
 | (first|refine Agz ?_|refine Aez ?_|refine Aoz ?_)
 | (first|refine Anz false ?_)
 | (first|(refine Akz (Apz (Bhz _ _ ?_ ?_)) ?_;(iterate 2 (exact sd));rintro _ _ ⟨rfl,rfl⟩)|(refine Akz (Apz (B1z _ _ ?_ ?_)) ?_;(iterate 2 (exact sd));rintro _ _ ⟨rfl,rfl⟩)|(refine Akz (Ctz _ _ ?_ ?_) ?_;(iterate 2 (exact sd));rintro _ _ ⟨rfl,rfl⟩)|(refine Akz (I7z _ _ ?_ ?_) ?_;(iterate 2 (exact sd));rintro _ _ ⟨rfl,rfl⟩))
 | (refine Acz ⟨.inr rfl,[272,304],[],_,by decide,rfl,?_⟩;(try simp (disch:=omega) only [push_cast,seval,↓Adz,↓Abz,↓List.map_cons,↓List.map_nil,hv,hz])))<;>(try simp (disch:=omega) only [push_cast,seval,hv,hz])))
   all_goals simp [OV,newSt,hz]

end Go.Proofs.YtapccmfnmiopoaaGreat
namespace Go.Proofs.YtapccmfnmiopoaaGreat
open VwM Vw Go

theorem Clz (st:List Int)(n:Nat)(d:Nat)(hn:st.length=n)(hb:n≤1099511627776):PCall Tryz.prog 43 [.rows false (IL st) n,.int .i64 d] (fun r=>r=.bool (vSt st d)):=by
 subst hn
 refine Axz l43_eq rfl ?_
 by_cases hd:st.length=d
 ·subst hd
  (repeat' (first
 | (first|refine Afz ?_|refine Aaz ?_)
 | ((first|refine Agz ?_|refine Aez ?_|refine Aoz ?_);simp (disch:=omega) only [push_cast,seval])
 | (refine Acz ⟨.inr rfl,_,rfl,?_⟩;(try simp (disch:=omega) only [push_cast,seval]))))
  refine A0z (fun k:Nat=>mkS [(11,RI st),(12,.int .i64 st.length),(13,.int .i64 k)] []) (fun k=>k≤st.length∧∀ j:Nat,j<k→-60≤st.getD j 0∧st.getD j 0≤60) (fun k=>st.length-k) 0 ⟨Nat.zero_le _,fun j h=>absurd h (Nat.not_lt_zero _)⟩ ?_ ?_
  ·(refine Sub.of_lists ?_ ?_ ?_ ?_ ?_<;>simp [Vw.mkS,Vw.lk,Vw.hk,AV.inn,innL,Ajz,Ahz,Alz,-List.map_set,-List.getD_eq_getElem?_getD])
  ·rintro k ⟨hk,hj⟩
   by_cases hlt:k<st.length
   ·(repeat' ((first
 | (first|refine Afz ?_|refine Aaz ?_)
 | (first|refine Agz ?_|refine Aez ?_|refine Aoz ?_)
 | ((first|refine Aiz (fun h=>?_) (fun h=>?_))<;>(try simp only [h])<;>(try simp only [bitvec_to_nat] at h)<;>(try simp only [h])<;>(first|(exfalso;omega)|(exfalso;simp_all;done)|skip))
 | (first|refine Anz false ?_)
 | (first|(refine Akz (Apz (within_ok _ _ ?_ ?_)) ?_;(iterate 2 (exact sd));rintro _ _ ⟨rfl,rfl⟩))
 | (refine Acz ⟨.inr rfl,_,rfl,?_⟩))<;>(try simp (disch:=omega) only [push_cast,seval])))
    ·have:allI st (-60) 60=false:=C5z (j:=k) hlt (by omega)
     simp [vSt,this]
    ·refine ⟨k+1,⟨by omega,fun j h=>?_⟩,by omega,?_⟩
     ·by_cases hjk:j=k
      ·subst hjk;assumption
      ·exact hj j (by omega)
     ·(refine Sub.of_lists ?_ ?_ ?_ ?_ ?_<;>simp [Vw.mkS,Vw.lk,Vw.hk,AV.inn,innL,Ajz,Ahz,Alz,-List.map_set,-List.getD_eq_getElem?_getD])
   ·have ha:allI st (-60) 60=true:=Drz fun j h=>hj j (by omega)
    (repeat' (first
 | (first|refine Afz ?_|refine Aaz ?_)
 | ((first|refine Agz ?_|refine Aez ?_|refine Atz ?_);simp (disch:=omega) only [push_cast,seval])
 | ((first|refine Aiz (fun h=>?_) (fun h=>?_))<;>(try simp only [h])<;>(try simp only [bitvec_to_nat] at h)<;>(try simp only [h])<;>(first|(exfalso;omega)|(exfalso;simp_all;done)|(simp (disch:=omega) only [push_cast,seval])|skip))
 | (refine Acz ⟨.inr rfl,_,rfl,?_⟩;(try simp (disch:=omega) only [push_cast,seval]))))
    simp [vSt,ha]
 ·have hd':¬ (st.length:Int)=d:=by omega
  (repeat' (first
 | (first|refine Afz ?_|refine Aaz ?_)
 | ((first|refine Agz ?_|refine Aez ?_);simp (disch:=omega) only [push_cast,seval,hd'])
 | (refine Acz ⟨.inr rfl,_,rfl,?_⟩;(try simp (disch:=omega) only [push_cast,seval,hd']))))
  simp [vSt,hd]


theorem Jlz (b:Int)(cs st idx:List Int)(n m p:Nat)(hm:st.length=m)(hp:idx.length=p)(hb:(p≤m∧p≤4)∧(-1000000≤b∧b≤1000000)∧∀ i,i<p→(-60≤idx.getD i 0∧idx.getD i 0≤60)∧-12960000≤st.getD i 0∧st.getD i 0≤12960000):PCall Tryz.prog 68 [.agg [.int .i64 b,.rows false (IL cs) n,.rows false (IL st) m],.rows false (IL idx) p] (fun r=>r=.int .i64 (b+dot (fun i=>idx.getD i 0) st p)):=by
 subst hm hp
 obtain ⟨⟨h1,h2⟩,⟨h3,h4⟩,hb⟩:=hb
 refine Axz l68_eq rfl ?_
 (repeat' (first
 | (first|refine Afz ?_|refine Aaz ?_)
 | ((first|refine Agz ?_);simp (disch:=omega) only [push_cast,seval])
 | (refine Acz ⟨.inr rfl,_,rfl,?_⟩;(try simp (disch:=omega) only [push_cast,seval]))))
 refine A0z (fun k:Nat=>mkS [(1,RI idx),(2,.ref 32 3 0),(5,.int .i64 (b+dot (fun i=>idx.getD i 0) st k)),(6,.int .i64 k)] [(32,[.int .i64 b,.rows false (IL cs) n,RI st])]) (fun k=>k≤idx.length) (fun k=>idx.length-k) 0 (Nat.zero_le _) ?_ ?_
 ·(refine Sub.of_lists ?_ ?_ ?_ ?_ ?_<;>simp [Vw.mkS,Vw.lk,Vw.hk,AV.inn,innL,Ajz,Ahz,Alz,-List.map_set,-List.getD_eq_getElem?_getD,dot])
 ·intro k hk
  by_cases hlt:k<idx.length
  ·have q1:=Gvz (f:=fun i=>idx.getD i 0) (st:=st) (B:=60) (C:=12960000) k fun i hi=>hb i (by omega)
   have q2:=Dzz (hb k hlt).1 (hb k hlt).2
   have q3:k<st.length:=by omega
   (repeat' (first
 | (first|refine Afz ?_|refine Aaz ?_)
 | ((first|refine Agz ?_|refine Auz (mid:=l68r4a) (post:=l68r4b) Bfz (by decide) ?_|refine Aez ?_|refine Aoz ?_);simp (disch:=omega) only [push_cast,seval])
 | ((first|refine Aiz (fun h=>?_) (fun h=>?_))<;>(try simp only [h])<;>(try simp only [bitvec_to_nat] at h)<;>(try simp only [h])<;>(first|(exfalso;omega)|(exfalso;simp_all;done)|(simp (disch:=omega) only [push_cast,seval])|skip))
 | (refine Acz ⟨.inr rfl,_,rfl,?_⟩;(try simp (disch:=omega) only [push_cast,seval]))))
   refine ⟨k+1,by omega,by omega,?_⟩
   (refine Sub.of_lists ?_ ?_ ?_ ?_ ?_<;>simp [Vw.mkS,Vw.lk,Vw.hk,AV.inn,innL,Ajz,Ahz,Alz,-List.map_set,-List.getD_eq_getElem?_getD,dot,Int.add_assoc])
  ·(repeat' (first
 | (first|refine Afz ?_|refine Aaz ?_)
 | ((first|refine Agz ?_|refine Aez ?_|refine Atz ?_);simp (disch:=omega) only [push_cast,seval])
 | ((first|refine Aiz (fun h=>?_) (fun h=>?_))<;>(try simp only [h])<;>(try simp only [bitvec_to_nat] at h)<;>(try simp only [h])<;>(first|(exfalso;omega)|(exfalso;simp_all;done)|(simp (disch:=omega) only [push_cast,seval])|skip))
 | (refine Acz ⟨.inr rfl,_,rfl,?_⟩;(try simp (disch:=omega) only [push_cast,seval]))))
   rw [show k=idx.length by omega]


/-- What keeps a view's cells from overflowing. -/
def okV (b:Int)(sh st:List Int):Prop:=(good4 sh∧pr sh≤60)∧(-1000000≤b∧b≤1000000)∧sh.length≤st.length∧∀ i,i<sh.length→-12960000≤st.getD i 0∧st.getD i 0≤12960000
theorem okV_dig {b:Int}{sh st:List Int}(h:okV b sh st){k:Int}(hk:0≤k)(hk2:k<pr sh):∀ i,i<sh.length→(-60≤dig sh k i∧dig sh k i≤60)∧-12960000≤st.getD i 0∧st.getD i 0≤12960000:=fun i hi=>by
 obtain ⟨⟨hg,_⟩,_,_,hs⟩:=h
 have h1:=D4z hg hk hk2 i hi
 have h2:=Cpz hg hi
 exact ⟨by omega,hs i hi⟩
theorem unr_getD {sh:List Int}{k:Int}{i:Nat}(h:i<sh.length):(unr sh k).getD i 0=dig sh k i:=by simp [unr,List.getD,h]
theorem D3z {sh st:List Int}{k:Int}:dot (fun i=>(unr sh k).getD i 0) st sh.length=dot (dig sh k) st sh.length:=Cfz fun i hi=>unr_getD hi
theorem dot_digP {sh st:List Int}{k:Int}:dot (digP sh k) st sh.length=dot (dig sh k) st sh.length:=Cfz fun i hi=>by unfold digP;rw [if_pos hi]
def offsT (b:Int)(sh st:List Int)(j:Nat):List Int:=(List.range j).map fun k:Nat=>cellK b sh st k
theorem offsT_zero (b:Int)(sh st:List Int):offsT b sh st 0=[]:=rfl
theorem offsT_succ (b:Int)(sh st:List Int)(j:Nat):offsT b sh st (j+1)=offsT b sh st j++[cellK b sh st j]:=by simp [offsT,List.range_succ]
theorem offsT_length (b:Int)(sh st:List Int)(j:Nat):(offsT b sh st j).length=j:=by simp [offsT]
theorem offsT_all (b:Int)(sh st:List Int):offsT b sh st (pr sh).toNat=offs b sh st:=rfl


theorem Fsz (b:Int)(sh st:List Int)(n m:Nat)(hn:sh.length=n)(hm:st.length=m)(hb:okV b sh st):BCall Tryz.prog 41 [.agg [.int .i64 b,.rows false (IL sh) n,.rows false (IL st) m]] [] (OI (offs b sh st)):=by
 subst hn hm
 obtain ⟨⟨hg,hp60⟩,⟨hb1,hb2⟩,hls,hst⟩:=hb
 have hl:=hg.2
 have hp0:=(Cmz hg).1
 refine Awz (pins:=[]) (pin:=0) l41_eq rfl rfl rfl ?_
 (repeat' (first
 | (first|refine Afz ?_|refine Aaz ?_)
 | ((first|refine Agz ?_);simp (disch:=omega) only [push_cast,seval])
 | (refine Acz ⟨.inr rfl,[80],[],_,by decide,rfl,?_⟩;(try simp (disch:=omega) only [push_cast,seval,↓Adz,↓Abz,↓List.map_cons,↓List.map_nil]);(first|done|(show AV.own _ _ _=_∧_)))
 | (refine Acz ⟨.inr rfl,[144],[],_,by decide,rfl,?_⟩;(try simp (disch:=omega) only [push_cast,seval,↓Adz,↓Abz,↓List.map_cons,↓List.map_nil]);(first|done|(show AV.own _ _ _=_∧_)))
 | (refine Acz ⟨.inr rfl,[288],[],_,by decide,rfl,?_⟩;(try simp (disch:=omega) only [push_cast,seval,↓Adz,↓Abz,↓List.map_cons,↓List.map_nil]);(first|done|(show AV.own _ _ _=_∧_)))
 | (refine Acz ⟨.inr rfl,[304],[],_,by decide,rfl,?_⟩;(try simp (disch:=omega) only [push_cast,seval,↓Adz,↓Abz,↓List.map_cons,↓List.map_nil]);(first|done|(show AV.own _ _ _=_∧_)))
 | (refine Acz ⟨.inr rfl,[320],[],_,by decide,rfl,?_⟩;(try simp (disch:=omega) only [push_cast,seval,↓Adz,↓Abz,↓List.map_cons,↓List.map_nil]);(first|done|(show AV.own _ _ _=_∧_)))
 | (refine Acz ⟨.inr rfl,[336],[],_,by decide,rfl,?_⟩;(try simp (disch:=omega) only [push_cast,seval,↓Adz,↓Abz,↓List.map_cons,↓List.map_nil]);(first|done|(show AV.own _ _ _=_∧_)))))
 refine A0z (fun k:Nat=>mkS [(1,.ref 16 3 0),(3,.own 80 k 1),(4,.int .i64 k)] [(16,[.int .i64 b,RI sh,RI st]),(80,IL (offsT b sh st k))])
  (fun k=>k≤(pr sh).toNat) (fun k=>(pr sh).toNat-k) 0 (Nat.zero_le _) ?_ ?_
 ·(refine Sub.of_lists ?_ ?_ ?_ ?_ ?_<;>simp [Vw.mkS,Vw.lk,Vw.hk,AV.inn,innL,Ajz,Ahz,Alz,-List.map_set,-List.getD_eq_getElem?_getD,offsT_zero])
 ·intro k hk
  have hol:=offsT_length b sh st k
  by_cases hlt:k<(pr sh).toNat
  ·have hgk:good4 sh∧0≤(k:Int)∧(k:Int)<pr sh:=⟨hg,by omega,by omega⟩
   have hdg:=okV_dig (b:=b) (st:=st) ⟨⟨hg,hp60⟩,⟨hb1,hb2⟩,hls,hst⟩ hgk.2.1 hgk.2.2
   have hlu:=E1z sh k
   have q:(sh.length≤st.length∧sh.length≤4)∧(-1000000≤b∧b≤1000000)∧∀ i,i<sh.length→(-60≤(unr sh k).getD i 0∧(unr sh k).getD i 0≤60)∧-12960000≤st.getD i 0∧st.getD i 0≤12960000:=⟨⟨hls,hl⟩,⟨hb1,hb2⟩,fun i hi=>by rw [unr_getD hi];exact hdg i hi⟩
   have hlt':(k:Int)<pr sh:=hgk.2.2
   (repeat' ((first
 | (first|refine Afz ?_|refine Aaz ?_)
 | (first|refine Agz ?_|refine Auz (mid:=l41r4a) (post:=l41r4b) Bfz (by decide) ?_|refine Aez ?_|refine Aoz ?_)
 | (first|refine Anz false ?_|refine A7z false ?_)
 | (first|((first|refine Akz (Apz (B1z _ _ ?_ ?_)) ?_|refine Asz (Apz (B1z _ _ ?_ ?_)) ⟨_,_,rfl,rfl⟩ ?_);(iterate 2 (exact sd));rintro _ _ ⟨rfl,rfl⟩)|((first|refine Akz (unrank_ok _ _ _ ?_ ?_) ?_|refine Asz (Apz (Dbz (unrank_ok _ _ _ ?_ ?_))) ⟨_,_,rfl,rfl⟩ ?_);(iterate 2 (exact sd));rintro _ _ ⟨rfl,rfl⟩)|((first|refine Akz (Apz (Jlz _ _ _ _ _ _ _ ?_ ?_ ?_)) ?_|refine Asz (Apz (Jlz _ _ _ _ _ _ _ ?_ ?_ ?_)) ⟨_,_,rfl,rfl⟩ ?_);(iterate 3 (exact sd));rintro _ _ ⟨rfl,rfl⟩))
 | (refine Acz ⟨.inr rfl,[80],[],_,by decide,rfl,?_⟩;(try simp (disch:=omega) only [push_cast,seval,↓Adz,↓Abz,↓List.map_cons,↓List.map_nil,hlt',hlu,hol,D3z]);(first|done|(show AV.own _ _ _=_∧_)))
 | (refine Acz ⟨.inr rfl,[144],[],_,by decide,rfl,?_⟩;(try simp (disch:=omega) only [push_cast,seval,↓Adz,↓Abz,↓List.map_cons,↓List.map_nil,hlt',hlu,hol,D3z]);(first|done|(show AV.own _ _ _=_∧_)))
 | (refine Acz ⟨.inr rfl,[288],[],_,by decide,rfl,?_⟩;(try simp (disch:=omega) only [push_cast,seval,↓Adz,↓Abz,↓List.map_cons,↓List.map_nil,hlt',hlu,hol,D3z]);(first|done|(show AV.own _ _ _=_∧_)))
 | (refine Acz ⟨.inr rfl,[304],[],_,by decide,rfl,?_⟩;(try simp (disch:=omega) only [push_cast,seval,↓Adz,↓Abz,↓List.map_cons,↓List.map_nil,hlt',hlu,hol,D3z]);(first|done|(show AV.own _ _ _=_∧_)))
 | (refine Acz ⟨.inr rfl,[320],[],_,by decide,rfl,?_⟩;(try simp (disch:=omega) only [push_cast,seval,↓Adz,↓Abz,↓List.map_cons,↓List.map_nil,hlt',hlu,hol,D3z]);(first|done|(show AV.own _ _ _=_∧_)))
 | (refine Acz ⟨.inr rfl,[336],[],_,by decide,rfl,?_⟩;(try simp (disch:=omega) only [push_cast,seval,↓Adz,↓Abz,↓List.map_cons,↓List.map_nil,hlt',hlu,hol,D3z]);(first|done|(show AV.own _ _ _=_∧_))))<;>(try simp (disch:=omega) only [push_cast,seval,hlt',hlu,hol,D3z])))
   refine ⟨k+1,by omega,by omega,?_⟩
   have e:b+dot (dig sh k) st sh.length=cellK b sh st k:=rfl
   (refine Sub.of_lists ?_ ?_ ?_ ?_ ?_<;>simp [Vw.mkS,Vw.lk,Vw.hk,AV.inn,innL,Ajz,Ahz,Alz,-List.map_set,-List.getD_eq_getElem?_getD,offsT_succ,e])
  ·have hlt':¬ (k:Int)<pr sh:=by omega
   (repeat' ((first
 | (first|refine Afz ?_|refine Aaz ?_)
 | (first|refine Agz ?_|refine Aez ?_|refine Atz ?_)
 | (first|refine Anz false ?_)
 | (first|(refine Akz (Apz (B1z _ _ ?_ ?_)) ?_;(iterate 2 (exact sd));rintro _ _ ⟨rfl,rfl⟩))
 | (refine Acz ⟨.inr rfl,[80],[],_,by decide,rfl,?_⟩;(try simp (disch:=omega) only [push_cast,seval,↓Adz,↓Abz,↓List.map_cons,↓List.map_nil,hlt',hol]);(first|done|(show AV.own _ _ _=_∧_)))
 | (refine Acz ⟨.inr rfl,[144],[],_,by decide,rfl,?_⟩;(try simp (disch:=omega) only [push_cast,seval,↓Adz,↓Abz,↓List.map_cons,↓List.map_nil,hlt',hol]);(first|done|(show AV.own _ _ _=_∧_)))
 | (refine Acz ⟨.inr rfl,[288],[],_,by decide,rfl,?_⟩;(try simp (disch:=omega) only [push_cast,seval,↓Adz,↓Abz,↓List.map_cons,↓List.map_nil,hlt',hol]);(first|done|(show AV.own _ _ _=_∧_)))
 | (refine Acz ⟨.inr rfl,[304],[],_,by decide,rfl,?_⟩;(try simp (disch:=omega) only [push_cast,seval,↓Adz,↓Abz,↓List.map_cons,↓List.map_nil,hlt',hol]);(first|done|(show AV.own _ _ _=_∧_)))
 | (refine Acz ⟨.inr rfl,[320],[],_,by decide,rfl,?_⟩;(try simp (disch:=omega) only [push_cast,seval,↓Adz,↓Abz,↓List.map_cons,↓List.map_nil,hlt',hol]);(first|done|(show AV.own _ _ _=_∧_)))
 | (refine Acz ⟨.inr rfl,[336],[],_,by decide,rfl,?_⟩;(try simp (disch:=omega) only [push_cast,seval,↓Adz,↓Abz,↓List.map_cons,↓List.map_nil,hlt',hol]);(first|done|(show AV.own _ _ _=_∧_))))<;>(try simp (disch:=omega) only [push_cast,seval,hlt',hol])))
   have:k=(pr sh).toNat:=by omega
   rw [this,offsT_all]
   simp [OI,Bjz]


theorem cell_ok (b:Int)(cs:List Int)(f:Nat→Int)(st:List Int)(n m:Nat)(hm:st.length=m)(hb:m≤4∧(-1000000≤b∧b≤1000000)∧∀ i,i<m→(-60≤f i∧f i≤60)∧-12960000≤st.getD i 0∧st.getD i 0≤12960000):PCall Tryz.prog 48 [.agg [.int .i64 b,.rows false (IL cs) n,.rows false (IL st) m],AP f] (fun r=>r=.int .i64 (b+dot f st m)):=by
 subst hm
 obtain ⟨h1,⟨h2,h3⟩,h4⟩:=hb
 have q:st.length≤4∧∀ i,i<st.length→(-60≤f i∧f i≤60)∧-12960000≤st.getD i 0∧st.getD i 0≤12960000:=⟨h1,h4⟩
 have q1:=Gvz (f:=f) (st:=st) (B:=60) (C:=12960000) st.length h4
 refine Axz l48_eq rfl ?_
 (repeat' ((first
 | (first|refine Afz ?_|refine Aaz ?_)
 | (first|refine Agz ?_|refine Auz (mid:=l48r1a) (post:=l48r1b) Bfz (by decide) ?_)
 | (first|refine A7z false ?_)
 | (first|(refine Asz (Apz (along_ok _ _ _ ?_ ?_)) ⟨_,_,rfl,rfl⟩ ?_;(iterate 2 (exact sd));rintro _ _ ⟨rfl,rfl⟩))
 | (refine Acz ⟨.inr rfl,_,rfl,?_⟩))<;>(try simp (disch:=omega) only [push_cast,seval])))


theorem cells_ok (b:Int)(sh st:List Int)(n m:Nat)(hn:sh.length=n)(hm:st.length=m)(hb:okV b sh st∧st.length=sh.length):BCall Tryz.prog 35 [.agg [.int .i64 b,.rows false (IL sh) n,.rows false (IL st) m]] [] (OI (offs b sh st)):=by
 subst hn hm
 obtain ⟨⟨⟨hg,hp60⟩,⟨hb1,hb2⟩,hls,hst⟩,hle⟩:=hb
 have hl:=hg.2
 have hp0:=(Cmz hg).1
 refine Awz (pins:=[]) (pin:=0) l35_eq rfl rfl rfl ?_
 (repeat' ((first
 | (first|refine Afz ?_|refine Aaz ?_)
 | (first|refine Agz ?_)
 | (first|refine Anz false ?_)
 | (first|(refine Akz (Apz (D9z _ _ _ _ _ _ ?_ ?_)) ?_;(iterate 2 (exact sd));rintro _ _ ⟨rfl,rfl⟩))
 | (refine Acz ⟨.inr rfl,[96],[],_,by decide,rfl,?_⟩;(try simp (disch:=omega) only [push_cast,seval,↓Adz,↓Abz,↓List.map_cons,↓List.map_nil]);(first|done|(show AV.own _ _ _=_∧_)))
 | (refine Acz ⟨.inr rfl,[112],[],_,by decide,rfl,?_⟩;(try simp (disch:=omega) only [push_cast,seval,↓Adz,↓Abz,↓List.map_cons,↓List.map_nil]);(first|done|(show AV.own _ _ _=_∧_)))
 | (refine Acz ⟨.inr rfl,[304],[],_,by decide,rfl,?_⟩;(try simp (disch:=omega) only [push_cast,seval,↓Adz,↓Abz,↓List.map_cons,↓List.map_nil]);(first|done|(show AV.own _ _ _=_∧_)))
 | (refine Acz ⟨.inr rfl,[320],[],_,by decide,rfl,?_⟩;(try simp (disch:=omega) only [push_cast,seval,↓Adz,↓Abz,↓List.map_cons,↓List.map_nil]);(first|done|(show AV.own _ _ _=_∧_))))<;>(try simp (disch:=omega) only [push_cast,seval])))
 refine A0z (fun k:Nat=>mkS [(1,.ref 16 3 0),(3,.own 112 (pr sh).toNat 1),(9,.int .i64 (pr sh)),(10,.int .i64 k)] [(16,[.int .i64 b,RI sh,RI st]),(112,IL (filled (fun k:Nat=>cellK b sh st k) (pr sh).toNat k))])
  (fun k=>k≤(pr sh).toNat) (fun k=>(pr sh).toNat-k) 0 (Nat.zero_le _) ?_ ?_
 ·have e0:max (pr sh) 0=pr sh:=by omega
  (refine Sub.of_lists ?_ ?_ ?_ ?_ ?_<;>simp [Vw.mkS,Vw.lk,Vw.hk,AV.inn,innL,Ajz,Ahz,Alz,-List.map_set,-List.getD_eq_getElem?_getD,Dcz,e0])
 ·intro k hk
  by_cases hlt:k<(pr sh).toNat
  ·have hgk:good4 sh∧0≤(k:Int)∧(k:Int)<pr sh:=⟨hg,by omega,by omega⟩
   have hdg:=okV_dig (b:=b) (st:=st) ⟨⟨hg,hp60⟩,⟨hb1,hb2⟩,hls,hst⟩ hgk.2.1 hgk.2.2
   have q:st.length≤4∧(-1000000≤b∧b≤1000000)∧∀ i,i<st.length→(-60≤digP sh k i∧digP sh k i≤60)∧-12960000≤st.getD i 0∧st.getD i 0≤12960000:=⟨by omega,⟨hb1,hb2⟩,fun i hi=>by
    unfold digP
    rw [if_pos (by omega)]
    exact hdg i (by omega)⟩
   have hlt':(k:Int)<pr sh:=hgk.2.2
   (repeat' ((first
 | (first|refine Afz ?_|refine Aaz ?_)
 | (first|refine Agz ?_|refine Auz (mid:=l35r5a) (post:=l35r5b) Bfz (by decide) ?_|refine Aez ?_|refine Aoz ?_)
 | (first|refine A7z false ?_)
 | (first|(refine Asz (Apz (placesAt_ok _ _ _ ?_ ?_)) ⟨_,_,rfl,rfl⟩ ?_;(iterate 2 (exact sd));rintro _ _ ⟨rfl,rfl⟩)|(refine Asz (Apz (cell_ok _ _ _ _ _ _ ?_ ?_)) ⟨_,_,rfl,rfl⟩ ?_;(iterate 2 (exact sd));rintro _ _ ⟨rfl,rfl⟩))
 | (refine Acz ⟨.inr rfl,[96],[],_,by decide,rfl,?_⟩;(try simp (disch:=omega) only [push_cast,seval,↓Adz,↓Abz,↓List.map_cons,↓List.map_nil,hlt']);(first|done|(show AV.own _ _ _=_∧_)))
 | (refine Acz ⟨.inr rfl,[112],[],_,by decide,rfl,?_⟩;(try simp (disch:=omega) only [push_cast,seval,↓Adz,↓Abz,↓List.map_cons,↓List.map_nil,hlt']);(first|done|(show AV.own _ _ _=_∧_)))
 | (refine Acz ⟨.inr rfl,[304],[],_,by decide,rfl,?_⟩;(try simp (disch:=omega) only [push_cast,seval,↓Adz,↓Abz,↓List.map_cons,↓List.map_nil,hlt']);(first|done|(show AV.own _ _ _=_∧_)))
 | (refine Acz ⟨.inr rfl,[320],[],_,by decide,rfl,?_⟩;(try simp (disch:=omega) only [push_cast,seval,↓Adz,↓Abz,↓List.map_cons,↓List.map_nil,hlt']);(first|done|(show AV.own _ _ _=_∧_))))<;>(try simp (disch:=omega) only [push_cast,seval,hlt'])))
   refine ⟨k+1,by omega,by omega,?_⟩
   have e:b+dot (digP sh k) st st.length=cellK b sh st k:=by rw [hle,dot_digP];rfl
   have e2:=C4z (fun k:Nat=>cellK b sh st k) (pr sh).toNat k hlt
   (refine Sub.of_lists ?_ ?_ ?_ ?_ ?_<;>simp [Vw.mkS,Vw.lk,Vw.hk,AV.inn,innL,Ajz,Ahz,Alz,-List.map_set,-List.getD_eq_getElem?_getD,Ayz,e,e2])
  ·have hlt':¬ (k:Int)<pr sh:=by omega
   (repeat' (first
 | (first|refine Afz ?_|refine Aaz ?_)
 | ((first|refine Agz ?_|refine Aez ?_|refine Atz ?_);simp (disch:=omega) only [push_cast,seval,hlt'])
 | (refine Acz ⟨.inr rfl,[96],[],_,by decide,rfl,?_⟩;(try simp (disch:=omega) only [push_cast,seval,↓Adz,↓Abz,↓List.map_cons,↓List.map_nil,hlt']);(first|done|(show AV.own _ _ _=_∧_)))
 | (refine Acz ⟨.inr rfl,[112],[],_,by decide,rfl,?_⟩;(try simp (disch:=omega) only [push_cast,seval,↓Adz,↓Abz,↓List.map_cons,↓List.map_nil,hlt']);(first|done|(show AV.own _ _ _=_∧_)))
 | (refine Acz ⟨.inr rfl,[304],[],_,by decide,rfl,?_⟩;(try simp (disch:=omega) only [push_cast,seval,↓Adz,↓Abz,↓List.map_cons,↓List.map_nil,hlt']);(first|done|(show AV.own _ _ _=_∧_)))
 | (refine Acz ⟨.inr rfl,[320],[],_,by decide,rfl,?_⟩;(try simp (disch:=omega) only [push_cast,seval,↓Adz,↓Abz,↓List.map_cons,↓List.map_nil,hlt']);(first|done|(show AV.own _ _ _=_∧_)))))
   have:k=(pr sh).toNat:=by omega
   rw [this,Ffz]
   simp [OI,offs]


theorem I0z (b:Int)(sh st:List Int)(n m:Nat)(hn:sh.length=n)(hm:st.length=m)(hb:good4 sh∧vSt st sh.length=true∧-1000000≤b∧b≤1000000):PCall Tryz.prog 45 [.agg [.int .i64 b,.rows false (IL sh) n,.rows false (IL st) m]] (fun r=>r=.tup [.int .i64 (bdL b sh st),.int .i64 (bdH b sh st)]):=by
 subst hn hm
 obtain ⟨hg,hs,hb1,hb2⟩:=hb
 have hl:=hg.2
 have hle:=(E0z.1 hs).1
 refine Axz l45_eq rfl ?_
 unfold bdL bdH
 by_cases hz:pr sh=0
 ·(repeat' ((first
 | (first|refine Afz ?_|refine Aaz ?_)
 | (first|refine Agz ?_|refine Aez ?_)
 | (first|refine Anz false ?_)
 | (first|(refine Akz (Apz (D9z _ _ _ _ _ _ ?_ ?_)) ?_;(iterate 2 (exact sd));rintro _ _ ⟨rfl,rfl⟩))
 | (refine Acz ⟨.inr rfl,_,rfl,?_⟩))<;>(try simp (disch:=omega) only [push_cast,seval,hz])))
 ·(repeat' ((first
 | (first|refine Afz ?_|refine Aaz ?_)
 | (first|refine Agz ?_|refine Auz (mid:=l45r3a) (post:=l45r3b) Bfz (by decide) ?_|refine Aez ?_|refine Aoz ?_)
 | (first|refine Anz false ?_)
 | (first|(refine Akz (Apz (D9z _ _ _ _ _ _ ?_ ?_)) ?_;(iterate 2 (exact sd));rintro _ _ ⟨rfl,rfl⟩))
 | (refine Acz ⟨.inr rfl,_,rfl,?_⟩))<;>(try simp (disch:=omega) only [push_cast,seval,hz])))
  refine A0z (fun k:Nat=>mkS [(1,.ref 16 3 0),(4,.int .i64 (b+lowS sh st k)),(5,.int .i64 (b+highS sh st k)),(17,RI st),(18,.int .i64 st.length),(19,.int .i64 k)] [(16,[.int .i64 b,RI sh,RI st])])
   (fun k=>k≤st.length) (fun k=>st.length-k) 0 (Nat.zero_le _) ?_ ?_
  ·(refine Sub.of_lists ?_ ?_ ?_ ?_ ?_<;>simp [Vw.mkS,Vw.lk,Vw.hk,AV.inn,innL,Ajz,Ahz,Alz,-List.map_set,-List.getD_eq_getElem?_getD,lowS,highS])
  ·intro k hk
   by_cases hlt:k<st.length
   ·have h1:=Cpz hg (k:=k) (by omega)
    have h2:=vSt_at hs (i:=k) (by omega)
    have h3:=mul_bd (x:=sh.getD k 0-1) (y:=st.getD k 0) (p:=60) (q:=60) (by omega) (by omega)
    have h4:=Gpz hg hs k (by omega)
    have h5:k<sh.length:=by omega
    (repeat' (first
 | (first|refine Afz ?_|refine Aaz ?_)
 | ((first|refine Agz ?_|refine Aez ?_|refine Aoz ?_);simp (disch:=omega) only [push_cast,seval])
 | ((first|refine Aiz (fun h=>?_) (fun h=>?_))<;>(try simp only [h])<;>(try simp only [bitvec_to_nat] at h)<;>(try simp only [h])<;>(first|(exfalso;omega)|(exfalso;simp_all;done)|(simp (disch:=omega) only [push_cast,seval])|skip))
 | (refine Acz ⟨.inr rfl,_,rfl,?_⟩;(try simp (disch:=omega) only [push_cast,seval]))))
    refine ⟨k+1,by omega,by omega,?_⟩
    (refine Sub.of_lists ?_ ?_ ?_ ?_ ?_<;>simp [Vw.mkS,Vw.lk,Vw.hk,AV.inn,innL,Ajz,Ahz,Alz,-List.map_set,-List.getD_eq_getElem?_getD,lowS,highS,Int.add_assoc])
   ·(repeat' (first
 | (first|refine Afz ?_|refine Aaz ?_)
 | ((first|refine Agz ?_|refine Aez ?_|refine Atz ?_);simp (disch:=omega) only [push_cast,seval])
 | ((first|refine Aiz (fun h=>?_) (fun h=>?_))<;>(try simp only [h])<;>(try simp only [bitvec_to_nat] at h)<;>(try simp only [h])<;>(first|(exfalso;omega)|(exfalso;simp_all;done)|(simp (disch:=omega) only [push_cast,seval])|skip))
 | (refine Acz ⟨.inr rfl,_,rfl,?_⟩;(try simp (disch:=omega) only [push_cast,seval]))))
    rw [← hle,show k=st.length by omega]

end Go.Proofs.YtapccmfnmiopoaaGreat
