/- Texts of this verifier. -/
import Derived.Test.YtfccepgibbdfaaaGreatDoorCB11
import Derived.Test.YtfccepgibbdfaaaGreatDoorCM1
import Derived.Test.YtfccepgibbdfaaaGreatDoorCW3
set_option maxHeartbeats 4000000
set_option linter.unusedSimpArgs false
set_option linter.unusedSectionVars false
set_option linter.unusedVariables false
set_option maxRecDepth 4000
namespace Go.Proofs.YtfccepgibbdfaaaGreatDoor
open VwM Vw Go
variable [SentA]
variable [PowA]

theorem Iyz (xs ys:List Int)(n m:Nat)(hn:xs.length=n)(hm:ys.length=m)(hb:n≤1099511627776∧m≤1099511627776):PCall Tryz.prog 43 [.rows false (IL xs) n,.rows false (IL ys) m] (fun r=>r=.bool (decide (xs=ys))):=by
 subst hn hm
 refine Atz l43_eq rfl ?_
 by_cases hl:xs.length=ys.length
 ·have hl':(xs.length:Int)=ys.length:=by omega
  (repeat' (first
 | (first|refine Afz ?_|refine Abz ?_)
 | ((first|refine Agz ?_|refine Acz ?_|refine Amz ?_);simp (disch:=omega) only [push_cast,seval,hl'])
 | (refine Adz ⟨.inr rfl,_,rfl,?_⟩;(try simp (disch:=omega) only [push_cast,seval,hl']))))
  refine A5z (fun k:Nat=>mkS [(0,RI xs),(1,RI ys),(5,.int .i64 k)] []) (fun k=>k≤xs.length∧∀ j:Nat,j<k→xs.getD j 0=ys.getD j 0) (fun k=>xs.length-k) 0 ⟨Nat.zero_le _,fun j h=>absurd h (Nat.not_lt_zero _)⟩ ?_ ?_
  ·(refine Sub.of_lists ?_ ?_ ?_ ?_ ?_<;>simp [Vw.mkS,Vw.lk,Vw.hk,AV.inn,innL,Apz,Anz,Asz,-List.map_set,-List.getD_eq_getElem?_getD,hl])
  ·rintro k ⟨hk,hj⟩
   by_cases hlt:k<xs.length
   ·(repeat' (first
 | (first|refine Afz ?_|refine Abz ?_)
 | ((first|refine Agz ?_|refine Arz (mid:=l43r5a) (post:=l43r5b) mixed (by decide) ?_|refine Acz ?_|refine Amz ?_);simp (disch:=omega) only [push_cast,seval])
 | ((first|refine Alz (fun h=>?_) (fun h=>?_))<;>(try simp only [h])<;>(try simp only [bitvec_to_nat] at h)<;>(try simp only [h])<;>(first|(exfalso;omega)|(exfalso;simp_all;done)|(simp (disch:=omega) only [push_cast,seval])|skip))
 | (refine Adz ⟨.inr rfl,_,rfl,?_⟩;(try simp (disch:=omega) only [push_cast,seval]))))
    ·simp;rintro rfl;exact absurd rfl ‹_›
    ·refine ⟨k+1,⟨by omega,fun j h=>?_⟩,by omega,?_⟩
     ·by_cases hjk:j=k
      ·subst hjk;assumption
      ·exact hj j (by omega)
     ·(refine Sub.of_lists ?_ ?_ ?_ ?_ ?_<;>simp [Vw.mkS,Vw.lk,Vw.hk,AV.inn,innL,Apz,Anz,Asz,-List.map_set,-List.getD_eq_getElem?_getD])
   ·(repeat' (first
 | (first|refine Afz ?_|refine Abz ?_)
 | ((first|refine Agz ?_|refine Acz ?_|refine Azz ?_);simp (disch:=omega) only [push_cast,seval])
 | ((first|refine Alz (fun h=>?_) (fun h=>?_))<;>(try simp only [h])<;>(try simp only [bitvec_to_nat] at h)<;>(try simp only [h])<;>(first|(exfalso;omega)|(exfalso;simp_all;done)|(simp (disch:=omega) only [push_cast,seval])|skip))
 | (refine Adz ⟨.inr rfl,_,rfl,?_⟩;(try simp (disch:=omega) only [push_cast,seval]))))
    have:xs=ys:=Goz hl fun j h=>hj j (by omega)
    simp [this]
 ·have hl':¬ (xs.length:Int)=ys.length:=by omega
  have:¬ xs=ys:=by rintro rfl;exact hl rfl
  (repeat' (first
 | (first|refine Afz ?_|refine Abz ?_)
 | ((first|refine Agz ?_|refine Acz ?_);simp (disch:=omega) only [push_cast,seval,hl'])
 | (refine Adz ⟨.inr rfl,_,rfl,?_⟩;(try simp (disch:=omega) only [push_cast,seval,hl']))))
  simp [this]

end Go.Proofs.YtfccepgibbdfaaaGreatDoor
namespace Go.Proofs.YtfccepgibbdfaaaGreatDoor
open VwM Vw Go
variable [SentA]
variable [PowA]

theorem takesL_length (xs at_:List Int):(takesL xs at_).length=at_.length:=by simp [takesL]

end Go.Proofs.YtfccepgibbdfaaaGreatDoor
namespace Go.Proofs.YtfccepgibbdfaaaGreatDoor
open VwM Vw Go
variable [SentA]
variable [PowA]

end Go.Proofs.YtfccepgibbdfaaaGreatDoor
namespace Go.Proofs.YtfccepgibbdfaaaGreatDoor
open VwM Vw Go
variable [SentA]
variable [PowA]

theorem iRelP_ok (cs:List Int)(es:List Ex)(m n:Nat)(id:Int)(hm:cs.length=m)(hn:es.length=n)(hb:m≤1048576∧n≤1048576∧exB 1048576 es) :
  PCall Tryz.prog 72 [.agg [.rows false (IL cs) m,.rows false (EL false es) n],.int .i64 id] (fun r=>r=.tup [.agg [.rows true (IL (ifB (relG cs es id) cs)) (ifB (relG cs es id) cs).length,.rows true (EL true (ifB (relG cs es id) (relE es id.toNat))) (ifB (relG cs es id) (relE es id.toNat)).length],.bool (relG cs es id)]) :=
 E6z (iRel_ok cs es m n id hm hn hb)


theorem iRzP_ok (cs:List Int)(es:List Ex)(m n:Nat)(s:Int)(hm:cs.length=m)(hn:es.length=n)(hb:m≤1048576∧n≤1048576∧exB 1048576 es) :
  PCall Tryz.prog 67 [.agg [.rows false (IL cs) m,.rows false (EL false es) n],.int .i64 s] (fun r=>r=.tup [.agg [.rows true (IL (ifB (rzG cs es s) (zz cs s.toNat))) (ifB (rzG cs es s) (zz cs s.toNat)).length,.rows true (EL true (ifB (rzG cs es s) es)) (ifB (rzG cs es s) es).length],.bool (rzG cs es s)]) :=
 E6z (iRz_ok cs es m n s hm hn hb)

end Go.Proofs.YtfccepgibbdfaaaGreatDoor
namespace Go.Proofs.YtfccepgibbdfaaaGreatDoor
open VwM Vw Go
variable [SentA]
variable [PowA]

theorem E5z {P:Program}{f:Nat}{args:List AV}{ok:Bool}{cs:List Int}{es:List Ex}(h:BCall P f args [] (OBs ok cs es)):PCall P f args (fun r=>r=.tup [.agg [.rows true (IL cs) cs.length,.rows true (EL true es) es.length],.bool ok]):=by
 refine (BCall.plain h).mono ?_
 rintro r ⟨r0,H',⟨rfl,rfl⟩,rfl⟩
 simp [AV.ren,nthH,Itz,Auz]
theorem iOpenP_ok (cs:List Int)(es:List Ex)(m n:Nat)(hm:cs.length=m)(hn:es.length=n)(hb:m≤1099511627776∧n≤1099511627776∧exB 1099511627776 es) :
  PCall Tryz.prog 20 [.agg [.rows false (IL cs) m,.rows false (EL false es) n]] (fun r=>r=.rows true (IL (opensA cs es)) (opensA cs es).length):=by
 refine (BCall.plain (iOpen_ok cs es m n hm hn hb)).mono ?_
 rintro r ⟨r0,H',⟨rfl,rfl⟩,rfl⟩
 simp [AV.ren,nthH,List.map_map,Function.comp_def]




theorem sRzP_ok (cs:List Int)(es:List Ex)(m n:Nat)(s:Int)(hm:cs.length=m)(hn:es.length=n)(hb:m≤1099511627776∧n≤1099511627776∧exB 1099511627776 es) :
  PCall Tryz.prog 94 [.agg [.rows false (IL cs) m,.rows false (EL false es) n],.int .i64 s] (fun r=>r=.tup [.agg [.rows true (IL (ifB (rzG cs es s) (zz cs s.toNat))) (ifB (rzG cs es s) (zz cs s.toNat)).length,.rows true (EL true (ifB (rzG cs es s) es)) (ifB (rzG cs es s) es).length],.bool (rzG cs es s)]) :=
 E5z (sRz_ok cs es m n s hm hn hb)


theorem eqVwS_ok (b:Int)(s t:List Int)(n m n' m':Nat)(h1:s.length=n)(h2:t.length=m)(h3:s.length=n')(h4:t.length=m')(hb:s.length≤1099511627776∧t.length≤1099511627776):PCall Tryz.prog 44 [.agg [.int .i64 b,.rows false (IL s) n,.rows false (IL t) m],.agg [.int .i64 b,.rows false (IL s) n',.rows false (IL t) m']] (fun r=>r=.bool true):=by
 subst h1 h2 h3 h4
 obtain ⟨q1,q2⟩:=hb
 refine Atz l44_eq rfl ?_
 (repeat' ((first
 | (first|refine Afz ?_|refine Abz ?_)
 | (first|refine Agz ?_)
 | (first|refine Ajz false ?_)
 | (first|(refine Aiz (Akz (Iyz _ _ _ _ ?_ ?_ ?_)) ?_;(iterate 3 (exact sd));rintro _ _ ⟨rfl,rfl⟩))
 | (refine Adz ⟨.inr rfl,_,rfl,?_⟩))<;>(try simp (disch:=omega) only [push_cast,seval,decide_true])))


set_option maxHeartbeats 8000000 in
theorem Dez (cs:List Int)(es:List Ex)(n m n' m':Nat)(hn:cs.length=n)(hm:es.length=m)(hn':cs.length=n')(hm':es.length=m')(hb:cs.length≤1099511627776∧es.length≤1099511627776∧exB 1099511627776 es):PCall Tryz.prog 18 [.agg [.rows false (IL cs) n,.rows false (EL false es) m],.agg [.rows false (IL cs) n',.rows false (EL false es) m']] (fun r=>r=.bool true):=by
 subst hn hm hn' hm'
 refine Atz l18_eq rfl ?_
 obtain ⟨hb1,hb2,hb3⟩:=hb
 have hel:=Auz false es
 (repeat' ((first
 | (first|refine Afz ?_|refine Abz ?_)
 | (first|refine Agz ?_|refine Acz ?_|refine Amz ?_)
 | (first|refine Ajz false ?_)
 | (first|(refine Aiz (Akz (Iyz _ _ _ _ ?_ ?_ ?_)) ?_;(iterate 3 (exact sd));rintro _ _ ⟨rfl,rfl⟩)))<;>(try simp (disch:=omega) only [push_cast,seval,Aaz,hel,decide_true])))
 refine Duz (fun i:Nat=>mkS [(2,.ref 32 2 0),(3,.ref 48 2 0),(5,.int .i64 i)] [(32,[.rows false (IL cs) cs.length,.rows false (EL false es) es.length]),(48,[.rows false (IL cs) cs.length,.rows false (EL false es) es.length])]) (fun i=>i≤es.length) (fun i=>es.length-i) 0 (Nat.zero_le _) ?_ ?_
 ·refine SubW.of ?_
  (refine Sub.of_lists ?_ ?_ ?_ ?_ ?_<;>simp [Vw.mkS,Vw.lk,Vw.hk,AV.inn,innL,Apz,Anz,Asz,-List.map_set,-List.getD_eq_getElem?_getD,Aaz])
 ·intro i hi
  by_cases hlt:i<es.length
  ·obtain ⟨pp,b,x,y,o,he⟩:=Djz hlt
   obtain ⟨hx,hy⟩:=Cgz hb3 he
   have hil:i*5+5≤es.length*5:=by omega
   have hd:=Btz false es i he
   simp only at hd
   have hxy:=And.intro hx hy
   (repeat' ((first
 | (first|refine Afz ?_|refine Abz ?_)
 | (first|refine Agz ?_|refine Acz ?_|refine Amz ?_)
 | ((first|refine Alz (fun h=>?_) (fun h=>?_))<;>(try simp only [h])<;>(try simp only [bitvec_to_nat] at h)<;>(try simp only [h])<;>(first|(exfalso;omega)|(exfalso;simp_all;done)|skip))
 | (first|refine Ajz false ?_)
 | (first|(refine Aiz (Akz (eqVwS_ok _ _ _ _ _ _ _ ?_ ?_ ?_ ?_ ?_)) ?_;(iterate 5 (exact sd));rintro _ _ ⟨rfl,rfl⟩)))<;>(try simp (disch:=omega) only [push_cast,seval,Aaz,hel,hil,hd,decide_true,bne_self_eq_false])))
   refine ⟨i+1,by omega,by omega,SubW.of ?_⟩
   (refine Sub.of_lists ?_ ?_ ?_ ?_ ?_<;>simp [Vw.mkS,Vw.lk,Vw.hk,AV.inn,innL,Apz,Anz,Asz,-List.map_set,-List.getD_eq_getElem?_getD,Aaz])
  ·have e:i=es.length:=by omega
   subst e
   (repeat' (first
 | (first|refine Afz ?_|refine Abz ?_)
 | ((first|refine Agz ?_|refine Acz ?_|refine Azz ?_);simp (disch:=omega) only [push_cast,seval,Aaz,hel,decide_true])
 | ((first|refine Alz (fun h=>?_) (fun h=>?_))<;>(try simp only [h])<;>(try simp only [bitvec_to_nat] at h)<;>(try simp only [h])<;>(first|(exfalso;omega)|(exfalso;simp_all;done)|(simp (disch:=omega) only [push_cast,seval,Aaz,hel,decide_true])|skip))))
   all_goals ((refine Adz ⟨.inr rfl,_,rfl,?_⟩;try simp (disch:=omega) only [push_cast,seval]))
   all_goals (try rfl)

end Go.Proofs.YtfccepgibbdfaaaGreatDoor
namespace Go.Proofs.YtfccepgibbdfaaaGreatDoor
open VwM Vw Go
variable [SentA]
variable [PowA]

/-- How many are kids of the buffer itself or of one of the first i. -/
def kS (es:List Ex)(k:Nat):Nat→Nat
 | 0=>(kidsT es (-1) k).length
 | i+1=>kS es k i+(kidsT es (i:Int) k).length
theorem Htz {es:List Ex}:∀ {k:Nat} {x:Int},x∈opensT es k→0≤x∧x<(k:Int)
 | 0,x,h=>by simp [opensT] at h
 | k+1,x,h=>by
  cases he:es[k]? with
  | none =>
   simp only [opensT,he] at h
   have:=Htz h
   omega
  | some e =>
   by_cases ho:e.2.2=true
   ·rw [Eyz he ho] at h
    rcases List.mem_append.1 h with h1|h1
    ·have:=Htz h1
     omega
    ·rw [List.mem_singleton] at h1
     omega
   ·rw [Ezz he ho] at h
    have:=Htz h
    omega
end Go.Proofs.YtfccepgibbdfaaaGreatDoor
namespace Go.Proofs.YtfccepgibbdfaaaGreatDoor
open VwM Vw Go
variable [SentA]
variable [PowA]

variable [PowB]
theorem E8z {k:Int}{y:List Int}(h:vA k y=true):(0≤k∧k≤7)∧(y.length:Int)=ndA k∧y.length≤4∧∀ x∈y,-100≤x∧x≤100:=by
 unfold vA at h
 simp only [Bool.and_eq_true,decide_eq_true_eq] at h
 obtain ⟨⟨⟨h0,h7⟩,hl⟩,ha⟩:=h
 have:=ndA_in ⟨h0,h7⟩
 exact ⟨⟨h0,h7⟩,hl,by omega,Cxz.1 ha⟩
theorem emp_app (a:ByteArray):a++({ data:={ toList:=[] } }:ByteArray)=a:=by
 apply ByteArray.ext
 rw [ByteArray.data_append]
 simp


set_option maxHeartbeats 8000000 in
theorem spaced_ok (w:ByteArray)(xs:List Int)(n:Nat)(hn:xs.length=n)(hb:(n≤1000000∧w.size≤1000)∧∀ x∈xs,-9223372036854775807≤x∧x≤9223372036854775807):PCall Tryz.prog 76 [.str w,.rows false (IL xs) n] (fun r=>r=.str (txB w xs)):=by
 subst hn
 obtain ⟨⟨hb1,hb3⟩,hb2⟩:=hb
 refine Atz l76_eq rfl ?_
 (repeat' (first
 | (first|refine Afz ?_|refine Abz ?_)
 | ((first|refine Agz ?_);simp (disch:=omega) only [push_cast,seval])
 | (refine Adz ⟨.inr rfl,_,rfl,?_⟩;(try simp (disch:=omega) only [push_cast,seval]))))
 refine A5z (fun i:Nat=>mkS [(0,.str (txB w (xs.take i))),(7,.rows false (IL xs) xs.length),(8,.int .i64 xs.length),(9,.int .i64 i)] []) (fun i=>i≤xs.length) (fun i=>xs.length-i) 0 (Nat.zero_le _) ?_ ?_
 ·(refine Sub.of_lists ?_ ?_ ?_ ?_ ?_<;>simp [Vw.mkS,Vw.lk,Vw.hk,AV.inn,innL,Apz,Anz,Asz,-List.map_set,-List.getD_eq_getElem?_getD])
  all_goals rfl
 ·intro i hi
  have hsz:=I6z (xs.take i) w (fun x hx=>by have:=hb2 x (List.mem_of_mem_take hx);omega)
  have hsl:(xs.take i).length≤1000000:=by rw [List.length_take];omega
  by_cases hlt:i<xs.length
  ·have hx:=hb2 _ (Ddz hlt)
   have hx':-9223372036854775808≤xs.getD i 0∧xs.getD i 0≤9223372036854775807:=by omega
   have hzx:=Fgz (n:=xs.getD i 0) (by omega)
   have h32:({ data:={ toList:=[32] } }:ByteArray).size=1:=rfl
   have htk:=txB_take (w:=w) hlt
   rw [ByteArray.append_assoc] at htk
   generalize hT:txB w (xs.take i)=t at *
   have ht2:(({ data:={ toList:=[32] } }:ByteArray)++itB (xs.getD i 0)).size=1+(itB (xs.getD i 0)).size:=by rw [ByteArray.size_append];rfl
   have hadd:=E4z { data:={ toList:=[32] } } (itB (xs.getD i 0)) (by rw [h32];omega)
   (repeat' ((first
 | (first|refine Afz ?_|refine Abz ?_)
 | (first|refine Agz ?_|refine Acz ?_|refine Amz ?_)
 | ((first|refine Alz (fun h=>?_) (fun h=>?_))<;>(try simp only [h])<;>(try simp only [bitvec_to_nat] at h)<;>(try simp only [h])<;>(first|(exfalso;omega)|(exfalso;simp_all;done)|skip))
 | (first|refine Ajz false ?_)
 | (first|(refine Aiz (Akz (itoa_ok _ ?_)) ?_;(exact sd);rintro _ _ ⟨rfl,rfl⟩))
 | (refine Adz ⟨.inr rfl,_,rfl,?_⟩))<;>(try simp (disch:=omega) only [push_cast,seval,hlt,hadd])))
   refine ⟨i+1,by omega,by omega,?_⟩
   rw [← htk]
   (refine Sub.of_lists ?_ ?_ ?_ ?_ ?_<;>simp [Vw.mkS,Vw.lk,Vw.hk,AV.inn,innL,Apz,Anz,Asz,-List.map_set,-List.getD_eq_getElem?_getD])
  ·have e:i=xs.length:=by omega
   subst e
   rw [List.take_length]
   (repeat' (first
 | (first|refine Afz ?_|refine Abz ?_)
 | ((first|refine Agz ?_|refine Acz ?_|refine Azz ?_);simp (disch:=omega) only [push_cast,seval])
 | ((first|refine Alz (fun h=>?_) (fun h=>?_))<;>(try simp only [h])<;>(try simp only [bitvec_to_nat] at h)<;>(try simp only [h])<;>(first|(exfalso;omega)|(exfalso;simp_all;done)|(simp (disch:=omega) only [push_cast,seval])|skip))
 | (refine Adz ⟨.inr rfl,_,rfl,?_⟩;(try simp (disch:=omega) only [push_cast,seval]))))

end Go.Proofs.YtfccepgibbdfaaaGreatDoor
namespace Go.Proofs.YtfccepgibbdfaaaGreatDoor
open VwM Vw Go
variable [SentA]
variable [PowA]

variable [PowB]
/-- What a valid act does to a valid buffer: whether it is possible,the cells and the exports after it,the answer. -/
def acOk (cs:List Int)(es:List Ex)(k:Int)(y:List Int):Bool :=
 if k=0 then rzG cs es (y.getD 0 0) else if k=1 then evG cs es (y.getD 0 0) [y.getD 1 0] [y.getD 2 0] else if k=2 then epG cs es (y.getD 0 0) 0 (y.getD 1 0) (y.getD 2 0) (y.getD 3 0) true true else if k=3 then epG cs es (y.getD 0 0) 0 0 0 (-1) false false else if k=4 then xfG cs es (y.getD 0 0) (y.getD 1 0) else if k=5 then xcG cs es (y.getD 0 0) (y.getD 1 0) else if k=7 then relG cs es (y.getD 0 0) else opA es (y.getD 0 0)
def acC (cs:List Int)(es:List Ex)(k:Int)(y:List Int):List Int :=
 if k=0 then zz cs (y.getD 0 0).toNat else if k=4 then xfC cs es (y.getD 0 0) (y.getD 1 0) else if k=5 then xcC cs es (y.getD 0 0) (y.getD 1 0) else cs
def acE (es:List Ex)(k:Int)(y:List Int):List Ex :=
 if k=1 then es++[(-1,(y.getD 0 0,[y.getD 1 0],[y.getD 2 0]),true)] else if k=2 then epE es (y.getD 0 0) 0 (y.getD 1 0) (y.getD 2 0) (y.getD 3 0) true true else if k=3 then epE es (y.getD 0 0) 0 0 0 (-1) false false else if k=7 then relE es (y.getD 0 0).toNat else es
def atB:ByteArray:={ data:={ toList:=[97,116] } }
def hasB:ByteArray:={ data:={ toList:=[104,97,115] } }
def noB:ByteArray:={ data:={ toList:=[110,111] } }
def okB2:ByteArray:={ data:={ toList:=[111,107] } }
def acT (cs:List Int)(es:List Ex)(k:Int)(y:List Int):ByteArray :=
 if acOk cs es k y=true then (if k=6 then txB hasB (loadA cs es (y.getD 0 0)) else if k=1∨k=2∨k=3 then txB atB [((acE es k y).length:Int)-1] else okB2) else noB
theorem fz_EL {H:Nat→Option (List AV)}{n:Nat}(b:Bool):∀ es:List Ex,(EL b es).map (AV.fz H (n+2))=EL b es
 | []=>rfl
 | v::r=>by
  simp only [EL,List.map_cons,fz_EL b r,List.cons.injEq,and_true]
  refine ⟨rfl,rfl,?_,?_,rfl⟩<;>simp only [AV.fz,fz_IL]
theorem atB_sp:({ data:={ toList:=[97,116,32] } }:ByteArray)=atB++spB:=by
 apply ByteArray.ext
 rw [ByteArray.data_append]
 rfl
theorem vB_ac {cs:List Int}{es:List Ex}{k:Int}{y:List Int}(hv:vB cs es=true)(h:acOk cs es k y=true):vB (acC cs es k y) (acE es k y)=true:=by
 unfold acOk at h
 unfold acC acE
 by_cases h0:k=0
 ·subst h0;simp only [if_true] at h;simpa using vB_rz h
 by_cases h1:k=1
 ·subst h1;simpa using vB_ev (by simpa using h)
 by_cases h2:k=2
 ·subst h2;simpa using vB_ep (by simpa using h)
 by_cases h3:k=3
 ·subst h3;simpa using vB_ep (by simpa using h)
 by_cases h4:k=4
 ·subst h4;simpa using vB_xf (by simpa using h)
 by_cases h5:k=5
 ·subst h5;simpa using vB_xc (by simpa using h)
 by_cases h7:k=7
 ·subst h7;simpa using vB_relG (by simpa using h)
 simpa [h0,h1,h2,h3,h4,h5,h7] using hv
theorem sEV1_ok (cs:List Int)(es:List Ex)(m n:Nat)(b e s:Int)(hm:cs.length=m)(hn:es.length=n)(hb:m≤1099511627776∧n≤1099511627776∧exB 1099511627776 es) :
  PCall Tryz.prog 95 [.agg [.rows false (IL cs) m,.rows false (EL false es) n],.agg [.int .i64 b,.rows false [.int .i64 e] 1,.rows false [.int .i64 s] 1]] (fun r=>r=.tup [.agg [.rows true (IL (ifB (evG cs es b [e] [s]) cs)) (ifB (evG cs es b [e] [s]) cs).length,.rows true (EL true (ifB (evG cs es b [e] [s]) (es++[(-1,(b,[e],[s]),true)]))) (ifB (evG cs es b [e] [s]) (es++[(-1,(b,[e],[s]),true)])).length],.bool (evG cs es b [e] [s])]):=by
 subst hm hn
 exact E5z (sEV_ok cs es _ _ b [e] [s] 1 1 rfl rfl rfl rfl ⟨⟨by decide,by decide⟩,hb⟩)


theorem sEPc_ok (cs:List Int)(es:List Ex)(m n:Nat)(id d f t w:Int)(hf ht:Bool)(hm:cs.length=m)(hn:es.length=n)(hb:m≤1099511627776∧n≤1099511627776∧exB 1099511627776 es) :
  PCall Tryz.prog 96 [.agg [.rows false (IL cs) m,.rows false (EL false es) n],.int .i64 id,.int .i64 d,slc f t w hf ht] (fun r=>r=.tup [.agg [.rows true (IL (ifB (epG cs es id d f t w hf ht) cs)) (ifB (epG cs es id d f t w hf ht) cs).length,.rows true (EL true (ifB (epG cs es id d f t w hf ht) (epE es id d f t w hf ht))) (ifB (epG cs es id d f t w hf ht) (epE es id d f t w hf ht)).length],.bool (epG cs es id d f t w hf ht)]) :=
 E5z (sEP_ok cs es m n id d f t w hf ht hm hn hb)


theorem sFEc_ok (cs:List Int)(es:List Ex)(m n:Nat)(id v:Int)(hm:cs.length=m)(hn:es.length=n)(hb:m≤1099511627776∧n≤1099511627776∧exB 1099511627776 es) :
  PCall Tryz.prog 97 [.agg [.rows false (IL cs) m,.rows false (EL false es) n],.int .i64 id,.int .i64 v] (fun r=>r=.tup [.agg [.rows true (IL (ifB (xfG cs es id v) (xfC cs es id v))) (ifB (xfG cs es id v) (xfC cs es id v)).length,.rows true (EL true (ifB (xfG cs es id v) es)) (ifB (xfG cs es id v) es).length],.bool (xfG cs es id v)]) :=
 E5z (sFE_ok cs es m n id v hm hn hb)


theorem sCEc_ok (cs:List Int)(es:List Ex)(m n:Nat)(t f:Int)(hm:cs.length=m)(hn:es.length=n)(hb:m≤1099511627776∧n≤1099511627776∧exB 1099511627776 es) :
  PCall Tryz.prog 98 [.agg [.rows false (IL cs) m,.rows false (EL false es) n],.int .i64 t,.int .i64 f] (fun r=>r=.tup [.agg [.rows true (IL (ifB (xcG cs es t f) (xcC cs es t f))) (ifB (xcG cs es t f) (xcC cs es t f)).length,.rows true (EL true (ifB (xcG cs es t f) es)) (ifB (xcG cs es t f) es).length],.bool (xcG cs es t f)]) :=
 E5z (sCE_ok cs es m n t f hm hn hb)


theorem sRelc_ok (cs:List Int)(es:List Ex)(m n:Nat)(id:Int)(hm:cs.length=m)(hn:es.length=n)(hb:m≤1099511627776∧n≤1099511627776∧exB 1099511627776 es) :
  PCall Tryz.prog 99 [.agg [.rows false (IL cs) m,.rows false (EL false es) n],.int .i64 id] (fun r=>r=.tup [.agg [.rows true (IL (ifB (relG cs es id) cs)) (ifB (relG cs es id) cs).length,.rows true (EL true (ifB (relG cs es id) (relE es id.toNat))) (ifB (relG cs es id) (relE es id.toNat)).length],.bool (relG cs es id)]) :=
 E5z (sRel_ok cs es m n id hm hn hb)


/-- The flag of what is told of the exports: those of an argument,or fresh ones. -/
def acF (k:Int):Bool:=if k=6 then false else true
def acI (cs:List Int)(es:List Ex)(k:Int)(y:List Int):Bool:=if k=6 then true else acOk cs es k y


set_option maxHeartbeats 16000000 in
theorem G5z (cs:List Int)(es:List Ex)(m n:Nat)(k:Int)(y:List Int)(l:Nat)(hm:cs.length=m)(hn:es.length=n)(hl:y.length=l)(hb:vB cs es=true∧vA k y=true) :
  PCall Tryz.prog 59 [.agg [.rows false (IL cs) m,.rows false (EL false es) n],.agg [.int .i64 k,.rows false (IL y) l]] (fun r=>r=.tup [.agg [.rows (acF k) (IL (ifB (acI cs es k y) (acC cs es k y))) (ifB (acI cs es k y) (acC cs es k y)).length,.rows (acF k) (EL (acF k) (ifB (acI cs es k y) (acE es k y))) (ifB (acI cs es k y) (acE es k y)).length],.bool (acOk cs es k y)]):=by
 subst hm hn hl
 obtain ⟨hv,ha⟩:=hb
 have hq8:=vB_x hv
 obtain ⟨hk,hl,_,hr⟩:=E8z ha
 have hel:=Auz false es
 refine Atz l59_eq rfl ?_
 unfold acI acOk acC acE acF
 rcases k8 hk with rfl|rfl|rfl|rfl|rfl|rfl|rfl|rfl
 ·have hl':y.length=1:=by have:ndA 0=1:=rfl;omega
  simp only [if_true]
  (repeat' ((first
 | (first|refine Afz ?_|refine Abz ?_)
 | (first|refine Agz ?_|refine Arz (mid:=l59r4a) (post:=l59r4b) mixed (by decide) ?_|refine Acz ?_)
 | (first|refine Aqz false ?_)
 | (first|(refine Aoz (Akz (sRzP_ok _ _ _ _ _ ?_ ?_ ?_)) ⟨_,_,rfl,rfl⟩ ?_;(iterate 3 (exact sd));rintro _ _ ⟨rfl,rfl⟩))
 | (refine Adz ⟨.inr rfl,_,rfl,?_⟩))<;>(try simp (disch:=omega) only [push_cast,seval,hl',hel,fz_EL])))
  all_goals (try rfl)
 ·have hl':y.length=3:=by have:ndA 1=3:=rfl;omega
  (repeat' ((first
 | (first|refine Afz ?_|refine Abz ?_)
 | (first|refine Agz ?_|refine Bbz (mid:=l59r6a) (post:=l59r6b) [] mixed (by decide) ?_|refine Acz ?_)
 | (first|refine Aqz false ?_)
 | (first|(refine Aoz (Akz (sEV1_ok _ _ _ _ _ _ _ ?_ ?_ ?_)) ⟨_,_,rfl,rfl⟩ ?_;(iterate 3 (exact sd));rintro _ _ ⟨rfl,rfl⟩))
 | (refine Adz ⟨.inr rfl,_,rfl,?_⟩))<;>(try simp (disch:=omega) only [push_cast,seval,hl',hel,fz_EL])))
  all_goals (try simp)
 ·have hl':y.length=4:=by have:ndA 2=4:=rfl;omega
  (repeat' ((first
 | (first|refine Afz ?_|refine Abz ?_)
 | (first|refine Agz ?_|refine Arz (mid:=l59r8a) (post:=l59r8b) mixed (by decide) ?_|refine Acz ?_)
 | (first|refine Aqz false ?_)
 | (first|(refine Aoz (Akz (sEPc_ok _ _ _ _ _ _ _ _ _ _ _ ?_ ?_ ?_)) ⟨_,_,rfl,rfl⟩ ?_;(iterate 3 (exact sd));rintro _ _ ⟨rfl,rfl⟩))
 | (refine Adz ⟨.inr rfl,_,rfl,?_⟩))<;>(try simp (disch:=omega) only [push_cast,seval,hl',hel,fz_EL])))
  all_goals (try simp)
 ·have hl':y.length=1:=by have:ndA 3=1:=rfl;omega
  (repeat' ((first
 | (first|refine Afz ?_|refine Abz ?_)
 | (first|refine Agz ?_|refine Arz (mid:=l59r10a) (post:=l59r10b) mixed (by decide) ?_|refine Acz ?_)
 | (first|refine Aqz false ?_)
 | (first|(refine Aoz (Akz (sEPc_ok _ _ _ _ _ _ _ _ _ _ _ ?_ ?_ ?_)) ⟨_,_,rfl,rfl⟩ ?_;(iterate 3 (exact sd));rintro _ _ ⟨rfl,rfl⟩))
 | (refine Adz ⟨.inr rfl,_,rfl,?_⟩))<;>(try simp (disch:=omega) only [push_cast,seval,hl',hel,fz_EL])))
  all_goals (try simp)
 ·have hl':y.length=2:=by have:ndA 4=2:=rfl;omega
  (repeat' ((first
 | (first|refine Afz ?_|refine Abz ?_)
 | (first|refine Agz ?_|refine Arz (mid:=l59r12a) (post:=l59r12b) mixed (by decide) ?_|refine Acz ?_)
 | (first|refine Aqz false ?_)
 | (first|(refine Aoz (Akz (sFEc_ok _ _ _ _ _ _ ?_ ?_ ?_)) ⟨_,_,rfl,rfl⟩ ?_;(iterate 3 (exact sd));rintro _ _ ⟨rfl,rfl⟩))
 | (refine Adz ⟨.inr rfl,_,rfl,?_⟩))<;>(try simp (disch:=omega) only [push_cast,seval,hl',hel,fz_EL])))
  all_goals (try simp)
 ·have hl':y.length=2:=by have:ndA 5=2:=rfl;omega
  (repeat' ((first
 | (first|refine Afz ?_|refine Abz ?_)
 | (first|refine Agz ?_|refine Arz (mid:=l59r14a) (post:=l59r14b) mixed (by decide) ?_|refine Acz ?_)
 | (first|refine Aqz false ?_)
 | (first|(refine Aoz (Akz (sCEc_ok _ _ _ _ _ _ ?_ ?_ ?_)) ⟨_,_,rfl,rfl⟩ ?_;(iterate 3 (exact sd));rintro _ _ ⟨rfl,rfl⟩))
 | (refine Adz ⟨.inr rfl,_,rfl,?_⟩))<;>(try simp (disch:=omega) only [push_cast,seval,hl',hel,fz_EL])))
  all_goals (try simp)
 ·have hl':y.length=1:=by have:ndA 6=1:=rfl;omega
  (repeat' ((first
 | (first|refine Afz ?_|refine Abz ?_)
 | (first|refine Agz ?_|refine Arz (mid:=l59r17a) (post:=l59r17b) mixed (by decide) ?_|refine Acz ?_|refine Amz ?_)
 | (first|refine Aqz false ?_)
 | (first|(refine Aoz (Akz (Cyz _ _ _ _ _ ?_ ?_ ?_)) ⟨_,_,rfl,rfl⟩ ?_;(iterate 3 (exact sd));rintro _ _ ⟨rfl,rfl⟩))
 | (refine Adz ⟨.inr rfl,_,rfl,?_⟩))<;>(try simp (disch:=omega) only [push_cast,seval,hl',hel,fz_EL])))
  all_goals (try simp [Ayz,IL])
 ·have hl':y.length=1:=by have:ndA 7=1:=rfl;omega
  (repeat' ((first
 | (first|refine Afz ?_|refine Abz ?_)
 | (first|refine Agz ?_|refine Arz (mid:=l59r16a) (post:=l59r16b) mixed (by decide) ?_|refine Acz ?_)
 | (first|refine Aqz false ?_)
 | (first|(refine Aoz (Akz (sRelc_ok _ _ _ _ _ ?_ ?_ ?_)) ⟨_,_,rfl,rfl⟩ ?_;(iterate 3 (exact sd));rintro _ _ ⟨rfl,rfl⟩))
 | (refine Adz ⟨.inr rfl,_,rfl,?_⟩))<;>(try simp (disch:=omega) only [push_cast,seval,hl',hel,fz_EL])))
  all_goals (try simp)


def apC (cs:List Int)(es:List Ex)(k:Int)(y:List Int):List Int:=if acOk cs es k y=true then acC cs es k y else cs
def apE (cs:List Int)(es:List Ex)(k:Int)(y:List Int):List Ex:=if acOk cs es k y=true then acE es k y else es
def apF (cs:List Int)(es:List Ex)(k:Int)(y:List Int):Bool:=if acOk cs es k y=true then acF k else false
theorem vB_ap {cs:List Int}{es:List Ex}{k:Int}{y:List Int}(hv:vB cs es=true):vB (apC cs es k y) (apE cs es k y)=true:=by
 unfold apC apE
 cases h:acOk cs es k y with
 | true=>simpa using vB_ac hv h
 | false=>simpa using hv


theorem sloadP_ok (mem:List Int)(b:Int)(sh st:List Int)(q n m:Nat)(hq:mem.length=q)(hn:sh.length=n)(hm:st.length=m)(hb:seeB mem b sh st=true∧q≤1099511627776∧n≤1099511627776∧m≤1099511627776):PCall Tryz.prog 61 [.rows false (IL mem) q,.agg [.int .i64 b,.rows false (IL sh) n,.rows false (IL st) m]] (fun r=>r=.rows true (IL (takesL mem (offs b sh st))) (takesL mem (offs b sh st)).length):=by
 refine (BCall.plain (I7z mem b sh st q n m hq hn hm hb.1)).mono ?_
 rintro r ⟨r0,H',⟨rfl,rfl⟩,rfl⟩
 simp [AV.ren,nthH,List.map_map,Function.comp_def]






theorem loadA_at6 {cs:List Int}{es:List Ex}{q:Nat}{p b:Int}{x y:List Int}(hv:vB cs es=true)(h:q<es.length)(he:es[q]?=some (p,(b,x,y),true)):loadA cs es q=takesL cs (offs b x y):=by
 have h1:opA es q=true:=by
  unfold opA
  simp only [Int.toNat_natCast,he,Bool.and_true,Bool.and_eq_true,decide_eq_true_eq]
  omega
 have h2:vwA es q=(b,x,y):=by simp [vwA,List.getD,he]
 unfold loadA
 rw [hv,h1,h2];rfl


set_option maxHeartbeats 16000000 in
theorem sAp6_ok (cs:List Int)(es:List Ex)(m n:Nat)(y:List Int)(l:Nat)(hm:cs.length=m)(hn:es.length=n)(hl:y.length=l)(hb:vB cs es=true∧vA 6 y=true) :
  PCall Tryz.prog 26 [.agg [.rows false (IL cs) m,.rows false (EL false es) n],.agg [.int .i64 6,.rows false (IL y) l]] (fun r=>r=.tup [.agg [.rows false (IL cs) cs.length,.rows false (EL false es) es.length],.str (acT cs es 6 y)]):=by
 subst hm hn hl
 obtain ⟨hv,ha⟩:=hb
 have hb0:=And.intro hv ha
 have hq8:=vB_x hv
 obtain ⟨hk,hl,_,hr⟩:=E8z ha
 have hl':y.length=1:=by have:ndA 6=1:=rfl;omega
 have hel:=Auz false es
 have hI:acI cs es 6 y=true:=rfl
 have hF:acF 6=false:=rfl
 have hC:acC cs es 6 y=cs:=rfl
 have hE:acE es 6 y=es:=rfl
 have hO:acOk cs es 6 y=opA es (y.getD 0 0):=rfl
 refine Atz l26_eq rfl ?_
 unfold acT
 rw [hO]
 cases ho:opA es (y.getD 0 0) with
 | false =>
  (repeat' ((first
 | (first|refine Afz ?_|refine Abz ?_)
 | (first|refine Agz ?_|refine Acz ?_)
 | (first|((with_reducible refine Ajz (f:=59) true ?_);simp (disch:=omega) only [push_cast,seval,hI,hF,hC,hE,hO,ho,Ayz,hl',hel,fz_EL];(refine Aiz (Akz (G5z _ _ _ _ _ _ _ ?_ ?_ ?_ ?_)) ?_;(iterate 4 (exact sd));rintro _ _ ⟨rfl,rfl⟩)))
 | (refine Adz ⟨.inr rfl,_,rfl,?_⟩))<;>(try simp (disch:=omega) only [push_cast,seval,hI,hF,hC,hE,hO,ho,Ayz,hl',hel,fz_EL])))
  all_goals (try rfl)
 | true =>
  obtain ⟨q,p,b,x,yy,hq,hqe,he,hvw⟩:=Dbz ho
  have hs:=D1z hv he
  have hil:q*5+5≤es.length*5:=by omega
  have h3:=Eiz he
  have hi:=(see_prX hs).1
  have hbb:=Cgz hq8.2.2 he
  have q9:seeB cs b x yy=true∧cs.length≤1099511627776∧x.length≤1099511627776∧yy.length≤1099511627776:=⟨hs,hq8.1,hbb⟩
  have hlo:=loadA_at6 hv hqe he
  have htl:(takesL cs (offs b x yy)).length=(offs b x yy).length:=takesL_length ..
  have htb:=Faz (L:=offs b x yy) (Cnz.1 (Ftz.1 hv).1).2
  have hq5:(takesL cs (offs b x yy)).length≤1000000∧∀ v∈takesL cs (offs b x yy),-9223372036854775807≤v∧v≤9223372036854775807:=⟨by omega,fun v hv=>by have:=htb v hv;omega⟩
  have hsz:=I6z (takesL cs (offs b x yy)) { data:={ toList:=[] } } fun v hv=>by have:=htb v hv;omega
  have he0:({ data:={ toList:=[] } }:ByteArray).size=0:=rfl
  have h3s:({ data:={ toList:=[104,97,115] } }:ByteArray).size=3:=rfl
  have hp:=txB_pre hasB (takesL cs (offs b x yy)) { data:={ toList:=[] } }
  rw [emp_app] at hp
  rw [hq] at ho hO
  simp only [if_true,hq,hlo]
  rw [← hp]
  have hadd:=E4z { data:={ toList:=[104,97,115] } } (txB { data:={ toList:=[] } } (takesL cs (offs b x yy))) (by omega)
  generalize hT:takesL cs (offs b x yy)=T at *
  (repeat' ((first
 | (first|refine Afz ?_|refine Abz ?_)
 | (first|refine Agz ?_|refine Bbz (mid:=l26r5a) (post:=l26r5b) [64] mixed (by decide) ?_|refine Acz ?_)
 | (first|((with_reducible refine Ajz (f:=59) true ?_);simp (disch:=omega) only [push_cast,seval,hI,hF,hC,hE,hO,ho,hq,Ayz,hl',hel,hil,h3,hT,hadd,fz_EL];(refine Aiz (Akz (G5z _ _ _ _ _ _ _ ?_ ?_ ?_ ?_)) ?_;(iterate 4 (exact sd));rintro _ _ ⟨rfl,rfl⟩)))
 | (first|refine Aqz false ?_)
 | (first|(refine Aoz (Akz (sloadP_ok _ _ _ _ _ _ _ ?_ ?_ ?_ ?_)) ⟨_,_,rfl,rfl⟩ ?_;(iterate 4 (exact sd));rintro _ _ ⟨rfl,rfl⟩)|(refine Aoz (Akz (numTX_ok _ _ ?_ ?_)) ⟨_,_,rfl,rfl⟩ ?_;(iterate 2 (exact sd));rintro _ _ ⟨rfl,rfl⟩))
 | (refine Adz ⟨.inr rfl,_,rfl,?_⟩))<;>(try simp (disch:=omega) only [push_cast,seval,hI,hF,hC,hE,hO,ho,hq,Ayz,hl',hel,hil,h3,hT,hadd,fz_EL])))
  all_goals (try rfl)


set_option maxHeartbeats 16000000 in
theorem sApP_ok (cs:List Int)(es:List Ex)(m n:Nat)(k:Int)(y:List Int)(l:Nat)(hm:cs.length=m)(hn:es.length=n)(hl:y.length=l)(hb:vB cs es=true∧vA k y=true) :
  PCall Tryz.prog 26 [.agg [.rows false (IL cs) m,.rows false (EL false es) n],.agg [.int .i64 k,.rows false (IL y) l]] (fun r=>r=.tup [.agg [.rows (apF cs es k y) (IL (apC cs es k y)) (apC cs es k y).length,.rows (apF cs es k y) (EL (apF cs es k y) (apE cs es k y)) (apE cs es k y).length],.str (acT cs es k y)]):=by
 by_cases h6:k=6
 ·subst h6
  have hC:apC cs es 6 y=cs:=by unfold apC;split<;>rfl
  have hE:apE cs es 6 y=es:=by unfold apE;split<;>rfl
  have hF:apF cs es 6 y=false:=by unfold apF;split<;>rfl
  rw [hC,hE,hF]
  exact sAp6_ok cs es m n y l hm hn hl hb
 subst hm hn hl
 obtain ⟨hv,ha⟩:=hb
 have hb0:=And.intro hv ha
 obtain ⟨hk,hl,_,hr⟩:=E8z ha
 have hel:=Auz false es
 have hq8:=vB_x hv
 have hI:acI cs es k y=acOk cs es k y:=by unfold acI;rw [if_neg h6]
 have hF:acF k=true:=by unfold acF;rw [if_neg h6]
 have hap:=Fuz (vB_ap (cs:=cs) (es:=es) (k:=k) (y:=y) hv)
 have hac:=fun h=>Fuz (vB_ac (cs:=cs) (es:=es) (k:=k) (y:=y) hv h)
 refine Atz l26_eq rfl ?_
 unfold acT apC apE apF
 rw [hF]
 cases ho:acOk cs es k y with
 | false =>
  have n6:(k=6)=False:=eq_false h6
  (repeat' ((first
 | (first|refine Afz ?_|refine Abz ?_)
 | (first|refine Agz ?_|refine Acz ?_)
 | (first|((with_reducible refine Ajz (f:=59) true ?_);simp (disch:=omega) only [push_cast,seval,hI,hF,ho,n6,A0z,hel,fz_EL];(refine Aiz (Akz (G5z _ _ _ _ _ _ _ ?_ ?_ ?_ ?_)) ?_;(iterate 4 (exact sd));rintro _ _ ⟨rfl,rfl⟩)))
 | (refine Adz ⟨.inr rfl,_,rfl,?_⟩))<;>(try simp (disch:=omega) only [push_cast,seval,hI,hF,ho,n6,A0z,hel,fz_EL])))
  all_goals (try rfl)
 | true =>
  have hb3:=(hac ho).2.1
  have n6:(k=6)=False:=eq_false h6
  have hz:=Fgz (n:=((acE es k y).length:Int)-1) (by omega)
  have h3s:({ data:={ toList:=[97,116,32] } }:ByteArray).size=3:=rfl
  have hadd:=E4z { data:={ toList:=[97,116,32] } } (itB (((acE es k y).length:Int)-1)) (by omega)
  have hel2:=fun c=>Auz c (acE es k y)
  have hat:({ data:={ toList:=[97,116,32] } }:ByteArray)++itB (((acE es k y).length:Int)-1)=txB atB [((acE es k y).length:Int)-1]:=by rw [atB_sp];rfl
  by_cases h13:k=1∨k=2∨k=3
  ·simp only [if_true,if_neg h6,if_pos h13]
   rw [← hat]
   have hpos:1≤(acE es k y).length:=by
    unfold acE
    rcases h13 with rfl|rfl|rfl<;>simp [epE]
   generalize hE:acE es k y=E at *
   generalize hC:acC cs es k y=C at *
   rcases h13 with rfl|rfl|rfl
   ·(repeat' ((first
 | (first|refine Afz ?_|refine Abz ?_)
 | (first|refine Agz ?_|refine Bbz (mid:=l26r7a) (post:=l26r7b) [64] mixed (by decide) ?_|refine Acz ?_)
 | (first|((with_reducible refine Ajz (f:=59) true ?_);simp (disch:=omega) only [push_cast,seval,hI,hF,ho,hE,hC,Ayz,hel,hel2,hadd,fz_EL];(refine Aiz (Akz (G5z _ _ _ _ _ _ _ ?_ ?_ ?_ ?_)) ?_;(iterate 4 (exact sd));rintro _ _ ⟨rfl,rfl⟩)))
 | (first|refine Aqz false ?_)
 | (first|(refine Aoz (Akz (Hvz _ ?_)) ⟨_,_,rfl,rfl⟩ ?_;(exact sd);rintro _ _ ⟨rfl,rfl⟩))
 | (refine Adz ⟨.inr rfl,_,rfl,?_⟩))<;>(try simp (disch:=omega) only [push_cast,seval,hI,hF,ho,hE,hC,Ayz,hel,hel2,hadd,fz_EL])))
    all_goals (try rfl)
   ·(repeat' ((first
 | (first|refine Afz ?_|refine Abz ?_)
 | (first|refine Agz ?_|refine Bbz (mid:=l26r7a) (post:=l26r7b) [64] mixed (by decide) ?_|refine Acz ?_)
 | (first|((with_reducible refine Ajz (f:=59) true ?_);simp (disch:=omega) only [push_cast,seval,hI,hF,ho,hE,hC,Ayz,hel,hel2,hadd,fz_EL];(refine Aiz (Akz (G5z _ _ _ _ _ _ _ ?_ ?_ ?_ ?_)) ?_;(iterate 4 (exact sd));rintro _ _ ⟨rfl,rfl⟩)))
 | (first|refine Aqz false ?_)
 | (first|(refine Aoz (Akz (Hvz _ ?_)) ⟨_,_,rfl,rfl⟩ ?_;(exact sd);rintro _ _ ⟨rfl,rfl⟩))
 | (refine Adz ⟨.inr rfl,_,rfl,?_⟩))<;>(try simp (disch:=omega) only [push_cast,seval,hI,hF,ho,hE,hC,Ayz,hel,hel2,hadd,fz_EL])))
    all_goals (try rfl)
   ·(repeat' ((first
 | (first|refine Afz ?_|refine Abz ?_)
 | (first|refine Agz ?_|refine Bbz (mid:=l26r7a) (post:=l26r7b) [64] mixed (by decide) ?_|refine Acz ?_)
 | (first|((with_reducible refine Ajz (f:=59) true ?_);simp (disch:=omega) only [push_cast,seval,hI,hF,ho,hE,hC,Ayz,hel,hel2,hadd,fz_EL];(refine Aiz (Akz (G5z _ _ _ _ _ _ _ ?_ ?_ ?_ ?_)) ?_;(iterate 4 (exact sd));rintro _ _ ⟨rfl,rfl⟩)))
 | (first|refine Aqz false ?_)
 | (first|(refine Aoz (Akz (Hvz _ ?_)) ⟨_,_,rfl,rfl⟩ ?_;(exact sd);rintro _ _ ⟨rfl,rfl⟩))
 | (refine Adz ⟨.inr rfl,_,rfl,?_⟩))<;>(try simp (disch:=omega) only [push_cast,seval,hI,hF,ho,hE,hC,Ayz,hel,hel2,hadd,fz_EL])))
    all_goals (try rfl)
  ·simp only [if_true,if_neg h6,if_neg h13]
   have n1:(k=1)=False:=eq_false (by omega)
   have n2:(k=2)=False:=eq_false (by omega)
   have n3:(k=3)=False:=eq_false (by omega)
   (repeat' ((first
 | (first|refine Afz ?_|refine Abz ?_)
 | (first|refine Agz ?_|refine Acz ?_|refine Amz ?_)
 | (first|((with_reducible refine Ajz (f:=59) true ?_);simp (disch:=omega) only [push_cast,seval,hI,hF,ho,n6,n1,n2,n3,Ayz,hel,fz_EL];(refine Aiz (Akz (G5z _ _ _ _ _ _ _ ?_ ?_ ?_ ?_)) ?_;(iterate 4 (exact sd));rintro _ _ ⟨rfl,rfl⟩)))
 | (refine Adz ⟨.inr rfl,_,rfl,?_⟩))<;>(try simp (disch:=omega) only [push_cast,seval,hI,hF,ho,n6,n1,n2,n3,Ayz,hel,fz_EL])))
   all_goals (try rfl)

end Go.Proofs.YtfccepgibbdfaaaGreatDoor
