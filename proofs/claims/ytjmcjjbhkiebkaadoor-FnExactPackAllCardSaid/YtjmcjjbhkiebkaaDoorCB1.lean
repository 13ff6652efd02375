/- Texts of this verifier. -/
import Derived.Test.YtjmcjjbhkiebkaaDoorCLow
import Derived.Test.YtjmcjjbhkiebkaaDoorCM1
import Derived.Test.YtjmcjjbhkiebkaaDoorCW3
set_option maxHeartbeats 4000000
set_option linter.unusedSimpArgs false
set_option linter.unusedVariables false
set_option maxRecDepth 4000
namespace Go.Proofs.YtjmcjjbhkiebkaaDoor
open VwM Vw Go

theorem Cjz:Tryd.prog.follows .mixedOrders=true:=by kernel_rfl


theorem Brz (x l h:Int):PCall Tryd.prog 26 [.int .i64 x,.int .i64 l,.int .i64 h] (fun r=>r=.bool (decide (l≤x)&&decide (x≤h))):=by
 refine Awz l26_eq rfl ?_
 (repeat' (first
 | (first|refine Agz ?_|refine Aaz ?_)
 | ((first|refine Ahz ?_);simp (disch:=omega) only [push_cast,seval])
 | ((first|refine Fkz (fun h=>?_) (fun h=>?_))<;>(try simp only [h])<;>(try simp only [bitvec_to_nat] at h)<;>(try simp only [h])<;>(first|(exfalso;omega)|(exfalso;simp_all;done)|(simp (disch:=omega) only [push_cast,seval])|skip))
 | (refine Adz ⟨.inr rfl,_,rfl,?_⟩;(try simp (disch:=omega) only [push_cast,seval]))))
 all_goals (first|rfl|(simp_all;done)|(simp_all;omega)|(simp;omega)|(simp;grind)|(simp_all;grind)|skip)


theorem Cvz (xs ys:List Int)(n m:Nat)(hn:xs.length=n)(hm:ys.length=m)(hb:n≤1099511627776):PCall Tryd.prog 10 [.rows false (IL xs) n,.rows false (IL ys) m] (fun r=>r=.bool (decide (xs=ys))):=by
 subst hn hm
 refine Awz l10_eq rfl ?_
 (repeat' (first
 | (first|refine Agz ?_|refine Aaz ?_)
 | ((first|refine Ahz ?_|refine Abz ?_|refine Alz ?_);simp (disch:=omega) only [push_cast,seval])
 | ((first|refine Acz (fun h=>?_) (fun h=>?_))<;>(try simp only [h])<;>(try simp only [bitvec_to_nat] at h)<;>(try simp only [h])<;>(first|(exfalso;omega)|(exfalso;simp_all;done)|(simp (disch:=omega) only [push_cast,seval])|skip))
 | (refine Adz ⟨.inr rfl,_,rfl,?_⟩;(try simp (disch:=omega) only [push_cast,seval]))))
 ·simp;rintro rfl;omega
 ·refine Avz (fun k:Nat=>mkS [(0,RI xs),(1,RI ys),(5,.int .i64 k)] []) (fun k=>k≤xs.length∧∀ j:Nat,j<k→xs.getD j 0=ys.getD j 0) (fun k=>xs.length-k) 0 ⟨Nat.zero_le _,fun j h=>absurd h (Nat.not_lt_zero _)⟩ ?_ ?_
  ·(refine Sub.of_lists ?_ ?_ ?_ ?_ ?_<;>simp [Vw.mkS,Vw.lk,Vw.hk,AV.inn,innL,Akz,Ajz,Amz,-List.map_set,-List.getD_eq_getElem?_getD])
  ·rintro k ⟨hk,hj⟩
   have hl:xs.length=ys.length:=by omega
   (repeat' (first
 | (first|refine Agz ?_|refine Aaz ?_)
 | ((first|refine Ahz ?_|refine A4z (mid:=l10r5a) (post:=l10r5b) Cjz (by decide) ?_|refine Abz ?_|refine Alz ?_|refine Arz ?_);simp (disch:=omega) only [push_cast,seval])
 | ((first|refine Acz (fun h=>?_) (fun h=>?_))<;>(try simp only [h])<;>(try simp only [bitvec_to_nat] at h)<;>(try simp only [h])<;>(first|(exfalso;omega)|(exfalso;simp_all;done)|(simp (disch:=omega) only [push_cast,seval])|skip))
 | (refine Adz ⟨.inr rfl,_,rfl,?_⟩;(try simp (disch:=omega) only [push_cast,seval]))))
   ·simp;rintro rfl;exact absurd rfl ‹_›
   ·refine ⟨k+1,⟨by omega,fun j h=>?_⟩,by omega,?_⟩
    ·by_cases hjk:j=k
     ·subst hjk;assumption
     ·exact hj j (by omega)
    ·(refine Sub.of_lists ?_ ?_ ?_ ?_ ?_<;>simp [Vw.mkS,Vw.lk,Vw.hk,AV.inn,innL,Akz,Ajz,Amz,-List.map_set,-List.getD_eq_getElem?_getD])
   ·have:xs=ys:=Ecz hl fun j h=>hj j (by omega)
    simp [this]


theorem Dkz (xs:List Int)(n:Nat)(k:Int)(hn:xs.length=n)(hk:(0≤k∧k≤4503599627370496)∧n≤1099511627776):BCall Tryd.prog 15 [.own 0 n 1,.int .i64 k] [IL xs] (fun r H'=>r=.int .i64 (k+n)∧H'=[IL (upFrom k n)]):=by
 subst hn
 refine A5z (pins:=[0]) (pin:=1) l15_eq rfl rfl rfl ?_
 (repeat' (first
 | (first|refine Agz ?_|refine Aaz ?_)
 | ((first|refine Ahz ?_);simp (disch:=omega) only [push_cast,seval])
 | (refine Adz ⟨.inr rfl,[],[],_,by decide,rfl,?_⟩;(try simp (disch:=omega) only [push_cast,seval,↓Aiz,↓Aez,↓List.map_cons,↓List.map_nil]))))
 refine Avz (fun j:Nat=>mkS [(0,.own 0 xs.length 1),(1,.int .i64 (k+j)),(5,.int .i64 j)] [(0,IL (marked k xs j))]) (fun j=>j≤xs.length) (fun j=>xs.length-j) 0 (Nat.zero_le _) ?_ ?_
 ·(refine Sub.of_lists ?_ ?_ ?_ ?_ ?_<;>simp [Vw.mkS,Vw.lk,Vw.hk,AV.inn,innL,Akz,Ajz,Amz,-List.map_set,-List.getD_eq_getElem?_getD,marked_zero])
 ·intro j hj
  have hml:=G4z k xs j hj
  (repeat' (first
 | (first|refine Agz ?_|refine Aaz ?_)
 | ((first|refine Ahz ?_|refine Abz ?_|refine Alz ?_|refine Arz ?_);simp (disch:=omega) only [push_cast,seval,hml,List.length_map])
 | ((first|refine Acz (fun h=>?_) (fun h=>?_))<;>(try simp only [h])<;>(try simp only [bitvec_to_nat] at h)<;>(try simp only [h])<;>(first|(exfalso;omega)|(exfalso;simp_all;done)|(simp (disch:=omega) only [push_cast,seval,hml,List.length_map])|skip))
 | (refine Adz ⟨.inr rfl,[],[],_,by decide,rfl,?_⟩;(try simp (disch:=omega) only [push_cast,seval,↓Aiz,↓Aez,↓List.map_cons,↓List.map_nil,hml,List.length_map]))))
  ·refine ⟨j+1,by omega,by omega,?_⟩
   have e:=marked_set k xs j (by omega)
   have e2:(IL (marked k xs j)).set j (.int .i64 (k+j))=IL (marked k xs (j+1)):=by rw [← e,IL,IL,List.map_set]
   (refine Sub.of_lists ?_ ?_ ?_ ?_ ?_<;>simp [Vw.mkS,Vw.lk,Vw.hk,AV.inn,innL,Akz,Ajz,Amz,-List.map_set,-List.getD_eq_getElem?_getD,e2,Int.add_assoc])
  ·have e:j=xs.length:=by omega
   subst e
   simp [marked_all]


theorem Fiz (n:Nat)(k:Int)(hk:(0≤k∧k≤4503599627370496)∧n≤1099511627776):PCall Tryd.prog 16 [.rows false (IL (upFrom k n)) n,.int .i64 k] (fun r=>r=.int .i64 (k+n)):=by
 refine Awz l16_eq rfl ?_
 (repeat' (first
 | (first|refine Agz ?_|refine Aaz ?_)
 | ((first|refine Ahz ?_);simp (disch:=omega) only [push_cast,seval])
 | (refine Adz ⟨.inr rfl,_,rfl,?_⟩;(try simp (disch:=omega) only [push_cast,seval]))))
 refine Avz (fun j:Nat=>mkS [(0,.rows false (IL (upFrom k n)) n),(1,.int .i64 (k+j)),(5,.int .i64 j)] []) (fun j=>j≤n) (fun j=>n-j) 0 (Nat.zero_le _) ?_ ?_
 ·(refine Sub.of_lists ?_ ?_ ?_ ?_ ?_<;>simp [Vw.mkS,Vw.lk,Vw.hk,AV.inn,innL,Akz,Ajz,Amz,-List.map_set,-List.getD_eq_getElem?_getD])
 ·intro j hj
  (repeat' (first
 | (first|refine Agz ?_|refine Aaz ?_)
 | ((first|refine Ahz ?_|refine Abz ?_|refine Alz ?_|refine Arz ?_);simp (disch:=omega) only [push_cast,seval])
 | ((first|refine Acz (fun h=>?_) (fun h=>?_))<;>(try simp only [h])<;>(try simp only [bitvec_to_nat] at h)<;>(try simp only [h])<;>(first|(exfalso;omega)|(exfalso;simp_all;done)|(simp (disch:=omega) only [push_cast,seval])|skip))
 | (refine Adz ⟨.inr rfl,_,rfl,?_⟩;(try simp (disch:=omega) only [push_cast,seval]))))
  ·have:=upFrom_getD k n j (by omega)
   exact absurd this ‹_›
  ·refine ⟨j+1,by omega,by omega,?_⟩
   (refine Sub.of_lists ?_ ?_ ?_ ?_ ?_<;>simp [Vw.mkS,Vw.lk,Vw.hk,AV.inn,innL,Akz,Ajz,Amz,-List.map_set,-List.getD_eq_getElem?_getD,Int.add_assoc])
  ·have e:j=n:=by omega
   subst e
   rfl

end Go.Proofs.YtjmcjjbhkiebkaaDoor
namespace Go.Proofs.YtjmcjjbhkiebkaaDoor
open VwM Vw Go

theorem sreversed_ok (xs:List Int)(n:Nat)(hn:xs.length=n)(hb:n≤1099511627776):BCall Tryd.prog 40 [.rows false (IL xs) n] [] (OI xs.reverse):=by
 subst hn
 refine A5z (pins:=[]) (pin:=0) l40_eq rfl rfl rfl ?_
 (repeat' (first
 | (first|refine Agz ?_|refine Aaz ?_)
 | ((first|refine Ahz ?_);simp (disch:=omega) only [push_cast,seval])
 | (refine Adz ⟨.inr rfl,[80],[],_,by decide,rfl,?_⟩;(try simp (disch:=omega) only [push_cast,seval,↓Aiz,↓Aez,↓List.map_cons,↓List.map_nil]);(first|done|(show AV.own _ _ _=_∧_)))
 | (refine Adz ⟨.inr rfl,[288],[],_,by decide,rfl,?_⟩;(try simp (disch:=omega) only [push_cast,seval,↓Aiz,↓Aez,↓List.map_cons,↓List.map_nil]);(first|done|(show AV.own _ _ _=_∧_)))
 | (refine Adz ⟨.inr rfl,[304],[],_,by decide,rfl,?_⟩;(try simp (disch:=omega) only [push_cast,seval,↓Aiz,↓Aez,↓List.map_cons,↓List.map_nil]);(first|done|(show AV.own _ _ _=_∧_)))))
 refine Avz (fun k:Nat=>mkS [(0,RI xs),(4,.int .i64 ((xs.length:Int)-1-(k:Int))),(3,.own 80 k 1)] [(80,IL (revT xs k))])
  (fun k=>k≤xs.length) (fun k=>xs.length-k) 0 (Nat.zero_le _) ?_ ?_
 ·(refine Sub.of_lists ?_ ?_ ?_ ?_ ?_<;>simp [Vw.mkS,Vw.lk,Vw.hk,AV.inn,innL,Akz,Ajz,Amz,-List.map_set,-List.getD_eq_getElem?_getD,revT_zero])
 ·intro k hk
  have e3:=revT_length xs k hk
  by_cases hlt:k<xs.length
  ·have e1:=down_nat xs.length k hlt
   have e2:=revT_succ xs k hlt
   (repeat' (first
 | (first|refine Agz ?_|refine Aaz ?_)
 | ((first|refine Ahz ?_|refine Abz ?_|refine Alz ?_);simp (disch:=omega) only [push_cast,seval,e1])
 | ((first|refine Acz (fun h=>?_) (fun h=>?_))<;>(try simp only [h])<;>(try simp only [bitvec_to_nat] at h)<;>(try simp only [h])<;>(first|(exfalso;omega)|(exfalso;simp_all;done)|(simp (disch:=omega) only [push_cast,seval,e1])|skip))
 | (refine Adz ⟨.inr rfl,[80],[],_,by decide,rfl,?_⟩;(try simp (disch:=omega) only [push_cast,seval,↓Aiz,↓Aez,↓List.map_cons,↓List.map_nil,e1]);(first|done|(show AV.own _ _ _=_∧_)))
 | (refine Adz ⟨.inr rfl,[288],[],_,by decide,rfl,?_⟩;(try simp (disch:=omega) only [push_cast,seval,↓Aiz,↓Aez,↓List.map_cons,↓List.map_nil,e1]);(first|done|(show AV.own _ _ _=_∧_)))
 | (refine Adz ⟨.inr rfl,[304],[],_,by decide,rfl,?_⟩;(try simp (disch:=omega) only [push_cast,seval,↓Aiz,↓Aez,↓List.map_cons,↓List.map_nil,e1]);(first|done|(show AV.own _ _ _=_∧_)))))
   refine ⟨k+1,by omega,by omega,?_⟩
   have e4:(xs.length:Int)-1-((k:Int)+1)=(xs.length:Int)-1-(k:Int)-1:=by omega
   (refine Sub.of_lists ?_ ?_ ?_ ?_ ?_<;>simp [Vw.mkS,Vw.lk,Vw.hk,AV.inn,innL,Akz,Ajz,Amz,-List.map_set,-List.getD_eq_getElem?_getD,e2,e4])
  ·(repeat' (first
 | (first|refine Agz ?_|refine Aaz ?_)
 | ((first|refine Ahz ?_|refine Abz ?_|refine Arz ?_);simp (disch:=omega) only [push_cast,seval])
 | ((first|refine Acz (fun h=>?_) (fun h=>?_))<;>(try simp only [h])<;>(try simp only [bitvec_to_nat] at h)<;>(try simp only [h])<;>(first|(exfalso;omega)|(exfalso;simp_all;done)|(simp (disch:=omega) only [push_cast,seval])|skip))
 | (refine Adz ⟨.inr rfl,[80],[],_,by decide,rfl,?_⟩;(try simp (disch:=omega) only [push_cast,seval,↓Aiz,↓Aez,↓List.map_cons,↓List.map_nil]);(first|done|(show AV.own _ _ _=_∧_)))
 | (refine Adz ⟨.inr rfl,[288],[],_,by decide,rfl,?_⟩;(try simp (disch:=omega) only [push_cast,seval,↓Aiz,↓Aez,↓List.map_cons,↓List.map_nil]);(first|done|(show AV.own _ _ _=_∧_)))
 | (refine Adz ⟨.inr rfl,[304],[],_,by decide,rfl,?_⟩;(try simp (disch:=omega) only [push_cast,seval,↓Aiz,↓Aez,↓List.map_cons,↓List.map_nil]);(first|done|(show AV.own _ _ _=_∧_)))))
   have e:k=xs.length:=by omega
   rw [e,revT_all]
   simp [OI]

end Go.Proofs.YtjmcjjbhkiebkaaDoor
namespace Go.Proofs.YtjmcjjbhkiebkaaDoor
open VwM Vw Go

theorem Euz (xs:List Int)(n:Nat)(hn:xs.length=n)(hb:n≤1099511627776):BCall Tryd.prog 21 [.rows false (IL xs) n] [] (OI xs):=by
 subst hn
 refine A5z (pins:=[]) (pin:=0) l21_eq rfl rfl rfl ?_
 (repeat' (first
 | (first|refine Agz ?_|refine Aaz ?_)
 | ((first|refine Ahz ?_);simp (disch:=omega) only [push_cast,seval])
 | (refine Adz ⟨.inr rfl,[112],[],_,by decide,rfl,?_⟩;(try simp (disch:=omega) only [push_cast,seval,↓Aiz,↓Aez,↓List.map_cons,↓List.map_nil]);(first|done|(show AV.own _ _ _=_∧_)))))
 refine Avz (fun k:Nat=>mkS [(0,RI xs),(4,.int .i64 k),(3,.own 112 xs.length 1)] [(112,IL (filled (fun i:Nat=>xs.getD i 0) xs.length k))])
  (fun k=>k≤xs.length) (fun k=>xs.length-k) 0 (Nat.zero_le _) ?_ ?_
 ·(refine Sub.of_lists ?_ ?_ ?_ ?_ ?_<;>simp [Vw.mkS,Vw.lk,Vw.hk,AV.inn,innL,Akz,Ajz,Amz,-List.map_set,-List.getD_eq_getElem?_getD,filled_zero])
 ·intro k hk
  (repeat' (first
 | (first|refine Agz ?_|refine Aaz ?_)
 | ((first|refine Ahz ?_|refine Abz ?_|refine Alz ?_|refine Arz ?_);simp (disch:=omega) only [push_cast,seval])
 | ((first|refine Acz (fun h=>?_) (fun h=>?_))<;>(try simp only [h])<;>(try simp only [bitvec_to_nat] at h)<;>(try simp only [h])<;>(first|(exfalso;omega)|(exfalso;simp_all;done)|(simp (disch:=omega) only [push_cast,seval])|skip))
 | (refine Adz ⟨.inr rfl,[112],[],_,by decide,rfl,?_⟩;(try simp (disch:=omega) only [push_cast,seval,↓Aiz,↓Aez,↓List.map_cons,↓List.map_nil]);(first|done|(show AV.own _ _ _=_∧_)))))
  ·refine ⟨k+1,by omega,by omega,?_⟩
   have e:=filled_set (fun i:Nat=>xs.getD i 0) xs.length k (by omega)
   (refine Sub.of_lists ?_ ?_ ?_ ?_ ?_<;>simp [Vw.mkS,Vw.lk,Vw.hk,AV.inn,innL,Akz,Ajz,Amz,-List.map_set,-List.getD_eq_getElem?_getD,Bdz,e])
  ·have e:k=xs.length:=by omega
   rw [e,filled_all,filled_getD]
   simp [OI]


theorem upTo_ok (x l:Int):PCall Tryd.prog 35 [.int .i64 x,.int .i64 l] (fun r=>r=.bool (decide (0≤x)&&decide (x≤l))):=by
 refine Awz l35_eq rfl ?_
 (repeat' (first
 | (first|refine Agz ?_|refine Aaz ?_)
 | ((first|refine Ahz ?_);simp (disch:=omega) only [push_cast,seval])
 | ((first|refine Fkz (fun h=>?_) (fun h=>?_))<;>(try simp only [h])<;>(try simp only [bitvec_to_nat] at h)<;>(try simp only [h])<;>(first|(exfalso;omega)|(exfalso;simp_all;done)|(simp (disch:=omega) only [push_cast,seval])|skip))
 | (refine Adz ⟨.inr rfl,_,rfl,?_⟩;(try simp (disch:=omega) only [push_cast,seval]))))
 all_goals (first|rfl|(simp_all;done)|(simp_all;omega)|(simp;omega)|(simp;grind)|(simp_all;grind)|skip)

end Go.Proofs.YtjmcjjbhkiebkaaDoor
namespace Go.Proofs.YtjmcjjbhkiebkaaDoor
open VwM Vw Go

theorem Duz (cs:List AV)(n:Nat)(l:Int)(hl:0≤l∧l≤1048576)(hb:n≤9223372036854775807):PCall Tryd.prog 17 [.rows false cs n,.int .i64 l] (fun r=>r=.int .i64 (if l-n<0 then -1 else l-n)):=by
 refine Awz l17_eq rfl ?_
 by_cases h:l-(n:Int)<0
 ·(repeat' (first
 | (first|refine Agz ?_|refine Aaz ?_)
 | ((first|refine Ahz ?_|refine Abz ?_);simp (disch:=omega) only [push_cast,seval,h])
 | (refine Adz ⟨.inr rfl,_,rfl,?_⟩;(try simp (disch:=omega) only [push_cast,seval,h]))))
 ·(repeat' (first
 | (first|refine Agz ?_|refine Aaz ?_)
 | ((first|refine Ahz ?_|refine Abz ?_|refine Alz ?_);simp (disch:=omega) only [push_cast,seval,h])
 | (refine Adz ⟨.inr rfl,_,rfl,?_⟩;(try simp (disch:=omega) only [push_cast,seval,h]))))


end Go.Proofs.YtjmcjjbhkiebkaaDoor
namespace Go.Proofs.YtjmcjjbhkiebkaaDoor
open VwM Vw Go

end Go.Proofs.YtjmcjjbhkiebkaaDoor
namespace Go.Proofs.YtjmcjjbhkiebkaaDoor
open VwM Vw Go

end Go.Proofs.YtjmcjjbhkiebkaaDoor
namespace Go.Proofs.YtjmcjjbhkiebkaaDoor
open VwM Vw Go

theorem Bxz (σ:List (Nat×AV))(H:List (Nat×List AV)):(mkS σ H).ev (.global 0)=.prow false [.int .i64 1,.int .i64 2,.int .i64 4] 0:=rfl
theorem Eoz {s:List Int}{k:Nat}(h:∀ j:Nat,j<k→szO (s.getD j 0)=true)(hk:szO (s.getD k 0)=true):∀ j:Nat,j<k+1→szO (s.getD j 0)=true:=fun j hj=>by
 by_cases e:j=k
 ·rw [e];exact hk
 ·exact h j (by omega)


theorem isFS_ok (x:Int):PCall Tryd.prog 30 [.int .i64 x] (fun r=>r=.bool (szO x)):=by
 refine Awz l30_eq rfl ?_
 (repeat' ((first
 | (first|refine Agz ?_|refine Aaz ?_)
 | (first|refine Ahz ?_)
 | (first|(refine Bbz (by kernel_rfl) (by (simp (disch:=omega) only [push_cast,seval,Bxz])<;>rfl) ?_)|(refine A1z (t:=22) (sz:=1) (zs:=[.int .i64 0]) (by kernel_rfl) (by (simp (disch:=omega) only [push_cast,seval,Bxz])<;>rfl) (by (simp (disch:=omega) only [push_cast,seval,Bxz])<;>rfl) (by first|assumption|omega|(constructor<;>omega)) (by first|((simp (disch:=omega) only [push_cast,seval,Bxz]);done)|((simp (disch:=omega) only [push_cast,seval,Bxz]);exact ⟨rfl,by omega⟩)) ?_)|(refine A1z (t:=0) (sz:=2) (zs:=[.int .i64 0,.int .i64 0]) (by kernel_rfl) (by (simp (disch:=omega) only [push_cast,seval,Bxz])<;>rfl) (by (simp (disch:=omega) only [push_cast,seval,Bxz])<;>rfl) (by first|assumption|omega|(constructor<;>omega)) (by first|((simp (disch:=omega) only [push_cast,seval,Bxz]);done)|((simp (disch:=omega) only [push_cast,seval,Bxz]);exact ⟨rfl,by omega⟩)) ?_)|(refine Blz (len:=3) (by kernel_rfl) (by (simp (disch:=omega) only [push_cast,seval,Bxz])<;>rfl) (by (simp (disch:=omega) only [push_cast,seval,Bxz])<;>rfl) (by first|assumption|omega|(constructor<;>omega)) (by first|rfl|((simp (disch:=omega) only [push_cast,seval,Bxz]);rfl)) ?_))
 | (refine Adz ⟨.inr rfl,_,rfl,?_⟩))<;>(try simp (disch:=omega) only [push_cast,seval,Bxz])))
 refine Avz (fun k:Nat=>mkS [(0,.int .i64 x),(5,.agg [.int .i64 1,.int .i64 2,.int .i64 4]),(6,.int .i64 k)] []) (fun k=>k≤3∧(1≤k→¬ x=1)∧(2≤k→¬ x=2)∧(3≤k→¬ x=4)) (fun k=>3-k) 0 ⟨by omega,by omega,by omega,by omega⟩ ?_ ?_
 ·(refine Sub.of_lists ?_ ?_ ?_ ?_ ?_<;>simp [Vw.mkS,Vw.lk,Vw.hk,AV.inn,innL,Akz,Ajz,Amz,-List.map_set,-List.getD_eq_getElem?_getD])
 ·rintro k ⟨hk,h1,h2,h3⟩
  rcases (by omega:k=0∨k=1∨k=2∨k=3) with rfl|rfl|rfl|rfl
  ·by_cases h:x=1
   ·subst h; (repeat' ((first
 | (first|refine Agz ?_|refine Aaz ?_)
 | (first|refine Ahz ?_|refine Abz ?_|refine Alz ?_)
 | (first|(refine Bbz (by kernel_rfl) (by (simp (disch:=omega) only [push_cast,seval])<;>rfl) ?_)|(refine A1z (t:=22) (sz:=1) (zs:=[.int .i64 0]) (by kernel_rfl) (by (simp (disch:=omega) only [push_cast,seval])<;>rfl) (by (simp (disch:=omega) only [push_cast,seval])<;>rfl) (by first|assumption|omega|(constructor<;>omega)) (by first|((simp (disch:=omega) only [push_cast,seval]);done)|((simp (disch:=omega) only [push_cast,seval]);exact ⟨rfl,by omega⟩)) ?_)|(refine A1z (t:=0) (sz:=2) (zs:=[.int .i64 0,.int .i64 0]) (by kernel_rfl) (by (simp (disch:=omega) only [push_cast,seval])<;>rfl) (by (simp (disch:=omega) only [push_cast,seval])<;>rfl) (by first|assumption|omega|(constructor<;>omega)) (by first|((simp (disch:=omega) only [push_cast,seval]);done)|((simp (disch:=omega) only [push_cast,seval]);exact ⟨rfl,by omega⟩)) ?_)|(refine Blz (len:=3) (by kernel_rfl) (by (simp (disch:=omega) only [push_cast,seval])<;>rfl) (by (simp (disch:=omega) only [push_cast,seval])<;>rfl) (by first|assumption|omega|(constructor<;>omega)) (by first|rfl|((simp (disch:=omega) only [push_cast,seval]);rfl)) ?_))
 | (refine Adz ⟨.inr rfl,_,rfl,?_⟩))<;>(try simp (disch:=omega) only [push_cast,seval])))
    all_goals rfl
   ·(repeat' ((first
 | (first|refine Agz ?_|refine Aaz ?_)
 | (first|refine Ahz ?_|refine Abz ?_|refine Alz ?_)
 | (first|(refine Bbz (by kernel_rfl) (by (simp (disch:=omega) only [push_cast,seval,h])<;>rfl) ?_)|(refine A1z (t:=22) (sz:=1) (zs:=[.int .i64 0]) (by kernel_rfl) (by (simp (disch:=omega) only [push_cast,seval,h])<;>rfl) (by (simp (disch:=omega) only [push_cast,seval,h])<;>rfl) (by first|assumption|omega|(constructor<;>omega)) (by first|((simp (disch:=omega) only [push_cast,seval,h]);done)|((simp (disch:=omega) only [push_cast,seval,h]);exact ⟨rfl,by omega⟩)) ?_)|(refine A1z (t:=0) (sz:=2) (zs:=[.int .i64 0,.int .i64 0]) (by kernel_rfl) (by (simp (disch:=omega) only [push_cast,seval,h])<;>rfl) (by (simp (disch:=omega) only [push_cast,seval,h])<;>rfl) (by first|assumption|omega|(constructor<;>omega)) (by first|((simp (disch:=omega) only [push_cast,seval,h]);done)|((simp (disch:=omega) only [push_cast,seval,h]);exact ⟨rfl,by omega⟩)) ?_)|(refine Blz (len:=3) (by kernel_rfl) (by (simp (disch:=omega) only [push_cast,seval,h])<;>rfl) (by (simp (disch:=omega) only [push_cast,seval,h])<;>rfl) (by first|assumption|omega|(constructor<;>omega)) (by first|rfl|((simp (disch:=omega) only [push_cast,seval,h]);rfl)) ?_))
 | (refine Adz ⟨.inr rfl,_,rfl,?_⟩))<;>(try simp (disch:=omega) only [push_cast,seval,h])))
    all_goals (refine ⟨1,⟨by omega,fun _=>(by first|exact h|trivial),fun h'=>absurd h' (by omega),fun h'=>absurd h' (by omega)⟩,by omega,?_⟩;(refine Sub.of_lists ?_ ?_ ?_ ?_ ?_<;>simp [Vw.mkS,Vw.lk,Vw.hk,AV.inn,innL,Akz,Ajz,Amz,-List.map_set,-List.getD_eq_getElem?_getD]))
  ·by_cases h:x=2
   ·subst h; (repeat' ((first
 | (first|refine Agz ?_|refine Aaz ?_)
 | (first|refine Ahz ?_|refine Abz ?_|refine Alz ?_)
 | (first|(refine Bbz (by kernel_rfl) (by (simp (disch:=omega) only [push_cast,seval])<;>rfl) ?_)|(refine A1z (t:=22) (sz:=1) (zs:=[.int .i64 0]) (by kernel_rfl) (by (simp (disch:=omega) only [push_cast,seval])<;>rfl) (by (simp (disch:=omega) only [push_cast,seval])<;>rfl) (by first|assumption|omega|(constructor<;>omega)) (by first|((simp (disch:=omega) only [push_cast,seval]);done)|((simp (disch:=omega) only [push_cast,seval]);exact ⟨rfl,by omega⟩)) ?_)|(refine A1z (t:=0) (sz:=2) (zs:=[.int .i64 0,.int .i64 0]) (by kernel_rfl) (by (simp (disch:=omega) only [push_cast,seval])<;>rfl) (by (simp (disch:=omega) only [push_cast,seval])<;>rfl) (by first|assumption|omega|(constructor<;>omega)) (by first|((simp (disch:=omega) only [push_cast,seval]);done)|((simp (disch:=omega) only [push_cast,seval]);exact ⟨rfl,by omega⟩)) ?_)|(refine Blz (len:=3) (by kernel_rfl) (by (simp (disch:=omega) only [push_cast,seval])<;>rfl) (by (simp (disch:=omega) only [push_cast,seval])<;>rfl) (by first|assumption|omega|(constructor<;>omega)) (by first|rfl|((simp (disch:=omega) only [push_cast,seval]);rfl)) ?_))
 | (refine Adz ⟨.inr rfl,_,rfl,?_⟩))<;>(try simp (disch:=omega) only [push_cast,seval])))
    all_goals rfl
   ·(repeat' ((first
 | (first|refine Agz ?_|refine Aaz ?_)
 | (first|refine Ahz ?_|refine Abz ?_|refine Alz ?_)
 | (first|(refine Bbz (by kernel_rfl) (by (simp (disch:=omega) only [push_cast,seval,h])<;>rfl) ?_)|(refine A1z (t:=22) (sz:=1) (zs:=[.int .i64 0]) (by kernel_rfl) (by (simp (disch:=omega) only [push_cast,seval,h])<;>rfl) (by (simp (disch:=omega) only [push_cast,seval,h])<;>rfl) (by first|assumption|omega|(constructor<;>omega)) (by first|((simp (disch:=omega) only [push_cast,seval,h]);done)|((simp (disch:=omega) only [push_cast,seval,h]);exact ⟨rfl,by omega⟩)) ?_)|(refine A1z (t:=0) (sz:=2) (zs:=[.int .i64 0,.int .i64 0]) (by kernel_rfl) (by (simp (disch:=omega) only [push_cast,seval,h])<;>rfl) (by (simp (disch:=omega) only [push_cast,seval,h])<;>rfl) (by first|assumption|omega|(constructor<;>omega)) (by first|((simp (disch:=omega) only [push_cast,seval,h]);done)|((simp (disch:=omega) only [push_cast,seval,h]);exact ⟨rfl,by omega⟩)) ?_)|(refine Blz (len:=3) (by kernel_rfl) (by (simp (disch:=omega) only [push_cast,seval,h])<;>rfl) (by (simp (disch:=omega) only [push_cast,seval,h])<;>rfl) (by first|assumption|omega|(constructor<;>omega)) (by first|rfl|((simp (disch:=omega) only [push_cast,seval,h]);rfl)) ?_))
 | (refine Adz ⟨.inr rfl,_,rfl,?_⟩))<;>(try simp (disch:=omega) only [push_cast,seval,h])))
    all_goals (refine ⟨2,⟨by omega,fun _=>(by first|exact h1 (by omega)|trivial),fun _=>(by first|exact h|trivial),fun h'=>absurd h' (by omega)⟩,by omega,?_⟩;(refine Sub.of_lists ?_ ?_ ?_ ?_ ?_<;>simp [Vw.mkS,Vw.lk,Vw.hk,AV.inn,innL,Akz,Ajz,Amz,-List.map_set,-List.getD_eq_getElem?_getD]))
  ·by_cases h:x=4
   ·subst h; (repeat' ((first
 | (first|refine Agz ?_|refine Aaz ?_)
 | (first|refine Ahz ?_|refine Abz ?_|refine Alz ?_)
 | (first|(refine Bbz (by kernel_rfl) (by (simp (disch:=omega) only [push_cast,seval])<;>rfl) ?_)|(refine A1z (t:=22) (sz:=1) (zs:=[.int .i64 0]) (by kernel_rfl) (by (simp (disch:=omega) only [push_cast,seval])<;>rfl) (by (simp (disch:=omega) only [push_cast,seval])<;>rfl) (by first|assumption|omega|(constructor<;>omega)) (by first|((simp (disch:=omega) only [push_cast,seval]);done)|((simp (disch:=omega) only [push_cast,seval]);exact ⟨rfl,by omega⟩)) ?_)|(refine A1z (t:=0) (sz:=2) (zs:=[.int .i64 0,.int .i64 0]) (by kernel_rfl) (by (simp (disch:=omega) only [push_cast,seval])<;>rfl) (by (simp (disch:=omega) only [push_cast,seval])<;>rfl) (by first|assumption|omega|(constructor<;>omega)) (by first|((simp (disch:=omega) only [push_cast,seval]);done)|((simp (disch:=omega) only [push_cast,seval]);exact ⟨rfl,by omega⟩)) ?_)|(refine Blz (len:=3) (by kernel_rfl) (by (simp (disch:=omega) only [push_cast,seval])<;>rfl) (by (simp (disch:=omega) only [push_cast,seval])<;>rfl) (by first|assumption|omega|(constructor<;>omega)) (by first|rfl|((simp (disch:=omega) only [push_cast,seval]);rfl)) ?_))
 | (refine Adz ⟨.inr rfl,_,rfl,?_⟩))<;>(try simp (disch:=omega) only [push_cast,seval])))
    all_goals rfl
   ·(repeat' ((first
 | (first|refine Agz ?_|refine Aaz ?_)
 | (first|refine Ahz ?_|refine Abz ?_|refine Alz ?_)
 | (first|(refine Bbz (by kernel_rfl) (by (simp (disch:=omega) only [push_cast,seval,h])<;>rfl) ?_)|(refine A1z (t:=22) (sz:=1) (zs:=[.int .i64 0]) (by kernel_rfl) (by (simp (disch:=omega) only [push_cast,seval,h])<;>rfl) (by (simp (disch:=omega) only [push_cast,seval,h])<;>rfl) (by first|assumption|omega|(constructor<;>omega)) (by first|((simp (disch:=omega) only [push_cast,seval,h]);done)|((simp (disch:=omega) only [push_cast,seval,h]);exact ⟨rfl,by omega⟩)) ?_)|(refine A1z (t:=0) (sz:=2) (zs:=[.int .i64 0,.int .i64 0]) (by kernel_rfl) (by (simp (disch:=omega) only [push_cast,seval,h])<;>rfl) (by (simp (disch:=omega) only [push_cast,seval,h])<;>rfl) (by first|assumption|omega|(constructor<;>omega)) (by first|((simp (disch:=omega) only [push_cast,seval,h]);done)|((simp (disch:=omega) only [push_cast,seval,h]);exact ⟨rfl,by omega⟩)) ?_)|(refine Blz (len:=3) (by kernel_rfl) (by (simp (disch:=omega) only [push_cast,seval,h])<;>rfl) (by (simp (disch:=omega) only [push_cast,seval,h])<;>rfl) (by first|assumption|omega|(constructor<;>omega)) (by first|rfl|((simp (disch:=omega) only [push_cast,seval,h]);rfl)) ?_))
 | (refine Adz ⟨.inr rfl,_,rfl,?_⟩))<;>(try simp (disch:=omega) only [push_cast,seval,h])))
    all_goals (refine ⟨3,⟨by omega,fun _=>(by first|exact h1 (by omega)|trivial),fun _=>(by first|exact h2 (by omega)|trivial),fun _=>(by first|exact h|trivial)⟩,by omega,?_⟩;(refine Sub.of_lists ?_ ?_ ?_ ?_ ?_<;>simp [Vw.mkS,Vw.lk,Vw.hk,AV.inn,innL,Akz,Ajz,Amz,-List.map_set,-List.getD_eq_getElem?_getD]))
  ·have e:szO x=false:=by simp [szO,h1 (by omega),h2 (by omega),h3 (by omega)]
   rw [e]
   (repeat' ((first
 | (first|refine Agz ?_|refine Aaz ?_)
 | (first|refine Ahz ?_|refine Abz ?_|refine Arz ?_)
 | (first|(refine Bbz (by kernel_rfl) (by (simp (disch:=omega) only [push_cast,seval])<;>rfl) ?_)|(refine A1z (t:=22) (sz:=1) (zs:=[.int .i64 0]) (by kernel_rfl) (by (simp (disch:=omega) only [push_cast,seval])<;>rfl) (by (simp (disch:=omega) only [push_cast,seval])<;>rfl) (by first|assumption|omega|(constructor<;>omega)) (by first|((simp (disch:=omega) only [push_cast,seval]);done)|((simp (disch:=omega) only [push_cast,seval]);exact ⟨rfl,by omega⟩)) ?_)|(refine A1z (t:=0) (sz:=2) (zs:=[.int .i64 0,.int .i64 0]) (by kernel_rfl) (by (simp (disch:=omega) only [push_cast,seval])<;>rfl) (by (simp (disch:=omega) only [push_cast,seval])<;>rfl) (by first|assumption|omega|(constructor<;>omega)) (by first|((simp (disch:=omega) only [push_cast,seval]);done)|((simp (disch:=omega) only [push_cast,seval]);exact ⟨rfl,by omega⟩)) ?_)|(refine Blz (len:=3) (by kernel_rfl) (by (simp (disch:=omega) only [push_cast,seval])<;>rfl) (by (simp (disch:=omega) only [push_cast,seval])<;>rfl) (by first|assumption|omega|(constructor<;>omega)) (by first|rfl|((simp (disch:=omega) only [push_cast,seval]);rfl)) ?_))
 | (refine Adz ⟨.inr rfl,_,rfl,?_⟩))<;>(try simp (disch:=omega) only [push_cast,seval])))


theorem fEnd_ok (p z:Int)(hb:0≤p∧p≤1000∧0≤z∧z≤1000):PCall Tryd.prog 33 [.agg [.int .i64 p,.int .i64 z]] (fun r=>r=.int .i64 (p+z)):=by
 refine Awz l33_eq rfl ?_
 (repeat' (first
 | (first|refine Agz ?_|refine Aaz ?_)
 | ((first|refine Ahz ?_);simp (disch:=omega) only [push_cast,seval])
 | (refine Adz ⟨.inr rfl,_,rfl,?_⟩;(try simp (disch:=omega) only [push_cast,seval]))))


theorem grt_ok (m:Nat)(hb:m≤4):PCall Tryd.prog 36 [.int .i64 (m:Int)] (fun r=>r=.int .i64 (pw m-1)):=by
 refine Awz l36_eq rfl ?_
 (repeat' (first
 | (first|refine Agz ?_|refine Aaz ?_)
 | ((first|refine Ahz ?_);simp (disch:=omega) only [push_cast,seval])
 | (refine Adz ⟨.inr rfl,_,rfl,?_⟩;(try simp (disch:=omega) only [push_cast,seval]))))
 refine Avz (fun k:Nat=>mkS [(3,.int .i64 (pw k)),(4,.int .i64 m),(5,.int .i64 k)] []) (fun k=>k≤m) (fun k=>m-k) 0 (Nat.zero_le _) ?_ ?_
 ·(refine Sub.of_lists ?_ ?_ ?_ ?_ ?_<;>simp [Vw.mkS,Vw.lk,Vw.hk,AV.inn,innL,Akz,Ajz,Amz,-List.map_set,-List.getD_eq_getElem?_getD,pw_zero])
 ·intro k hk
  have hp:=Caz (k:=k) (by omega)
  by_cases hlt:k<m
  ·have hp2:=Caz (k:=k+1) (by omega)
   have e:=pw_succ k
   rw [e] at hp2
   (repeat' (first
 | (first|refine Agz ?_|refine Aaz ?_)
 | ((first|refine Ahz ?_|refine Abz ?_|refine Alz ?_);simp (disch:=omega) only [push_cast,seval])
 | ((first|refine Acz (fun h=>?_) (fun h=>?_))<;>(try simp only [h])<;>(try simp only [bitvec_to_nat] at h)<;>(try simp only [h])<;>(first|(exfalso;omega)|(exfalso;simp_all;done)|(simp (disch:=omega) only [push_cast,seval])|skip))
 | (refine Adz ⟨.inr rfl,_,rfl,?_⟩;(try simp (disch:=omega) only [push_cast,seval]))))
   refine ⟨k+1,by omega,by omega,?_⟩
   (refine Sub.of_lists ?_ ?_ ?_ ?_ ?_<;>simp [Vw.mkS,Vw.lk,Vw.hk,AV.inn,innL,Akz,Ajz,Amz,-List.map_set,-List.getD_eq_getElem?_getD,e])
  ·have e:k=m:=by omega
   subst e
   (repeat' (first
 | (first|refine Agz ?_|refine Aaz ?_)
 | ((first|refine Ahz ?_|refine Abz ?_|refine Arz ?_);simp (disch:=omega) only [push_cast,seval])
 | ((first|refine Acz (fun h=>?_) (fun h=>?_))<;>(try simp only [h])<;>(try simp only [bitvec_to_nat] at h)<;>(try simp only [h])<;>(first|(exfalso;omega)|(exfalso;simp_all;done)|(simp (disch:=omega) only [push_cast,seval])|skip))
 | (refine Adz ⟨.inr rfl,_,rfl,?_⟩;(try simp (disch:=omega) only [push_cast,seval]))))


theorem alg_ok (s:List Int)(n:Nat)(big al:Bool)(e z:Int)(hb:(0≤e∧e≤1000)∧1≤z∧z≤4):PCall Tryd.prog 32 [.agg [.rows false (IL s) n,.bool big,.bool al],.int .i64 e,.int .i64 z] (fun r=>r=.int .i64 (alg al e z)):=by
 obtain ⟨⟨h1,h2⟩,h3,h4⟩:=hb
 refine Awz l32_eq rfl ?_
 have hq:=Bqz (x:=e+z-1) (y:=z) (by omega) (by omega)
 have hz:z=1∨z=2∨z=3∨z=4:=by omega
 unfold alg rup
 cases al with
 | false => (repeat' (first
 | (first|refine Agz ?_|refine Aaz ?_)
 | ((first|refine Ahz ?_|refine Abz ?_);simp (disch:=omega) only [push_cast,seval])
 | (refine Adz ⟨.inr rfl,_,rfl,?_⟩;(try simp (disch:=omega) only [push_cast,seval]))))
 | true =>
  generalize hG:(e+z-1).tdiv z=G at *
  have hm:0≤G*z∧G*z≤10000:=by rcases hz with rfl|rfl|rfl|rfl<;>omega
  (repeat' (first
 | (first|refine Agz ?_|refine Aaz ?_)
 | ((first|refine Ahz ?_|refine Abz ?_|refine Alz ?_);simp (disch:=omega) only [push_cast,seval,hG])
 | (refine Adz ⟨.inr rfl,_,rfl,?_⟩;(try simp (disch:=omega) only [push_cast,seval,hG]))))


theorem rup_ok (e z:Int)(hb:(0≤e∧e≤1000)∧1≤z∧z≤4):PCall Tryd.prog 39 [.int .i64 e,.int .i64 z] (fun r=>r=.int .i64 (rup e z)):=by
 obtain ⟨⟨h1,h2⟩,h3,h4⟩:=hb
 refine Awz l39_eq rfl ?_
 have hq:=Bqz (x:=e+z-1) (y:=z) (by omega) (by omega)
 have hz:z=1∨z=2∨z=3∨z=4:=by omega
 unfold rup
 generalize hG:(e+z-1).tdiv z=G at *
 have hm:0≤G*z∧G*z≤10000:=by rcases hz with rfl|rfl|rfl|rfl<;>omega
 (repeat' (first
 | (first|refine Agz ?_|refine Aaz ?_)
 | ((first|refine Ahz ?_);simp (disch:=omega) only [push_cast,seval,hG])
 | (refine Adz ⟨.inr rfl,_,rfl,?_⟩;(try simp (disch:=omega) only [push_cast,seval,hG]))))


theorem Gtz (m:Nat)(hb:m≤4):PCall Tryd.prog 27 [.int .i64 (m:Int)] (fun r=>r=.int .i64 (pw m)):=by
 refine Awz l27_eq rfl ?_
 (repeat' (first
 | (first|refine Agz ?_|refine Aaz ?_)
 | ((first|refine Ahz ?_);simp (disch:=omega) only [push_cast,seval])
 | (refine Adz ⟨.inr rfl,_,rfl,?_⟩;(try simp (disch:=omega) only [push_cast,seval]))))
 refine Avz (fun k:Nat=>mkS [(0,.int .i64 m),(3,.int .i64 (pw k)),(4,.int .i64 k)] []) (fun k=>k≤m) (fun k=>m-k) 0 (Nat.zero_le _) ?_ ?_
 ·(refine Sub.of_lists ?_ ?_ ?_ ?_ ?_<;>simp [Vw.mkS,Vw.lk,Vw.hk,AV.inn,innL,Akz,Ajz,Amz,-List.map_set,-List.getD_eq_getElem?_getD,pw_zero])
 ·intro k hk
  have hp:=Caz (k:=k) (by omega)
  by_cases hlt:k<m
  ·have hp2:=Caz (k:=k+1) (by omega)
   have e:=pw_succ k
   rw [e] at hp2
   (repeat' (first
 | (first|refine Agz ?_|refine Aaz ?_)
 | ((first|refine Ahz ?_|refine Abz ?_|refine Alz ?_);simp (disch:=omega) only [push_cast,seval])
 | ((first|refine Acz (fun h=>?_) (fun h=>?_))<;>(try simp only [h])<;>(try simp only [bitvec_to_nat] at h)<;>(try simp only [h])<;>(first|(exfalso;omega)|(exfalso;simp_all;done)|(simp (disch:=omega) only [push_cast,seval])|skip))
 | (refine Adz ⟨.inr rfl,_,rfl,?_⟩;(try simp (disch:=omega) only [push_cast,seval]))))
   refine ⟨k+1,by omega,by omega,?_⟩
   (refine Sub.of_lists ?_ ?_ ?_ ?_ ?_<;>simp [Vw.mkS,Vw.lk,Vw.hk,AV.inn,innL,Akz,Ajz,Amz,-List.map_set,-List.getD_eq_getElem?_getD,e])
  ·have e:k=m:=by omega
   subst e
   (repeat' (first
 | (first|refine Agz ?_|refine Aaz ?_)
 | ((first|refine Ahz ?_|refine Abz ?_|refine Arz ?_);simp (disch:=omega) only [push_cast,seval])
 | ((first|refine Acz (fun h=>?_) (fun h=>?_))<;>(try simp only [h])<;>(try simp only [bitvec_to_nat] at h)<;>(try simp only [h])<;>(first|(exfalso;omega)|(exfalso;simp_all;done)|(simp (disch:=omega) only [push_cast,seval])|skip))
 | (refine Adz ⟨.inr rfl,_,rfl,?_⟩;(try simp (disch:=omega) only [push_cast,seval]))))


theorem svFmt_ok (s:List Int)(n:Nat)(big al:Bool)(hn:s.length=n)(hb:n≤1099511627776):PCall Tryd.prog 18 [.agg [.rows false (IL s) n,.bool big,.bool al]] (fun r=>r=.bool (vF s)):=by
 subst hn
 refine Awz l18_eq rfl ?_
 (repeat' (first
 | (first|refine Agz ?_|refine Aaz ?_)
 | ((first|refine Ahz ?_);simp (disch:=omega) only [push_cast,seval])
 | (refine Adz ⟨.inr rfl,_,rfl,?_⟩;(try simp (disch:=omega) only [push_cast,seval]))))
 refine Avz (fun k:Nat=>mkS [(1,.ref 16 3 0),(3,.int .i64 k)] [(16,[.rows false (IL s) s.length,.bool big,.bool al])]) (fun k=>k≤s.length∧∀ j:Nat,j<k→szO (s.getD j 0)=true) (fun k=>s.length-k) 0 ⟨Nat.zero_le _,fun j h=>absurd h (by omega)⟩ ?_ ?_
 ·(refine Sub.of_lists ?_ ?_ ?_ ?_ ?_<;>simp [Vw.mkS,Vw.lk,Vw.hk,AV.inn,innL,Akz,Ajz,Amz,-List.map_set,-List.getD_eq_getElem?_getD])
 ·rintro k ⟨hk,hj⟩
  by_cases hlt:k<s.length
  ·by_cases g1:s.getD k 0=1
   ·(repeat' (first
 | (first|refine Agz ?_|refine Aaz ?_)
 | ((first|refine Ahz ?_|refine Abz ?_|refine Alz ?_);simp (disch:=omega) only [push_cast,seval,g1])
 | ((first|refine Acz (fun h=>?_) (fun h=>?_))<;>(try simp only [h])<;>(try simp only [bitvec_to_nat] at h)<;>(try simp only [h])<;>(first|(exfalso;omega)|(exfalso;simp_all;done)|(simp (disch:=omega) only [push_cast,seval,g1])|skip))
 | (refine Adz ⟨.inr rfl,_,rfl,?_⟩;(try simp (disch:=omega) only [push_cast,seval,g1]))))
    all_goals (refine ⟨k+1,⟨by omega,Eoz hj (by rw [g1];rfl)⟩,by omega,?_⟩;(refine Sub.of_lists ?_ ?_ ?_ ?_ ?_<;>simp [Vw.mkS,Vw.lk,Vw.hk,AV.inn,innL,Akz,Ajz,Amz,-List.map_set,-List.getD_eq_getElem?_getD]))
   ·by_cases g2:s.getD k 0=2
    ·(repeat' (first
 | (first|refine Agz ?_|refine Aaz ?_)
 | ((first|refine Ahz ?_|refine Abz ?_|refine Alz ?_);simp (disch:=omega) only [push_cast,seval,g1,g2])
 | ((first|refine Acz (fun h=>?_) (fun h=>?_))<;>(try simp only [h])<;>(try simp only [bitvec_to_nat] at h)<;>(try simp only [h])<;>(first|(exfalso;omega)|(exfalso;simp_all;done)|(simp (disch:=omega) only [push_cast,seval,g1,g2])|skip))
 | (refine Adz ⟨.inr rfl,_,rfl,?_⟩; (try simp (disch := omega) only [push_cast,seval,g1,g2]))))
     all_goals (refine ⟨k+1,⟨by omega,Eoz hj (by rw [g2];rfl)⟩,by omega,?_⟩;(refine Sub.of_lists ?_ ?_ ?_ ?_ ?_<;>simp [Vw.mkS,Vw.lk,Vw.hk,AV.inn,innL,Akz,Ajz,Amz,-List.map_set,-List.getD_eq_getElem?_getD]))
    ·by_cases g3:s.getD k 0=4
     ·(repeat' (first
 | (first|refine Agz ?_|refine Aaz ?_)
 | ((first|refine Ahz ?_|refine Abz ?_|refine Alz ?_);simp (disch:=omega) only [push_cast,seval,g1,g2,g3])
 | ((first|refine Acz (fun h=>?_) (fun h=>?_))<;>(try simp only [h])<;>(try simp only [bitvec_to_nat] at h)<;>(try simp only [h])<;>(first|(exfalso;omega)|(exfalso;simp_all;done)|(simp (disch:=omega) only [push_cast,seval,g1,g2,g3])|skip))
 | (refine Adz ⟨.inr rfl,_,rfl,?_⟩; (try simp (disch := omega) only [push_cast,seval,g1,g2,g3]))))
      all_goals (refine ⟨k+1,⟨by omega,Eoz hj (by rw [g3];rfl)⟩,by omega,?_⟩;(refine Sub.of_lists ?_ ?_ ?_ ?_ ?_<;>simp [Vw.mkS,Vw.lk,Vw.hk,AV.inn,innL,Akz,Ajz,Amz,-List.map_set,-List.getD_eq_getElem?_getD]))
     ·have e:=vF_bad hlt (by simp only [szO,g1,g2,g3,decide_false,Bool.or_self])
      (repeat' (first
 | (first|refine Agz ?_|refine Aaz ?_)
 | ((first|refine Ahz ?_|refine Abz ?_|refine Alz ?_);simp (disch:=omega) only [push_cast,seval,g1,g2,g3,e])
 | ((first|refine Acz (fun h=>?_) (fun h=>?_))<;>(try simp only [h])<;>(try simp only [bitvec_to_nat] at h)<;>(try simp only [h])<;>(first|(exfalso;omega)|(exfalso;simp_all;done)|(simp (disch:=omega) only [push_cast,seval,g1,g2,g3,e])|skip))
 | (refine Adz ⟨.inr rfl,_,rfl,?_⟩;(try simp (disch:=omega) only [push_cast,seval,g1,g2,g3,e]))))
  ·have ha:(∀ i,i<s.length→s.getD i 0=1∨s.getD i 0=2∨s.getD i 0=4):=fun i hi=>Gqz.1 (hj i (by omega))
   by_cases hl:1≤s.length∧s.length≤5
   ·have e:vF s=true:=Bhz.2 ⟨ha,hl⟩
    rw [e]
    obtain ⟨hl1,hl2⟩:=hl
    (repeat' ((first
 | (first|refine Agz ?_|refine Aaz ?_)
 | (first|refine Ahz ?_|refine Abz ?_|refine Arz ?_)
 | ((first|refine Acz (fun h=>?_) (fun h=>?_))<;>(try simp only [h])<;>(try simp only [bitvec_to_nat] at h)<;>(try simp only [h])<;>(first|(exfalso;omega)|(exfalso;simp_all;done)|skip))
 | (first|refine Aoz false ?_)
 | (first|(refine Apz (Atz (Brz _ _ _)) ?_;rintro _ _ ⟨rfl,rfl⟩))
 | (refine Adz ⟨.inr rfl,_,rfl,?_⟩))<;>(try simp (disch:=omega) only [push_cast,seval])))
    all_goals (simp;omega)
   ·have e:=vF_len hl
    rw [e]
    (repeat' ((first
 | (first|refine Agz ?_|refine Aaz ?_)
 | (first|refine Ahz ?_|refine Abz ?_|refine Arz ?_)
 | ((first|refine Acz (fun h=>?_) (fun h=>?_))<;>(try simp only [h])<;>(try simp only [bitvec_to_nat] at h)<;>(try simp only [h])<;>(first|(exfalso;omega)|(exfalso;simp_all;done)|skip))
 | (first|refine Aoz false ?_)
 | (first|(refine Apz (Atz (Brz _ _ _)) ?_;rintro _ _ ⟨rfl,rfl⟩))
 | (refine Adz ⟨.inr rfl,_,rfl,?_⟩))<;>(try simp (disch:=omega) only [push_cast,seval])))
    all_goals (simp;omega)


theorem C8z (s:List Int)(n:Nat)(big al:Bool)(hn:s.length=n)(hb:n≤1099511627776):PCall Tryd.prog 22 [.agg [.rows false (IL s) n,.bool big,.bool al]] (fun r=>r=.bool (vF s)):=by
 subst hn
 refine Awz l22_eq rfl ?_
 by_cases hl1:s.length<1
 ·have e:=vF_len (s:=s) (by omega)
  rw [e]
  have h1':(s.length:Int)<1:=by omega
  (repeat' (first
 | (first|refine Agz ?_|refine Aaz ?_)
 | ((first|refine Ahz ?_|refine Abz ?_);simp (disch:=omega) only [push_cast,seval,h1'])
 | (refine Adz ⟨.inr rfl,_,rfl,?_⟩;(try simp (disch:=omega) only [push_cast,seval,h1']))))
 ·by_cases hl2:5<s.length
  ·have e:=vF_len (s:=s) (by omega)
   rw [e]
   have h1':¬ (s.length:Int)<1:=by omega
   have h2':(5:Int)<(s.length:Int):=by omega
   (repeat' (first
 | (first|refine Agz ?_|refine Aaz ?_)
 | ((first|refine Ahz ?_|refine Abz ?_);simp (disch:=omega) only [push_cast,seval,h1',h2'])
 | (refine Adz ⟨.inr rfl,_,rfl,?_⟩;(try simp (disch:=omega) only [push_cast,seval,h1',h2']))))
  ·have h1':¬ (s.length:Int)<1:=by omega
   have h2':¬ (5:Int)<(s.length:Int):=by omega
   (repeat' (first
 | (first|refine Agz ?_|refine Aaz ?_)
 | ((first|refine Ahz ?_|refine Abz ?_|refine Alz ?_);simp (disch:=omega) only [push_cast,seval,h1',h2'])
 | (refine Adz ⟨.inr rfl,_,rfl,?_⟩;(try simp (disch:=omega) only [push_cast,seval,h1',h2']))))
   refine Avz (fun k:Nat=>mkS [(16,RI s),(17,.int .i64 s.length),(18,.int .i64 k)] []) (fun k=>k≤s.length∧∀ j:Nat,j<k→szO (s.getD j 0)=true) (fun k=>s.length-k) 0 ⟨Nat.zero_le _,fun j h=>absurd h (by omega)⟩ ?_ ?_
   ·(refine Sub.of_lists ?_ ?_ ?_ ?_ ?_<;>simp [Vw.mkS,Vw.lk,Vw.hk,AV.inn,innL,Akz,Ajz,Amz,-List.map_set,-List.getD_eq_getElem?_getD])
   ·rintro k ⟨hk,hj⟩
    by_cases hlt:k<s.length
    ·cases hs:szO (s.getD k 0) with
     | false =>
      have e:=vF_bad hlt hs
      (repeat' ((first
 | (first|refine Agz ?_|refine Aaz ?_)
 | (first|refine Ahz ?_|refine Abz ?_|refine Alz ?_)
 | ((first|refine Acz (fun h=>?_) (fun h=>?_))<;>(try simp only [h])<;>(try simp only [bitvec_to_nat] at h)<;>(try simp only [h])<;>(first|(exfalso;omega)|(exfalso;simp_all;done)|skip))
 | (first|refine Aoz false ?_)
 | (first|(refine Apz (Atz (isFS_ok _)) ?_;rintro _ _ ⟨rfl,rfl⟩))
 | (refine Adz ⟨.inr rfl,_,rfl,?_⟩; (try simp (disch := omega) only [push_cast,seval,hs,e])))<;>(try simp (disch:=omega) only [push_cast,seval,hs,e])))
     | true =>
      (repeat' ((first
 | (first|refine Agz ?_|refine Aaz ?_)
 | (first|refine Ahz ?_|refine Abz ?_|refine Alz ?_)
 | ((first|refine Acz (fun h=>?_) (fun h=>?_))<;>(try simp only [h])<;>(try simp only [bitvec_to_nat] at h)<;>(try simp only [h])<;>(first|(exfalso;omega)|(exfalso;simp_all;done)|skip))
 | (first|refine Aoz false ?_)
 | (first|(refine Apz (Atz (isFS_ok _)) ?_;rintro _ _ ⟨rfl,rfl⟩))
 | (refine Adz ⟨.inr rfl,_,rfl,?_⟩; (try simp (disch := omega) only [push_cast,seval,hs])))<;>(try simp (disch:=omega) only [push_cast,seval,hs])))
      all_goals (refine ⟨k+1,⟨by omega,Eoz hj hs⟩,by omega,?_⟩;(refine Sub.of_lists ?_ ?_ ?_ ?_ ?_<;>simp [Vw.mkS,Vw.lk,Vw.hk,AV.inn,innL,Akz,Ajz,Amz,-List.map_set,-List.getD_eq_getElem?_getD]))
    ·have e:vF s=true:=Bhz.2 ⟨fun i hi=>Gqz.1 (hj i (by omega)),by omega,by omega⟩
     rw [e]
     (repeat' (first
 | (first|refine Agz ?_|refine Aaz ?_)
 | ((first|refine Ahz ?_|refine Abz ?_|refine Arz ?_);simp (disch:=omega) only [push_cast,seval])
 | ((first|refine Acz (fun h=>?_) (fun h=>?_))<;>(try simp only [h])<;>(try simp only [bitvec_to_nat] at h)<;>(try simp only [h])<;>(first|(exfalso;omega)|(exfalso;simp_all;done)|(simp (disch:=omega) only [push_cast,seval])|skip))
 | (refine Adz ⟨.inr rfl,_,rfl,?_⟩;(try simp (disch:=omega) only [push_cast,seval]))))

end Go.Proofs.YtjmcjjbhkiebkaaDoor
