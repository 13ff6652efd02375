/- Texts of this verifier. -/
import Derived.Test.YtkpcjppnjmhanaaGreatDoorCB11
import Derived.Test.YtkpcjppnjmhanaaGreatDoorCM1
import Derived.Test.YtkpcjppnjmhanaaGreatDoorCW3
set_option maxHeartbeats 4000000
set_option linter.unusedSimpArgs false
set_option linter.unusedSectionVars false
set_option linter.unusedVariables false
set_option maxRecDepth 4000
namespace Go.Proofs.YtkpcjppnjmhanaaGreatDoor
open VwM Vw Go
variable [SentA]

set_option maxHeartbeats 8000000 in
theorem tmeet_ok (L:List ME) (c:Nat) (f:Int → Nat) (xs:List Int) (n:Nat) (hn:xs.length=n) (hT:Tal L c f) (hb:n ≤ 1000 ∧ ∀ k,f k ≤ 1000000):BCall Tryz.prog 125 [.sref 0 0,.rows false (IL xs) n] [[mapC L c]] (fun r H'=>r=.tup [] ∧ ∃ L' c',Tal L' c' (addF f (cnt xs)) ∧ H'=[[mapC L' c']]):=by
  subst hn
  obtain ⟨hb1,hb2⟩:=hb
  refine Auz (pins:=[0]) (pin:=1) l125_eq rfl rfl rfl ?_
  (repeat' (first
 | (first|refine Agz ?_|refine Abz ?_)
 | ((first|refine Ahz ?_);simp (disch:=omega) only [push_cast,seval,l125r0,l125r1,l125r2,l125r3,l125r4])
 | ((first|(refine Cgz (by kernel_rfl) (by (simp (disch:=omega) only [push_cast,seval])<;>rfl) ?_)|(refine Bqz (t:=23) (sz:=1) (zs:=[.int .i64 0]) (by kernel_rfl) (by (simp (disch:=omega) only [push_cast,seval])<;>rfl) (by (simp (disch:=omega) only [push_cast,seval])<;>rfl) (by first|assumption|omega|(constructor<;>omega)) (by first|((simp (disch:=omega) only [push_cast,seval]);done)|((simp (disch:=omega) only [push_cast,seval]);exact ⟨rfl,by omega⟩)) ?_)|(refine Bqz (t:=127) (sz:=2) (zs:=[.int .i64 0,.int .i64 0]) (by kernel_rfl) (by (simp (disch:=omega) only [push_cast,seval])<;>rfl) (by (simp (disch:=omega) only [push_cast,seval])<;>rfl) (by first|assumption|omega|(constructor<;>omega)) (by first|((simp (disch:=omega) only [push_cast,seval]);done)|((simp (disch:=omega) only [push_cast,seval]);exact ⟨rfl,by omega⟩)) ?_)|(refine Dhz (len:=3) (by kernel_rfl) (by (simp (disch:=omega) only [push_cast,seval])<;>rfl) (by (simp (disch:=omega) only [push_cast,seval])<;>rfl) (by first|assumption|omega|(constructor<;>omega)) (by first|rfl|((simp (disch:=omega) only [push_cast,seval]);rfl)) ?_)|(refine Huz (by kernel_rfl) (by (simp (disch:=omega) only [push_cast,seval])<;>rfl) (by (simp (disch:=omega) only [push_cast,seval])<;>rfl) (by (simp (disch:=omega) only [push_cast,seval])<;>rfl) ?_)|(refine Exz (by kernel_rfl) (by (simp (disch:=omega) only [push_cast,seval])<;>rfl) (by (simp (disch:=omega) only [push_cast,seval])<;>rfl) (by (simp (disch:=omega) only [push_cast,seval])<;>rfl) (by (simp (disch:=omega) only [push_cast,seval])<;>rfl) ?_))<;>(try simp (disch:=omega) only [push_cast,seval]))
 | (refine Afz ⟨.inr rfl,[],[],_,by decide,rfl,?_⟩;(try simp (disch:=omega) only [push_cast,seval,↓Adz,↓Acz,↓List.map_cons,↓List.map_nil]))))
  refine A7z (fun x:Nat × List ME × Nat=>mkS [(0,.sref 0 0),(6,RI xs),(7,.int .i64 xs.length),(8,.int .i64 x.1)] [(0,[mapC x.2.1 x.2.2])]) (fun x=>x.1 ≤ xs.length ∧ Tal x.2.1 x.2.2 (addF f (cnt (xs.take x.1)))) (fun x=>xs.length - x.1) (0,L,c) ⟨Nat.zero_le _,by simpa [addF_nil] using hT⟩ ?_ ?_
  · (refine Sub.of_lists ?_ ?_ ?_ ?_ ?_<;>simp [Vw.mkS,Vw.lk,Vw.hk,AV.inn,innL,Apz,Anz,Aqz,-List.map_set,-List.getD_eq_getElem?_getD])
  · rintro ⟨i,L1,c1⟩ ⟨hi,hT1⟩
    simp only at hi hT1
    by_cases hlt:i < xs.length
    · have hx:=hT1.1 (xs.getD i 0)
      have hb3:addF f (cnt (xs.take i)) (xs.getD i 0) ≤ 1001000:=by
        have:=hb2 (xs.getD i 0)
        have:=cnt_take_le xs i (xs.getD i 0)
        simp only [addF];omega
      have hput:=tal_put hT1 (xs.getD i 0) rfl
      rw [addF_snoc f xs i hlt] at hput
      generalize hv:addF f (cnt (xs.take i)) (xs.getD i 0)=v at *
      (repeat' (first
 | (first|refine Agz ?_|refine Abz ?_)
 | ((first|refine Ahz ?_|refine Aez ?_|refine Aoz ?_);simp (disch:=omega) only [push_cast,seval,l125r0,l125r1,l125r2,l125r3,l125r4,hx])
 | ((first|refine Amz (fun h=>?_) (fun h=>?_))<;>(try simp only [h])<;>(try simp only [bitvec_to_nat] at h)<;>(try simp only [h])<;>(first|(exfalso;omega)|(exfalso;simp_all;done)|(simp (disch:=omega) only [push_cast,seval,hx])|skip))
 | ((first|(refine Cgz (by kernel_rfl) (by (simp (disch:=omega) only [push_cast,seval,hx])<;>rfl) ?_)|(refine Bqz (t:=23) (sz:=1) (zs:=[.int .i64 0]) (by kernel_rfl) (by (simp (disch:=omega) only [push_cast,seval,hx])<;>rfl) (by (simp (disch:=omega) only [push_cast,seval,hx])<;>rfl) (by first|assumption|omega|(constructor<;>omega)) (by first|((simp (disch:=omega) only [push_cast,seval,hx]);done)|((simp (disch:=omega) only [push_cast,seval,hx]);exact ⟨rfl,by omega⟩)) ?_)|(refine Bqz (t:=127) (sz:=2) (zs:=[.int .i64 0,.int .i64 0]) (by kernel_rfl) (by (simp (disch:=omega) only [push_cast,seval,hx])<;>rfl) (by (simp (disch:=omega) only [push_cast,seval,hx])<;>rfl) (by first|assumption|omega|(constructor<;>omega)) (by first|((simp (disch:=omega) only [push_cast,seval,hx]);done)|((simp (disch:=omega) only [push_cast,seval,hx]);exact ⟨rfl,by omega⟩)) ?_)|(refine Dhz (len:=3) (by kernel_rfl) (by (simp (disch:=omega) only [push_cast,seval,hx])<;>rfl) (by (simp (disch:=omega) only [push_cast,seval,hx])<;>rfl) (by first|assumption|omega|(constructor<;>omega)) (by first|rfl|((simp (disch:=omega) only [push_cast,seval,hx]);rfl)) ?_)|(refine Huz (by kernel_rfl) (by (simp (disch:=omega) only [push_cast,seval,hx])<;>rfl) (by (simp (disch:=omega) only [push_cast,seval,hx])<;>rfl) (by (simp (disch:=omega) only [push_cast,seval,hx])<;>rfl) ?_)|(refine Exz (by kernel_rfl) (by (simp (disch:=omega) only [push_cast,seval,hx])<;>rfl) (by (simp (disch:=omega) only [push_cast,seval,hx])<;>rfl) (by (simp (disch:=omega) only [push_cast,seval,hx])<;>rfl) (by (simp (disch:=omega) only [push_cast,seval,hx])<;>rfl) ?_))<;>(try simp (disch:=omega) only [push_cast,seval,hx]))
 | (refine Afz ⟨.inr rfl,[],[],_,by decide,rfl,?_⟩;(try simp (disch:=omega) only [push_cast,seval,↓Adz,↓Acz,↓List.map_cons,↓List.map_nil,hx]))))
      refine ⟨(i + 1,mput L1 c1 (xs.getD i 0) ((v:Int) + 1),mclk L1 c1 (xs.getD i 0)),⟨by simp only;omega,hput⟩,by simp only;omega,?_⟩
      (refine Sub.of_lists ?_ ?_ ?_ ?_ ?_<;>simp [Vw.mkS,Vw.lk,Vw.hk,AV.inn,innL,Apz,Anz,Aqz,-List.map_set,-List.getD_eq_getElem?_getD])
    · have e:i=xs.length:=by omega
      subst e
      rw [List.take_length] at hT1
      (repeat' (first
 | (first|refine Agz ?_|refine Abz ?_)
 | ((first|refine Ahz ?_|refine Aez ?_|refine A1z ?_);simp (disch:=omega) only [push_cast,seval,l125r0,l125r1,l125r2,l125r3,l125r4])
 | ((first|refine Amz (fun h=>?_) (fun h=>?_))<;>(try simp only [h])<;>(try simp only [bitvec_to_nat] at h)<;>(try simp only [h])<;>(first|(exfalso;omega)|(exfalso;simp_all;done)|(simp (disch:=omega) only [push_cast,seval])|skip))
 | ((first|(refine Cgz (by kernel_rfl) (by (simp (disch:=omega) only [push_cast,seval])<;>rfl) ?_)|(refine Bqz (t:=23) (sz:=1) (zs:=[.int .i64 0]) (by kernel_rfl) (by (simp (disch:=omega) only [push_cast,seval])<;>rfl) (by (simp (disch:=omega) only [push_cast,seval])<;>rfl) (by first|assumption|omega|(constructor<;>omega)) (by first|((simp (disch:=omega) only [push_cast,seval]);done)|((simp (disch:=omega) only [push_cast,seval]);exact ⟨rfl,by omega⟩)) ?_)|(refine Bqz (t:=127) (sz:=2) (zs:=[.int .i64 0,.int .i64 0]) (by kernel_rfl) (by (simp (disch:=omega) only [push_cast,seval])<;>rfl) (by (simp (disch:=omega) only [push_cast,seval])<;>rfl) (by first|assumption|omega|(constructor<;>omega)) (by first|((simp (disch:=omega) only [push_cast,seval]);done)|((simp (disch:=omega) only [push_cast,seval]);exact ⟨rfl,by omega⟩)) ?_)|(refine Dhz (len:=3) (by kernel_rfl) (by (simp (disch:=omega) only [push_cast,seval])<;>rfl) (by (simp (disch:=omega) only [push_cast,seval])<;>rfl) (by first|assumption|omega|(constructor<;>omega)) (by first|rfl|((simp (disch:=omega) only [push_cast,seval]);rfl)) ?_)|(refine Huz (by kernel_rfl) (by (simp (disch:=omega) only [push_cast,seval])<;>rfl) (by (simp (disch:=omega) only [push_cast,seval])<;>rfl) (by (simp (disch:=omega) only [push_cast,seval])<;>rfl) ?_)|(refine Exz (by kernel_rfl) (by (simp (disch:=omega) only [push_cast,seval])<;>rfl) (by (simp (disch:=omega) only [push_cast,seval])<;>rfl) (by (simp (disch:=omega) only [push_cast,seval])<;>rfl) (by (simp (disch:=omega) only [push_cast,seval])<;>rfl) ?_))<;>(try simp (disch:=omega) only [push_cast,seval]))
 | (refine Afz ⟨.inr rfl,[],[],_,by decide,rfl,?_⟩;(try simp (disch:=omega) only [push_cast,seval,↓Adz,↓Acz,↓List.map_cons,↓List.map_nil]))))
      exact ⟨[],[],[],⟨by decide,by simp⟩,rfl,by simp,rfl,L1,c1,hT1,rfl⟩


def ren189:Go.Shelf.Ren:=(⟨fun n=>match n with|125=>156|128=>175|129=>176|189=>131|215=>184|216=>172|257=>155|294=>166|295=>167|296=>168|297=>169|298=>170|299=>171|300=>173|301=>174|328=>179|329=>180|330=>181|331=>182|332=>183|343=>186|_=>0,fun n=>match n with|0=>0|3=>3|4=>4|5=>5|9=>9|28=>23|46=>148|51=>169|53=>172|131=>187|182=>183|183=>184|218=>191|222=>195|228=>198|229=>111|_=>0,fun n=>n⟩:Go.Shelf.Ren)
theorem lays189:Go.Proofs.Lays.n189 Tryz.prog ren189:={ mixed:=by kernel_rfl,f125:=by kernel_rfl,f128:=by kernel_rfl,f129:=by kernel_rfl,f189:=by kernel_rfl,f215:=by kernel_rfl,f216:=by kernel_rfl,f257:=by kernel_rfl,f294:=by kernel_rfl,f295:=by kernel_rfl,f296:=by kernel_rfl,f297:=by kernel_rfl,f298:=by kernel_rfl,f299:=by kernel_rfl,f300:=by kernel_rfl,f301:=by kernel_rfl,f328:=by kernel_rfl,f329:=by kernel_rfl,f330:=by kernel_rfl,f331:=by kernel_rfl,f332:=by kernel_rfl,f343:=by kernel_rfl,t0:=by kernel_rfl,a0:=fun w=>by kernel_rfl,z0:=fun w=>by kernel_rfl,v0:=fun w=>by kernel_rfl,t3:=by kernel_rfl,a3:=fun w=>by kernel_rfl,z3:=fun w=>by kernel_rfl,v3:=fun w=>by kernel_rfl,t4:=by kernel_rfl,a4:=fun w=>by kernel_rfl,z4:=fun w=>by kernel_rfl,v4:=fun w=>by kernel_rfl,t5:=by kernel_rfl,a5:=fun w=>by kernel_rfl,z5:=fun w=>by kernel_rfl,v5:=fun w=>by kernel_rfl,t9:=by kernel_rfl,a9:=fun w=>by kernel_rfl,z9:=fun w=>by kernel_rfl,v9:=fun w=>by kernel_rfl,t28:=by kernel_rfl,a28:=fun w=>by kernel_rfl,z28:=fun w=>by kernel_rfl,v28:=fun w=>by kernel_rfl,t46:=by kernel_rfl,a46:=fun w=>by kernel_rfl,z46:=fun w=>by kernel_rfl,v46:=fun w=>by kernel_rfl,t51:=by kernel_rfl,a51:=fun w=>by kernel_rfl,z51:=fun w=>by kernel_rfl,v51:=fun w=>by kernel_rfl,t53:=by kernel_rfl,a53:=fun w=>by kernel_rfl,z53:=fun w=>by kernel_rfl,v53:=fun w=>by kernel_rfl,t131:=by kernel_rfl,a131:=fun w=>by kernel_rfl,z131:=fun w=>by kernel_rfl,v131:=fun w=>by kernel_rfl,t182:=by kernel_rfl,a182:=fun w=>by kernel_rfl,z182:=fun w=>by kernel_rfl,v182:=fun w=>by kernel_rfl,t183:=by kernel_rfl,a183:=fun w=>by kernel_rfl,z183:=fun w=>by kernel_rfl,v183:=fun w=>by kernel_rfl,t218:=by kernel_rfl,a218:=fun w=>by kernel_rfl,z218:=fun w=>by kernel_rfl,v218:=fun w=>by kernel_rfl,t222:=by kernel_rfl,a222:=fun w=>by kernel_rfl,z222:=fun w=>by kernel_rfl,v222:=fun w=>by kernel_rfl,t228:=by kernel_rfl,a228:=fun w=>by kernel_rfl,z228:=fun w=>by kernel_rfl,v228:=fun w=>by kernel_rfl,t229:=by kernel_rfl,a229:=fun w=>by kernel_rfl,z229:=fun w=>by kernel_rfl,v229:=fun w=>by kernel_rfl }
theorem sort_ok (xs:List Int) (n:Nat) (hn:xs.length=n) (hb:n ≤ 1099511627776):BCall Tryz.prog 131 [.own 0 n 1] [IL xs] (fun r H'=>r=.tup [] ∧ H'=[IL (sorted xs)]):=sort_bcall lays189 xs n hn hb


set_option maxHeartbeats 8000000 in
theorem atLeast_ok (L:List ME) (c:Nat) (f:Int → Nat) (t:Nat) (hT:Tal L c f) (hs:∀ k,0 < f k → 0 ≤ k ∧ k ≤ 59) (hb:1 ≤ t ∧ t ≤ 1000):BCall Tryz.prog 103 [.sref 0 0,.int .i64 t] [[mapC L c]] (fun r H'=>r=.own 1 (atL f t).length 1 ∧ H'=[[mapC L c],IL (atL f t)]):=by
  refine Auz (pins:=[0]) (pin:=1) l103_eq rfl rfl rfl ?_
  have hborn:=hT.2.2.2.2
  have hnod:=hT.2.2.2.1
  have hlen:=tal_len hT hs
  (repeat' (first
 | (first|refine Agz ?_|refine Abz ?_)
 | ((first|refine Ahz ?_);simp (disch:=omega) only [push_cast,seval,l103r0,l103r1,l103r2,l103r3,l103r4,l103r5,l103r6,l103r7,l103r8])
 | ((first|(refine Cgz (by kernel_rfl) (by (simp (disch:=omega) only [push_cast,seval])<;>rfl) ?_)|(refine Bqz (t:=23) (sz:=1) (zs:=[.int .i64 0]) (by kernel_rfl) (by (simp (disch:=omega) only [push_cast,seval])<;>rfl) (by (simp (disch:=omega) only [push_cast,seval])<;>rfl) (by first|assumption|omega|(constructor<;>omega)) (by first|((simp (disch:=omega) only [push_cast,seval]);done)|((simp (disch:=omega) only [push_cast,seval]);exact ⟨rfl,by omega⟩)) ?_)|(refine Bqz (t:=127) (sz:=2) (zs:=[.int .i64 0,.int .i64 0]) (by kernel_rfl) (by (simp (disch:=omega) only [push_cast,seval])<;>rfl) (by (simp (disch:=omega) only [push_cast,seval])<;>rfl) (by first|assumption|omega|(constructor<;>omega)) (by first|((simp (disch:=omega) only [push_cast,seval]);done)|((simp (disch:=omega) only [push_cast,seval]);exact ⟨rfl,by omega⟩)) ?_)|(refine Dhz (len:=3) (by kernel_rfl) (by (simp (disch:=omega) only [push_cast,seval])<;>rfl) (by (simp (disch:=omega) only [push_cast,seval])<;>rfl) (by first|assumption|omega|(constructor<;>omega)) (by first|rfl|((simp (disch:=omega) only [push_cast,seval]);rfl)) ?_)|(refine raw_range (by kernel_rfl) (by (simp (disch:=omega) only [push_cast,seval])<;>rfl) (by (simp (disch:=omega) only [push_cast,seval])<;>rfl) (by first|((simp (disch:=omega) only [push_cast,seval]);done)|((simp (disch:=omega) only [push_cast,seval]);exact ⟨rfl,by omega⟩)) ?_)|(refine raw_next (by (simp (disch:=omega) only [push_cast,seval])<;>rfl) (by (simp (disch:=omega) only [push_cast,seval])<;>rfl) (by (simp (disch:=omega) only [push_cast,seval])<;>rfl) (by first|assumption|omega|(constructor<;>omega)) (fun hall=>?_) (fun p hp hns=>?_))|(refine raw_entry (by (simp (disch:=omega) only [push_cast,seval])<;>rfl) (by (simp (disch:=omega) only [push_cast,seval])<;>rfl) (by (simp (disch:=omega) only [push_cast,seval])<;>rfl) (by first|(refine ⟨?_,rfl⟩;assumption)|assumption) (by first|assumption|omega|(constructor<;>omega)) ?_))<;>(try simp (disch:=omega) only [push_cast,seval]))
 | (refine Afz ⟨.inr rfl,[],[],_,by decide,rfl,?_⟩;(try simp (disch:=omega) only [push_cast,seval,↓Adz,↓Acz,↓List.map_cons,↓List.map_nil]))))
  refine Ckz (fun V:List ME=>mkS [(1,.int .i64 t),(5,.own 336 (pickT t V).length 1),(9,.sref 1 144)] [(0,[mapC L c]),(144,[itC 0 c (V.map (·.2.2))]),(336,IL (pickT t V))]) (fun V=>Seen L V) (fun V=>L.length - V.length) [] (seen_nil L) ?_ ?_
  · refine SubW.adopt [5] 336 1 (by simp [Vw.hk]) (SubW.of ?_)
    simp only [adL,List.map_cons,List.map_nil,adA,List.contains_cons,List.contains_nil]
    (refine Sub.of_lists ?_ ?_ ?_ ?_ ?_<;>simp [Vw.mkS,Vw.lk,Vw.hk,AV.inn,innL,Apz,Anz,Aqz,-List.map_set,-List.getD_eq_getElem?_getD,pickT_nil])
  · intro V hV
    have hle:=pickT_le t V
    have hvl:=Liz hV
    (repeat' (first
 | (first|refine Agz ?_|refine Abz ?_)
 | ((first|refine Ahz ?_|refine Aez ?_|refine Aoz ?_|refine A1z ?_);simp (disch:=omega) only [push_cast,seval,l103r0,l103r1,l103r2,l103r3,l103r4,l103r5,l103r6,l103r7,l103r8,Asz,Nat.le_refl])
 | ((first|refine Amz (fun h=>?_) (fun h=>?_))<;>(try simp only [h])<;>(try simp only [bitvec_to_nat] at h)<;>(try simp only [h])<;>(first|(exfalso;omega)|(exfalso;simp_all;done)|(simp (disch:=omega) only [push_cast,seval,Asz,Nat.le_refl])|skip))
 | ((first|(refine Cgz (by kernel_rfl) (by (simp (disch:=omega) only [push_cast,seval,Asz,Nat.le_refl])<;>rfl) ?_)|(refine Bqz (t:=23) (sz:=1) (zs:=[.int .i64 0]) (by kernel_rfl) (by (simp (disch:=omega) only [push_cast,seval,Asz,Nat.le_refl])<;>rfl) (by (simp (disch:=omega) only [push_cast,seval,Asz,Nat.le_refl])<;>rfl) (by first|assumption|omega|(constructor<;>omega)) (by first|((simp (disch:=omega) only [push_cast,seval,Asz,Nat.le_refl]);done)|((simp (disch:=omega) only [push_cast,seval,Asz,Nat.le_refl]);exact ⟨rfl,by omega⟩)) ?_)|(refine Bqz (t:=127) (sz:=2) (zs:=[.int .i64 0,.int .i64 0]) (by kernel_rfl) (by (simp (disch:=omega) only [push_cast,seval,Asz,Nat.le_refl])<;>rfl) (by (simp (disch:=omega) only [push_cast,seval,Asz,Nat.le_refl])<;>rfl) (by first|assumption|omega|(constructor<;>omega)) (by first|((simp (disch:=omega) only [push_cast,seval,Asz,Nat.le_refl]);done)|((simp (disch:=omega) only [push_cast,seval,Asz,Nat.le_refl]);exact ⟨rfl,by omega⟩)) ?_)|(refine Dhz (len:=3) (by kernel_rfl) (by (simp (disch:=omega) only [push_cast,seval,Asz,Nat.le_refl])<;>rfl) (by (simp (disch:=omega) only [push_cast,seval,Asz,Nat.le_refl])<;>rfl) (by first|assumption|omega|(constructor<;>omega)) (by first|rfl|((simp (disch:=omega) only [push_cast,seval,Asz,Nat.le_refl]);rfl)) ?_)|(refine raw_range (by kernel_rfl) (by (simp (disch:=omega) only [push_cast,seval,Asz,Nat.le_refl])<;>rfl) (by (simp (disch:=omega) only [push_cast,seval,Asz,Nat.le_refl])<;>rfl) (by first|((simp (disch:=omega) only [push_cast,seval,Asz,Nat.le_refl]);done)|((simp (disch:=omega) only [push_cast,seval,Asz,Nat.le_refl]);exact ⟨rfl,by omega⟩)) ?_)|(refine raw_next (by (simp (disch:=omega) only [push_cast,seval,Asz,Nat.le_refl])<;>rfl) (by (simp (disch:=omega) only [push_cast,seval,Asz,Nat.le_refl])<;>rfl) (by (simp (disch:=omega) only [push_cast,seval,Asz,Nat.le_refl])<;>rfl) (by first|assumption|omega|(constructor<;>omega)) (fun hall=>?_) (fun p hp hns=>?_))|(refine raw_entry (by (simp (disch:=omega) only [push_cast,seval,Asz,Nat.le_refl])<;>rfl) (by (simp (disch:=omega) only [push_cast,seval,Asz,Nat.le_refl])<;>rfl) (by (simp (disch:=omega) only [push_cast,seval,Asz,Nat.le_refl])<;>rfl) (by first|(refine ⟨?_,rfl⟩;assumption)|assumption) (by first|assumption|omega|(constructor<;>omega)) ?_))<;>(try simp (disch:=omega) only [push_cast,seval,Asz,Nat.le_refl]))
 | ((first|((with_reducible refine A6z (f:=131) [336] false ?_);simp (disch:=omega) only [push_cast,seval,Asz,Nat.le_refl];(refine E8z (id:=336) (sort_ok _ _ ?_ ?_) (by (simp (disch:=omega) only [push_cast,seval,Asz,Nat.le_refl])<;>rfl) ?_;(iterate 2 (exact sd));rintro _ _ ⟨rfl,rfl⟩)))<;>(try simp (disch:=omega) only [push_cast,seval,Asz,Nat.le_refl]))
 | (refine Afz ⟨.inr rfl,[336],[],_,by decide,rfl,?_⟩;(try simp (disch:=omega) only [push_cast,seval,↓Adz,↓Acz,↓List.map_cons,↓List.map_nil,Asz,Nat.le_refl]))))
    · have e1:=seen_all hT hV hall hb.1 hs
      have e2:=Asz (pickT t V)
      rw [e1] at e2
      simp [e1,e2]
    · refine ⟨V ++ [p],G2z hV hp hns,?_,SubW.of ?_⟩
      · have:=Liz (G2z hV hp hns)
        simp at this ⊢;omega
      · have e3:=pickT_yes (V:=V) h
        (refine Sub.of_lists ?_ ?_ ?_ ?_ ?_<;>simp [Vw.mkS,Vw.lk,Vw.hk,AV.inn,innL,Apz,Anz,Aqz,-List.map_set,-List.getD_eq_getElem?_getD,e3])
    · refine ⟨V ++ [p],G2z hV hp hns,?_,SubW.of ?_⟩
      · have:=Liz (G2z hV hp hns)
        simp at this ⊢;omega
      · have e3:=pickT_no (V:=V) (p:=p) (t:=t) (by omega)
        (refine Sub.of_lists ?_ ?_ ?_ ?_ ?_<;>simp [Vw.mkS,Vw.lk,Vw.hk,AV.inn,innL,Apz,Anz,Aqz,-List.map_set,-List.getD_eq_getElem?_getD,e3])


set_option maxHeartbeats 8000000 in
theorem tallyOf_ok (vs:List Vw3) (n:Nat) (hn:vs.length=n) (hb:n ≤ 8 ∧ ∀ v ∈ vs,okV v.1 v.2.1 v.2.2 ∧ v.2.2.length=v.2.1.length):BCall Tryz.prog 102 [.rows false (VLs vs) n] [] (fun r H'=>r=.sref 0 0 ∧ ∃ L c,Tal L c (cnt (allO vs)) ∧ H'=[[mapC L c]]):=by
  subst hn
  obtain ⟨hb1,hb2⟩:=hb
  refine Auz (pins:=[]) (pin:=0) l102_eq rfl rfl rfl ?_
  (repeat' (first
 | (first|refine Agz ?_|refine Abz ?_)
 | ((first|refine Ahz ?_);simp (disch:=omega) only [push_cast,seval,l102r0,l102r1,l102r2,l102r3,l102r4,l102r5,l102r6,l102r7])
 | ((first|(refine Cgz (by kernel_rfl) (by (simp (disch:=omega) only [push_cast,seval])<;>rfl) ?_)|(refine Bqz (t:=23) (sz:=1) (zs:=[.int .i64 0]) (by kernel_rfl) (by (simp (disch:=omega) only [push_cast,seval])<;>rfl) (by (simp (disch:=omega) only [push_cast,seval])<;>rfl) (by first|assumption|omega|(constructor<;>omega)) (by first|((simp (disch:=omega) only [push_cast,seval]);done)|((simp (disch:=omega) only [push_cast,seval]);exact ⟨rfl,by omega⟩)) ?_)|(refine Bqz (t:=127) (sz:=2) (zs:=[.int .i64 0,.int .i64 0]) (by kernel_rfl) (by (simp (disch:=omega) only [push_cast,seval])<;>rfl) (by (simp (disch:=omega) only [push_cast,seval])<;>rfl) (by first|assumption|omega|(constructor<;>omega)) (by first|((simp (disch:=omega) only [push_cast,seval]);done)|((simp (disch:=omega) only [push_cast,seval]);exact ⟨rfl,by omega⟩)) ?_)|(refine Dhz (len:=3) (by kernel_rfl) (by (simp (disch:=omega) only [push_cast,seval])<;>rfl) (by (simp (disch:=omega) only [push_cast,seval])<;>rfl) (by first|assumption|omega|(constructor<;>omega)) (by first|rfl|((simp (disch:=omega) only [push_cast,seval]);rfl)) ?_)|(refine Gpz (by first|((simp (disch:=omega) only [push_cast,seval]);done)|((simp (disch:=omega) only [push_cast,seval]);exact ⟨rfl,by omega⟩)) ?_))<;>(try simp (disch:=omega) only [push_cast,seval]))
 | (refine Afz ⟨.inr rfl,[96],[],_,by decide,rfl,?_⟩;(try simp (disch:=omega) only [push_cast,seval,↓Adz,↓Acz,↓List.map_cons,↓List.map_nil]))))
  have hvl:=K2z vs
  refine A7z (fun x:Nat × List ME × Nat=>mkS [(3,.sref 0 96),(7,.rows false (VLs vs) vs.length),(8,.int .i64 vs.length),(9,.int .i64 x.1)] [(96,[mapC x.2.1 x.2.2])]) (fun x=>x.1 ≤ vs.length ∧ Tal x.2.1 x.2.2 (cnt (allO (vs.take x.1)))) (fun x=>vs.length - x.1) (0,[],0) ⟨Nat.zero_le _,tal_nil 0⟩ ?_ ?_
  · (refine Sub.of_lists ?_ ?_ ?_ ?_ ?_<;>simp [Vw.mkS,Vw.lk,Vw.hk,AV.inn,innL,Apz,Anz,Aqz,-List.map_set,-List.getD_eq_getElem?_getD,Lzz])
  · rintro ⟨i,L1,c1⟩ ⟨hi,hT1⟩
    simp only at hi hT1
    by_cases hlt:i < vs.length
    · obtain ⟨⟨b,sh,st⟩,hv⟩:∃ v,vs[i]?=some v:=⟨_,List.getElem?_eq_getElem hlt⟩
      have hvm:=List.mem_of_getElem? hv
      have hok:=hb2 _ hvm
      simp only at hok
      have hd:=VLs_drop vs i hv
      have hol:=A8z b sh st
      have hpb:=hok.1.1.2
      have h60:(offs b sh st).length ≤ 1000:=by omega
      have hsn:=Kcz vs i hv
      have hcb:∀ k,cnt (allO (vs.take i)) k ≤ 1000000:=fun k=>by
        have:=cnt_le (allO (vs.take i)) k
        have:=allO_len (vs.take i) (fun v hv=>by have:=hb2 v (List.mem_of_mem_take hv);rw [A8z];have:=this.1.1.2;omega)
        rw [List.length_take] at this
        omega
      have hil:i * 3 + 3 ≤ vs.length * 3:=by omega
      generalize hO:offs b sh st=O at *
      have hcb2:O.length ≤ 1000 ∧ ∀ k,cnt (allO (vs.take i)) k ≤ 1000000:=⟨h60,hcb⟩
      (repeat' (first
 | (first|refine Agz ?_|refine Abz ?_)
 | ((first|refine Ahz ?_|refine Aez ?_|refine Aoz ?_);simp (disch:=omega) only [push_cast,seval,l102r0,l102r1,l102r2,l102r3,l102r4,l102r5,l102r6,l102r7,hd,hvl,hO,hil,List.length_map])
 | ((first|refine Amz (fun h=>?_) (fun h=>?_))<;>(try simp only [h])<;>(try simp only [bitvec_to_nat] at h)<;>(try simp only [h])<;>(first|(exfalso;omega)|(exfalso;simp_all;done)|(simp (disch:=omega) only [push_cast,seval,hd,hvl,hO,hil,List.length_map])|skip))
 | ((first|(refine Cgz (by kernel_rfl) (by (simp (disch:=omega) only [push_cast,seval,hd,hvl,hO,hil,List.length_map])<;>rfl) ?_)|(refine Bqz (t:=23) (sz:=1) (zs:=[.int .i64 0]) (by kernel_rfl) (by (simp (disch:=omega) only [push_cast,seval,hd,hvl,hO,hil,List.length_map])<;>rfl) (by (simp (disch:=omega) only [push_cast,seval,hd,hvl,hO,hil,List.length_map])<;>rfl) (by first|assumption|omega|(constructor<;>omega)) (by first|((simp (disch:=omega) only [push_cast,seval,hd,hvl,hO,hil,List.length_map]);done)|((simp (disch:=omega) only [push_cast,seval,hd,hvl,hO,hil,List.length_map]);exact ⟨rfl,by omega⟩)) ?_)|(refine Bqz (t:=127) (sz:=2) (zs:=[.int .i64 0,.int .i64 0]) (by kernel_rfl) (by (simp (disch:=omega) only [push_cast,seval,hd,hvl,hO,hil,List.length_map])<;>rfl) (by (simp (disch:=omega) only [push_cast,seval,hd,hvl,hO,hil,List.length_map])<;>rfl) (by first|assumption|omega|(constructor<;>omega)) (by first|((simp (disch:=omega) only [push_cast,seval,hd,hvl,hO,hil,List.length_map]);done)|((simp (disch:=omega) only [push_cast,seval,hd,hvl,hO,hil,List.length_map]);exact ⟨rfl,by omega⟩)) ?_)|(refine Dhz (len:=3) (by kernel_rfl) (by (simp (disch:=omega) only [push_cast,seval,hd,hvl,hO,hil,List.length_map])<;>rfl) (by (simp (disch:=omega) only [push_cast,seval,hd,hvl,hO,hil,List.length_map])<;>rfl) (by first|assumption|omega|(constructor<;>omega)) (by first|rfl|((simp (disch:=omega) only [push_cast,seval,hd,hvl,hO,hil,List.length_map]);rfl)) ?_)|(refine Gpz (by first|((simp (disch:=omega) only [push_cast,seval,hd,hvl,hO,hil,List.length_map]);done)|((simp (disch:=omega) only [push_cast,seval,hd,hvl,hO,hil,List.length_map]);exact ⟨rfl,by omega⟩)) ?_))<;>(try simp (disch:=omega) only [push_cast,seval,hd,hvl,hO,hil,List.length_map]))
 | ((first|((with_reducible refine A6z (f:=125) [96] false ?_);simp (disch:=omega) only [push_cast,seval,hd,hvl,hO,hil,List.length_map];(refine E8z (id:=96) (tmeet_ok _ _ _ _ _ ?_ (by assumption) ?_) (by (simp (disch:=omega) only [push_cast,seval,hd,hvl,hO,hil,List.length_map])<;>rfl) ?_;(iterate 2 (exact sd));rintro _ _ ⟨rfl,L',c',hT',rfl⟩)))<;>(try simp (disch:=omega) only [push_cast,seval,hd,hvl,hO,hil,List.length_map]))
 | ((first|refine Alz false ?_);simp (disch:=omega) only [push_cast,seval,hd,hvl,hO,hil,List.length_map])
 | ((first|((first|refine Akz (D7z _ _ _ _ _ ?_ ?_ ?_) ?_|refine Aiz (D7z _ _ _ _ _ ?_ ?_ ?_) ⟨_,_,rfl,rfl⟩ ?_);(iterate 3 (exact sd));rintro _ _ ⟨rfl,rfl⟩))<;>(try simp (disch:=omega) only [push_cast,seval,hd,hvl,hO,hil,List.length_map]))
 | (refine Afz ⟨.inr rfl,[96],[],_,by decide,rfl,?_⟩;(try simp (disch:=omega) only [push_cast,seval,↓Adz,↓Acz,↓List.map_cons,↓List.map_nil,hd,hvl,hO,hil,List.length_map]))))
      refine ⟨(i + 1,L',c'),⟨by simp only;omega,?_⟩,by simp only;omega,?_⟩
      · simp only
        rw [hsn]
        exact tal_congr hT' fun k=>by simp [addF,cnt,List.count_append]
      · (refine Sub.of_lists ?_ ?_ ?_ ?_ ?_<;>simp [Vw.mkS,Vw.lk,Vw.hk,AV.inn,innL,Apz,Anz,Aqz,-List.map_set,-List.getD_eq_getElem?_getD,Lzz])
    · have e:i=vs.length:=by omega
      subst e
      rw [List.take_length] at hT1
      (repeat' (first
 | (first|refine Agz ?_|refine Abz ?_)
 | ((first|refine Ahz ?_|refine Aez ?_|refine A1z ?_);simp (disch:=omega) only [push_cast,seval,l102r0,l102r1,l102r2,l102r3,l102r4,l102r5,l102r6,l102r7])
 | ((first|refine Amz (fun h=>?_) (fun h=>?_))<;>(try simp only [h])<;>(try simp only [bitvec_to_nat] at h)<;>(try simp only [h])<;>(first|(exfalso;omega)|(exfalso;simp_all;done)|(simp (disch:=omega) only [push_cast,seval])|skip))
 | ((first|(refine Cgz (by kernel_rfl) (by (simp (disch:=omega) only [push_cast,seval])<;>rfl) ?_)|(refine Bqz (t:=23) (sz:=1) (zs:=[.int .i64 0]) (by kernel_rfl) (by (simp (disch:=omega) only [push_cast,seval])<;>rfl) (by (simp (disch:=omega) only [push_cast,seval])<;>rfl) (by first|assumption|omega|(constructor<;>omega)) (by first|((simp (disch:=omega) only [push_cast,seval]);done)|((simp (disch:=omega) only [push_cast,seval]);exact ⟨rfl,by omega⟩)) ?_)|(refine Bqz (t:=127) (sz:=2) (zs:=[.int .i64 0,.int .i64 0]) (by kernel_rfl) (by (simp (disch:=omega) only [push_cast,seval])<;>rfl) (by (simp (disch:=omega) only [push_cast,seval])<;>rfl) (by first|assumption|omega|(constructor<;>omega)) (by first|((simp (disch:=omega) only [push_cast,seval]);done)|((simp (disch:=omega) only [push_cast,seval]);exact ⟨rfl,by omega⟩)) ?_)|(refine Dhz (len:=3) (by kernel_rfl) (by (simp (disch:=omega) only [push_cast,seval])<;>rfl) (by (simp (disch:=omega) only [push_cast,seval])<;>rfl) (by first|assumption|omega|(constructor<;>omega)) (by first|rfl|((simp (disch:=omega) only [push_cast,seval]);rfl)) ?_)|(refine Gpz (by first|((simp (disch:=omega) only [push_cast,seval]);done)|((simp (disch:=omega) only [push_cast,seval]);exact ⟨rfl,by omega⟩)) ?_))<;>(try simp (disch:=omega) only [push_cast,seval]))
 | (refine Afz ⟨.inr rfl,[96],[],_,by decide,rfl,?_⟩;(try simp (disch:=omega) only [push_cast,seval,↓Adz,↓Acz,↓List.map_cons,↓List.map_nil]))))
      exact ⟨L1,c1,hT1,rfl⟩
theorem tallyOf1_ok (b:Int) (sh st:List Int) (n m:Nat) (hn:sh.length=n) (hm:st.length=m) (hb:okV b sh st ∧ st.length=sh.length):BCall Tryz.prog 102 [.rows false [.int .i64 b,.rows false (IL sh) n,.rows false (IL st) m] 1] [] (fun r H'=>r=.sref 0 0 ∧ ∃ L c,Tal L c (cnt (offs b sh st)) ∧ H'=[[mapC L c]]):=by
  subst hn hm
  have:=tallyOf_ok [(b,sh,st)] 1 rfl ⟨by omega,fun v hv=>by simp at hv;subst hv;exact hb⟩
  simpa [allO,VLs] using this


set_option maxHeartbeats 8000000 in
theorem Jzz (b:Int) (sh st:List Int) (n m:Nat) (hn:sh.length=n) (hm:st.length=m) (hv:vV b sh st=true):BCall Tryz.prog 63 [.agg [.int .i64 b,.rows false (IL sh) n,.rows false (IL st) m]] [] (OI (bothL (offs b sh st) (offs b sh st))):=by
  subst hn hm
  have hcs:=K5z hv
  have hok:=Coz hv
  have hb0:=cnt_support hcs
  have hat:=atL_one (offs b sh st)
  have hol:=A8z b sh st
  have hpb:=hok.1.1.2
  have h60:(offs b sh st).length ≤ 1000:=by omega
  refine Auz (pins:=[]) (pin:=0) l63_eq rfl rfl rfl ?_
  (repeat' (first
 | (first|refine Agz ?_|refine Abz ?_)
 | ((first|refine Ahz ?_);simp (disch:=omega) only [push_cast,seval,l63r0,l63r1,hat,List.length_map])
 | ((first|((with_reducible refine A6z (f:=103) [80] false ?_);simp (disch:=omega) only [push_cast,seval,hat,List.length_map];(refine E8z (id:=80) (atLeast_ok _ _ _ _ (by assumption) ?_ ?_) (by (simp (disch:=omega) only [push_cast,seval,hat,List.length_map])<;>rfl) ?_;(iterate 2 (exact sd));rintro _ _ ⟨rfl,rfl⟩)))<;>(try simp (disch:=omega) only [push_cast,seval,hat,List.length_map]))
 | ((first|refine Alz false ?_);simp (disch:=omega) only [push_cast,seval,hat,List.length_map])
 | ((first|(refine Akz (tallyOf1_ok _ _ _ _ _ ?_ ?_ ?_) ?_;(iterate 3 (exact sd));rintro _ _ ⟨rfl,L,c,hT,rfl⟩))<;>(try simp (disch:=omega) only [push_cast,seval,hat,List.length_map]))
 | (refine Afz ⟨.inr rfl,[96],[],_,by decide,rfl,?_⟩;(try simp (disch:=omega) only [push_cast,seval,↓Adz,↓Acz,↓List.map_cons,↓List.map_nil,hat,List.length_map]))))
  all_goals exact ⟨rfl,rfl⟩

end Go.Proofs.YtkpcjppnjmhanaaGreatDoor
namespace Go.Proofs.YtkpcjppnjmhanaaGreatDoor
open VwM Vw Go
variable [SentA]

set_option maxHeartbeats 8000000 in
theorem iCe_ok (b:Int) (sh st:List Int) (n m:Nat) (hn:sh.length=n) (hm:st.length=m) (hb:n ≤ 1099511627776 ∧ m ≤ 1099511627776):BCall Tryz.prog 24 [.agg [.int .i64 b,.rows false (IL sh) n,.rows false (IL st) m]] [] (OI (MVL (vV b sh st) (bothL (offs b sh st) (offs b sh st)))):=by
  subst hn hm
  obtain ⟨hb1,hb2⟩:=hb
  refine Auz (pins:=[]) (pin:=0) l24_eq rfl rfl rfl ?_
  cases hv:vV b sh st with
  | false =>
    (repeat' (first
 | (first|refine Agz ?_|refine Abz ?_)
 | ((first|refine Ahz ?_|refine Aez ?_);simp (disch:=omega) only [push_cast,seval,l24r0,l24r1,l24r2,l24r3,hv])
 | ((first|refine Alz false ?_);simp (disch:=omega) only [push_cast,seval,hv])
 | ((first|((first|refine Akz (Ajz (A0z _ _ _ _ _ ?_ ?_ ?_)) ?_|refine Aiz (Ajz (A0z _ _ _ _ _ ?_ ?_ ?_)) ⟨_,_,rfl,rfl⟩ ?_);(iterate 3 (exact sd));rintro _ _ ⟨rfl,rfl⟩))<;>(try simp (disch:=omega) only [push_cast,seval,hv]))
 | (refine Afz ⟨.inr rfl,[16000],[(16000,1)],_,by decide,rfl,?_⟩;(try simp (disch:=omega) only [push_cast,seval,↓Adz,↓Acz,↓List.map_cons,↓List.map_nil,hv]))))
    all_goals simp [OI,MVL]
  | true =>
    have hl:=bothL_le (offs b sh st) (offs b sh st)
    have hok:=Coz hv
    (repeat' (first
 | (first|refine Agz ?_|refine Abz ?_)
 | ((first|refine Ahz ?_|refine Aez ?_|refine Aoz ?_);simp (disch:=omega) only [push_cast,seval,l24r0,l24r1,l24r2,l24r3,hv])
 | ((first|refine Alz false ?_);simp (disch:=omega) only [push_cast,seval,hv])
 | ((first|((first|refine Akz (Ajz (A0z _ _ _ _ _ ?_ ?_ ?_)) ?_|refine Aiz (Ajz (A0z _ _ _ _ _ ?_ ?_ ?_)) ⟨_,_,rfl,rfl⟩ ?_);(iterate 3 (exact sd));rintro _ _ ⟨rfl,rfl⟩)|((first|refine Akz (Jzz _ _ _ _ _ ?_ ?_ ?_) ?_|refine Aiz (Jzz _ _ _ _ _ ?_ ?_ ?_) ⟨_,_,rfl,rfl⟩ ?_);(iterate 3 (exact sd));rintro _ _ ⟨rfl,rfl⟩))<;>(try simp (disch:=omega) only [push_cast,seval,hv]))
 | (refine Afz ⟨.inr rfl,[64],[],_,by decide,rfl,?_⟩;(try simp (disch:=omega) only [push_cast,seval,↓Adz,↓Acz,↓List.map_cons,↓List.map_nil,hv]);(first|done|(show AV.own _ _ _=_ ∧ _)))
 | (refine Afz ⟨.inr rfl,[112],[],_,by decide,rfl,?_⟩;(try simp (disch:=omega) only [push_cast,seval,↓Adz,↓Acz,↓List.map_cons,↓List.map_nil,hv]);(first|done|(show AV.own _ _ _=_ ∧ _)))))
    all_goals simp [OI,MVL]

end Go.Proofs.YtkpcjppnjmhanaaGreatDoor
namespace Go.Proofs.YtkpcjppnjmhanaaGreatDoor
open VwM Vw Go
variable [SentA]

end Go.Proofs.YtkpcjppnjmhanaaGreatDoor
