/- Texts of this verifier. -/
import Derived.Test.YtkpcjppnjmhanaaGreatDoorCB11
import Derived.Test.YtkpcjppnjmhanaaGreatDoorCM1
import Derived.Test.YtkpcjppnjmhanaaGreatDoorCW3
set_option maxHeartbeats 4000000
set_option linter.unusedSimpArgs false
set_option linter.unusedSectionVars false
set_option linter.unusedVariables false
set_option maxRecDepth 4000
namespace Go.Proofs.YtkpcjppnjmhanaaGreatDoor
open VwM Vw Go
variable [SentA]

set_option maxHeartbeats 8000000 in
theorem tmeet_ok (L:List ME) (c:Nat) (f:Int → Nat) (xs:List Int) (n:Nat) (hn:xs.length=n) (hT:Tal L c f) (hb:n ≤ 1000 ∧ ∀ k,f k ≤ 1000000):BCall Tryz.prog 125 [.sref 0 0,.rows false (IL xs) n] [[mapC L c]] (fun r H'=>r=.tup [] ∧ ∃ L' c',Tal L' c' (addF f (cnt xs)) ∧ H'=[[mapC L' c']]):=by
  subst hn
  obtain ⟨hb1,hb2⟩:=hb
  refine Auz (pins:=[0]) (pin:=1) l125_eq rfl rfl rfl ?_
  (repeat' (first
 | (first|refine Agz ?_|refine Abz ?_)
 | ((first|refine Ahz ?_);simp (disch:=omega) only [push_cast,seval,l125r0,l125r1,l125r2,l125r3,l125r4])
 | ((first|(refine Clz (by kernel_rfl) (by (simp (disch:=omega) only [push_cast,seval])<;>rfl) ?_)|(refine Bqz (t:=23) (sz:=1) (zs:=[.int .i64 0]) (by kernel_rfl) (by (simp (disch:=omega) only [push_cast,seval])<;>rfl) (by (simp (disch:=omega) only [push_cast,seval])<;>rfl) (by first|assumption|omega|(constructor<;>omega)) (by first|((simp (disch:=omega) only [push_cast,seval]);done)|((simp (disch:=omega) only [push_cast,seval]);exact ⟨rfl,by omega⟩)) ?_)|(refine Bqz (t:=127) (sz:=2) (zs:=[.int .i64 0,.int .i64 0]) (by kernel_rfl) (by (simp (disch:=omega) only [push_cast,seval])<;>rfl) (by (simp (disch:=omega) only [push_cast,seval])<;>rfl) (by first|assumption|omega|(constructor<;>omega)) (by first|((simp (disch:=omega) only [push_cast,seval]);done)|((simp (disch:=omega) only [push_cast,seval]);exact ⟨rfl,by omega⟩)) ?_)|(refine Dhz (len:=3) (by kernel_rfl) (by (simp (disch:=omega) only [push_cast,seval])<;>rfl) (by (simp (disch:=omega) only [push_cast,seval])<;>rfl) (by first|assumption|omega|(constructor<;>omega)) (by first|rfl|((simp (disch:=omega) only [push_cast,seval]);rfl)) ?_)|(refine Hwz (by kernel_rfl) (by (simp (disch:=omega) only [push_cast,seval])<;>rfl) (by (simp (disch:=omega) only [push_cast,seval])<;>rfl) (by (simp (disch:=omega) only [push_cast,seval])<;>rfl) ?_)|(refine Evz (by kernel_rfl) (by (simp (disch:=omega) only [push_cast,seval])<;>rfl) (by (simp (disch:=omega) only [push_cast,seval])<;>rfl) (by (simp (disch:=omega) only [push_cast,seval])<;>rfl) (by (simp (disch:=omega) only [push_cast,seval])<;>rfl) ?_))<;>(try simp (disch:=omega) only [push_cast,seval]))
 | (refine Aez ⟨.inr rfl,[],[],_,by decide,rfl,?_⟩;(try simp (disch:=omega) only [push_cast,seval,↓Afz,↓Acz,↓List.map_cons,↓List.map_nil]))))
  refine A7z (fun x:Nat × List ME × Nat=>mkS [(0,.sref 0 0),(6,RI xs),(7,.int .i64 xs.length),(8,.int .i64 x.1)] [(0,[mapC x.2.1 x.2.2])]) (fun x=>x.1 ≤ xs.length ∧ Tal x.2.1 x.2.2 (addF f (cnt (xs.take x.1)))) (fun x=>xs.length - x.1) (0,L,c) ⟨Nat.zero_le _,by simpa [addF_nil] using hT⟩ ?_ ?_
  · (refine Sub.of_lists ?_ ?_ ?_ ?_ ?_<;>simp [Vw.mkS,Vw.lk,Vw.hk,AV.inn,innL,Apz,Anz,Aqz,-List.map_set,-List.getD_eq_getElem?_getD])
  · rintro ⟨i,L1,c1⟩ ⟨hi,hT1⟩
    simp only at hi hT1
    by_cases hlt:i < xs.length
    · have hx:=hT1.1 (xs.getD i 0)
      have hb3:addF f (cnt (xs.take i)) (xs.getD i 0) ≤ 1001000:=by
        have:=hb2 (xs.getD i 0)
        have:=cnt_take_le xs i (xs.getD i 0)
        simp only [addF];omega
      have hput:=tal_put hT1 (xs.getD i 0) rfl
      rw [addF_snoc f xs i hlt] at hput
      generalize hv:addF f (cnt (xs.take i)) (xs.getD i 0)=v at *
      (repeat' (first
 | (first|refine Agz ?_|refine Abz ?_)
 | ((first|refine Ahz ?_|refine Adz ?_|refine Aoz ?_);simp (disch:=omega) only [push_cast,seval,l125r0,l125r1,l125r2,l125r3,l125r4,hx])
 | ((first|refine Amz (fun h=>?_) (fun h=>?_))<;>(try simp only [h])<;>(try simp only [bitvec_to_nat] at h)<;>(try simp only [h])<;>(first|(exfalso;omega)|(exfalso;simp_all;done)|(simp (disch:=omega) only [push_cast,seval,hx])|skip))
 | ((first|(refine Clz (by kernel_rfl) (by (simp (disch:=omega) only [push_cast,seval,hx])<;>rfl) ?_)|(refine Bqz (t:=23) (sz:=1) (zs:=[.int .i64 0]) (by kernel_rfl) (by (simp (disch:=omega) only [push_cast,seval,hx])<;>rfl) (by (simp (disch:=omega) only [push_cast,seval,hx])<;>rfl) (by first|assumption|omega|(constructor<;>omega)) (by first|((simp (disch:=omega) only [push_cast,seval,hx]);done)|((simp (disch:=omega) only [push_cast,seval,hx]);exact ⟨rfl,by omega⟩)) ?_)|(refine Bqz (t:=127) (sz:=2) (zs:=[.int .i64 0,.int .i64 0]) (by kernel_rfl) (by (simp (disch:=omega) only [push_cast,seval,hx])<;>rfl) (by (simp (disch:=omega) only [push_cast,seval,hx])<;>rfl) (by first|assumption|omega|(constructor<;>omega)) (by first|((simp (disch:=omega) only [push_cast,seval,hx]);done)|((simp (disch:=omega) only [push_cast,seval,hx]);exact ⟨rfl,by omega⟩)) ?_)|(refine Dhz (len:=3) (by kernel_rfl) (by (simp (disch:=omega) only [push_cast,seval,hx])<;>rfl) (by (simp (disch:=omega) only [push_cast,seval,hx])<;>rfl) (by first|assumption|omega|(constructor<;>omega)) (by first|rfl|((simp (disch:=omega) only [push_cast,seval,hx]);rfl)) ?_)|(refine Hwz (by kernel_rfl) (by (simp (disch:=omega) only [push_cast,seval,hx])<;>rfl) (by (simp (disch:=omega) only [push_cast,seval,hx])<;>rfl) (by (simp (disch:=omega) only [push_cast,seval,hx])<;>rfl) ?_)|(refine Evz (by kernel_rfl) (by (simp (disch:=omega) only [push_cast,seval,hx])<;>rfl) (by (simp (disch:=omega) only [push_cast,seval,hx])<;>rfl) (by (simp (disch:=omega) only [push_cast,seval,hx])<;>rfl) (by (simp (disch:=omega) only [push_cast,seval,hx])<;>rfl) ?_))<;>(try simp (disch:=omega) only [push_cast,seval,hx]))
 | (refine Aez ⟨.inr rfl,[],[],_,by decide,rfl,?_⟩;(try simp (disch:=omega) only [push_cast,seval,↓Afz,↓Acz,↓List.map_cons,↓List.map_nil,hx]))))
      refine ⟨(i + 1,mput L1 c1 (xs.getD i 0) ((v:Int) + 1),mclk L1 c1 (xs.getD i 0)),⟨by simp only;omega,hput⟩,by simp only;omega,?_⟩
      (refine Sub.of_lists ?_ ?_ ?_ ?_ ?_<;>simp [Vw.mkS,Vw.lk,Vw.hk,AV.inn,innL,Apz,Anz,Aqz,-List.map_set,-List.getD_eq_getElem?_getD])
    · have e:i=xs.length:=by omega
      subst e
      rw [List.take_length] at hT1
      (repeat' (first
 | (first|refine Agz ?_|refine Abz ?_)
 | ((first|refine Ahz ?_|refine Adz ?_|refine A1z ?_);simp (disch:=omega) only [push_cast,seval,l125r0,l125r1,l125r2,l125r3,l125r4])
 | ((first|refine Amz (fun h=>?_) (fun h=>?_))<;>(try simp only [h])<;>(try simp only [bitvec_to_nat] at h)<;>(try simp only [h])<;>(first|(exfalso;omega)|(exfalso;simp_all;done)|(simp (disch:=omega) only [push_cast,seval])|skip))
 | ((first|(refine Clz (by kernel_rfl) (by (simp (disch:=omega) only [push_cast,seval])<;>rfl) ?_)|(refine Bqz (t:=23) (sz:=1) (zs:=[.int .i64 0]) (by kernel_rfl) (by (simp (disch:=omega) only [push_cast,seval])<;>rfl) (by (simp (disch:=omega) only [push_cast,seval])<;>rfl) (by first|assumption|omega|(constructor<;>omega)) (by first|((simp (disch:=omega) only [push_cast,seval]);done)|((simp (disch:=omega) only [push_cast,seval]);exact ⟨rfl,by omega⟩)) ?_)|(refine Bqz (t:=127) (sz:=2) (zs:=[.int .i64 0,.int .i64 0]) (by kernel_rfl) (by (simp (disch:=omega) only [push_cast,seval])<;>rfl) (by (simp (disch:=omega) only [push_cast,seval])<;>rfl) (by first|assumption|omega|(constructor<;>omega)) (by first|((simp (disch:=omega) only [push_cast,seval]);done)|((simp (disch:=omega) only [push_cast,seval]);exact ⟨rfl,by omega⟩)) ?_)|(refine Dhz (len:=3) (by kernel_rfl) (by (simp (disch:=omega) only [push_cast,seval])<;>rfl) (by (simp (disch:=omega) only [push_cast,seval])<;>rfl) (by first|assumption|omega|(constructor<;>omega)) (by first|rfl|((simp (disch:=omega) only [push_cast,seval]);rfl)) ?_)|(refine Hwz (by kernel_rfl) (by (simp (disch:=omega) only [push_cast,seval])<;>rfl) (by (simp (disch:=omega) only [push_cast,seval])<;>rfl) (by (simp (disch:=omega) only [push_cast,seval])<;>rfl) ?_)|(refine Evz (by kernel_rfl) (by (simp (disch:=omega) only [push_cast,seval])<;>rfl) (by (simp (disch:=omega) only [push_cast,seval])<;>rfl) (by (simp (disch:=omega) only [push_cast,seval])<;>rfl) (by (simp (disch:=omega) only [push_cast,seval])<;>rfl) ?_))<;>(try simp (disch:=omega) only [push_cast,seval]))
 | (refine Aez ⟨.inr rfl,[],[],_,by decide,rfl,?_⟩;(try simp (disch:=omega) only [push_cast,seval,↓Afz,↓Acz,↓List.map_cons,↓List.map_nil]))))
      exact ⟨[],[],[],⟨by decide,by simp⟩,rfl,by simp,rfl,L1,c1,hT1,rfl⟩


def ren189:Go.Shelf.Ren:=(⟨fun n=>match n with|125=>156|128=>175|129=>176|189=>131|215=>184|216=>172|257=>155|294=>166|295=>167|296=>168|297=>169|298=>170|299=>171|300=>173|301=>174|328=>179|329=>180|330=>181|331=>182|332=>183|343=>186|_=>0,fun n=>match n with|0=>0|3=>3|4=>4|5=>5|9=>9|28=>23|46=>148|51=>169|53=>172|131=>187|182=>183|183=>184|218=>191|222=>195|228=>198|229=>111|_=>0,fun n=>n⟩:Go.Shelf.Ren)
theorem lays189:Go.Proofs.Lays.n189 Tryz.prog ren189:={ mixed:=by kernel_rfl,f125:=by kernel_rfl,f128:=by kernel_rfl,f129:=by kernel_rfl,f189:=by kernel_rfl,f215:=by kernel_rfl,f216:=by kernel_rfl,f257:=by kernel_rfl,f294:=by kernel_rfl,f295:=by kernel_rfl,f296:=by kernel_rfl,f297:=by kernel_rfl,f298:=by kernel_rfl,f299:=by kernel_rfl,f300:=by kernel_rfl,f301:=by kernel_rfl,f328:=by kernel_rfl,f329:=by kernel_rfl,f330:=by kernel_rfl,f331:=by kernel_rfl,f332:=by kernel_rfl,f343:=by kernel_rfl,t0:=by kernel_rfl,a0:=fun w=>by kernel_rfl,z0:=fun w=>by kernel_rfl,v0:=fun w=>by kernel_rfl,t3:=by kernel_rfl,a3:=fun w=>by kernel_rfl,z3:=fun w=>by kernel_rfl,v3:=fun w=>by kernel_rfl,t4:=by kernel_rfl,a4:=fun w=>by kernel_rfl,z4:=fun w=>by kernel_rfl,v4:=fun w=>by kernel_rfl,t5:=by kernel_rfl,a5:=fun w=>by kernel_rfl,z5:=fun w=>by kernel_rfl,v5:=fun w=>by kernel_rfl,t9:=by kernel_rfl,a9:=fun w=>by kernel_rfl,z9:=fun w=>by kernel_rfl,v9:=fun w=>by kernel_rfl,t28:=by kernel_rfl,a28:=fun w=>by kernel_rfl,z28:=fun w=>by kernel_rfl,v28:=fun w=>by kernel_rfl,t46:=by kernel_rfl,a46:=fun w=>by kernel_rfl,z46:=fun w=>by kernel_rfl,v46:=fun w=>by kernel_rfl,t51:=by kernel_rfl,a51:=fun w=>by kernel_rfl,z51:=fun w=>by kernel_rfl,v51:=fun w=>by kernel_rfl,t53:=by kernel_rfl,a53:=fun w=>by kernel_rfl,z53:=fun w=>by kernel_rfl,v53:=fun w=>by kernel_rfl,t131:=by kernel_rfl,a131:=fun w=>by kernel_rfl,z131:=fun w=>by kernel_rfl,v131:=fun w=>by kernel_rfl,t182:=by kernel_rfl,a182:=fun w=>by kernel_rfl,z182:=fun w=>by kernel_rfl,v182:=fun w=>by kernel_rfl,t183:=by kernel_rfl,a183:=fun w=>by kernel_rfl,z183:=fun w=>by kernel_rfl,v183:=fun w=>by kernel_rfl,t218:=by kernel_rfl,a218:=fun w=>by kernel_rfl,z218:=fun w=>by kernel_rfl,v218:=fun w=>by kernel_rfl,t222:=by kernel_rfl,a222:=fun w=>by kernel_rfl,z222:=fun w=>by kernel_rfl,v222:=fun w=>by kernel_rfl,t228:=by kernel_rfl,a228:=fun w=>by kernel_rfl,z228:=fun w=>by kernel_rfl,v228:=fun w=>by kernel_rfl,t229:=by kernel_rfl,a229:=fun w=>by kernel_rfl,z229:=fun w=>by kernel_rfl,v229:=fun w=>by kernel_rfl }
theorem sort_ok (xs:List Int) (n:Nat) (hn:xs.length=n) (hb:n ≤ 1099511627776):BCall Tryz.prog 131 [.own 0 n 1] [IL xs] (fun r H'=>r=.tup [] ∧ H'=[IL (sorted xs)]):=sort_bcall lays189 xs n hn hb


set_option maxHeartbeats 8000000 in
theorem atLeast_ok (L:List ME) (c:Nat) (f:Int → Nat) (t:Nat) (hT:Tal L c f) (hs:∀ k,0 < f k → 0 ≤ k ∧ k ≤ 59) (hb:1 ≤ t ∧ t ≤ 1000):BCall Tryz.prog 103 [.sref 0 0,.int .i64 t] [[mapC L c]] (fun r H'=>r=.own 1 (atL f t).length 1 ∧ H'=[[mapC L c],IL (atL f t)]):=by
  refine Auz (pins:=[0]) (pin:=1) l103_eq rfl rfl rfl ?_
  have hborn:=hT.2.2.2.2
  have hnod:=hT.2.2.2.1
  have hlen:=tal_len hT hs
  (repeat' (first
 | (first|refine Agz ?_|refine Abz ?_)
 | ((first|refine Ahz ?_);simp (disch:=omega) only [push_cast,seval,l103r0,l103r1,l103r2,l103r3,l103r4,l103r5,l103r6,l103r7,l103r8])
 | ((first|(refine Clz (by kernel_rfl) (by (simp (disch:=omega) only [push_cast,seval])<;>rfl) ?_)|(refine Bqz (t:=23) (sz:=1) (zs:=[.int .i64 0]) (by kernel_rfl) (by (simp (disch:=omega) only [push_cast,seval])<;>rfl) (by (simp (disch:=omega) only [push_cast,seval])<;>rfl) (by first|assumption|omega|(constructor<;>omega)) (by first|((simp (disch:=omega) only [push_cast,seval]);done)|((simp (disch:=omega) only [push_cast,seval]);exact ⟨rfl,by omega⟩)) ?_)|(refine Bqz (t:=127) (sz:=2) (zs:=[.int .i64 0,.int .i64 0]) (by kernel_rfl) (by (simp (disch:=omega) only [push_cast,seval])<;>rfl) (by (simp (disch:=omega) only [push_cast,seval])<;>rfl) (by first|assumption|omega|(constructor<;>omega)) (by first|((simp (disch:=omega) only [push_cast,seval]);done)|((simp (disch:=omega) only [push_cast,seval]);exact ⟨rfl,by omega⟩)) ?_)|(refine Dhz (len:=3) (by kernel_rfl) (by (simp (disch:=omega) only [push_cast,seval])<;>rfl) (by (simp (disch:=omega) only [push_cast,seval])<;>rfl) (by first|assumption|omega|(constructor<;>omega)) (by first|rfl|((simp (disch:=omega) only [push_cast,seval]);rfl)) ?_)|(refine raw_range (by kernel_rfl) (by (simp (disch:=omega) only [push_cast,seval])<;>rfl) (by (simp (disch:=omega) only [push_cast,seval])<;>rfl) (by first|((simp (disch:=omega) only [push_cast,seval]);done)|((simp (disch:=omega) only [push_cast,seval]);exact ⟨rfl,by omega⟩)) ?_)|(refine raw_next (by (simp (disch:=omega) only [push_cast,seval])<;>rfl) (by (simp (disch:=omega) only [push_cast,seval])<;>rfl) (by (simp (disch:=omega) only [push_cast,seval])<;>rfl) (by first|assumption|omega|(constructor<;>omega)) (fun hall=>?_) (fun p hp hns=>?_))|(refine raw_entry (by (simp (disch:=omega) only [push_cast,seval])<;>rfl) (by (simp (disch:=omega) only [push_cast,seval])<;>rfl) (by (simp (disch:=omega) only [push_cast,seval])<;>rfl) (by first|(refine ⟨?_,rfl⟩;assumption)|assumption) (by first|assumption|omega|(constructor<;>omega)) ?_))<;>(try simp (disch:=omega) only [push_cast,seval]))
 | (refine Aez ⟨.inr rfl,[],[],_,by decide,rfl,?_⟩;(try simp (disch:=omega) only [push_cast,seval,↓Afz,↓Acz,↓List.map_cons,↓List.map_nil]))))
  refine Dlz (fun V:List ME=>mkS [(1,.int .i64 t),(5,.own 336 (pickT t V).length 1),(9,.sref 1 144)] [(0,[mapC L c]),(144,[itC 0 c (V.map (·.2.2))]),(336,IL (pickT t V))]) (fun V=>Seen L V) (fun V=>L.length - V.length) [] (seen_nil L) ?_ ?_
  · refine SubW.adopt [5] 336 1 (by simp [Vw.hk]) (SubW.of ?_)
    simp only [adL,List.map_cons,List.map_nil,adA,List.contains_cons,List.contains_nil]
    (refine Sub.of_lists ?_ ?_ ?_ ?_ ?_<;>simp [Vw.mkS,Vw.lk,Vw.hk,AV.inn,innL,Apz,Anz,Aqz,-List.map_set,-List.getD_eq_getElem?_getD,pickT_nil])
  · intro V hV
    have hle:=pickT_le t V
    have hvl:=Liz hV
    (repeat' (first
 | (first|refine Agz ?_|refine Abz ?_)
 | ((first|refine Ahz ?_|refine Adz ?_|refine Aoz ?_|refine A1z ?_);simp (disch:=omega) only [push_cast,seval,l103r0,l103r1,l103r2,l103r3,l103r4,l103r5,l103r6,l103r7,l103r8,Asz,Nat.le_refl])
 | ((first|refine Amz (fun h=>?_) (fun h=>?_))<;>(try simp only [h])<;>(try simp only [bitvec_to_nat] at h)<;>(try simp only [h])<;>(first|(exfalso;omega)|(exfalso;simp_all;done)|(simp (disch:=omega) only [push_cast,seval,Asz,Nat.le_refl])|skip))
 | ((first|(refine Clz (by kernel_rfl) (by (simp (disch:=omega) only [push_cast,seval,Asz,Nat.le_refl])<;>rfl) ?_)|(refine Bqz (t:=23) (sz:=1) (zs:=[.int .i64 0]) (by kernel_rfl) (by (simp (disch:=omega) only [push_cast,seval,Asz,Nat.le_refl])<;>rfl) (by (simp (disch:=omega) only [push_cast,seval,Asz,Nat.le_refl])<;>rfl) (by first|assumption|omega|(constructor<;>omega)) (by first|((simp (disch:=omega) only [push_cast,seval,Asz,Nat.le_refl]);done)|((simp (disch:=omega) only [push_cast,seval,Asz,Nat.le_refl]);exact ⟨rfl,by omega⟩)) ?_)|(refine Bqz (t:=127) (sz:=2) (zs:=[.int .i64 0,.int .i64 0]) (by kernel_rfl) (by (simp (disch:=omega) only [push_cast,seval,Asz,Nat.le_refl])<;>rfl) (by (simp (disch:=omega) only [push_cast,seval,Asz,Nat.le_refl])<;>rfl) (by first|assumption|omega|(constructor<;>omega)) (by first|((simp (disch:=omega) only [push_cast,seval,Asz,Nat.le_refl]);done)|((simp (disch:=omega) only [push_cast,seval,Asz,Nat.le_refl]);exact ⟨rfl,by omega⟩)) ?_)|(refine Dhz (len:=3) (by kernel_rfl) (by (simp (disch:=omega) only [push_cast,seval,Asz,Nat.le_refl])<;>rfl) (by (simp (disch:=omega) only [push_cast,seval,Asz,Nat.le_refl])<;>rfl) (by first|assumption|omega|(constructor<;>omega)) (by first|rfl|((simp (disch:=omega) only [push_cast,seval,Asz,Nat.le_refl]);rfl)) ?_)|(refine raw_range (by kernel_rfl) (by (simp (disch:=omega) only [push_cast,seval,Asz,Nat.le_refl])<;>rfl) (by (simp (disch:=omega) only [push_cast,seval,Asz,Nat.le_refl])<;>rfl) (by first|((simp (disch:=omega) only [push_cast,seval,Asz,Nat.le_refl]);done)|((simp (disch:=omega) only [push_cast,seval,Asz,Nat.le_refl]);exact ⟨rfl,by omega⟩)) ?_)|(refine raw_next (by (simp (disch:=omega) only [push_cast,seval,Asz,Nat.le_refl])<;>rfl) (by (simp (disch:=omega) only [push_cast,seval,Asz,Nat.le_refl])<;>rfl) (by (simp (disch:=omega) only [push_cast,seval,Asz,Nat.le_refl])<;>rfl) (by first|assumption|omega|(constructor<;>omega)) (fun hall=>?_) (fun p hp hns=>?_))|(refine raw_entry (by (simp (disch:=omega) only [push_cast,seval,Asz,Nat.le_refl])<;>rfl) (by (simp (disch:=omega) only [push_cast,seval,Asz,Nat.le_refl])<;>rfl) (by (simp (disch:=omega) only [push_cast,seval,Asz,Nat.le_refl])<;>rfl) (by first|(refine ⟨?_,rfl⟩;assumption)|assumption) (by first|assumption|omega|(constructor<;>omega)) ?_))<;>(try simp (disch:=omega) only [push_cast,seval,Asz,Nat.le_refl]))
 | ((first|((with_reducible refine A8z (f:=131) [336] false ?_);simp (disch:=omega) only [push_cast,seval,Asz,Nat.le_refl];(refine E7z (id:=336) (sort_ok _ _ ?_ ?_) (by (simp (disch:=omega) only [push_cast,seval,Asz,Nat.le_refl])<;>rfl) ?_;(iterate 2 (exact sd));rintro _ _ ⟨rfl,rfl⟩)))<;>(try simp (disch:=omega) only [push_cast,seval,Asz,Nat.le_refl]))
 | (refine Aez ⟨.inr rfl,[336],[],_,by decide,rfl,?_⟩;(try simp (disch:=omega) only [push_cast,seval,↓Afz,↓Acz,↓List.map_cons,↓List.map_nil,Asz,Nat.le_refl]))))
    · have e1:=seen_all hT hV hall hb.1 hs
      have e2:=Asz (pickT t V)
      rw [e1] at e2
      simp [e1,e2]
    · refine ⟨V ++ [p],G4z hV hp hns,?_,SubW.of ?_⟩
      · have:=Liz (G4z hV hp hns)
        simp at this ⊢;omega
      · have e3:=pickT_yes (V:=V) h
        (refine Sub.of_lists ?_ ?_ ?_ ?_ ?_<;>simp [Vw.mkS,Vw.lk,Vw.hk,AV.inn,innL,Apz,Anz,Aqz,-List.map_set,-List.getD_eq_getElem?_getD,e3])
    · refine ⟨V ++ [p],G4z hV hp hns,?_,SubW.of ?_⟩
      · have:=Liz (G4z hV hp hns)
        simp at this ⊢;omega
      · have e3:=pickT_no (V:=V) (p:=p) (t:=t) (by omega)
        (refine Sub.of_lists ?_ ?_ ?_ ?_ ?_<;>simp [Vw.mkS,Vw.lk,Vw.hk,AV.inn,innL,Apz,Anz,Aqz,-List.map_set,-List.getD_eq_getElem?_getD,e3])


set_option maxHeartbeats 8000000 in
theorem tallyOf_ok (vs:List Vw3) (n:Nat) (hn:vs.length=n) (hb:n ≤ 8 ∧ ∀ v ∈ vs,okV v.1 v.2.1 v.2.2 ∧ v.2.2.length=v.2.1.length):BCall Tryz.prog 102 [.rows false (VLs vs) n] [] (fun r H'=>r=.sref 0 0 ∧ ∃ L c,Tal L c (cnt (allO vs)) ∧ H'=[[mapC L c]]):=by
  subst hn
  obtain ⟨hb1,hb2⟩:=hb
  refine Auz (pins:=[]) (pin:=0) l102_eq rfl rfl rfl ?_
  (repeat' (first
 | (first|refine Agz ?_|refine Abz ?_)
 | ((first|refine Ahz ?_);simp (disch:=omega) only [push_cast,seval,l102r0,l102r1,l102r2,l102r3,l102r4,l102r5,l102r6,l102r7])
 | ((first|(refine Clz (by kernel_rfl) (by (simp (disch:=omega) only [push_cast,seval])<;>rfl) ?_)|(refine Bqz (t:=23) (sz:=1) (zs:=[.int .i64 0]) (by kernel_rfl) (by (simp (disch:=omega) only [push_cast,seval])<;>rfl) (by (simp (disch:=omega) only [push_cast,seval])<;>rfl) (by first|assumption|omega|(constructor<;>omega)) (by first|((simp (disch:=omega) only [push_cast,seval]);done)|((simp (disch:=omega) only [push_cast,seval]);exact ⟨rfl,by omega⟩)) ?_)|(refine Bqz (t:=127) (sz:=2) (zs:=[.int .i64 0,.int .i64 0]) (by kernel_rfl) (by (simp (disch:=omega) only [push_cast,seval])<;>rfl) (by (simp (disch:=omega) only [push_cast,seval])<;>rfl) (by first|assumption|omega|(constructor<;>omega)) (by first|((simp (disch:=omega) only [push_cast,seval]);done)|((simp (disch:=omega) only [push_cast,seval]);exact ⟨rfl,by omega⟩)) ?_)|(refine Dhz (len:=3) (by kernel_rfl) (by (simp (disch:=omega) only [push_cast,seval])<;>rfl) (by (simp (disch:=omega) only [push_cast,seval])<;>rfl) (by first|assumption|omega|(constructor<;>omega)) (by first|rfl|((simp (disch:=omega) only [push_cast,seval]);rfl)) ?_)|(refine Goz (by first|((simp (disch:=omega) only [push_cast,seval]);done)|((simp (disch:=omega) only [push_cast,seval]);exact ⟨rfl,by omega⟩)) ?_))<;>(try simp (disch:=omega) only [push_cast,seval]))
 | (refine Aez ⟨.inr rfl,[96],[],_,by decide,rfl,?_⟩;(try simp (disch:=omega) only [push_cast,seval,↓Afz,↓Acz,↓List.map_cons,↓List.map_nil]))))
  have hvl:=K2z vs
  refine A7z (fun x:Nat × List ME × Nat=>mkS [(3,.sref 0 96),(7,.rows false (VLs vs) vs.length),(8,.int .i64 vs.length),(9,.int .i64 x.1)] [(96,[mapC x.2.1 x.2.2])]) (fun x=>x.1 ≤ vs.length ∧ Tal x.2.1 x.2.2 (cnt (allO (vs.take x.1)))) (fun x=>vs.length - x.1) (0,[],0) ⟨Nat.zero_le _,tal_nil 0⟩ ?_ ?_
  · (refine Sub.of_lists ?_ ?_ ?_ ?_ ?_<;>simp [Vw.mkS,Vw.lk,Vw.hk,AV.inn,innL,Apz,Anz,Aqz,-List.map_set,-List.getD_eq_getElem?_getD,Lyz])
  · rintro ⟨i,L1,c1⟩ ⟨hi,hT1⟩
    simp only at hi hT1
    by_cases hlt:i < vs.length
    · obtain ⟨⟨b,sh,st⟩,hv⟩:∃ v,vs[i]?=some v:=⟨_,List.getElem?_eq_getElem hlt⟩
      have hvm:=List.mem_of_getElem? hv
      have hok:=hb2 _ hvm
      simp only at hok
      have hd:=VLs_drop vs i hv
      have hol:=A6z b sh st
      have hpb:=hok.1.1.2
      have h60:(offs b sh st).length ≤ 1000:=by omega
      have hsn:=Kbz vs i hv
      have hcb:∀ k,cnt (allO (vs.take i)) k ≤ 1000000:=fun k=>by
        have:=cnt_le (allO (vs.take i)) k
        have:=allO_len (vs.take i) (fun v hv=>by have:=hb2 v (List.mem_of_mem_take hv);rw [A6z];have:=this.1.1.2;omega)
        rw [List.length_take] at this
        omega
      have hil:i * 3 + 3 ≤ vs.length * 3:=by omega
      generalize hO:offs b sh st=O at *
      have hcb2:O.length ≤ 1000 ∧ ∀ k,cnt (allO (vs.take i)) k ≤ 1000000:=⟨h60,hcb⟩
      (repeat' (first
 | (first|refine Agz ?_|refine Abz ?_)
 | ((first|refine Ahz ?_|refine Adz ?_|refine Aoz ?_);simp (disch:=omega) only [push_cast,seval,l102r0,l102r1,l102r2,l102r3,l102r4,l102r5,l102r6,l102r7,hd,hvl,hO,hil,List.length_map])
 | ((first|refine Amz (fun h=>?_) (fun h=>?_))<;>(try simp only [h])<;>(try simp only [bitvec_to_nat] at h)<;>(try simp only [h])<;>(first|(exfalso;omega)|(exfalso;simp_all;done)|(simp (disch:=omega) only [push_cast,seval,hd,hvl,hO,hil,List.length_map])|skip))
 | ((first|(refine Clz (by kernel_rfl) (by (simp (disch:=omega) only [push_cast,seval,hd,hvl,hO,hil,List.length_map])<;>rfl) ?_)|(refine Bqz (t:=23) (sz:=1) (zs:=[.int .i64 0]) (by kernel_rfl) (by (simp (disch:=omega) only [push_cast,seval,hd,hvl,hO,hil,List.length_map])<;>rfl) (by (simp (disch:=omega) only [push_cast,seval,hd,hvl,hO,hil,List.length_map])<;>rfl) (by first|assumption|omega|(constructor<;>omega)) (by first|((simp (disch:=omega) only [push_cast,seval,hd,hvl,hO,hil,List.length_map]);done)|((simp (disch:=omega) only [push_cast,seval,hd,hvl,hO,hil,List.length_map]);exact ⟨rfl,by omega⟩)) ?_)|(refine Bqz (t:=127) (sz:=2) (zs:=[.int .i64 0,.int .i64 0]) (by kernel_rfl) (by (simp (disch:=omega) only [push_cast,seval,hd,hvl,hO,hil,List.length_map])<;>rfl) (by (simp (disch:=omega) only [push_cast,seval,hd,hvl,hO,hil,List.length_map])<;>rfl) (by first|assumption|omega|(constructor<;>omega)) (by first|((simp (disch:=omega) only [push_cast,seval,hd,hvl,hO,hil,List.length_map]);done)|((simp (disch:=omega) only [push_cast,seval,hd,hvl,hO,hil,List.length_map]);exact ⟨rfl,by omega⟩)) ?_)|(refine Dhz (len:=3) (by kernel_rfl) (by (simp (disch:=omega) only [push_cast,seval,hd,hvl,hO,hil,List.length_map])<;>rfl) (by (simp (disch:=omega) only [push_cast,seval,hd,hvl,hO,hil,List.length_map])<;>rfl) (by first|assumption|omega|(constructor<;>omega)) (by first|rfl|((simp (disch:=omega) only [push_cast,seval,hd,hvl,hO,hil,List.length_map]);rfl)) ?_)|(refine Goz (by first|((simp (disch:=omega) only [push_cast,seval,hd,hvl,hO,hil,List.length_map]);done)|((simp (disch:=omega) only [push_cast,seval,hd,hvl,hO,hil,List.length_map]);exact ⟨rfl,by omega⟩)) ?_))<;>(try simp (disch:=omega) only [push_cast,seval,hd,hvl,hO,hil,List.length_map]))
 | ((first|((with_reducible refine A8z (f:=125) [96] false ?_);simp (disch:=omega) only [push_cast,seval,hd,hvl,hO,hil,List.length_map];(refine E7z (id:=96) (tmeet_ok _ _ _ _ _ ?_ (by assumption) ?_) (by (simp (disch:=omega) only [push_cast,seval,hd,hvl,hO,hil,List.length_map])<;>rfl) ?_;(iterate 2 (exact sd));rintro _ _ ⟨rfl,L',c',hT',rfl⟩)))<;>(try simp (disch:=omega) only [push_cast,seval,hd,hvl,hO,hil,List.length_map]))
 | ((first|refine Alz false ?_);simp (disch:=omega) only [push_cast,seval,hd,hvl,hO,hil,List.length_map])
 | ((first|((first|refine Akz (D6z _ _ _ _ _ ?_ ?_ ?_) ?_|refine Aiz (D6z _ _ _ _ _ ?_ ?_ ?_) ⟨_,_,rfl,rfl⟩ ?_);(iterate 3 (exact sd));rintro _ _ ⟨rfl,rfl⟩))<;>(try simp (disch:=omega) only [push_cast,seval,hd,hvl,hO,hil,List.length_map]))
 | (refine Aez ⟨.inr rfl,[96],[],_,by decide,rfl,?_⟩;(try simp (disch:=omega) only [push_cast,seval,↓Afz,↓Acz,↓List.map_cons,↓List.map_nil,hd,hvl,hO,hil,List.length_map]))))
      refine ⟨(i + 1,L',c'),⟨by simp only;omega,?_⟩,by simp only;omega,?_⟩
      · simp only
        rw [hsn]
        exact tal_congr hT' fun k=>by simp [addF,cnt,List.count_append]
      · (refine Sub.of_lists ?_ ?_ ?_ ?_ ?_<;>simp [Vw.mkS,Vw.lk,Vw.hk,AV.inn,innL,Apz,Anz,Aqz,-List.map_set,-List.getD_eq_getElem?_getD,Lyz])
    · have e:i=vs.length:=by omega
      subst e
      rw [List.take_length] at hT1
      (repeat' (first
 | (first|refine Agz ?_|refine Abz ?_)
 | ((first|refine Ahz ?_|refine Adz ?_|refine A1z ?_);simp (disch:=omega) only [push_cast,seval,l102r0,l102r1,l102r2,l102r3,l102r4,l102r5,l102r6,l102r7])
 | ((first|refine Amz (fun h=>?_) (fun h=>?_))<;>(try simp only [h])<;>(try simp only [bitvec_to_nat] at h)<;>(try simp only [h])<;>(first|(exfalso;omega)|(exfalso;simp_all;done)|(simp (disch:=omega) only [push_cast,seval])|skip))
 | ((first|(refine Clz (by kernel_rfl) (by (simp (disch:=omega) only [push_cast,seval])<;>rfl) ?_)|(refine Bqz (t:=23) (sz:=1) (zs:=[.int .i64 0]) (by kernel_rfl) (by (simp (disch:=omega) only [push_cast,seval])<;>rfl) (by (simp (disch:=omega) only [push_cast,seval])<;>rfl) (by first|assumption|omega|(constructor<;>omega)) (by first|((simp (disch:=omega) only [push_cast,seval]);done)|((simp (disch:=omega) only [push_cast,seval]);exact ⟨rfl,by omega⟩)) ?_)|(refine Bqz (t:=127) (sz:=2) (zs:=[.int .i64 0,.int .i64 0]) (by kernel_rfl) (by (simp (disch:=omega) only [push_cast,seval])<;>rfl) (by (simp (disch:=omega) only [push_cast,seval])<;>rfl) (by first|assumption|omega|(constructor<;>omega)) (by first|((simp (disch:=omega) only [push_cast,seval]);done)|((simp (disch:=omega) only [push_cast,seval]);exact ⟨rfl,by omega⟩)) ?_)|(refine Dhz (len:=3) (by kernel_rfl) (by (simp (disch:=omega) only [push_cast,seval])<;>rfl) (by (simp (disch:=omega) only [push_cast,seval])<;>rfl) (by first|assumption|omega|(constructor<;>omega)) (by first|rfl|((simp (disch:=omega) only [push_cast,seval]);rfl)) ?_)|(refine Goz (by first|((simp (disch:=omega) only [push_cast,seval]);done)|((simp (disch:=omega) only [push_cast,seval]);exact ⟨rfl,by omega⟩)) ?_))<;>(try simp (disch:=omega) only [push_cast,seval]))
 | (refine Aez ⟨.inr rfl,[96],[],_,by decide,rfl,?_⟩;(try simp (disch:=omega) only [push_cast,seval,↓Afz,↓Acz,↓List.map_cons,↓List.map_nil]))))
      exact ⟨L1,c1,hT1,rfl⟩
theorem tallyOf1_ok (b:Int) (sh st:List Int) (n m:Nat) (hn:sh.length=n) (hm:st.length=m) (hb:okV b sh st ∧ st.length=sh.length):BCall Tryz.prog 102 [.rows false [.int .i64 b,.rows false (IL sh) n,.rows false (IL st) m] 1] [] (fun r H'=>r=.sref 0 0 ∧ ∃ L c,Tal L c (cnt (offs b sh st)) ∧ H'=[[mapC L c]]):=by
  subst hn hm
  have:=tallyOf_ok [(b,sh,st)] 1 rfl ⟨by omega,fun v hv=>by simp at hv;subst hv;exact hb⟩
  simpa [allO,VLs] using this


set_option maxHeartbeats 8000000 in
theorem Jyz (b:Int) (sh st:List Int) (n m:Nat) (hn:sh.length=n) (hm:st.length=m) (hv:vV b sh st=true):BCall Tryz.prog 63 [.agg [.int .i64 b,.rows false (IL sh) n,.rows false (IL st) m]] [] (OI (bothL (offs b sh st) (offs b sh st))):=by
  subst hn hm
  have hcs:=G0z hv
  have hok:=Ctz hv
  have hb0:=cnt_support hcs
  have hat:=atL_one (offs b sh st)
  have hol:=A6z b sh st
  have hpb:=hok.1.1.2
  have h60:(offs b sh st).length ≤ 1000:=by omega
  refine Auz (pins:=[]) (pin:=0) l63_eq rfl rfl rfl ?_
  (repeat' (first
 | (first|refine Agz ?_|refine Abz ?_)
 | ((first|refine Ahz ?_);simp (disch:=omega) only [push_cast,seval,l63r0,l63r1,hat,List.length_map])
 | ((first|((with_reducible refine A8z (f:=103) [80] false ?_);simp (disch:=omega) only [push_cast,seval,hat,List.length_map];(refine E7z (id:=80) (atLeast_ok _ _ _ _ (by assumption) ?_ ?_) (by (simp (disch:=omega) only [push_cast,seval,hat,List.length_map])<;>rfl) ?_;(iterate 2 (exact sd));rintro _ _ ⟨rfl,rfl⟩)))<;>(try simp (disch:=omega) only [push_cast,seval,hat,List.length_map]))
 | ((first|refine Alz false ?_);simp (disch:=omega) only [push_cast,seval,hat,List.length_map])
 | ((first|(refine Akz (tallyOf1_ok _ _ _ _ _ ?_ ?_ ?_) ?_;(iterate 3 (exact sd));rintro _ _ ⟨rfl,L,c,hT,rfl⟩))<;>(try simp (disch:=omega) only [push_cast,seval,hat,List.length_map]))
 | (refine Aez ⟨.inr rfl,[96],[],_,by decide,rfl,?_⟩;(try simp (disch:=omega) only [push_cast,seval,↓Afz,↓Acz,↓List.map_cons,↓List.map_nil,hat,List.length_map]))))
  all_goals exact ⟨rfl,rfl⟩

end Go.Proofs.YtkpcjppnjmhanaaGreatDoor
namespace Go.Proofs.YtkpcjppnjmhanaaGreatDoor
open VwM Vw Go
variable [SentA]

set_option maxHeartbeats 8000000 in
theorem iCe_ok (b:Int) (sh st:List Int) (n m:Nat) (hn:sh.length=n) (hm:st.length=m) (hb:n ≤ 1099511627776 ∧ m ≤ 1099511627776):BCall Tryz.prog 24 [.agg [.int .i64 b,.rows false (IL sh) n,.rows false (IL st) m]] [] (OI (MVL (vV b sh st) (bothL (offs b sh st) (offs b sh st)))):=by
  subst hn hm
  obtain ⟨hb1,hb2⟩:=hb
  refine Auz (pins:=[]) (pin:=0) l24_eq rfl rfl rfl ?_
  cases hv:vV b sh st with
  | false =>
    (repeat' (first
 | (first|refine Agz ?_|refine Abz ?_)
 | ((first|refine Ahz ?_|refine Adz ?_);simp (disch:=omega) only [push_cast,seval,l24r0,l24r1,l24r2,l24r3,hv])
 | ((first|refine Alz false ?_);simp (disch:=omega) only [push_cast,seval,hv])
 | ((first|((first|refine Akz (Ajz (A0z _ _ _ _ _ ?_ ?_ ?_)) ?_|refine Aiz (Ajz (A0z _ _ _ _ _ ?_ ?_ ?_)) ⟨_,_,rfl,rfl⟩ ?_);(iterate 3 (exact sd));rintro _ _ ⟨rfl,rfl⟩))<;>(try simp (disch:=omega) only [push_cast,seval,hv]))
 | (refine Aez ⟨.inr rfl,[16000],[(16000,1)],_,by decide,rfl,?_⟩;(try simp (disch:=omega) only [push_cast,seval,↓Afz,↓Acz,↓List.map_cons,↓List.map_nil,hv]))))
    all_goals simp [OI,MVL]
  | true =>
    have hl:=bothL_le (offs b sh st) (offs b sh st)
    have hok:=Ctz hv
    (repeat' (first
 | (first|refine Agz ?_|refine Abz ?_)
 | ((first|refine Ahz ?_|refine Adz ?_|refine Aoz ?_);simp (disch:=omega) only [push_cast,seval,l24r0,l24r1,l24r2,l24r3,hv])
 | ((first|refine Alz false ?_);simp (disch:=omega) only [push_cast,seval,hv])
 | ((first|((first|refine Akz (Ajz (A0z _ _ _ _ _ ?_ ?_ ?_)) ?_|refine Aiz (Ajz (A0z _ _ _ _ _ ?_ ?_ ?_)) ⟨_,_,rfl,rfl⟩ ?_);(iterate 3 (exact sd));rintro _ _ ⟨rfl,rfl⟩)|((first|refine Akz (Jyz _ _ _ _ _ ?_ ?_ ?_) ?_|refine Aiz (Jyz _ _ _ _ _ ?_ ?_ ?_) ⟨_,_,rfl,rfl⟩ ?_);(iterate 3 (exact sd));rintro _ _ ⟨rfl,rfl⟩))<;>(try simp (disch:=omega) only [push_cast,seval,hv]))
 | (refine Aez ⟨.inr rfl,[64],[],_,by decide,rfl,?_⟩;(try simp (disch:=omega) only [push_cast,seval,↓Afz,↓Acz,↓List.map_cons,↓List.map_nil,hv]);(first|done|(show AV.own _ _ _=_ ∧ _)))
 | (refine Aez ⟨.inr rfl,[112],[],_,by decide,rfl,?_⟩;(try simp (disch:=omega) only [push_cast,seval,↓Afz,↓Acz,↓List.map_cons,↓List.map_nil,hv]);(first|done|(show AV.own _ _ _=_ ∧ _)))))
    all_goals simp [OI,MVL]

end Go.Proofs.YtkpcjppnjmhanaaGreatDoor
namespace Go.Proofs.YtkpcjppnjmhanaaGreatDoor
open VwM Vw Go
variable [SentA]

theorem w8_getD {mem:List Int} (hm:∀ x ∈ mem,0 ≤ x ∧ x ≤ 255) (j:Nat):0 ≤ mem.getD j 0 ∧ mem.getD j 0 ≤ 255:=by
  by_cases hl:j < mem.length
  · exact hm _ (Cbz hl)
  · rw [List.getD,List.getElem?_eq_none (Nat.le_of_not_lt hl)];simp
theorem w8_byte {mem cells vals:List Int} (hm:∀ x ∈ mem,0 ≤ x ∧ x ≤ 255) (hv:∀ x ∈ vals,0 ≤ x ∧ x ≤ 255):∀ k,∀ x ∈ putK mem cells vals k,0 ≤ x ∧ x ≤ 255
  | 0,x,hx=>hm x hx
  | k + 1,x,hx=>by
    simp only [putK] at hx
    rcases List.mem_or_eq_of_mem_set hx with h1|h1
    · exact w8_byte hm hv k x h1
    · subst h1;exact w8_getD hv k
theorem w8_see {mem cells vals:List Int} {b:Int} {sh st:List Int} (h:seeB mem b sh st=true) (hv:∀ x ∈ vals,0 ≤ x ∧ x ≤ 255):seeB (putL mem cells vals) b sh st=true:=by
  obtain ⟨g1,g2,g3⟩:=Ckz.1 h
  obtain ⟨m1,m2⟩:=B3z.1 g1
  refine Ckz.2 ⟨B3z.2 ⟨by rw [Bsz];exact m1,w8_byte m2 hv _⟩,g2,?_⟩
  intro x hx
  rw [Bsz]
  exact g3 x hx
theorem w8_diff {a b:List Int} {x:Int}:∀ {k},x ∈ chK a b k → (0 ≤ x ∧ x < k) ∧ a.getD x.toNat 0 ≠ b.getD x.toNat 0
  | 0,h=>by simp [chK] at h
  | k + 1,h=>by
    simp only [chK] at h
    split at h
    · have:=w8_diff (k:=k) h
      exact ⟨by omega,this.2⟩
    · rename_i hne
      rcases List.mem_append.1 h with h1|h1
      · have:=w8_diff (k:=k) h1
        exact ⟨by omega,this.2⟩
      · rw [List.mem_singleton] at h1
        subst h1
        exact ⟨by omega,by simpa using hne⟩
theorem w8_changed {mem to vals:List Int} (ht:∀ x ∈ to,0 ≤ x ∧ x ≤ 59) (hl:to.length=vals.length):∀ x ∈ chL mem (putL mem to vals),x ∈ bothL to to:=by
  intro x hx
  obtain ⟨h1,h2⟩:=w8_diff hx
  refine Classical.byContradiction fun hn=>h2 ?_
  unfold putL
  rw [putK_out]
  intro i hi he
  have hm:to.getD i 0 ∈ to:=Cbz (by omega)
  have:=ht _ hm
  have hxe:to.getD i 0=x:=by omega
  rw [hxe] at hm
  exact hn (mem_bothL.2 ⟨ht x hm,hm,hm⟩)
theorem w8_facts {mem:List Int} {b:Int} {sh st vals:List Int} (h:takB mem b sh st vals=true) :
    (vV b sh st=true ∧ seeB mem b sh st=true ∧ seeB (putL mem (offs b sh st) vals) b sh st=true ∧ chB mem (putL mem (offs b sh st) vals)=true) ∧ inM (offs b sh st) mem.length ∧ vals.length=(offs b sh st).length ∧ (offs b sh st).length ≤ 60 ∧
    (((chL mem (putL mem (offs b sh st) vals)).length ≤ 1099511627776 ∧ (bothL (offs b sh st) (offs b sh st)).length ≤ 1099511627776) ∧ ∀ x ∈ chL mem (putL mem (offs b sh st) vals),x ∈ bothL (offs b sh st) (offs b sh st)):=by
  simp only [takB,Bool.and_eq_true,decide_eq_true_eq] at h
  obtain ⟨⟨h1,h2⟩,h3⟩:=h
  have hv:=Ciz.1 h3
  obtain ⟨g1,g2,g3⟩:=Ckz.1 h1
  have hol:=A6z b sh st
  have hp:=Cfz h1
  have hs:=w8_see (cells:=offs b sh st) h1 hv
  have hcs:∀ x ∈ offs b sh st,0 ≤ x ∧ x ≤ 59:=fun x hx=>by have:=G0z g2 x hx;omega
  have hcl:=H4z mem (putL mem (offs b sh st) vals) mem.length
  have hbl:=bothL_le (offs b sh st) (offs b sh st)
  refine ⟨⟨g2,h1,hs,?_⟩,fun i hi=>?_,by omega,by omega,⟨by unfold chL;omega,by omega⟩,w8_changed hcs (by omega)⟩
  · unfold chB
    rw [g1,(Ckz.1 hs).1,Bsz]
    simp
  · have:=g3 _ (Cbz hi)
    omega

end Go.Proofs.YtkpcjppnjmhanaaGreatDoor
namespace Go.Proofs.YtkpcjppnjmhanaaGreatDoor
open VwM Vw Go
variable [SentA]

theorem L0z (b:Int) (sh st:List Int) (n m:Nat) (hn:sh.length=n) (hm:st.length=m) (hb:vV b sh st=true ∧ sh.length ≤ 1099511627776 ∧ st.length ≤ 1099511627776):PCall Tryz.prog 24 [.agg [.int .i64 b,.rows false (IL sh) n,.rows false (IL st) m]] (fun r=>r=.rows true (IL (bothL (offs b sh st) (offs b sh st))) (bothL (offs b sh st) (offs b sh st)).length):=by
  subst hn hm
  obtain ⟨hv,hb⟩:=hb
  refine (BCall.plain (iCe_ok b sh st _ _ rfl rfl hb)).mono ?_
  rintro r ⟨r0,H',⟨rfl,rfl⟩,rfl⟩
  rw [hv,MVL_true]
  simp [AV.ren,nthH,List.map_map,Function.comp_def]

end Go.Proofs.YtkpcjppnjmhanaaGreatDoor
namespace Go.Proofs.YtkpcjppnjmhanaaGreatDoor
open VwM Vw Go
variable [SentA]

/-- What a copy that is possible is about. -/
theorem xc_facts {cs:List Int} {es:List Ex} {t f:Int} (h:xcG cs es t f=true):∃ (q q2:Nat) (p b p2 b2:Int) (x y y2:List Int),t=q ∧ f=q2 ∧ q < es.length ∧ q2 < es.length ∧ es[q]?=some (p,(b,x,y),true) ∧ es[q2]?=some (p2,(b2,x,y2),true) ∧ vB cs es=true ∧
    xcC cs es t f=putL cs (offs b x y) (takesL cs (offs b2 x y2)) ∧ takB cs b x y (takesL cs (offs b2 x y2))=true:=by
  unfold xcG at h
  simp only [Bool.and_eq_true,decide_eq_true_eq] at h
  obtain ⟨⟨⟨hv,h1⟩,h2⟩,h3⟩:=h
  obtain ⟨q,p,b,x,y,rfl,hq,he,hvw⟩:=Dtz h1
  obtain ⟨q2,p2,b2,x2,y2,rfl,hq2,he2,hvw2⟩:=Dtz h2
  rw [hvw,hvw2] at h3
  simp only at h3
  subst h3
  have hs:=E3z hv he
  have hs2:=E3z hv he2
  refine ⟨q,q2,p,b,p2,b2,x,y,y2,rfl,rfl,hq,hq2,he,he2,hv,by unfold xcC;rw [hvw,hvw2],?_⟩
  have f1:=Cfz hs2
  have hol:=A6z b2 x y2
  have htl:=takesL_length cs (offs b2 x y2)
  simp only [takB,Bool.and_eq_true,decide_eq_true_eq]
  exact ⟨⟨hs,by omega⟩,Ciz.2 (Glz (B3z.1 (Ckz.1 hs).1).2)⟩
abbrev cxQ (cs:List Int) (es:List Ex) (t f:Int):Prop:=(-1000 ≤ t ∧ t ≤ 1000) ∧ (-1000 ≤ f ∧ f ≤ 1000) ∧ ((ifB (xcG cs es t f) (xcC cs es t f)).length ≤ 1099511627776 ∧ (ifB (xcG cs es t f) es).length ≤ 1099511627776 ∧ exB 1099511627776 (ifB (xcG cs es t f) es))
theorem cxQ_of {cs:List Int} {es:List Ex} {t f:Int} (h:sbQ cs es) (hs:-1000 ≤ t ∧ t ≤ 1000) (hv:-1000 ≤ f ∧ f ≤ 1000):cxQ cs es t f:=by
  have h1:=h.1
  refine ⟨hs,hv,?_⟩
  cases xcG cs es t f with
  | false=>exact ⟨Nat.zero_le _,Nat.zero_le _,fun e he=>by cases he⟩
  | true=>exact ⟨by rw [Dcz];unfold xcC;rw [Bsz];exact h1.1,h1.2.1,h1.2.2⟩


theorem drawCEB_ok (bs:List Int) (n:Nat) (hn:bs.length=n) (hb:n ≤ 1099511627776 ∧ ∀ x ∈ bs,0 ≤ x ∧ x ≤ 255):BCall Tryz.prog 26 [.rows false (UL bs) n] [] (fun r H'=>∃ cs es id x,sbQ cs es ∧ (-1000 ≤ id ∧ id ≤ 1000) ∧ (-1000 ≤ x ∧ x ≤ 1000) ∧ r=.tup [.agg [.own 0 cs.length 1,.own 1 es.length 5],.int .i64 id,.int .i64 x] ∧ H'=[IL cs,EL false es]):=by
  subst hn
  refine Auz (pins:=[]) (pin:=0) l26_eq rfl rfl rfl ?_
  have helc:=fun (c:Bool) (es:List Ex)=>Azz c es
  (repeat' (first
 | (first|refine Agz ?_|refine Abz ?_)
 | ((first|refine Ahz ?_|refine B7z (mid:=l26r3a) (post:=l26r3b) [144,32] mixed (by decide) ?_);simp (disch:=omega) only [push_cast,seval,l26r0,l26r1,l26r2,l26r3a,l26r3b,l26r3,Aaz])
 | ((first|((with_reducible refine Alz (f:=41) true ?_);simp (disch:=omega) only [push_cast,seval,Aaz];(refine Akz (newReader_ok _ _ ?_ ?_) ?_;(iterate 2 (exact sd));rintro _ _ ⟨bs0,hbs0,rfl,rfl⟩))|((with_reducible refine A8z (f:=40) [144] true ?_);simp (disch:=omega) only [push_cast,seval,Aaz];(refine E7z (id:=144) (idOf_ok _ _ ?_ ?_) (by (simp (disch:=omega) only [push_cast,seval,Aaz])<;>rfl) ?_;(iterate 2 (exact sd));rintro _ _ ⟨csG,esG,idG,pG,hsG,hiG,hpG,rfl,rfl⟩))|((with_reducible refine Elz (f:=65) [144] true ?_);simp (disch:=omega) only [push_cast,seval,Aaz];(refine I3z (id:=144) (Gpz _ _ _ ?_ ?_) (by (simp (disch:=omega) only [push_cast,seval,Aaz])<;>rfl) (by decide) ⟨_,_,0,by omega,Or.inr (Or.inr rfl),rfl,rfl⟩ ?_;(iterate 2 (exact sd));rintro _ _ ⟨x,hx0,hx1,rfl,rfl⟩)))<;>(try simp (disch:=omega) only [push_cast,seval,Aaz]))))
  all_goals ((refine Aez ⟨.inr rfl,[192,193],[],_,by decide,rfl,?_⟩;(try simp (disch:=omega) only [push_cast,seval,↓Afz,↓Acz,↓List.map_cons,↓List.map_nil,Aaz])))
  all_goals exact ⟨csG,esG,idG,_,sbQ_of hsG,hiG,(by have:=hsG.2.1;omega),rfl,rfl⟩
theorem drawCE_ok (bs:List Int) (n:Nat) (hn:bs.length=n) (hb:n ≤ 1099511627776 ∧ ∀ x ∈ bs,0 ≤ x ∧ x ≤ 255):PCall Tryz.prog 26 [.rows false (UL bs) n] (fun r=>∃ cs es t f,sbQ cs es ∧ cxQ cs es t f ∧ r=.tup [.agg [.rows true (IL cs) cs.length,.rows true (EL false es) es.length],.int .i64 t,.int .i64 f]):=by
  refine (BCall.plain (drawCEB_ok bs n hn hb)).mono ?_
  rintro r ⟨r0,H',⟨cs,es,id,x,h,hs,hx,rfl,rfl⟩,rfl⟩
  refine ⟨cs,es,id,x,h,cxQ_of h hs hx,?_⟩
  simp [AV.ren,nthH,I1z,Azz]


theorem iCEP_ok (cs:List Int) (es:List Ex) (m n:Nat) (t f:Int) (hm:cs.length=m) (hn:es.length=n) (hb:m ≤ 1048576 ∧ n ≤ 1048576 ∧ exB 1048576 es) :
    PCall Tryz.prog 27 [.agg [.rows false (IL cs) m,.rows false (EL false es) n],.int .i64 t,.int .i64 f] (fun r=>r=.tup [.agg [.rows true (IL (ifB (xcG cs es t f) (xcC cs es t f))) (ifB (xcG cs es t f) (xcC cs es t f)).length,.rows true (EL true (ifB (xcG cs es t f) es)) (ifB (xcG cs es t f) es).length],.bool (xcG cs es t f)]) :=
  OBf_plain (iCE_ok cs es m n t f hm hn hb)


theorem sCEP_ok (cs:List Int) (es:List Ex) (m n:Nat) (t f:Int) (hm:cs.length=m) (hn:es.length=n) (hb:m ≤ 1099511627776 ∧ n ≤ 1099511627776 ∧ exB 1099511627776 es) :
    PCall Tryz.prog 28 [.agg [.rows false (IL cs) m,.rows false (EL false es) n],.int .i64 t,.int .i64 f] (fun r=>r=.tup [.agg [.rows true (IL (ifB (xcG cs es t f) (xcC cs es t f))) (ifB (xcG cs es t f) (xcC cs es t f)).length,.rows true (EL true (ifB (xcG cs es t f) es)) (ifB (xcG cs es t f) es).length],.bool (xcG cs es t f)]) :=
  OBs_plain (sCE_ok cs es m n t f hm hn hb)


set_option maxHeartbeats 64000000 in
theorem lCEf_ok (bs:List Int) (hn:bs.length ≤ 9223372036854775807) (hb:∀ x ∈ bs,0 ≤ x ∧ x ≤ 255):PCall Tryz.prog 6 [.rows false (UL bs) bs.length] (fun r=>r=.bool true):=by
  refine Awz l6_eq rfl ?_
  by_cases h:bs.length ≤ 1048576
  · have q:bs.length ≤ 1099511627776 ∧ ∀ x ∈ bs,0 ≤ x ∧ x ≤ 255:=⟨by omega,hb⟩
    (repeat' (first
 | (first|refine Agz ?_|refine Abz ?_)
 | ((first|refine Ahz ?_|refine Axz (mid:=l6r8a) (post:=l6r8b) mixed (by decide) ?_|refine Adz ?_|refine Aoz ?_);simp (disch:=omega) only [push_cast,seval,l6r0,l6r1,l6r2,l6r3,l6r4,l6r5,l6r6,l6r7,l6r8a,l6r8b,l6r8,Aaz,bne_self_eq_false,decide_true])
 | ((first|refine Amz (fun h=>?_) (fun h=>?_))<;>(try simp only [h])<;>(try simp only [bitvec_to_nat] at h)<;>(try simp only [h])<;>(first|(exfalso;omega)|(exfalso;simp_all;done)|(simp (disch:=omega) only [push_cast,seval,Aaz,bne_self_eq_false,decide_true])|skip))
 | ((first|((with_reducible refine Alz (f:=26) true ?_);simp (disch:=omega) only [push_cast,seval,Aaz,bne_self_eq_false,decide_true];(refine Akz (Ajz (drawCE_ok _ _ ?_ ?_)) ?_;(iterate 2 (exact sd));rintro _ _ ⟨⟨cs,es,t,f,⟨hs1,hs2,hs3,hs4,hs5⟩,⟨hk1,hk2,hq1⟩,rfl⟩,rfl⟩)))<;>(try simp (disch:=omega) only [push_cast,seval,Aaz,bne_self_eq_false,decide_true]))
 | ((first|refine Alz false ?_);simp (disch:=omega) only [push_cast,seval,Aaz,bne_self_eq_false,decide_true])
 | ((first|((first|refine Akz (Ajz (iCEP_ok _ _ _ _ _ _ ?_ ?_ ?_)) ?_|refine Aiz (Ajz (iCEP_ok _ _ _ _ _ _ ?_ ?_ ?_)) ⟨_,_,rfl,rfl⟩ ?_);(iterate 3 (exact sd));rintro _ _ ⟨rfl,rfl⟩)|((first|refine Akz (Ajz (sCEP_ok _ _ _ _ _ _ ?_ ?_ ?_)) ?_|refine Aiz (Ajz (sCEP_ok _ _ _ _ _ _ ?_ ?_ ?_)) ⟨_,_,rfl,rfl⟩ ?_);(iterate 3 (exact sd));rintro _ _ ⟨rfl,rfl⟩)|((first|refine Akz (Ajz (eqBufS_ok _ _ _ _ _ _ ?_ ?_ ?_ ?_ ?_)) ?_|refine Aiz (Ajz (eqBufS_ok _ _ _ _ _ _ ?_ ?_ ?_ ?_ ?_)) ⟨_,_,rfl,rfl⟩ ?_);(iterate 5 (exact sd));rintro _ _ ⟨rfl,rfl⟩))<;>(try simp (disch:=omega) only [push_cast,seval,Aaz,bne_self_eq_false,decide_true]))))
    · (refine Aez ⟨.inr rfl,_,rfl,?_⟩;try simp (disch:=omega) only [push_cast,seval,beq_self_eq_true])
      all_goals (try simp)
    · have hv2:=vB_xc h
      obtain ⟨q,q2,p,b,p2,b2,xx,y,y2,rfl,rfl,hq,hq2,he,he2,hv,hC,htk⟩:=xc_facts h
      have hel:=fun c=>Azz c es
      have hil:q * 5 + 5 ≤ es.length * 5:=by omega
      have h3:=D7z he
      rw [h] at hq1
      simp only [Dcz,hC] at hq1 hv2 ⊢
      obtain ⟨⟨g1,g2,g3,g4⟩,hin,hLv,hL60,hwc⟩:=w8_facts htk
      have hone:oneB b xx y=true → takesL (putL cs (offs b xx y) (takesL cs (offs b2 xx y2))) (offs b xx y)=takesL cs (offs b2 xx y2):=fun ho=>by
        simp only [oneB,Bool.and_eq_true,decide_eq_true_eq] at ho
        exact takes_put hin ho.2 hLv
      have hl1:=loadA_at hv2 hq he
      have hl2:=loadA_at hv hq2 he2
      have hpl:=Bsz cs (offs b xx y) (takesL cs (offs b2 xx y2))
      have htl:=takesL_length (putL cs (offs b xx y) (takesL cs (offs b2 xx y2))) (offs b xx y)
      generalize hT2:takesL cs (offs b2 xx y2)=T2 at *
      generalize hL:offs b xx y=L at *
      generalize hP:putL cs L T2=P at *
      generalize hT1:takesL P L=T1 at *
      generalize hX:chL cs P=X at *
      generalize hK:bothL L L=K at *
      have hxy:=Cxz hs1.2.2 he
      have hq3:cs.length ≤ 1099511627776 ∧ P.length ≤ 1099511627776:=by omega
      have hT3:T1.length ≤ 1099511627776 ∧ T2.length ≤ 1099511627776:=by omega
      clear hin
      cases ho:oneB b xx y with
 | false =>
        clear hone
        simp (disch:=omega) only [push_cast,seval,Aaz,hel,hil,h3,ho,Int.toNat_natCast]
        (repeat' (first
 | (first|refine Agz ?_|refine Abz ?_)
 | ((first|refine Alz false ?_|refine A2z false ?_);simp (disch:=omega) only [push_cast,seval,Aaz,hel,hil,h3,ho,g1,g4,hL,hX,hK,hv2,MVL_true,decide_true])
 | ((first|((first|refine Akz (Ajz (Ddz _ _ _ _ _ ?_ ?_ ?_)) ?_|refine Aiz (Ajz (Ddz _ _ _ _ _ ?_ ?_ ?_)) ⟨_,_,rfl,rfl⟩ ?_);(iterate 3 (exact sd));rintro _ _ ⟨rfl,rfl⟩)|((first|refine Akz (iCh_ok _ _ _ _ ?_ ?_ ?_) ?_|refine Aiz (Ajz (E4z (iCh_ok _ _ _ _ ?_ ?_ ?_))) ⟨_,_,rfl,rfl⟩ ?_);(iterate 3 (exact sd));rintro _ _ ⟨rfl,rfl⟩)|((first|refine Akz (Ajz (L0z _ _ _ _ _ ?_ ?_ ?_)) ?_|refine Aiz (Ajz (L0z _ _ _ _ _ ?_ ?_ ?_)) ⟨_,_,rfl,rfl⟩ ?_);(iterate 3 (exact sd));rintro _ _ ⟨rfl,rfl⟩)|((first|refine Akz (Ajz (F0z _ _ _ _ ?_ ?_ ?_)) ?_|refine Aiz (Ajz (F0z _ _ _ _ ?_ ?_ ?_)) ⟨_,_,rfl,rfl⟩ ?_);(iterate 3 (exact sd));rintro _ _ ⟨rfl,rfl⟩)|((first|refine Akz (Ajz (Ebz _ _ _ _ ?_ ?_ ?_)) ?_|refine Aiz (Ajz (Ebz _ _ _ _ ?_ ?_ ?_)) ⟨_,_,rfl,rfl⟩ ?_);(iterate 3 (exact sd));rintro _ _ ⟨rfl,rfl⟩))<;>(try simp (disch:=omega) only [push_cast,seval,Aaz,hel,hil,h3,ho,g1,g4,hL,hX,hK,hv2,MVL_true,decide_true]))))
        all_goals ((refine Aez ⟨.inr rfl,_,rfl,?_⟩;try simp (disch:=omega) only [push_cast,seval]))
        all_goals (try rfl)
 | true =>
        have hone2:=hone ho
        subst hone2
        clear hone
        simp (disch:=omega) only [push_cast,seval,Aaz,hel,hil,h3,ho,Int.toNat_natCast]
        (repeat' (first
 | (first|refine Agz ?_|refine Abz ?_)
 | ((first|refine Alz false ?_|refine A2z false ?_);simp (disch:=omega) only [push_cast,seval,Aaz,hel,hil,h3,ho,g1,g4,hL,hX,hK,hv2,hl1,hl2,MVL_true,decide_true])
 | ((first|((first|refine Akz (Ajz (Ddz _ _ _ _ _ ?_ ?_ ?_)) ?_|refine Aiz (Ajz (Ddz _ _ _ _ _ ?_ ?_ ?_)) ⟨_,_,rfl,rfl⟩ ?_);(iterate 3 (exact sd));rintro _ _ ⟨rfl,rfl⟩)|((first|refine Akz (Ajz (iLEP_ok _ _ _ _ _ ?_ ?_ ?_)) ?_|refine Aiz (Ajz (iLEP_ok _ _ _ _ _ ?_ ?_ ?_)) ⟨_,_,rfl,rfl⟩ ?_);(iterate 3 (exact sd));rintro _ _ ⟨rfl,rfl⟩)|((first|refine Akz (Ajz (Cyz _ _ _ _ ?_ ?_ ?_)) ?_|refine Aiz (Ajz (Cyz _ _ _ _ ?_ ?_ ?_)) ⟨_,_,rfl,rfl⟩ ?_);(iterate 3 (exact sd));rintro _ _ ⟨rfl,rfl⟩)|((first|refine Akz (iCh_ok _ _ _ _ ?_ ?_ ?_) ?_|refine Aiz (Ajz (E4z (iCh_ok _ _ _ _ ?_ ?_ ?_))) ⟨_,_,rfl,rfl⟩ ?_);(iterate 3 (exact sd));rintro _ _ ⟨rfl,rfl⟩)|((first|refine Akz (Ajz (L0z _ _ _ _ _ ?_ ?_ ?_)) ?_|refine Aiz (Ajz (L0z _ _ _ _ _ ?_ ?_ ?_)) ⟨_,_,rfl,rfl⟩ ?_);(iterate 3 (exact sd));rintro _ _ ⟨rfl,rfl⟩)|((first|refine Akz (Ajz (F0z _ _ _ _ ?_ ?_ ?_)) ?_|refine Aiz (Ajz (F0z _ _ _ _ ?_ ?_ ?_)) ⟨_,_,rfl,rfl⟩ ?_);(iterate 3 (exact sd));rintro _ _ ⟨rfl,rfl⟩)|((first|refine Akz (Ajz (Ebz _ _ _ _ ?_ ?_ ?_)) ?_|refine Aiz (Ajz (Ebz _ _ _ _ ?_ ?_ ?_)) ⟨_,_,rfl,rfl⟩ ?_);(iterate 3 (exact sd));rintro _ _ ⟨rfl,rfl⟩))<;>(try simp (disch:=omega) only [push_cast,seval,Aaz,hel,hil,h3,ho,g1,g4,hL,hX,hK,hv2,hl1,hl2,MVL_true,decide_true]))))
        all_goals ((refine Aez ⟨.inr rfl,_,rfl,?_⟩;try simp (disch:=omega) only [push_cast,seval]))
        all_goals (try rfl)
    all_goals ((refine Aez ⟨.inr rfl,_,rfl,?_⟩;try simp (disch:=omega) only [push_cast,seval,beq_self_eq_true]))
    all_goals (try simp)
  · (repeat' (first
 | (first|refine Agz ?_|refine Abz ?_)
 | ((first|refine Ahz ?_|refine Adz ?_);simp (disch:=omega) only [push_cast,seval,l6r0,l6r1,l6r2,l6r3,l6r4,l6r5,l6r6,l6r7,l6r8a,l6r8b,l6r8,Aaz])
 | ((first|refine Amz (fun h=>?_) (fun h=>?_))<;>(try simp only [h])<;>(try simp only [bitvec_to_nat] at h)<;>(try simp only [h])<;>(first|(exfalso;omega)|(exfalso;simp_all;done)|(simp (disch:=omega) only [push_cast,seval,Aaz])|skip))
 | (refine Aez ⟨.inr rfl,_,rfl,?_⟩;(try simp (disch:=omega) only [push_cast,seval,Aaz]))))

end Go.Proofs.YtkpcjppnjmhanaaGreatDoor
namespace Go.Proofs.YtkpcjppnjmhanaaGreatDoor
open VwM Vw Go
variable [SentA]

end Go.Proofs.YtkpcjppnjmhanaaGreatDoor
