/- Texts of this verifier. -/
import Derived.Test.YtkpcjppnjmhanaaGreatDoorCB10
import Derived.Test.YtkpcjppnjmhanaaGreatDoorCM1
import Derived.Test.YtkpcjppnjmhanaaGreatDoorCW3
set_option maxHeartbeats 4000000
set_option linter.unusedSimpArgs false
set_option linter.unusedSectionVars false
set_option linter.unusedVariables false
set_option maxRecDepth 4000
namespace Go.Proofs.YtkpcjppnjmhanaaGreatDoor
open VwM Vw Go
variable [SentA]

set_option maxHeartbeats 8000000 in
theorem tmeet_ok (L:List ME) (c:Nat) (f:Int → Nat) (xs:List Int) (n:Nat) (hn:xs.length=n) (hT:Tal L c f) (hb:n ≤ 1000 ∧ ∀ k,f k ≤ 1000000):BCall Tryz.prog 125 [.sref 0 0,.rows false (IL xs) n] [[mapC L c]] (fun r H'=>r=.tup [] ∧ ∃ L' c',Tal L' c' (addF f (cnt xs)) ∧ H'=[[mapC L' c']]):=by
  subst hn
  obtain ⟨hb1,hb2⟩:=hb
  refine Axz (pins:=[0]) (pin:=1) l125_eq rfl rfl rfl ?_
  (repeat' (first
 | (first|refine Ahz ?_|refine Abz ?_)
 | ((first|refine Aiz ?_);simp (disch:=omega) only [push_cast,seval,l125r0,l125r1,l125r2,l125r3,l125r4])
 | ((first|(refine Cbz (by kernel_rfl) (by (simp (disch:=omega) only [push_cast,seval])<;>rfl) ?_)|(refine Bnz (t:=23) (sz:=1) (zs:=[.int .i64 0]) (by kernel_rfl) (by (simp (disch:=omega) only [push_cast,seval])<;>rfl) (by (simp (disch:=omega) only [push_cast,seval])<;>rfl) (by first|assumption|omega|(constructor<;>omega)) (by first|((simp (disch:=omega) only [push_cast,seval]);done)|((simp (disch:=omega) only [push_cast,seval]);exact ⟨rfl,by omega⟩)) ?_)|(refine Bnz (t:=127) (sz:=2) (zs:=[.int .i64 0,.int .i64 0]) (by kernel_rfl) (by (simp (disch:=omega) only [push_cast,seval])<;>rfl) (by (simp (disch:=omega) only [push_cast,seval])<;>rfl) (by first|assumption|omega|(constructor<;>omega)) (by first|((simp (disch:=omega) only [push_cast,seval]);done)|((simp (disch:=omega) only [push_cast,seval]);exact ⟨rfl,by omega⟩)) ?_)|(refine Cwz (len:=3) (by kernel_rfl) (by (simp (disch:=omega) only [push_cast,seval])<;>rfl) (by (simp (disch:=omega) only [push_cast,seval])<;>rfl) (by first|assumption|omega|(constructor<;>omega)) (by first|rfl|((simp (disch:=omega) only [push_cast,seval]);rfl)) ?_)|(refine H3z (by kernel_rfl) (by (simp (disch:=omega) only [push_cast,seval])<;>rfl) (by (simp (disch:=omega) only [push_cast,seval])<;>rfl) (by (simp (disch:=omega) only [push_cast,seval])<;>rfl) ?_)|(refine Ewz (by kernel_rfl) (by (simp (disch:=omega) only [push_cast,seval])<;>rfl) (by (simp (disch:=omega) only [push_cast,seval])<;>rfl) (by (simp (disch:=omega) only [push_cast,seval])<;>rfl) (by (simp (disch:=omega) only [push_cast,seval])<;>rfl) ?_))<;>(try simp (disch:=omega) only [push_cast,seval]))
 | (refine Aez ⟨.inr rfl,[],[],_,by decide,rfl,?_⟩;(try simp (disch:=omega) only [push_cast,seval,↓Afz,↓Acz,↓List.map_cons,↓List.map_nil]))))
  refine Baz (fun x:Nat × List ME × Nat=>mkS [(0,.sref 0 0),(6,RI xs),(7,.int .i64 xs.length),(8,.int .i64 x.1)] [(0,[mapC x.2.1 x.2.2])]) (fun x=>x.1 ≤ xs.length ∧ Tal x.2.1 x.2.2 (addF f (cnt (xs.take x.1)))) (fun x=>xs.length - x.1) (0,L,c) ⟨Nat.zero_le _,by simpa [addF_nil] using hT⟩ ?_ ?_
  · (refine Sub.of_lists ?_ ?_ ?_ ?_ ?_<;>simp [Vw.mkS,Vw.lk,Vw.hk,AV.inn,innL,Apz,Anz,Aqz,-List.map_set,-List.getD_eq_getElem?_getD])
  · rintro ⟨i,L1,c1⟩ ⟨hi,hT1⟩
    simp only at hi hT1
    by_cases hlt:i < xs.length
    · have hx:=hT1.1 (xs.getD i 0)
      have hb3:addF f (cnt (xs.take i)) (xs.getD i 0) ≤ 1001000:=by
        have:=hb2 (xs.getD i 0)
        have:=cnt_take_le xs i (xs.getD i 0)
        simp only [addF];omega
      have hput:=tal_put hT1 (xs.getD i 0) rfl
      rw [addF_snoc f xs i hlt] at hput
      generalize hv:addF f (cnt (xs.take i)) (xs.getD i 0)=v at *
      (repeat' (first
 | (first|refine Ahz ?_|refine Abz ?_)
 | ((first|refine Aiz ?_|refine Adz ?_|refine Aoz ?_);simp (disch:=omega) only [push_cast,seval,l125r0,l125r1,l125r2,l125r3,l125r4,hx])
 | ((first|refine Amz (fun h=>?_) (fun h=>?_))<;>(try simp only [h])<;>(try simp only [bitvec_to_nat] at h)<;>(try simp only [h])<;>(first|(exfalso;omega)|(exfalso;simp_all;done)|(simp (disch:=omega) only [push_cast,seval,hx])|skip))
 | ((first|(refine Cbz (by kernel_rfl) (by (simp (disch:=omega) only [push_cast,seval,hx])<;>rfl) ?_)|(refine Bnz (t:=23) (sz:=1) (zs:=[.int .i64 0]) (by kernel_rfl) (by (simp (disch:=omega) only [push_cast,seval,hx])<;>rfl) (by (simp (disch:=omega) only [push_cast,seval,hx])<;>rfl) (by first|assumption|omega|(constructor<;>omega)) (by first|((simp (disch:=omega) only [push_cast,seval,hx]);done)|((simp (disch:=omega) only [push_cast,seval,hx]);exact ⟨rfl,by omega⟩)) ?_)|(refine Bnz (t:=127) (sz:=2) (zs:=[.int .i64 0,.int .i64 0]) (by kernel_rfl) (by (simp (disch:=omega) only [push_cast,seval,hx])<;>rfl) (by (simp (disch:=omega) only [push_cast,seval,hx])<;>rfl) (by first|assumption|omega|(constructor<;>omega)) (by first|((simp (disch:=omega) only [push_cast,seval,hx]);done)|((simp (disch:=omega) only [push_cast,seval,hx]);exact ⟨rfl,by omega⟩)) ?_)|(refine Cwz (len:=3) (by kernel_rfl) (by (simp (disch:=omega) only [push_cast,seval,hx])<;>rfl) (by (simp (disch:=omega) only [push_cast,seval,hx])<;>rfl) (by first|assumption|omega|(constructor<;>omega)) (by first|rfl|((simp (disch:=omega) only [push_cast,seval,hx]);rfl)) ?_)|(refine H3z (by kernel_rfl) (by (simp (disch:=omega) only [push_cast,seval,hx])<;>rfl) (by (simp (disch:=omega) only [push_cast,seval,hx])<;>rfl) (by (simp (disch:=omega) only [push_cast,seval,hx])<;>rfl) ?_)|(refine Ewz (by kernel_rfl) (by (simp (disch:=omega) only [push_cast,seval,hx])<;>rfl) (by (simp (disch:=omega) only [push_cast,seval,hx])<;>rfl) (by (simp (disch:=omega) only [push_cast,seval,hx])<;>rfl) (by (simp (disch:=omega) only [push_cast,seval,hx])<;>rfl) ?_))<;>(try simp (disch:=omega) only [push_cast,seval,hx]))
 | (refine Aez ⟨.inr rfl,[],[],_,by decide,rfl,?_⟩;(try simp (disch:=omega) only [push_cast,seval,↓Afz,↓Acz,↓List.map_cons,↓List.map_nil,hx]))))
      refine ⟨(i + 1,mput L1 c1 (xs.getD i 0) ((v:Int) + 1),mclk L1 c1 (xs.getD i 0)),⟨by simp only;omega,hput⟩,by simp only;omega,?_⟩
      (refine Sub.of_lists ?_ ?_ ?_ ?_ ?_<;>simp [Vw.mkS,Vw.lk,Vw.hk,AV.inn,innL,Apz,Anz,Aqz,-List.map_set,-List.getD_eq_getElem?_getD])
    · have e:i=xs.length:=by omega
      subst e
      rw [List.take_length] at hT1
      (repeat' (first
 | (first|refine Ahz ?_|refine Abz ?_)
 | ((first|refine Aiz ?_|refine Adz ?_|refine A2z ?_);simp (disch:=omega) only [push_cast,seval,l125r0,l125r1,l125r2,l125r3,l125r4])
 | ((first|refine Amz (fun h=>?_) (fun h=>?_))<;>(try simp only [h])<;>(try simp only [bitvec_to_nat] at h)<;>(try simp only [h])<;>(first|(exfalso;omega)|(exfalso;simp_all;done)|(simp (disch:=omega) only [push_cast,seval])|skip))
 | ((first|(refine Cbz (by kernel_rfl) (by (simp (disch:=omega) only [push_cast,seval])<;>rfl) ?_)|(refine Bnz (t:=23) (sz:=1) (zs:=[.int .i64 0]) (by kernel_rfl) (by (simp (disch:=omega) only [push_cast,seval])<;>rfl) (by (simp (disch:=omega) only [push_cast,seval])<;>rfl) (by first|assumption|omega|(constructor<;>omega)) (by first|((simp (disch:=omega) only [push_cast,seval]);done)|((simp (disch:=omega) only [push_cast,seval]);exact ⟨rfl,by omega⟩)) ?_)|(refine Bnz (t:=127) (sz:=2) (zs:=[.int .i64 0,.int .i64 0]) (by kernel_rfl) (by (simp (disch:=omega) only [push_cast,seval])<;>rfl) (by (simp (disch:=omega) only [push_cast,seval])<;>rfl) (by first|assumption|omega|(constructor<;>omega)) (by first|((simp (disch:=omega) only [push_cast,seval]);done)|((simp (disch:=omega) only [push_cast,seval]);exact ⟨rfl,by omega⟩)) ?_)|(refine Cwz (len:=3) (by kernel_rfl) (by (simp (disch:=omega) only [push_cast,seval])<;>rfl) (by (simp (disch:=omega) only [push_cast,seval])<;>rfl) (by first|assumption|omega|(constructor<;>omega)) (by first|rfl|((simp (disch:=omega) only [push_cast,seval]);rfl)) ?_)|(refine H3z (by kernel_rfl) (by (simp (disch:=omega) only [push_cast,seval])<;>rfl) (by (simp (disch:=omega) only [push_cast,seval])<;>rfl) (by (simp (disch:=omega) only [push_cast,seval])<;>rfl) ?_)|(refine Ewz (by kernel_rfl) (by (simp (disch:=omega) only [push_cast,seval])<;>rfl) (by (simp (disch:=omega) only [push_cast,seval])<;>rfl) (by (simp (disch:=omega) only [push_cast,seval])<;>rfl) (by (simp (disch:=omega) only [push_cast,seval])<;>rfl) ?_))<;>(try simp (disch:=omega) only [push_cast,seval]))
 | (refine Aez ⟨.inr rfl,[],[],_,by decide,rfl,?_⟩;(try simp (disch:=omega) only [push_cast,seval,↓Afz,↓Acz,↓List.map_cons,↓List.map_nil]))))
      exact ⟨[],[],[],⟨by decide,by simp⟩,rfl,by simp,rfl,L1,c1,hT1,rfl⟩


def ren189:Go.Shelf.Ren:=(⟨fun n=>match n with|125=>156|128=>175|129=>176|189=>131|215=>184|216=>172|257=>155|294=>166|295=>167|296=>168|297=>169|298=>170|299=>171|300=>173|301=>174|328=>179|329=>180|330=>181|331=>182|332=>183|343=>186|_=>0,fun n=>match n with|0=>0|3=>3|4=>4|5=>5|9=>9|28=>23|46=>148|51=>169|53=>172|131=>187|182=>183|183=>184|218=>191|222=>195|228=>198|229=>111|_=>0,fun n=>n⟩:Go.Shelf.Ren)
theorem lays189:Go.Proofs.Lays.n189 Tryz.prog ren189:={ mixed:=by kernel_rfl,f125:=by kernel_rfl,f128:=by kernel_rfl,f129:=by kernel_rfl,f189:=by kernel_rfl,f215:=by kernel_rfl,f216:=by kernel_rfl,f257:=by kernel_rfl,f294:=by kernel_rfl,f295:=by kernel_rfl,f296:=by kernel_rfl,f297:=by kernel_rfl,f298:=by kernel_rfl,f299:=by kernel_rfl,f300:=by kernel_rfl,f301:=by kernel_rfl,f328:=by kernel_rfl,f329:=by kernel_rfl,f330:=by kernel_rfl,f331:=by kernel_rfl,f332:=by kernel_rfl,f343:=by kernel_rfl,t0:=by kernel_rfl,a0:=fun w=>by kernel_rfl,z0:=fun w=>by kernel_rfl,v0:=fun w=>by kernel_rfl,t3:=by kernel_rfl,a3:=fun w=>by kernel_rfl,z3:=fun w=>by kernel_rfl,v3:=fun w=>by kernel_rfl,t4:=by kernel_rfl,a4:=fun w=>by kernel_rfl,z4:=fun w=>by kernel_rfl,v4:=fun w=>by kernel_rfl,t5:=by kernel_rfl,a5:=fun w=>by kernel_rfl,z5:=fun w=>by kernel_rfl,v5:=fun w=>by kernel_rfl,t9:=by kernel_rfl,a9:=fun w=>by kernel_rfl,z9:=fun w=>by kernel_rfl,v9:=fun w=>by kernel_rfl,t28:=by kernel_rfl,a28:=fun w=>by kernel_rfl,z28:=fun w=>by kernel_rfl,v28:=fun w=>by kernel_rfl,t46:=by kernel_rfl,a46:=fun w=>by kernel_rfl,z46:=fun w=>by kernel_rfl,v46:=fun w=>by kernel_rfl,t51:=by kernel_rfl,a51:=fun w=>by kernel_rfl,z51:=fun w=>by kernel_rfl,v51:=fun w=>by kernel_rfl,t53:=by kernel_rfl,a53:=fun w=>by kernel_rfl,z53:=fun w=>by kernel_rfl,v53:=fun w=>by kernel_rfl,t131:=by kernel_rfl,a131:=fun w=>by kernel_rfl,z131:=fun w=>by kernel_rfl,v131:=fun w=>by kernel_rfl,t182:=by kernel_rfl,a182:=fun w=>by kernel_rfl,z182:=fun w=>by kernel_rfl,v182:=fun w=>by kernel_rfl,t183:=by kernel_rfl,a183:=fun w=>by kernel_rfl,z183:=fun w=>by kernel_rfl,v183:=fun w=>by kernel_rfl,t218:=by kernel_rfl,a218:=fun w=>by kernel_rfl,z218:=fun w=>by kernel_rfl,v218:=fun w=>by kernel_rfl,t222:=by kernel_rfl,a222:=fun w=>by kernel_rfl,z222:=fun w=>by kernel_rfl,v222:=fun w=>by kernel_rfl,t228:=by kernel_rfl,a228:=fun w=>by kernel_rfl,z228:=fun w=>by kernel_rfl,v228:=fun w=>by kernel_rfl,t229:=by kernel_rfl,a229:=fun w=>by kernel_rfl,z229:=fun w=>by kernel_rfl,v229:=fun w=>by kernel_rfl }
theorem sort_ok (xs:List Int) (n:Nat) (hn:xs.length=n) (hb:n ≤ 1099511627776):BCall Tryz.prog 131 [.own 0 n 1] [IL xs] (fun r H'=>r=.tup [] ∧ H'=[IL (sorted xs)]):=sort_bcall lays189 xs n hn hb


set_option maxHeartbeats 8000000 in
theorem K6z (L:List ME) (c:Nat) (f:Int → Nat) (t:Nat) (hT:Tal L c f) (hs:∀ k,0 < f k → 0 ≤ k ∧ k ≤ 59) (hb:1 ≤ t ∧ t ≤ 1000):BCall Tryz.prog 103 [.sref 0 0,.int .i64 t] [[mapC L c]] (fun r H'=>r=.own 1 (atL f t).length 1 ∧ H'=[[mapC L c],IL (atL f t)]):=by
  refine Axz (pins:=[0]) (pin:=1) l103_eq rfl rfl rfl ?_
  have hborn:=hT.2.2.2.2
  have hnod:=hT.2.2.2.1
  have hlen:=tal_len hT hs
  (repeat' (first
 | (first|refine Ahz ?_|refine Abz ?_)
 | ((first|refine Aiz ?_);simp (disch:=omega) only [push_cast,seval,l103r0,l103r1,l103r2,l103r3,l103r4,l103r5,l103r6,l103r7,l103r8])
 | ((first|(refine Cbz (by kernel_rfl) (by (simp (disch:=omega) only [push_cast,seval])<;>rfl) ?_)|(refine Bnz (t:=23) (sz:=1) (zs:=[.int .i64 0]) (by kernel_rfl) (by (simp (disch:=omega) only [push_cast,seval])<;>rfl) (by (simp (disch:=omega) only [push_cast,seval])<;>rfl) (by first|assumption|omega|(constructor<;>omega)) (by first|((simp (disch:=omega) only [push_cast,seval]);done)|((simp (disch:=omega) only [push_cast,seval]);exact ⟨rfl,by omega⟩)) ?_)|(refine Bnz (t:=127) (sz:=2) (zs:=[.int .i64 0,.int .i64 0]) (by kernel_rfl) (by (simp (disch:=omega) only [push_cast,seval])<;>rfl) (by (simp (disch:=omega) only [push_cast,seval])<;>rfl) (by first|assumption|omega|(constructor<;>omega)) (by first|((simp (disch:=omega) only [push_cast,seval]);done)|((simp (disch:=omega) only [push_cast,seval]);exact ⟨rfl,by omega⟩)) ?_)|(refine Cwz (len:=3) (by kernel_rfl) (by (simp (disch:=omega) only [push_cast,seval])<;>rfl) (by (simp (disch:=omega) only [push_cast,seval])<;>rfl) (by first|assumption|omega|(constructor<;>omega)) (by first|rfl|((simp (disch:=omega) only [push_cast,seval]);rfl)) ?_)|(refine raw_range (by kernel_rfl) (by (simp (disch:=omega) only [push_cast,seval])<;>rfl) (by (simp (disch:=omega) only [push_cast,seval])<;>rfl) (by first|((simp (disch:=omega) only [push_cast,seval]);done)|((simp (disch:=omega) only [push_cast,seval]);exact ⟨rfl,by omega⟩)) ?_)|(refine raw_next (by (simp (disch:=omega) only [push_cast,seval])<;>rfl) (by (simp (disch:=omega) only [push_cast,seval])<;>rfl) (by (simp (disch:=omega) only [push_cast,seval])<;>rfl) (by first|assumption|omega|(constructor<;>omega)) (fun hall=>?_) (fun p hp hns=>?_))|(refine raw_entry (by (simp (disch:=omega) only [push_cast,seval])<;>rfl) (by (simp (disch:=omega) only [push_cast,seval])<;>rfl) (by (simp (disch:=omega) only [push_cast,seval])<;>rfl) (by first|(refine ⟨?_,rfl⟩;assumption)|assumption) (by first|assumption|omega|(constructor<;>omega)) ?_))<;>(try simp (disch:=omega) only [push_cast,seval]))
 | (refine Aez ⟨.inr rfl,[],[],_,by decide,rfl,?_⟩;(try simp (disch:=omega) only [push_cast,seval,↓Afz,↓Acz,↓List.map_cons,↓List.map_nil]))))
  refine Dhz (fun V:List ME=>mkS [(1,.int .i64 t),(5,.own 336 (pickT t V).length 1),(9,.sref 1 144)] [(0,[mapC L c]),(144,[itC 0 c (V.map (·.2.2))]),(336,IL (pickT t V))]) (fun V=>Seen L V) (fun V=>L.length - V.length) [] (seen_nil L) ?_ ?_
  · refine SubW.adopt [5] 336 1 (by simp [Vw.hk]) (SubW.of ?_)
    simp only [adL,List.map_cons,List.map_nil,adA,List.contains_cons,List.contains_nil]
    (refine Sub.of_lists ?_ ?_ ?_ ?_ ?_<;>simp [Vw.mkS,Vw.lk,Vw.hk,AV.inn,innL,Apz,Anz,Aqz,-List.map_set,-List.getD_eq_getElem?_getD,pickT_nil])
  · intro V hV
    have hle:=pickT_le t V
    have hvl:=Lnz hV
    (repeat' (first
 | (first|refine Ahz ?_|refine Abz ?_)
 | ((first|refine Aiz ?_|refine Adz ?_|refine Aoz ?_|refine A2z ?_);simp (disch:=omega) only [push_cast,seval,l103r0,l103r1,l103r2,l103r3,l103r4,l103r5,l103r6,l103r7,l103r8,Asz,Nat.le_refl])
 | ((first|refine Amz (fun h=>?_) (fun h=>?_))<;>(try simp only [h])<;>(try simp only [bitvec_to_nat] at h)<;>(try simp only [h])<;>(first|(exfalso;omega)|(exfalso;simp_all;done)|(simp (disch:=omega) only [push_cast,seval,Asz,Nat.le_refl])|skip))
 | ((first|(refine Cbz (by kernel_rfl) (by (simp (disch:=omega) only [push_cast,seval,Asz,Nat.le_refl])<;>rfl) ?_)|(refine Bnz (t:=23) (sz:=1) (zs:=[.int .i64 0]) (by kernel_rfl) (by (simp (disch:=omega) only [push_cast,seval,Asz,Nat.le_refl])<;>rfl) (by (simp (disch:=omega) only [push_cast,seval,Asz,Nat.le_refl])<;>rfl) (by first|assumption|omega|(constructor<;>omega)) (by first|((simp (disch:=omega) only [push_cast,seval,Asz,Nat.le_refl]);done)|((simp (disch:=omega) only [push_cast,seval,Asz,Nat.le_refl]);exact ⟨rfl,by omega⟩)) ?_)|(refine Bnz (t:=127) (sz:=2) (zs:=[.int .i64 0,.int .i64 0]) (by kernel_rfl) (by (simp (disch:=omega) only [push_cast,seval,Asz,Nat.le_refl])<;>rfl) (by (simp (disch:=omega) only [push_cast,seval,Asz,Nat.le_refl])<;>rfl) (by first|assumption|omega|(constructor<;>omega)) (by first|((simp (disch:=omega) only [push_cast,seval,Asz,Nat.le_refl]);done)|((simp (disch:=omega) only [push_cast,seval,Asz,Nat.le_refl]);exact ⟨rfl,by omega⟩)) ?_)|(refine Cwz (len:=3) (by kernel_rfl) (by (simp (disch:=omega) only [push_cast,seval,Asz,Nat.le_refl])<;>rfl) (by (simp (disch:=omega) only [push_cast,seval,Asz,Nat.le_refl])<;>rfl) (by first|assumption|omega|(constructor<;>omega)) (by first|rfl|((simp (disch:=omega) only [push_cast,seval,Asz,Nat.le_refl]);rfl)) ?_)|(refine raw_range (by kernel_rfl) (by (simp (disch:=omega) only [push_cast,seval,Asz,Nat.le_refl])<;>rfl) (by (simp (disch:=omega) only [push_cast,seval,Asz,Nat.le_refl])<;>rfl) (by first|((simp (disch:=omega) only [push_cast,seval,Asz,Nat.le_refl]);done)|((simp (disch:=omega) only [push_cast,seval,Asz,Nat.le_refl]);exact ⟨rfl,by omega⟩)) ?_)|(refine raw_next (by (simp (disch:=omega) only [push_cast,seval,Asz,Nat.le_refl])<;>rfl) (by (simp (disch:=omega) only [push_cast,seval,Asz,Nat.le_refl])<;>rfl) (by (simp (disch:=omega) only [push_cast,seval,Asz,Nat.le_refl])<;>rfl) (by first|assumption|omega|(constructor<;>omega)) (fun hall=>?_) (fun p hp hns=>?_))|(refine raw_entry (by (simp (disch:=omega) only [push_cast,seval,Asz,Nat.le_refl])<;>rfl) (by (simp (disch:=omega) only [push_cast,seval,Asz,Nat.le_refl])<;>rfl) (by (simp (disch:=omega) only [push_cast,seval,Asz,Nat.le_refl])<;>rfl) (by first|(refine ⟨?_,rfl⟩;assumption)|assumption) (by first|assumption|omega|(constructor<;>omega)) ?_))<;>(try simp (disch:=omega) only [push_cast,seval,Asz,Nat.le_refl]))
 | ((first|((with_reducible refine A3z (f:=131) [336] false ?_);simp (disch:=omega) only [push_cast,seval,Asz,Nat.le_refl];(refine D6z (id:=336) (sort_ok _ _ ?_ ?_) (by (simp (disch:=omega) only [push_cast,seval,Asz,Nat.le_refl])<;>rfl) ?_;(iterate 2 (exact sd));rintro _ _ ⟨rfl,rfl⟩)))<;>(try simp (disch:=omega) only [push_cast,seval,Asz,Nat.le_refl]))
 | (refine Aez ⟨.inr rfl,[336],[],_,by decide,rfl,?_⟩;(try simp (disch:=omega) only [push_cast,seval,↓Afz,↓Acz,↓List.map_cons,↓List.map_nil,Asz,Nat.le_refl]))))
    · have e1:=seen_all hT hV hall hb.1 hs
      have e2:=Asz (pickT t V)
      rw [e1] at e2
      simp [e1,e2]
    · refine ⟨V ++ [p],G8z hV hp hns,?_,SubW.of ?_⟩
      · have:=Lnz (G8z hV hp hns)
        simp at this ⊢;omega
      · have e3:=pickT_yes (V:=V) h
        (refine Sub.of_lists ?_ ?_ ?_ ?_ ?_<;>simp [Vw.mkS,Vw.lk,Vw.hk,AV.inn,innL,Apz,Anz,Aqz,-List.map_set,-List.getD_eq_getElem?_getD,e3])
    · refine ⟨V ++ [p],G8z hV hp hns,?_,SubW.of ?_⟩
      · have:=Lnz (G8z hV hp hns)
        simp at this ⊢;omega
      · have e3:=pickT_no (V:=V) (p:=p) (t:=t) (by omega)
        (refine Sub.of_lists ?_ ?_ ?_ ?_ ?_<;>simp [Vw.mkS,Vw.lk,Vw.hk,AV.inn,innL,Apz,Anz,Aqz,-List.map_set,-List.getD_eq_getElem?_getD,e3])


set_option maxHeartbeats 8000000 in
theorem tallyOf_ok (vs:List Vw3) (n:Nat) (hn:vs.length=n) (hb:n ≤ 8 ∧ ∀ v ∈ vs,okV v.1 v.2.1 v.2.2 ∧ v.2.2.length=v.2.1.length):BCall Tryz.prog 102 [.rows false (VLs vs) n] [] (fun r H'=>r=.sref 0 0 ∧ ∃ L c,Tal L c (cnt (allO vs)) ∧ H'=[[mapC L c]]):=by
  subst hn
  obtain ⟨hb1,hb2⟩:=hb
  refine Axz (pins:=[]) (pin:=0) l102_eq rfl rfl rfl ?_
  (repeat' (first
 | (first|refine Ahz ?_|refine Abz ?_)
 | ((first|refine Aiz ?_);simp (disch:=omega) only [push_cast,seval,l102r0,l102r1,l102r2,l102r3,l102r4,l102r5,l102r6,l102r7])
 | ((first|(refine Cbz (by kernel_rfl) (by (simp (disch:=omega) only [push_cast,seval])<;>rfl) ?_)|(refine Bnz (t:=23) (sz:=1) (zs:=[.int .i64 0]) (by kernel_rfl) (by (simp (disch:=omega) only [push_cast,seval])<;>rfl) (by (simp (disch:=omega) only [push_cast,seval])<;>rfl) (by first|assumption|omega|(constructor<;>omega)) (by first|((simp (disch:=omega) only [push_cast,seval]);done)|((simp (disch:=omega) only [push_cast,seval]);exact ⟨rfl,by omega⟩)) ?_)|(refine Bnz (t:=127) (sz:=2) (zs:=[.int .i64 0,.int .i64 0]) (by kernel_rfl) (by (simp (disch:=omega) only [push_cast,seval])<;>rfl) (by (simp (disch:=omega) only [push_cast,seval])<;>rfl) (by first|assumption|omega|(constructor<;>omega)) (by first|((simp (disch:=omega) only [push_cast,seval]);done)|((simp (disch:=omega) only [push_cast,seval]);exact ⟨rfl,by omega⟩)) ?_)|(refine Cwz (len:=3) (by kernel_rfl) (by (simp (disch:=omega) only [push_cast,seval])<;>rfl) (by (simp (disch:=omega) only [push_cast,seval])<;>rfl) (by first|assumption|omega|(constructor<;>omega)) (by first|rfl|((simp (disch:=omega) only [push_cast,seval]);rfl)) ?_)|(refine Exz (by first|((simp (disch:=omega) only [push_cast,seval]);done)|((simp (disch:=omega) only [push_cast,seval]);exact ⟨rfl,by omega⟩)) ?_))<;>(try simp (disch:=omega) only [push_cast,seval]))
 | (refine Aez ⟨.inr rfl,[96],[],_,by decide,rfl,?_⟩;(try simp (disch:=omega) only [push_cast,seval,↓Afz,↓Acz,↓List.map_cons,↓List.map_nil]))))
  have hvl:=K9z vs
  refine Baz (fun x:Nat × List ME × Nat=>mkS [(3,.sref 0 96),(7,.rows false (VLs vs) vs.length),(8,.int .i64 vs.length),(9,.int .i64 x.1)] [(96,[mapC x.2.1 x.2.2])]) (fun x=>x.1 ≤ vs.length ∧ Tal x.2.1 x.2.2 (cnt (allO (vs.take x.1)))) (fun x=>vs.length - x.1) (0,[],0) ⟨Nat.zero_le _,tal_nil 0⟩ ?_ ?_
  · (refine Sub.of_lists ?_ ?_ ?_ ?_ ?_<;>simp [Vw.mkS,Vw.lk,Vw.hk,AV.inn,innL,Apz,Anz,Aqz,-List.map_set,-List.getD_eq_getElem?_getD,L2z])
  · rintro ⟨i,L1,c1⟩ ⟨hi,hT1⟩
    simp only at hi hT1
    by_cases hlt:i < vs.length
    · obtain ⟨⟨b,sh,st⟩,hv⟩:∃ v,vs[i]?=some v:=⟨_,List.getElem?_eq_getElem hlt⟩
      have hvm:=List.mem_of_getElem? hv
      have hok:=hb2 _ hvm
      simp only at hok
      have hd:=VLs_drop vs i hv
      have hol:=Bez b sh st
      have hpb:=hok.1.1.2
      have h60:(offs b sh st).length ≤ 1000:=by omega
      have hsn:=Kgz vs i hv
      have hcb:∀ k,cnt (allO (vs.take i)) k ≤ 1000000:=fun k=>by
        have:=cnt_le (allO (vs.take i)) k
        have:=allO_len (vs.take i) (fun v hv=>by have:=hb2 v (List.mem_of_mem_take hv);rw [Bez];have:=this.1.1.2;omega)
        rw [List.length_take] at this
        omega
      have hil:i * 3 + 3 ≤ vs.length * 3:=by omega
      generalize hO:offs b sh st=O at *
      have hcb2:O.length ≤ 1000 ∧ ∀ k,cnt (allO (vs.take i)) k ≤ 1000000:=⟨h60,hcb⟩
      (repeat' (first
 | (first|refine Ahz ?_|refine Abz ?_)
 | ((first|refine Aiz ?_|refine Adz ?_|refine Aoz ?_);simp (disch:=omega) only [push_cast,seval,l102r0,l102r1,l102r2,l102r3,l102r4,l102r5,l102r6,l102r7,hd,hvl,hO,hil,List.length_map])
 | ((first|refine Amz (fun h=>?_) (fun h=>?_))<;>(try simp only [h])<;>(try simp only [bitvec_to_nat] at h)<;>(try simp only [h])<;>(first|(exfalso;omega)|(exfalso;simp_all;done)|(simp (disch:=omega) only [push_cast,seval,hd,hvl,hO,hil,List.length_map])|skip))
 | ((first|(refine Cbz (by kernel_rfl) (by (simp (disch:=omega) only [push_cast,seval,hd,hvl,hO,hil,List.length_map])<;>rfl) ?_)|(refine Bnz (t:=23) (sz:=1) (zs:=[.int .i64 0]) (by kernel_rfl) (by (simp (disch:=omega) only [push_cast,seval,hd,hvl,hO,hil,List.length_map])<;>rfl) (by (simp (disch:=omega) only [push_cast,seval,hd,hvl,hO,hil,List.length_map])<;>rfl) (by first|assumption|omega|(constructor<;>omega)) (by first|((simp (disch:=omega) only [push_cast,seval,hd,hvl,hO,hil,List.length_map]);done)|((simp (disch:=omega) only [push_cast,seval,hd,hvl,hO,hil,List.length_map]);exact ⟨rfl,by omega⟩)) ?_)|(refine Bnz (t:=127) (sz:=2) (zs:=[.int .i64 0,.int .i64 0]) (by kernel_rfl) (by (simp (disch:=omega) only [push_cast,seval,hd,hvl,hO,hil,List.length_map])<;>rfl) (by (simp (disch:=omega) only [push_cast,seval,hd,hvl,hO,hil,List.length_map])<;>rfl) (by first|assumption|omega|(constructor<;>omega)) (by first|((simp (disch:=omega) only [push_cast,seval,hd,hvl,hO,hil,List.length_map]);done)|((simp (disch:=omega) only [push_cast,seval,hd,hvl,hO,hil,List.length_map]);exact ⟨rfl,by omega⟩)) ?_)|(refine Cwz (len:=3) (by kernel_rfl) (by (simp (disch:=omega) only [push_cast,seval,hd,hvl,hO,hil,List.length_map])<;>rfl) (by (simp (disch:=omega) only [push_cast,seval,hd,hvl,hO,hil,List.length_map])<;>rfl) (by first|assumption|omega|(constructor<;>omega)) (by first|rfl|((simp (disch:=omega) only [push_cast,seval,hd,hvl,hO,hil,List.length_map]);rfl)) ?_)|(refine Exz (by first|((simp (disch:=omega) only [push_cast,seval,hd,hvl,hO,hil,List.length_map]);done)|((simp (disch:=omega) only [push_cast,seval,hd,hvl,hO,hil,List.length_map]);exact ⟨rfl,by omega⟩)) ?_))<;>(try simp (disch:=omega) only [push_cast,seval,hd,hvl,hO,hil,List.length_map]))
 | ((first|((with_reducible refine A3z (f:=125) [96] false ?_);simp (disch:=omega) only [push_cast,seval,hd,hvl,hO,hil,List.length_map];(refine D6z (id:=96) (tmeet_ok _ _ _ _ _ ?_ (by assumption) ?_) (by (simp (disch:=omega) only [push_cast,seval,hd,hvl,hO,hil,List.length_map])<;>rfl) ?_;(iterate 2 (exact sd));rintro _ _ ⟨rfl,L',c',hT',rfl⟩)))<;>(try simp (disch:=omega) only [push_cast,seval,hd,hvl,hO,hil,List.length_map]))
 | ((first|refine Alz false ?_);simp (disch:=omega) only [push_cast,seval,hd,hvl,hO,hil,List.length_map])
 | ((first|((first|refine Akz (cells_ok _ _ _ _ _ ?_ ?_ ?_) ?_|refine Agz (cells_ok _ _ _ _ _ ?_ ?_ ?_) ⟨_,_,rfl,rfl⟩ ?_);(iterate 3 (exact sd));rintro _ _ ⟨rfl,rfl⟩))<;>(try simp (disch:=omega) only [push_cast,seval,hd,hvl,hO,hil,List.length_map]))
 | (refine Aez ⟨.inr rfl,[96],[],_,by decide,rfl,?_⟩;(try simp (disch:=omega) only [push_cast,seval,↓Afz,↓Acz,↓List.map_cons,↓List.map_nil,hd,hvl,hO,hil,List.length_map]))))
      refine ⟨(i + 1,L',c'),⟨by simp only;omega,?_⟩,by simp only;omega,?_⟩
      · simp only
        rw [hsn]
        exact tal_congr hT' fun k=>by simp [addF,cnt,List.count_append]
      · (refine Sub.of_lists ?_ ?_ ?_ ?_ ?_<;>simp [Vw.mkS,Vw.lk,Vw.hk,AV.inn,innL,Apz,Anz,Aqz,-List.map_set,-List.getD_eq_getElem?_getD,L2z])
    · have e:i=vs.length:=by omega
      subst e
      rw [List.take_length] at hT1
      (repeat' (first
 | (first|refine Ahz ?_|refine Abz ?_)
 | ((first|refine Aiz ?_|refine Adz ?_|refine A2z ?_);simp (disch:=omega) only [push_cast,seval,l102r0,l102r1,l102r2,l102r3,l102r4,l102r5,l102r6,l102r7])
 | ((first|refine Amz (fun h=>?_) (fun h=>?_))<;>(try simp only [h])<;>(try simp only [bitvec_to_nat] at h)<;>(try simp only [h])<;>(first|(exfalso;omega)|(exfalso;simp_all;done)|(simp (disch:=omega) only [push_cast,seval])|skip))
 | ((first|(refine Cbz (by kernel_rfl) (by (simp (disch:=omega) only [push_cast,seval])<;>rfl) ?_)|(refine Bnz (t:=23) (sz:=1) (zs:=[.int .i64 0]) (by kernel_rfl) (by (simp (disch:=omega) only [push_cast,seval])<;>rfl) (by (simp (disch:=omega) only [push_cast,seval])<;>rfl) (by first|assumption|omega|(constructor<;>omega)) (by first|((simp (disch:=omega) only [push_cast,seval]);done)|((simp (disch:=omega) only [push_cast,seval]);exact ⟨rfl,by omega⟩)) ?_)|(refine Bnz (t:=127) (sz:=2) (zs:=[.int .i64 0,.int .i64 0]) (by kernel_rfl) (by (simp (disch:=omega) only [push_cast,seval])<;>rfl) (by (simp (disch:=omega) only [push_cast,seval])<;>rfl) (by first|assumption|omega|(constructor<;>omega)) (by first|((simp (disch:=omega) only [push_cast,seval]);done)|((simp (disch:=omega) only [push_cast,seval]);exact ⟨rfl,by omega⟩)) ?_)|(refine Cwz (len:=3) (by kernel_rfl) (by (simp (disch:=omega) only [push_cast,seval])<;>rfl) (by (simp (disch:=omega) only [push_cast,seval])<;>rfl) (by first|assumption|omega|(constructor<;>omega)) (by first|rfl|((simp (disch:=omega) only [push_cast,seval]);rfl)) ?_)|(refine Exz (by first|((simp (disch:=omega) only [push_cast,seval]);done)|((simp (disch:=omega) only [push_cast,seval]);exact ⟨rfl,by omega⟩)) ?_))<;>(try simp (disch:=omega) only [push_cast,seval]))
 | (refine Aez ⟨.inr rfl,[96],[],_,by decide,rfl,?_⟩;(try simp (disch:=omega) only [push_cast,seval,↓Afz,↓Acz,↓List.map_cons,↓List.map_nil]))))
      exact ⟨L1,c1,hT1,rfl⟩
theorem tallyOf1_ok (b:Int) (sh st:List Int) (n m:Nat) (hn:sh.length=n) (hm:st.length=m) (hb:okV b sh st ∧ st.length=sh.length):BCall Tryz.prog 102 [.rows false [.int .i64 b,.rows false (IL sh) n,.rows false (IL st) m] 1] [] (fun r H'=>r=.sref 0 0 ∧ ∃ L c,Tal L c (cnt (offs b sh st)) ∧ H'=[[mapC L c]]):=by
  subst hn hm
  have:=tallyOf_ok [(b,sh,st)] 1 rfl ⟨by omega,fun v hv=>by simp at hv;subst hv;exact hb⟩
  simpa [allO,VLs] using this


set_option maxHeartbeats 8000000 in
theorem E4z (b:Int) (sh st:List Int) (n m:Nat) (hn:sh.length=n) (hm:st.length=m) (hv:vV b sh st=true):BCall Tryz.prog 63 [.agg [.int .i64 b,.rows false (IL sh) n,.rows false (IL st) m]] [] (OI (bothL (offs b sh st) (offs b sh st))):=by
  subst hn hm
  have hcs:=Ioz hv
  have hok:=Cjz hv
  have hb0:=G1z hcs
  have hat:=atL_one (offs b sh st)
  have hol:=Bez b sh st
  have hpb:=hok.1.1.2
  have h60:(offs b sh st).length ≤ 1000:=by omega
  refine Axz (pins:=[]) (pin:=0) l63_eq rfl rfl rfl ?_
  (repeat' (first
 | (first|refine Ahz ?_|refine Abz ?_)
 | ((first|refine Aiz ?_);simp (disch:=omega) only [push_cast,seval,l63r0,l63r1,hat,List.length_map])
 | ((first|((with_reducible refine A3z (f:=103) [80] false ?_);simp (disch:=omega) only [push_cast,seval,hat,List.length_map];(refine D6z (id:=80) (K6z _ _ _ _ (by assumption) ?_ ?_) (by (simp (disch:=omega) only [push_cast,seval,hat,List.length_map])<;>rfl) ?_;(iterate 2 (exact sd));rintro _ _ ⟨rfl,rfl⟩)))<;>(try simp (disch:=omega) only [push_cast,seval,hat,List.length_map]))
 | ((first|refine Alz false ?_);simp (disch:=omega) only [push_cast,seval,hat,List.length_map])
 | ((first|(refine Akz (tallyOf1_ok _ _ _ _ _ ?_ ?_ ?_) ?_;(iterate 3 (exact sd));rintro _ _ ⟨rfl,L,c,hT,rfl⟩))<;>(try simp (disch:=omega) only [push_cast,seval,hat,List.length_map]))
 | (refine Aez ⟨.inr rfl,[96],[],_,by decide,rfl,?_⟩;(try simp (disch:=omega) only [push_cast,seval,↓Afz,↓Acz,↓List.map_cons,↓List.map_nil,hat,List.length_map]))))
  all_goals exact ⟨rfl,rfl⟩


set_option maxHeartbeats 8000000 in
theorem Kqz (b:Int) (sh st:List Int) (b':Int) (sh' st':List Int) (n m n' m':Nat) (hn:sh.length=n) (hm:st.length=m) (hn':sh'.length=n') (hm':st'.length=m') (hv:vV b sh st=true) (hv':vV b' sh' st'=true):BCall Tryz.prog 79 [.agg [.int .i64 b,.rows false (IL sh) n,.rows false (IL st) m],.agg [.int .i64 b',.rows false (IL sh') n',.rows false (IL st') m']] [] (OI (bothL (offs b sh st) (offs b' sh' st'))):=by
  subst hn hm hn' hm'
  have hat:=atL_two (offs b sh st) (offs b' sh' st')
  have hc1:=J6z (offs b sh st) (offs b sh st)
  have hc2:=J6z (offs b' sh' st') (offs b' sh' st')
  have hl1:=Izz (offs b sh st) (offs b sh st)
  have hl2:=Izz (offs b' sh' st') (offs b' sh' st')
  generalize hO:offs b sh st=O at *
  generalize hO':offs b' sh' st'=O' at *
  have hs1:=G1z hc1
  have hs2:=G1z hc2
  have hT0:=tal_nil 0
  have hb1:(bothL O O).length ≤ 1000 ∧ ∀ k:Int,(fun _:Int=>0) k ≤ 1000000:=⟨by omega,fun _=>by simp⟩
  have hb2:(bothL O' O').length ≤ 1000 ∧ ∀ k:Int,addF (fun _=>0) (cnt (bothL O O)) k ≤ 1000000:=⟨by omega,fun k=>by have:=cnt_le (bothL O O) k;simp only [addF];omega⟩
  have hs3:∀ k:Int,0 < addF (addF (fun _=>0) (cnt (bothL O O))) (cnt (bothL O' O')) k → 0 ≤ k ∧ k ≤ 59:=Ilz (Ilz (fun k h=>by simp at h) hs1) hs2
  have e0:addF (fun _=>0) (cnt (bothL O O))=cnt (bothL O O):=by funext k;simp [addF]
  refine Axz (pins:=[]) (pin:=0) l79_eq rfl rfl rfl ?_
  (repeat' (first
 | (first|refine Ahz ?_|refine Abz ?_)
 | ((first|refine Aiz ?_);simp (disch:=omega) only [push_cast,seval,l79r0,l79r1,l79r2,l79r3,l79r4,hO,hO',e0,hat,List.length_map])
 | ((first|(refine Cbz (by kernel_rfl) (by (simp (disch:=omega) only [push_cast,seval,hO,hO',e0,hat,List.length_map])<;>rfl) ?_)|(refine Bnz (t:=23) (sz:=1) (zs:=[.int .i64 0]) (by kernel_rfl) (by (simp (disch:=omega) only [push_cast,seval,hO,hO',e0,hat,List.length_map])<;>rfl) (by (simp (disch:=omega) only [push_cast,seval,hO,hO',e0,hat,List.length_map])<;>rfl) (by first|assumption|omega|(constructor<;>omega)) (by first|((simp (disch:=omega) only [push_cast,seval,hO,hO',e0,hat,List.length_map]);done)|((simp (disch:=omega) only [push_cast,seval,hO,hO',e0,hat,List.length_map]);exact ⟨rfl,by omega⟩)) ?_)|(refine Bnz (t:=127) (sz:=2) (zs:=[.int .i64 0,.int .i64 0]) (by kernel_rfl) (by (simp (disch:=omega) only [push_cast,seval,hO,hO',e0,hat,List.length_map])<;>rfl) (by (simp (disch:=omega) only [push_cast,seval,hO,hO',e0,hat,List.length_map])<;>rfl) (by first|assumption|omega|(constructor<;>omega)) (by first|((simp (disch:=omega) only [push_cast,seval,hO,hO',e0,hat,List.length_map]);done)|((simp (disch:=omega) only [push_cast,seval,hO,hO',e0,hat,List.length_map]);exact ⟨rfl,by omega⟩)) ?_)|(refine Cwz (len:=3) (by kernel_rfl) (by (simp (disch:=omega) only [push_cast,seval,hO,hO',e0,hat,List.length_map])<;>rfl) (by (simp (disch:=omega) only [push_cast,seval,hO,hO',e0,hat,List.length_map])<;>rfl) (by first|assumption|omega|(constructor<;>omega)) (by first|rfl|((simp (disch:=omega) only [push_cast,seval,hO,hO',e0,hat,List.length_map]);rfl)) ?_)|(refine Exz (by first|((simp (disch:=omega) only [push_cast,seval,hO,hO',e0,hat,List.length_map]);done)|((simp (disch:=omega) only [push_cast,seval,hO,hO',e0,hat,List.length_map]);exact ⟨rfl,by omega⟩)) ?_))<;>(try simp (disch:=omega) only [push_cast,seval,hO,hO',e0,hat,List.length_map]))
 | ((first|((with_reducible refine A3z (f:=125) [96] false ?_);simp (disch:=omega) only [push_cast,seval,hO,hO',e0,hat,List.length_map];(refine D6z (id:=96) (tmeet_ok _ _ _ _ _ ?_ (by assumption) ?_) (by (simp (disch:=omega) only [push_cast,seval,hO,hO',e0,hat,List.length_map])<;>rfl) ?_;(iterate 2 (exact sd));rintro _ _ ⟨rfl,L',c',hT',rfl⟩))|((with_reducible refine A3z (f:=103) [96] false ?_);simp (disch:=omega) only [push_cast,seval,hO,hO',e0,hat,List.length_map];(refine D6z (id:=96) (K6z _ _ _ _ (by assumption) ?_ ?_) (by (simp (disch:=omega) only [push_cast,seval,hO,hO',e0,hat,List.length_map])<;>rfl) ?_;(iterate 2 (exact sd));rintro _ _ ⟨rfl,rfl⟩)))<;>(try simp (disch:=omega) only [push_cast,seval,hO,hO',e0,hat,List.length_map]))
 | ((first|refine Alz false ?_);simp (disch:=omega) only [push_cast,seval,hO,hO',e0,hat,List.length_map])
 | ((first|((first|refine Akz (E4z _ _ _ _ _ ?_ ?_ ?_) ?_|refine Agz (E4z _ _ _ _ _ ?_ ?_ ?_) ⟨_,_,rfl,rfl⟩ ?_);(iterate 3 (exact sd));rintro _ _ ⟨rfl,rfl⟩))<;>(try simp (disch:=omega) only [push_cast,seval,hO,hO',e0,hat,List.length_map]))
 | (refine Aez ⟨.inr rfl,[256],[],_,by decide,rfl,?_⟩;(try simp (disch:=omega) only [push_cast,seval,↓Afz,↓Acz,↓List.map_cons,↓List.map_nil,hO,hO',e0,hat,List.length_map]))))
  all_goals exact ⟨rfl,rfl⟩

end Go.Proofs.YtkpcjppnjmhanaaGreatDoor
namespace Go.Proofs.YtkpcjppnjmhanaaGreatDoor
open VwM Vw Go
variable [SentA]

set_option maxHeartbeats 8000000 in
theorem iCo_ok (b:Int) (sh st:List Int) (b':Int) (sh' st':List Int) (n m n' m':Nat) (hn:sh.length=n) (hm:st.length=m) (hn':sh'.length=n') (hm':st'.length=m') (hb:(n ≤ 1099511627776 ∧ m ≤ 1099511627776) ∧ n' ≤ 1099511627776 ∧ m' ≤ 1099511627776):PCall Tryz.prog 38 [.agg [.int .i64 b,.rows false (IL sh) n,.rows false (IL st) m],.agg [.int .i64 b',.rows false (IL sh') n',.rows false (IL st') m']] (fun r=>r=(.bool (coB b sh st b' sh' st'))):=by
  subst hn hm hn' hm'
  obtain ⟨⟨hb1,hb2⟩,hb3,hb4⟩:=hb
  refine Awz l38_eq rfl ?_
  unfold coB ovB
  cases hv:vV b sh st with
  | false =>
    (repeat' (first
 | (first|refine Ahz ?_|refine Abz ?_)
 | ((first|refine Aiz ?_|refine Auz (mid:=l38r1a) (post:=l38r1b) mixed (by decide) ?_);simp (disch:=omega) only [push_cast,seval,l38r0,l38r1a,l38r1b,l38r1,hv])
 | ((first|refine A0z false ?_);simp (disch:=omega) only [push_cast,seval,hv])
 | ((first|((first|refine Akz (Ajz (Ayz _ _ _ _ _ ?_ ?_ ?_)) ?_|refine Agz (Ajz (Ayz _ _ _ _ _ ?_ ?_ ?_)) ⟨_,_,rfl,rfl⟩ ?_);(iterate 3 (exact sd));rintro _ _ ⟨rfl,rfl⟩))<;>(try simp (disch:=omega) only [push_cast,seval,hv]))
 | (refine Aez ⟨.inr rfl,_,rfl,?_⟩;(try simp (disch:=omega) only [push_cast,seval,hv]))))
    all_goals simp
  | true =>
  cases hv':vV b' sh' st' with
  | false =>
    (repeat' (first
 | (first|refine Ahz ?_|refine Abz ?_)
 | ((first|refine Aiz ?_|refine Auz (mid:=l38r1a) (post:=l38r1b) mixed (by decide) ?_);simp (disch:=omega) only [push_cast,seval,l38r0,l38r1a,l38r1b,l38r1,hv,hv'])
 | ((first|refine A0z false ?_);simp (disch:=omega) only [push_cast,seval,hv,hv'])
 | ((first|((first|refine Akz (Ajz (Ayz _ _ _ _ _ ?_ ?_ ?_)) ?_|refine Agz (Ajz (Ayz _ _ _ _ _ ?_ ?_ ?_)) ⟨_,_,rfl,rfl⟩ ?_);(iterate 3 (exact sd));rintro _ _ ⟨rfl,rfl⟩))<;>(try simp (disch:=omega) only [push_cast,seval,hv,hv']))
 | (refine Aez ⟨.inr rfl,_,rfl,?_⟩;(try simp (disch:=omega) only [push_cast,seval,hv,hv']))))
    all_goals simp
  | true =>
    have hl:=Izz (offs b sh st) (offs b' sh' st')
    have hok:=Cjz hv
    have hok':=Cjz hv'
    have hol:=Bez b sh st
    have hol':=Bez b' sh' st'
    have hp:=hok.1.1.2
    have hp':=hok'.1.1.2
    have h60:(offs b sh st).length ≤ 60:=by omega
    have h60':(offs b' sh' st').length ≤ 60:=by omega
    have hi:=both_incl (xs:=offs b sh st) (Ioz hv')
    have hl2:=Izz (offs b' sh' st') (offs b' sh' st')
    generalize hO:offs b sh st=O at *
    generalize hO':offs b' sh' st'=O' at *
    (repeat' (first
 | (first|refine Ahz ?_|refine Abz ?_)
 | ((first|refine Aiz ?_|refine Auz (mid:=l38r1a) (post:=l38r1b) mixed (by decide) ?_);simp (disch:=omega) only [push_cast,seval,l38r0,l38r1a,l38r1b,l38r1,hv,hv',hO,hO',hi])
 | ((first|refine Alz false ?_|refine A0z false ?_);simp (disch:=omega) only [push_cast,seval,hv,hv',hO,hO',hi])
 | ((first|((first|refine Akz (Ajz (Ayz _ _ _ _ _ ?_ ?_ ?_)) ?_|refine Agz (Ajz (Ayz _ _ _ _ _ ?_ ?_ ?_)) ⟨_,_,rfl,rfl⟩ ?_);(iterate 3 (exact sd));rintro _ _ ⟨rfl,rfl⟩)|((first|refine Akz (Kqz _ _ _ _ _ _ _ _ _ _ ?_ ?_ ?_ ?_ ?_ ?_) ?_|refine Agz (Kqz _ _ _ _ _ _ _ _ _ _ ?_ ?_ ?_ ?_ ?_ ?_) ⟨_,_,rfl,rfl⟩ ?_);(iterate 6 (exact sd));rintro _ _ ⟨rfl,rfl⟩)|((first|refine Akz (E4z _ _ _ _ _ ?_ ?_ ?_) ?_|refine Agz (E4z _ _ _ _ _ ?_ ?_ ?_) ⟨_,_,rfl,rfl⟩ ?_);(iterate 3 (exact sd));rintro _ _ ⟨rfl,rfl⟩)|((first|refine Akz (Ajz (sequal_ok _ _ _ _ ?_ ?_ ?_)) ?_|refine Agz (Ajz (sequal_ok _ _ _ _ ?_ ?_ ?_)) ⟨_,_,rfl,rfl⟩ ?_);(iterate 3 (exact sd));rintro _ _ ⟨rfl,rfl⟩))<;>(try simp (disch:=omega) only [push_cast,seval,hv,hv',hO,hO',hi]))
 | (refine Aez ⟨.inr rfl,_,rfl,?_⟩;(try simp (disch:=omega) only [push_cast,seval,hv,hv',hO,hO',hi]))))
    all_goals simp

end Go.Proofs.YtkpcjppnjmhanaaGreatDoor
namespace Go.Proofs.YtkpcjppnjmhanaaGreatDoor
open VwM Vw Go
variable [SentA]

end Go.Proofs.YtkpcjppnjmhanaaGreatDoor
namespace Go.Proofs.YtkpcjppnjmhanaaGreatDoor
open VwM Vw Go
variable [SentA]

end Go.Proofs.YtkpcjppnjmhanaaGreatDoor
namespace Go.Proofs.YtkpcjppnjmhanaaGreatDoor
open VwM Vw Go
variable [SentA]

end Go.Proofs.YtkpcjppnjmhanaaGreatDoor
namespace Go.Proofs.YtkpcjppnjmhanaaGreatDoor
open VwM Vw Go
variable [SentA]

theorem someSlice_ok (bs:List Int) (p:Int) (hb:okB bs) (hp:0 ≤ p ∧ p ≤ 900000):BCall Tryz.prog 75 [.ref 0 2 0] [RD bs p] (fun r H'=>∃ f t w hf ht q,(-1000 ≤ f ∧ f ≤ 1000 ∧ -1000 ≤ t ∧ t ≤ 1000 ∧ -1000 ≤ w ∧ w ≤ 1000) ∧ (p ≤ q ∧ q ≤ p + 20) ∧ r=slc f t w hf ht ∧ H'=[RD bs q]):=by
  refine Axz (pins:=[0]) (pin:=1) l75_eq rfl rfl rfl ?_
  (repeat' (first
 | (first
 | (refine awp_join (c1:=.seq (.reg l75r2) _) (fun x:Int × Int × Int × Int × Bool=>mkS [(0,.ref 0 2 0),(2,.ref 32 5 0),(3,.ref 48 5 0)] [(0,RD bs x.2.2.2.1),(32,[.int .i64 0,.int .i64 0,.int .i64 0,.bool false,.bool false]),(48,[.int .i64 x.1,.int .i64 x.2.1,.int .i64 x.2.2.1,.bool x.2.2.2.2,.bool false])]) (fun x=>(-1000 ≤ x.1 ∧ x.1 ≤ 1000 ∧ -1000 ≤ x.2.1 ∧ x.2.1 ≤ 1000 ∧ -1000 ≤ x.2.2.1 ∧ x.2.2.1 ≤ 1000) ∧ p ≤ x.2.2.2.1 ∧ x.2.2.2.1 ≤ p + 5) ?_ ?_;rotate_left;rintro ⟨a,b,c,q,h⟩ ⟨ha,hq⟩;simp only at ha hq ⊢;rotate_right)
 | (refine awp_join (c1:=.seq (.reg l75r5) _) (fun x:Int × Int × Int × Int × Bool × Bool=>mkS [(0,.ref 0 2 0),(2,.ref 32 5 0),(3,.ref 48 5 0)] [(0,RD bs x.2.2.2.1),(32,[.int .i64 0,.int .i64 0,.int .i64 0,.bool false,.bool false]),(48,[.int .i64 x.1,.int .i64 x.2.1,.int .i64 x.2.2.1,.bool x.2.2.2.2.1,.bool x.2.2.2.2.2])]) (fun x=>(-1000 ≤ x.1 ∧ x.1 ≤ 1000 ∧ -1000 ≤ x.2.1 ∧ x.2.1 ≤ 1000 ∧ -1000 ≤ x.2.2.1 ∧ x.2.2.1 ≤ 1000) ∧ p ≤ x.2.2.2.1 ∧ x.2.2.2.1 ≤ p + 10) ?_ ?_;rotate_left;rintro ⟨a,b,c,q,h,h'⟩ ⟨ha,hq⟩;simp only at ha hq ⊢;rotate_right))
 | (first|refine Ahz ?_|refine Abz ?_)
 | ((first|refine Aiz ?_|refine Adz ?_|refine Aoz ?_);simp (disch:=omega) only [push_cast,seval,l75r0,l75r1,l75r2,l75r3,l75r4,l75r5,l75r6,l75r7,l75r8,l75r9,l75r10,l75r11,l75r12,l75r13,l75r14,l75r15])
 | ((first|refine Amz (fun h=>?_) (fun h=>?_))<;>(try simp only [h])<;>(try simp only [bitvec_to_nat] at h)<;>(try simp only [h])<;>(first|(exfalso;omega)|(exfalso;simp_all;done)|(simp (disch:=omega) only [push_cast,seval])|skip))
 | ((first|((with_reducible refine A3z (f:=57) (args:=[Operand.tmp 4,Operand.tmp 5]) [0,80] true ?_);simp (disch:=omega) only [push_cast,seval];(refine Dgz (id:=0) (id':=80) (by decide) (Emz _ _ _ _ ?_ ?_ ?_ ?_ ?_) (by (simp (disch:=omega) only [push_cast,seval])<;>rfl) (by (simp (disch:=omega) only [push_cast,seval])<;>rfl) ?_;(iterate 5 (exact sd));rintro _ _ ⟨x,hx,hx0,rfl,rfl⟩))|((with_reducible refine A3z (f:=57) (args:=[Operand.tmp 12,Operand.tmp 15]) [0,240] true ?_);simp (disch:=omega) only [push_cast,seval];(refine Dgz (id:=0) (id':=240) (by decide) (Emz _ _ _ _ ?_ ?_ ?_ ?_ ?_) (by (simp (disch:=omega) only [push_cast,seval])<;>rfl) (by (simp (disch:=omega) only [push_cast,seval])<;>rfl) ?_;(iterate 5 (exact sd));rintro _ _ ⟨x,hx,hx0,rfl,rfl⟩))|((with_reducible refine A3z (f:=57) (args:=[Operand.tmp 22,Operand.tmp 25]) [0,400] true ?_);simp (disch:=omega) only [push_cast,seval];(refine Dgz (id:=0) (id':=400) (by decide) (Emz _ _ _ _ ?_ ?_ ?_ ?_ ?_) (by (simp (disch:=omega) only [push_cast,seval])<;>rfl) (by (simp (disch:=omega) only [push_cast,seval])<;>rfl) ?_;(iterate 5 (exact sd));rintro _ _ ⟨x,hx,hx0,rfl,rfl⟩))|((with_reducible refine A3z (f:=57) (args:=[Operand.tmp 32,Operand.tmp 33]) [0,528] true ?_);simp (disch:=omega) only [push_cast,seval];(refine Dgz (id:=0) (id':=528) (by decide) (Emz _ _ _ _ ?_ ?_ ?_ ?_ ?_) (by (simp (disch:=omega) only [push_cast,seval])<;>rfl) (by (simp (disch:=omega) only [push_cast,seval])<;>rfl) ?_;(iterate 5 (exact sd));rintro _ _ ⟨x,hx,hx0,rfl,rfl⟩))|((with_reducible refine A3z (f:=57) (args:=[Operand.tmp 41,Operand.tmp 42]) [0,672] true ?_);simp (disch:=omega) only [push_cast,seval];(refine Dgz (id:=0) (id':=672) (by decide) (Emz _ _ _ _ ?_ ?_ ?_ ?_ ?_) (by (simp (disch:=omega) only [push_cast,seval])<;>rfl) (by (simp (disch:=omega) only [push_cast,seval])<;>rfl) ?_;(iterate 5 (exact sd));rintro _ _ ⟨x,hx,hx0,rfl,rfl⟩))|((with_reducible refine A3z (f:=65) [0] true ?_);simp (disch:=omega) only [push_cast,seval];(refine D6z (id:=0) (Guz _ _ _ ?_ ?_) (by (simp (disch:=omega) only [push_cast,seval])<;>rfl) ?_;(iterate 2 (exact sd));rintro _ _ ⟨x,hx0,hx1,rfl,rfl⟩)))<;>(try simp (disch:=omega) only [push_cast,seval]))
 | (refine Aez ⟨.inr rfl,[],[],_,by decide,rfl,?_⟩;(try simp (disch:=omega) only [push_cast,seval,↓Afz,↓Acz,↓List.map_cons,↓List.map_nil]))))
  all_goals first
    | exact ⟨_,_,_,_,_,_,by omega,by omega,rfl,rfl⟩
    | (refine exSub5 (Sub.of_eqs rfl rfl ?_ ?_ ?_) ?_;(focus (simp [Vw.mkS,Vw.lk,Vw.hk,AV.inn,innL,Apz,Anz,Aqz,-List.map_set,-List.getD_eq_getElem?_getD];done));(focus (simp [AV.inn,innL,Vw.hk];done));(focus (simp [AV.inn,innL,Apz,Anz,Aqz,Vw.hk];done));(try simp only);(first|omega|(refine ⟨?_,?_⟩<;>first|assumption|omega)|(refine ⟨?_,?_,?_⟩<;>first|assumption|omega)|(refine ⟨?_,?_,?_,?_⟩<;>first|assumption|omega)))
    | (refine exSub6 (Sub.of_eqs rfl rfl ?_ ?_ ?_) ?_;(focus (simp [Vw.mkS,Vw.lk,Vw.hk,AV.inn,innL,Apz,Anz,Aqz,-List.map_set,-List.getD_eq_getElem?_getD];done));(focus (simp [AV.inn,innL,Vw.hk];done));(focus (simp [AV.inn,innL,Apz,Anz,Aqz,Vw.hk];done));(try simp only);(first|omega|(refine ⟨?_,?_⟩<;>first|assumption|omega)|(refine ⟨?_,?_,?_⟩<;>first|assumption|omega)|(refine ⟨?_,?_,?_,?_⟩<;>first|assumption|omega)))

end Go.Proofs.YtkpcjppnjmhanaaGreatDoor
