/- Texts of this verifier. -/
import Derived.Test.YtgiaepecaokcfaaDoorCB5
import Derived.Test.YtgiaepecaokcfaaDoorCM1
set_option linter.unusedSimpArgs false
set_option linter.unusedVariables false
set_option maxRecDepth 4000
set_option maxHeartbeats 4000000
namespace Go.Proofs.YtgiaepecaokcfaaDoor
open VwM Vw Go

set_option maxHeartbeats 8000000 in
theorem Bbz (L:List ME) (c:Nat) (f:Int → Nat) (xs:List Int) (n:Nat) (hn:xs.length=n) (hT:Tal L c f) (hb:n ≤ 1000 ∧ ∀ k,f k ≤ 1000000):BCall Tryd.prog 54 [.sref 0 0,.rows false (IL xs) n] [[mapC L c]] (fun r H'=>r=.tup [] ∧ ∃ L' c',Tal L' c' (addF f (cnt xs)) ∧ H'=[[mapC L' c']]):=by
  subst hn
  obtain ⟨hb1,hb2⟩:=hb
  refine A3z (pins:=[0]) (pin:=1) l54_eq rfl rfl rfl ?_
  (repeat' (first
 | (first|refine Akz ?_|refine Aez ?_)
 | ((first|refine Alz ?_|refine Adz ?_|refine Afz ?_|refine Agz ?_);simp (disch:=omega) only [push_cast,seval,l54r0,l54r1,l54r2,l54r3,l54r4])
 | ((first|refine Aaz ?_ ?_|refine Acz ?_ ?_|refine Abz ?_ ?_)<;>intro h<;>(try simp only [h])<;>(try simp only [bitvec_to_nat] at h)<;>(try simp only [h])<;>(first|(exfalso;omega)|(exfalso;simp_all;done)|(simp (disch:=omega) only [push_cast,seval])|skip))
 | ((first|(refine A1z (by kernel_rfl) (by (simp (disch:=omega) only [push_cast,seval])<;>rfl) ?_)|(refine Auz (t:=23) (sz:=1) (zs:=[.int .i64 0]) (by kernel_rfl) (by (simp (disch:=omega) only [push_cast,seval])<;>rfl) (by (simp (disch:=omega) only [push_cast,seval])<;>rfl) (by first|assumption|omega|(constructor<;>omega)) (by first|((simp (disch:=omega) only [push_cast,seval]);done)|((simp (disch:=omega) only [push_cast,seval]);exact ⟨rfl,by omega⟩)) ?_)|(refine Auz (t:=0) (sz:=2) (zs:=[.int .i64 0,.int .i64 0]) (by kernel_rfl) (by (simp (disch:=omega) only [push_cast,seval])<;>rfl) (by (simp (disch:=omega) only [push_cast,seval])<;>rfl) (by first|assumption|omega|(constructor<;>omega)) (by first|((simp (disch:=omega) only [push_cast,seval]);done)|((simp (disch:=omega) only [push_cast,seval]);exact ⟨rfl,by omega⟩)) ?_)|(refine A6z (len:=3) (by kernel_rfl) (by (simp (disch:=omega) only [push_cast,seval])<;>rfl) (by (simp (disch:=omega) only [push_cast,seval])<;>rfl) (by first|assumption|omega|(constructor<;>omega)) (by first|rfl|((simp (disch:=omega) only [push_cast,seval]);rfl)) ?_)|(refine Evz (by kernel_rfl) (by (simp (disch:=omega) only [push_cast,seval])<;>rfl) (by (simp (disch:=omega) only [push_cast,seval])<;>rfl) (by (simp (disch:=omega) only [push_cast,seval])<;>rfl) ?_)|(refine Ctz (by kernel_rfl) (by (simp (disch:=omega) only [push_cast,seval])<;>rfl) (by (simp (disch:=omega) only [push_cast,seval])<;>rfl) (by (simp (disch:=omega) only [push_cast,seval])<;>rfl) (by (simp (disch:=omega) only [push_cast,seval])<;>rfl) ?_))<;>(try simp (disch:=omega) only [push_cast,seval]))
 | (refine Aiz ⟨.inr rfl,[],[],_,by decide,rfl,?_⟩;(try simp (disch:=omega) only [push_cast,seval,↓Ajz,↓Ahz,↓List.map_cons,↓List.map_nil]))))
  refine A4z (fun x:Nat × List ME × Nat=>mkS [(0,.sref 0 0),(6,RI xs),(7,.int .i64 xs.length),(8,.int .i64 x.1)] [(0,[mapC x.2.1 x.2.2])]) (fun x=>x.1 ≤ xs.length ∧ Tal x.2.1 x.2.2 (addF f (cnt (xs.take x.1)))) (fun x=>xs.length - x.1) (0,L,c) ⟨Nat.zero_le _,by simpa [addF_nil] using hT⟩ ?_ ?_
  · (refine Sub.of_lists ?_ ?_ ?_ ?_ ?_<;>simp [Vw.mkS,Vw.lk,Vw.hk,AV.inn,innL,Apz,Aoz,Asz,-List.map_set,-List.getD_eq_getElem?_getD])
  · rintro ⟨i,L1,c1⟩ ⟨hi,hT1⟩
    simp only at hi hT1
    by_cases hlt:i < xs.length
    · have hx:=hT1.1 (xs.getD i 0)
      have hb3:addF f (cnt (xs.take i)) (xs.getD i 0) ≤ 1001000:=by
        have:=hb2 (xs.getD i 0)
        have:=cnt_take_le xs i (xs.getD i 0)
        simp only [addF];omega
      have hput:=tal_put hT1 (xs.getD i 0) rfl
      rw [addF_snoc f xs i hlt] at hput
      generalize hv:addF f (cnt (xs.take i)) (xs.getD i 0)=v at *
      (repeat' (first
 | (first|refine Akz ?_|refine Aez ?_)
 | ((first|refine Alz ?_|refine Adz ?_|refine Afz ?_|refine Agz ?_);simp (disch:=omega) only [push_cast,seval,l54r0,l54r1,l54r2,l54r3,l54r4,hx])
 | ((first|refine Aaz ?_ ?_|refine Acz ?_ ?_|refine Abz ?_ ?_)<;>intro h<;>(try simp only [h])<;>(try simp only [bitvec_to_nat] at h)<;>(try simp only [h])<;>(first|(exfalso;omega)|(exfalso;simp_all;done)|(simp (disch:=omega) only [push_cast,seval,hx])|skip))
 | ((first|(refine A1z (by kernel_rfl) (by (simp (disch:=omega) only [push_cast,seval,hx])<;>rfl) ?_)|(refine Auz (t:=23) (sz:=1) (zs:=[.int .i64 0]) (by kernel_rfl) (by (simp (disch:=omega) only [push_cast,seval,hx])<;>rfl) (by (simp (disch:=omega) only [push_cast,seval,hx])<;>rfl) (by first|assumption|omega|(constructor<;>omega)) (by first|((simp (disch:=omega) only [push_cast,seval,hx]);done)|((simp (disch:=omega) only [push_cast,seval,hx]);exact ⟨rfl,by omega⟩)) ?_)|(refine Auz (t:=0) (sz:=2) (zs:=[.int .i64 0,.int .i64 0]) (by kernel_rfl) (by (simp (disch:=omega) only [push_cast,seval,hx])<;>rfl) (by (simp (disch:=omega) only [push_cast,seval,hx])<;>rfl) (by first|assumption|omega|(constructor<;>omega)) (by first|((simp (disch:=omega) only [push_cast,seval,hx]);done)|((simp (disch:=omega) only [push_cast,seval,hx]);exact ⟨rfl,by omega⟩)) ?_)|(refine A6z (len:=3) (by kernel_rfl) (by (simp (disch:=omega) only [push_cast,seval,hx])<;>rfl) (by (simp (disch:=omega) only [push_cast,seval,hx])<;>rfl) (by first|assumption|omega|(constructor<;>omega)) (by first|rfl|((simp (disch:=omega) only [push_cast,seval,hx]);rfl)) ?_)|(refine Evz (by kernel_rfl) (by (simp (disch:=omega) only [push_cast,seval,hx])<;>rfl) (by (simp (disch:=omega) only [push_cast,seval,hx])<;>rfl) (by (simp (disch:=omega) only [push_cast,seval,hx])<;>rfl) ?_)|(refine Ctz (by kernel_rfl) (by (simp (disch:=omega) only [push_cast,seval,hx])<;>rfl) (by (simp (disch:=omega) only [push_cast,seval,hx])<;>rfl) (by (simp (disch:=omega) only [push_cast,seval,hx])<;>rfl) (by (simp (disch:=omega) only [push_cast,seval,hx])<;>rfl) ?_))<;>(try simp (disch:=omega) only [push_cast,seval,hx]))
 | (refine Aiz ⟨.inr rfl,[],[],_,by decide,rfl,?_⟩;(try simp (disch:=omega) only [push_cast,seval,↓Ajz,↓Ahz,↓List.map_cons,↓List.map_nil,hx]))))
      refine ⟨(i + 1,mput L1 c1 (xs.getD i 0) ((v:Int) + 1),mclk L1 c1 (xs.getD i 0)),⟨by simp only;omega,hput⟩,by simp only;omega,?_⟩
      (refine Sub.of_lists ?_ ?_ ?_ ?_ ?_<;>simp [Vw.mkS,Vw.lk,Vw.hk,AV.inn,innL,Apz,Aoz,Asz,-List.map_set,-List.getD_eq_getElem?_getD])
    · have e:i=xs.length:=by omega
      subst e
      rw [List.take_length] at hT1
      (repeat' (first
 | (first|refine Akz ?_|refine Aez ?_)
 | ((first|refine Alz ?_|refine Adz ?_|refine Afz ?_|refine Agz ?_);simp (disch:=omega) only [push_cast,seval,l54r0,l54r1,l54r2,l54r3,l54r4])
 | ((first|refine Aaz ?_ ?_|refine Acz ?_ ?_|refine Abz ?_ ?_)<;>intro h<;>(try simp only [h])<;>(try simp only [bitvec_to_nat] at h)<;>(try simp only [h])<;>(first|(exfalso;omega)|(exfalso;simp_all;done)|(simp (disch:=omega) only [push_cast,seval])|skip))
 | ((first|(refine A1z (by kernel_rfl) (by (simp (disch:=omega) only [push_cast,seval])<;>rfl) ?_)|(refine Auz (t:=23) (sz:=1) (zs:=[.int .i64 0]) (by kernel_rfl) (by (simp (disch:=omega) only [push_cast,seval])<;>rfl) (by (simp (disch:=omega) only [push_cast,seval])<;>rfl) (by first|assumption|omega|(constructor<;>omega)) (by first|((simp (disch:=omega) only [push_cast,seval]);done)|((simp (disch:=omega) only [push_cast,seval]);exact ⟨rfl,by omega⟩)) ?_)|(refine Auz (t:=0) (sz:=2) (zs:=[.int .i64 0,.int .i64 0]) (by kernel_rfl) (by (simp (disch:=omega) only [push_cast,seval])<;>rfl) (by (simp (disch:=omega) only [push_cast,seval])<;>rfl) (by first|assumption|omega|(constructor<;>omega)) (by first|((simp (disch:=omega) only [push_cast,seval]);done)|((simp (disch:=omega) only [push_cast,seval]);exact ⟨rfl,by omega⟩)) ?_)|(refine A6z (len:=3) (by kernel_rfl) (by (simp (disch:=omega) only [push_cast,seval])<;>rfl) (by (simp (disch:=omega) only [push_cast,seval])<;>rfl) (by first|assumption|omega|(constructor<;>omega)) (by first|rfl|((simp (disch:=omega) only [push_cast,seval]);rfl)) ?_)|(refine Evz (by kernel_rfl) (by (simp (disch:=omega) only [push_cast,seval])<;>rfl) (by (simp (disch:=omega) only [push_cast,seval])<;>rfl) (by (simp (disch:=omega) only [push_cast,seval])<;>rfl) ?_)|(refine Ctz (by kernel_rfl) (by (simp (disch:=omega) only [push_cast,seval])<;>rfl) (by (simp (disch:=omega) only [push_cast,seval])<;>rfl) (by (simp (disch:=omega) only [push_cast,seval])<;>rfl) (by (simp (disch:=omega) only [push_cast,seval])<;>rfl) ?_))<;>(try simp (disch:=omega) only [push_cast,seval]))
 | (refine Aiz ⟨.inr rfl,[],[],_,by decide,rfl,?_⟩;(try simp (disch:=omega) only [push_cast,seval,↓Ajz,↓Ahz,↓List.map_cons,↓List.map_nil]))))
      exact ⟨[],[],[],⟨by decide,by simp⟩,rfl,by simp,rfl,L1,c1,hT1,rfl⟩


def ren189:Go.Shelf.Ren:=(⟨fun n=>match n with|125=>63|128=>73|129=>74|189=>61|215=>80|216=>70|257=>62|294=>64|295=>65|296=>66|297=>67|298=>68|299=>69|300=>71|301=>72|328=>75|329=>76|330=>77|331=>78|332=>79|343=>81|_=>0,fun n=>match n with|0=>0|3=>3|4=>4|5=>5|9=>9|28=>23|46=>88|51=>97|53=>99|131=>94|182=>90|183=>91|218=>100|222=>104|228=>106|229=>68|_=>0,fun n=>n⟩:Go.Shelf.Ren)
theorem lays189:Go.Proofs.Lays.n189 Tryd.prog ren189:={ mixed:=by kernel_rfl,f125:=by kernel_rfl,f128:=by kernel_rfl,f129:=by kernel_rfl,f189:=by kernel_rfl,f215:=by kernel_rfl,f216:=by kernel_rfl,f257:=by kernel_rfl,f294:=by kernel_rfl,f295:=by kernel_rfl,f296:=by kernel_rfl,f297:=by kernel_rfl,f298:=by kernel_rfl,f299:=by kernel_rfl,f300:=by kernel_rfl,f301:=by kernel_rfl,f328:=by kernel_rfl,f329:=by kernel_rfl,f330:=by kernel_rfl,f331:=by kernel_rfl,f332:=by kernel_rfl,f343:=by kernel_rfl,t0:=by kernel_rfl,a0:=fun w=>by kernel_rfl,z0:=fun w=>by kernel_rfl,v0:=fun w=>by kernel_rfl,t3:=by kernel_rfl,a3:=fun w=>by kernel_rfl,z3:=fun w=>by kernel_rfl,v3:=fun w=>by kernel_rfl,t4:=by kernel_rfl,a4:=fun w=>by kernel_rfl,z4:=fun w=>by kernel_rfl,v4:=fun w=>by kernel_rfl,t5:=by kernel_rfl,a5:=fun w=>by kernel_rfl,z5:=fun w=>by kernel_rfl,v5:=fun w=>by kernel_rfl,t9:=by kernel_rfl,a9:=fun w=>by kernel_rfl,z9:=fun w=>by kernel_rfl,v9:=fun w=>by kernel_rfl,t28:=by kernel_rfl,a28:=fun w=>by kernel_rfl,z28:=fun w=>by kernel_rfl,v28:=fun w=>by kernel_rfl,t46:=by kernel_rfl,a46:=fun w=>by kernel_rfl,z46:=fun w=>by kernel_rfl,v46:=fun w=>by kernel_rfl,t51:=by kernel_rfl,a51:=fun w=>by kernel_rfl,z51:=fun w=>by kernel_rfl,v51:=fun w=>by kernel_rfl,t53:=by kernel_rfl,a53:=fun w=>by kernel_rfl,z53:=fun w=>by kernel_rfl,v53:=fun w=>by kernel_rfl,t131:=by kernel_rfl,a131:=fun w=>by kernel_rfl,z131:=fun w=>by kernel_rfl,v131:=fun w=>by kernel_rfl,t182:=by kernel_rfl,a182:=fun w=>by kernel_rfl,z182:=fun w=>by kernel_rfl,v182:=fun w=>by kernel_rfl,t183:=by kernel_rfl,a183:=fun w=>by kernel_rfl,z183:=fun w=>by kernel_rfl,v183:=fun w=>by kernel_rfl,t218:=by kernel_rfl,a218:=fun w=>by kernel_rfl,z218:=fun w=>by kernel_rfl,v218:=fun w=>by kernel_rfl,t222:=by kernel_rfl,a222:=fun w=>by kernel_rfl,z222:=fun w=>by kernel_rfl,v222:=fun w=>by kernel_rfl,t228:=by kernel_rfl,a228:=fun w=>by kernel_rfl,z228:=fun w=>by kernel_rfl,v228:=fun w=>by kernel_rfl,t229:=by kernel_rfl,a229:=fun w=>by kernel_rfl,z229:=fun w=>by kernel_rfl,v229:=fun w=>by kernel_rfl }
theorem G4z (xs:List Int) (n:Nat) (hn:xs.length=n) (hb:n ≤ 1099511627776):BCall Tryd.prog 61 [.own 0 n 1] [IL xs] (fun r H'=>r=.tup [] ∧ H'=[IL (sorted xs)]):=sort_bcall lays189 xs n hn hb


set_option maxHeartbeats 8000000 in
theorem Dsz (L:List ME) (c:Nat) (f:Int → Nat) (t:Nat) (hT:Tal L c f) (hs:∀ k,0 < f k → 0 ≤ k ∧ k ≤ 59) (hb:1 ≤ t ∧ t ≤ 1000):BCall Tryd.prog 56 [.sref 0 0,.int .i64 t] [[mapC L c]] (fun r H'=>r=.own 1 (atL f t).length 1 ∧ H'=[[mapC L c],IL (atL f t)]):=by
  refine A3z (pins:=[0]) (pin:=1) l56_eq rfl rfl rfl ?_
  have hborn:=hT.2.2.2.2
  have hnod:=hT.2.2.2.1
  have hlen:=tal_len hT hs
  (repeat' (first
 | (first|refine Akz ?_|refine Aez ?_)
 | ((first|refine Alz ?_|refine Adz ?_|refine Afz ?_|refine Agz ?_);simp (disch:=omega) only [push_cast,seval,l56r0,l56r1,l56r2,l56r3,l56r4,l56r5,l56r6,l56r7,l56r8])
 | ((first|refine Aaz ?_ ?_|refine Acz ?_ ?_|refine Abz ?_ ?_)<;>intro h<;>(try simp only [h])<;>(try simp only [bitvec_to_nat] at h)<;>(try simp only [h])<;>(first|(exfalso;omega)|(exfalso;simp_all;done)|(simp (disch:=omega) only [push_cast,seval])|skip))
 | ((first|(refine A1z (by kernel_rfl) (by (simp (disch:=omega) only [push_cast,seval])<;>rfl) ?_)|(refine Auz (t:=23) (sz:=1) (zs:=[.int .i64 0]) (by kernel_rfl) (by (simp (disch:=omega) only [push_cast,seval])<;>rfl) (by (simp (disch:=omega) only [push_cast,seval])<;>rfl) (by first|assumption|omega|(constructor<;>omega)) (by first|((simp (disch:=omega) only [push_cast,seval]);done)|((simp (disch:=omega) only [push_cast,seval]);exact ⟨rfl,by omega⟩)) ?_)|(refine Auz (t:=0) (sz:=2) (zs:=[.int .i64 0,.int .i64 0]) (by kernel_rfl) (by (simp (disch:=omega) only [push_cast,seval])<;>rfl) (by (simp (disch:=omega) only [push_cast,seval])<;>rfl) (by first|assumption|omega|(constructor<;>omega)) (by first|((simp (disch:=omega) only [push_cast,seval]);done)|((simp (disch:=omega) only [push_cast,seval]);exact ⟨rfl,by omega⟩)) ?_)|(refine A6z (len:=3) (by kernel_rfl) (by (simp (disch:=omega) only [push_cast,seval])<;>rfl) (by (simp (disch:=omega) only [push_cast,seval])<;>rfl) (by first|assumption|omega|(constructor<;>omega)) (by first|rfl|((simp (disch:=omega) only [push_cast,seval]);rfl)) ?_)|(refine raw_range (by kernel_rfl) (by (simp (disch:=omega) only [push_cast,seval])<;>rfl) (by (simp (disch:=omega) only [push_cast,seval])<;>rfl) (by first|((simp (disch:=omega) only [push_cast,seval]);done)|((simp (disch:=omega) only [push_cast,seval]);exact ⟨rfl,by omega⟩)) ?_)|(refine raw_next (by (simp (disch:=omega) only [push_cast,seval])<;>rfl) (by (simp (disch:=omega) only [push_cast,seval])<;>rfl) (by (simp (disch:=omega) only [push_cast,seval])<;>rfl) (by first|assumption|omega|(constructor<;>omega)) (fun hall=>?_) (fun p hp hns=>?_))|(refine raw_entry (by (simp (disch:=omega) only [push_cast,seval])<;>rfl) (by (simp (disch:=omega) only [push_cast,seval])<;>rfl) (by (simp (disch:=omega) only [push_cast,seval])<;>rfl) (by first|(refine ⟨?_,rfl⟩;assumption)|assumption) (by first|assumption|omega|(constructor<;>omega)) ?_))<;>(try simp (disch:=omega) only [push_cast,seval]))
 | ((first|((with_reducible refine qcallI_of (f:=61) [336] false ?_);simp (disch:=omega) only [push_cast,seval];(refine A8z (id:=336) (G4z _ _ ?_ ?_) (by (simp (disch:=omega) only [push_cast,seval])<;>rfl) (by decide) ⟨_,_,rfl,rfl⟩ ?_;(iterate 2 (exact sd));rintro _ _ ⟨rfl,rfl⟩))|((with_reducible refine callD_ids (f:=61) [336] false ?_);simp (disch:=omega) only [push_cast,seval];(refine Bgz (id:=336) (G4z _ _ ?_ ?_) (by (simp (disch:=omega) only [push_cast,seval])<;>rfl) ?_;(iterate 2 (exact sd));rintro _ _ ⟨rfl,rfl⟩)))<;>(try simp (disch:=omega) only [push_cast,seval]))
 | (refine Aiz ⟨.inr rfl,[],[],_,by decide,rfl,?_⟩;(try simp (disch:=omega) only [push_cast,seval,↓Ajz,↓Ahz,↓List.map_cons,↓List.map_nil]))))
  refine awp_loopW (fun V:List ME=>mkS [(1,.int .i64 t),(5,.own 336 (pickT t V).length 1),(9,.sref 1 144)] [(0,[mapC L c]),(144,[itC 0 c (V.map (·.2.2))]),(336,IL (pickT t V))]) (fun V=>Seen L V) (fun V=>L.length - V.length) [] (seen_nil L) ?_ ?_
  · refine SubW.adopt [5] 336 1 (by simp [Vw.hk]) (SubW.of ?_)
    simp only [adL,List.map_cons,List.map_nil,adA,List.contains_cons,List.contains_nil]
    (refine Sub.of_lists ?_ ?_ ?_ ?_ ?_<;>simp [Vw.mkS,Vw.lk,Vw.hk,AV.inn,innL,Apz,Aoz,Asz,-List.map_set,-List.getD_eq_getElem?_getD,pickT_nil])
  · intro V hV
    have hle:=pickT_le t V
    have hvl:=G7z hV
    (repeat' (first
 | (first|refine Akz ?_|refine Aez ?_)
 | ((first|refine Alz ?_|refine Adz ?_|refine Afz ?_|refine Agz ?_);simp (disch:=omega) only [push_cast,seval,l56r0,l56r1,l56r2,l56r3,l56r4,l56r5,l56r6,l56r7,l56r8,Aqz,Nat.le_refl])
 | ((first|refine Aaz ?_ ?_|refine Acz ?_ ?_|refine Abz ?_ ?_)<;>intro h<;>(try simp only [h])<;>(try simp only [bitvec_to_nat] at h)<;>(try simp only [h])<;>(first|(exfalso;omega)|(exfalso;simp_all;done)|(simp (disch:=omega) only [push_cast,seval,Aqz,Nat.le_refl])|skip))
 | ((first|(refine A1z (by kernel_rfl) (by (simp (disch:=omega) only [push_cast,seval,Aqz,Nat.le_refl])<;>rfl) ?_)|(refine Auz (t:=23) (sz:=1) (zs:=[.int .i64 0]) (by kernel_rfl) (by (simp (disch:=omega) only [push_cast,seval,Aqz,Nat.le_refl])<;>rfl) (by (simp (disch:=omega) only [push_cast,seval,Aqz,Nat.le_refl])<;>rfl) (by first|assumption|omega|(constructor<;>omega)) (by first|((simp (disch:=omega) only [push_cast,seval,Aqz,Nat.le_refl]);done)|((simp (disch:=omega) only [push_cast,seval,Aqz,Nat.le_refl]);exact ⟨rfl,by omega⟩)) ?_)|(refine Auz (t:=0) (sz:=2) (zs:=[.int .i64 0,.int .i64 0]) (by kernel_rfl) (by (simp (disch:=omega) only [push_cast,seval,Aqz,Nat.le_refl])<;>rfl) (by (simp (disch:=omega) only [push_cast,seval,Aqz,Nat.le_refl])<;>rfl) (by first|assumption|omega|(constructor<;>omega)) (by first|((simp (disch:=omega) only [push_cast,seval,Aqz,Nat.le_refl]);done)|((simp (disch:=omega) only [push_cast,seval,Aqz,Nat.le_refl]);exact ⟨rfl,by omega⟩)) ?_)|(refine A6z (len:=3) (by kernel_rfl) (by (simp (disch:=omega) only [push_cast,seval,Aqz,Nat.le_refl])<;>rfl) (by (simp (disch:=omega) only [push_cast,seval,Aqz,Nat.le_refl])<;>rfl) (by first|assumption|omega|(constructor<;>omega)) (by first|rfl|((simp (disch:=omega) only [push_cast,seval,Aqz,Nat.le_refl]);rfl)) ?_)|(refine raw_range (by kernel_rfl) (by (simp (disch:=omega) only [push_cast,seval,Aqz,Nat.le_refl])<;>rfl) (by (simp (disch:=omega) only [push_cast,seval,Aqz,Nat.le_refl])<;>rfl) (by first|((simp (disch:=omega) only [push_cast,seval,Aqz,Nat.le_refl]);done)|((simp (disch:=omega) only [push_cast,seval,Aqz,Nat.le_refl]);exact ⟨rfl,by omega⟩)) ?_)|(refine raw_next (by (simp (disch:=omega) only [push_cast,seval,Aqz,Nat.le_refl])<;>rfl) (by (simp (disch:=omega) only [push_cast,seval,Aqz,Nat.le_refl])<;>rfl) (by (simp (disch:=omega) only [push_cast,seval,Aqz,Nat.le_refl])<;>rfl) (by first|assumption|omega|(constructor<;>omega)) (fun hall=>?_) (fun p hp hns=>?_))|(refine raw_entry (by (simp (disch:=omega) only [push_cast,seval,Aqz,Nat.le_refl])<;>rfl) (by (simp (disch:=omega) only [push_cast,seval,Aqz,Nat.le_refl])<;>rfl) (by (simp (disch:=omega) only [push_cast,seval,Aqz,Nat.le_refl])<;>rfl) (by first|(refine ⟨?_,rfl⟩;assumption)|assumption) (by first|assumption|omega|(constructor<;>omega)) ?_))<;>(try simp (disch:=omega) only [push_cast,seval,Aqz,Nat.le_refl]))
 | ((first|((with_reducible refine qcallI_of (f:=61) [336] false ?_);simp (disch:=omega) only [push_cast,seval,Aqz,Nat.le_refl];(refine A8z (id:=336) (G4z _ _ ?_ ?_) (by (simp (disch:=omega) only [push_cast,seval,Aqz,Nat.le_refl])<;>rfl) (by decide) ⟨_,_,rfl,rfl⟩ ?_;(iterate 2 (exact sd));rintro _ _ ⟨rfl,rfl⟩))|((with_reducible refine callD_ids (f:=61) [336] false ?_);simp (disch:=omega) only [push_cast,seval,Aqz,Nat.le_refl];(refine Bgz (id:=336) (G4z _ _ ?_ ?_) (by (simp (disch:=omega) only [push_cast,seval,Aqz,Nat.le_refl])<;>rfl) ?_;(iterate 2 (exact sd));rintro _ _ ⟨rfl,rfl⟩)))<;>(try simp (disch:=omega) only [push_cast,seval,Aqz,Nat.le_refl]))
 | (refine Aiz ⟨.inr rfl,[336],[],_,by decide,rfl,?_⟩;(try simp (disch:=omega) only [push_cast,seval,↓Ajz,↓Ahz,↓List.map_cons,↓List.map_nil,Aqz,Nat.le_refl]))))
    · have e1:=seen_all hT hV hall hb.1 hs
      have e2:=Aqz (pickT t V)
      rw [e1] at e2
      simp [e1,e2]
    · refine ⟨V ++ [p],Ecz hV hp hns,?_,SubW.of ?_⟩
      · have:=G7z (Ecz hV hp hns)
        simp at this ⊢;omega
      · have e3:=pickT_yes (V:=V) h
        (refine Sub.of_lists ?_ ?_ ?_ ?_ ?_<;>simp [Vw.mkS,Vw.lk,Vw.hk,AV.inn,innL,Apz,Aoz,Asz,-List.map_set,-List.getD_eq_getElem?_getD,e3])
    · refine ⟨V ++ [p],Ecz hV hp hns,?_,SubW.of ?_⟩
      · have:=G7z (Ecz hV hp hns)
        simp at this ⊢;omega
      · have e3:=pickT_no (V:=V) (p:=p) (t:=t) (by omega)
        (refine Sub.of_lists ?_ ?_ ?_ ?_ ?_<;>simp [Vw.mkS,Vw.lk,Vw.hk,AV.inn,innL,Apz,Aoz,Asz,-List.map_set,-List.getD_eq_getElem?_getD,e3])


set_option maxHeartbeats 8000000 in
theorem tallyOf_ok (vs:List Vw3) (n:Nat) (hn:vs.length=n) (hb:n ≤ 8 ∧ ∀ v ∈ vs,okV v.1 v.2.1 v.2.2 ∧ v.2.2.length=v.2.1.length):BCall Tryd.prog 60 [.rows false (VLs vs) n] [] (fun r H'=>r=.sref 0 0 ∧ ∃ L c,Tal L c (cnt (allO vs)) ∧ H'=[[mapC L c]]):=by
  subst hn
  obtain ⟨hb1,hb2⟩:=hb
  refine A3z (pins:=[]) (pin:=0) l60_eq rfl rfl rfl ?_
  (repeat' (first
 | (first|refine Akz ?_|refine Aez ?_)
 | ((first|refine Alz ?_|refine Adz ?_|refine Afz ?_|refine Agz ?_);simp (disch:=omega) only [push_cast,seval,l60r0,l60r1,l60r2,l60r3,l60r4,l60r5,l60r6,l60r7])
 | ((first|refine Aaz ?_ ?_|refine Acz ?_ ?_|refine Abz ?_ ?_)<;>intro h<;>(try simp only [h])<;>(try simp only [bitvec_to_nat] at h)<;>(try simp only [h])<;>(first|(exfalso;omega)|(exfalso;simp_all;done)|(simp (disch:=omega) only [push_cast,seval])|skip))
 | ((first|(refine A1z (by kernel_rfl) (by (simp (disch:=omega) only [push_cast,seval])<;>rfl) ?_)|(refine Auz (t:=23) (sz:=1) (zs:=[.int .i64 0]) (by kernel_rfl) (by (simp (disch:=omega) only [push_cast,seval])<;>rfl) (by (simp (disch:=omega) only [push_cast,seval])<;>rfl) (by first|assumption|omega|(constructor<;>omega)) (by first|((simp (disch:=omega) only [push_cast,seval]);done)|((simp (disch:=omega) only [push_cast,seval]);exact ⟨rfl,by omega⟩)) ?_)|(refine Auz (t:=0) (sz:=2) (zs:=[.int .i64 0,.int .i64 0]) (by kernel_rfl) (by (simp (disch:=omega) only [push_cast,seval])<;>rfl) (by (simp (disch:=omega) only [push_cast,seval])<;>rfl) (by first|assumption|omega|(constructor<;>omega)) (by first|((simp (disch:=omega) only [push_cast,seval]);done)|((simp (disch:=omega) only [push_cast,seval]);exact ⟨rfl,by omega⟩)) ?_)|(refine A6z (len:=3) (by kernel_rfl) (by (simp (disch:=omega) only [push_cast,seval])<;>rfl) (by (simp (disch:=omega) only [push_cast,seval])<;>rfl) (by first|assumption|omega|(constructor<;>omega)) (by first|rfl|((simp (disch:=omega) only [push_cast,seval]);rfl)) ?_)|(refine Cuz (by first|((simp (disch:=omega) only [push_cast,seval]);done)|((simp (disch:=omega) only [push_cast,seval]);exact ⟨rfl,by omega⟩)) ?_))<;>(try simp (disch:=omega) only [push_cast,seval]))
 | ((first|((with_reducible refine qcallI_of (f:=54) [96] false ?_);simp (disch:=omega) only [push_cast,seval];(refine A8z (id:=96) (Bbz _ _ _ _ _ ?_ (by assumption) ?_) (by (simp (disch:=omega) only [push_cast,seval])<;>rfl) (by decide) ⟨_,_,rfl,rfl⟩ ?_;(iterate 2 (exact sd));rintro _ _ ⟨rfl,L',c',hT',rfl⟩))|((with_reducible refine qcallI_of (f:=54) [240] false ?_);simp (disch:=omega) only [push_cast,seval];(refine A8z (id:=240) (Bbz _ _ _ _ _ ?_ (by assumption) ?_) (by (simp (disch:=omega) only [push_cast,seval])<;>rfl) (by decide) ⟨_,_,rfl,rfl⟩ ?_;(iterate 2 (exact sd));rintro _ _ ⟨rfl,L',c',hT',rfl⟩))|((with_reducible refine callD_ids (f:=54) [96] false ?_);simp (disch:=omega) only [push_cast,seval];(refine Bgz (id:=96) (Bbz _ _ _ _ _ ?_ (by assumption) ?_) (by (simp (disch:=omega) only [push_cast,seval])<;>rfl) ?_;(iterate 2 (exact sd));rintro _ _ ⟨rfl,L',c',hT',rfl⟩))|((with_reducible refine callD_ids (f:=54) [240] false ?_);simp (disch:=omega) only [push_cast,seval];(refine Bgz (id:=240) (Bbz _ _ _ _ _ ?_ (by assumption) ?_) (by (simp (disch:=omega) only [push_cast,seval])<;>rfl) ?_;(iterate 2 (exact sd));rintro _ _ ⟨rfl,L',c',hT',rfl⟩)))<;>(try simp (disch:=omega) only [push_cast,seval]))
 | ((first|refine Anz false ?_|refine Amz false ?_);simp (disch:=omega) only [push_cast,seval])
 | ((first|((first|refine call0D (cells_ok _ _ _ _ _ ?_ ?_ ?_) ?_|refine qcall0D (cells_ok _ _ _ _ _ ?_ ?_ ?_) ⟨_,_,rfl,rfl⟩ ?_);(iterate 3 (exact sd));rintro _ _ ⟨rfl,rfl⟩))<;>(try simp (disch:=omega) only [push_cast,seval]))
 | (refine Aiz ⟨.inr rfl,[96],[],_,by decide,rfl,?_⟩;(try simp (disch:=omega) only [push_cast,seval,↓Ajz,↓Ahz,↓List.map_cons,↓List.map_nil]))))
  have hvl:=Gwz vs
  refine A4z (fun x:Nat × List ME × Nat=>mkS [(3,.sref 0 96),(7,.rows false (VLs vs) vs.length),(8,.int .i64 vs.length),(9,.int .i64 x.1)] [(96,[mapC x.2.1 x.2.2])]) (fun x=>x.1 ≤ vs.length ∧ Tal x.2.1 x.2.2 (cnt (allO (vs.take x.1)))) (fun x=>vs.length - x.1) (0,[],0) ⟨Nat.zero_le _,tal_nil 0⟩ ?_ ?_
  · (refine Sub.of_lists ?_ ?_ ?_ ?_ ?_<;>simp [Vw.mkS,Vw.lk,Vw.hk,AV.inn,innL,Apz,Aoz,Asz,-List.map_set,-List.getD_eq_getElem?_getD,Hdz])
  · rintro ⟨i,L1,c1⟩ ⟨hi,hT1⟩
    simp only at hi hT1
    by_cases hlt:i < vs.length
    · obtain ⟨⟨b,sh,st⟩,hv⟩:∃ v,vs[i]?=some v:=⟨_,List.getElem?_eq_getElem hlt⟩
      have hvm:=List.mem_of_getElem? hv
      have hok:=hb2 _ hvm
      simp only at hok
      have hd:=VLs_drop vs i hv
      have hol:=Bmz b sh st
      have hpb:=hok.1.1.2
      have h60:(offs b sh st).length ≤ 1000:=by omega
      have hsn:=Giz vs i hv
      have hcb:∀ k,cnt (allO (vs.take i)) k ≤ 1000000:=fun k=>by
        have:=cnt_le (allO (vs.take i)) k
        have:=allO_len (vs.take i) (fun v hv=>by have:=hb2 v (List.mem_of_mem_take hv);rw [Bmz];have:=this.1.1.2;omega)
        rw [List.length_take] at this
        omega
      have hil:i * 3 + 3 ≤ vs.length * 3:=by omega
      generalize hO:offs b sh st=O at *
      have hcb2:O.length ≤ 1000 ∧ ∀ k,cnt (allO (vs.take i)) k ≤ 1000000:=⟨h60,hcb⟩
      (repeat' (first
 | (first|refine Akz ?_|refine Aez ?_)
 | ((first|refine Alz ?_|refine Adz ?_|refine Afz ?_|refine Agz ?_);simp (disch:=omega) only [push_cast,seval,l60r0,l60r1,l60r2,l60r3,l60r4,l60r5,l60r6,l60r7,hd,hvl,hO,hil,List.length_map])
 | ((first|refine Aaz ?_ ?_|refine Acz ?_ ?_|refine Abz ?_ ?_)<;>intro h<;>(try simp only [h])<;>(try simp only [bitvec_to_nat] at h)<;>(try simp only [h])<;>(first|(exfalso;omega)|(exfalso;simp_all;done)|(simp (disch:=omega) only [push_cast,seval,hd,hvl,hO,hil,List.length_map])|skip))
 | ((first|(refine A1z (by kernel_rfl) (by (simp (disch:=omega) only [push_cast,seval,hd,hvl,hO,hil,List.length_map])<;>rfl) ?_)|(refine Auz (t:=23) (sz:=1) (zs:=[.int .i64 0]) (by kernel_rfl) (by (simp (disch:=omega) only [push_cast,seval,hd,hvl,hO,hil,List.length_map])<;>rfl) (by (simp (disch:=omega) only [push_cast,seval,hd,hvl,hO,hil,List.length_map])<;>rfl) (by first|assumption|omega|(constructor<;>omega)) (by first|((simp (disch:=omega) only [push_cast,seval,hd,hvl,hO,hil,List.length_map]);done)|((simp (disch:=omega) only [push_cast,seval,hd,hvl,hO,hil,List.length_map]);exact ⟨rfl,by omega⟩)) ?_)|(refine Auz (t:=0) (sz:=2) (zs:=[.int .i64 0,.int .i64 0]) (by kernel_rfl) (by (simp (disch:=omega) only [push_cast,seval,hd,hvl,hO,hil,List.length_map])<;>rfl) (by (simp (disch:=omega) only [push_cast,seval,hd,hvl,hO,hil,List.length_map])<;>rfl) (by first|assumption|omega|(constructor<;>omega)) (by first|((simp (disch:=omega) only [push_cast,seval,hd,hvl,hO,hil,List.length_map]);done)|((simp (disch:=omega) only [push_cast,seval,hd,hvl,hO,hil,List.length_map]);exact ⟨rfl,by omega⟩)) ?_)|(refine A6z (len:=3) (by kernel_rfl) (by (simp (disch:=omega) only [push_cast,seval,hd,hvl,hO,hil,List.length_map])<;>rfl) (by (simp (disch:=omega) only [push_cast,seval,hd,hvl,hO,hil,List.length_map])<;>rfl) (by first|assumption|omega|(constructor<;>omega)) (by first|rfl|((simp (disch:=omega) only [push_cast,seval,hd,hvl,hO,hil,List.length_map]);rfl)) ?_)|(refine Cuz (by first|((simp (disch:=omega) only [push_cast,seval,hd,hvl,hO,hil,List.length_map]);done)|((simp (disch:=omega) only [push_cast,seval,hd,hvl,hO,hil,List.length_map]);exact ⟨rfl,by omega⟩)) ?_))<;>(try simp (disch:=omega) only [push_cast,seval,hd,hvl,hO,hil,List.length_map]))
 | ((first|((with_reducible refine qcallI_of (f:=54) [96] false ?_);simp (disch:=omega) only [push_cast,seval,hd,hvl,hO,hil,List.length_map];(refine A8z (id:=96) (Bbz _ _ _ _ _ ?_ (by assumption) ?_) (by (simp (disch:=omega) only [push_cast,seval,hd,hvl,hO,hil,List.length_map])<;>rfl) (by decide) ⟨_,_,rfl,rfl⟩ ?_;(iterate 2 (exact sd));rintro _ _ ⟨rfl,L',c',hT',rfl⟩))|((with_reducible refine qcallI_of (f:=54) [240] false ?_);simp (disch:=omega) only [push_cast,seval,hd,hvl,hO,hil,List.length_map];(refine A8z (id:=240) (Bbz _ _ _ _ _ ?_ (by assumption) ?_) (by (simp (disch:=omega) only [push_cast,seval,hd,hvl,hO,hil,List.length_map])<;>rfl) (by decide) ⟨_,_,rfl,rfl⟩ ?_;(iterate 2 (exact sd));rintro _ _ ⟨rfl,L',c',hT',rfl⟩))|((with_reducible refine callD_ids (f:=54) [96] false ?_);simp (disch:=omega) only [push_cast,seval,hd,hvl,hO,hil,List.length_map];(refine Bgz (id:=96) (Bbz _ _ _ _ _ ?_ (by assumption) ?_) (by (simp (disch:=omega) only [push_cast,seval,hd,hvl,hO,hil,List.length_map])<;>rfl) ?_;(iterate 2 (exact sd));rintro _ _ ⟨rfl,L',c',hT',rfl⟩))|((with_reducible refine callD_ids (f:=54) [240] false ?_);simp (disch:=omega) only [push_cast,seval,hd,hvl,hO,hil,List.length_map];(refine Bgz (id:=240) (Bbz _ _ _ _ _ ?_ (by assumption) ?_) (by (simp (disch:=omega) only [push_cast,seval,hd,hvl,hO,hil,List.length_map])<;>rfl) ?_;(iterate 2 (exact sd));rintro _ _ ⟨rfl,L',c',hT',rfl⟩)))<;>(try simp (disch:=omega) only [push_cast,seval,hd,hvl,hO,hil,List.length_map]))
 | ((first|refine Anz false ?_|refine Amz false ?_);simp (disch:=omega) only [push_cast,seval,hd,hvl,hO,hil,List.length_map])
 | ((first|((first|refine call0D (cells_ok _ _ _ _ _ ?_ ?_ ?_) ?_|refine qcall0D (cells_ok _ _ _ _ _ ?_ ?_ ?_) ⟨_,_,rfl,rfl⟩ ?_);(iterate 3 (exact sd));rintro _ _ ⟨rfl,rfl⟩))<;>(try simp (disch:=omega) only [push_cast,seval,hd,hvl,hO,hil,List.length_map]))
 | (refine Aiz ⟨.inr rfl,[96],[],_,by decide,rfl,?_⟩;(try simp (disch:=omega) only [push_cast,seval,↓Ajz,↓Ahz,↓List.map_cons,↓List.map_nil,hd,hvl,hO,hil,List.length_map]))))
      refine ⟨(i + 1,L',c'),⟨by simp only;omega,?_⟩,by simp only;omega,?_⟩
      · simp only
        rw [hsn]
        exact tal_congr hT' fun k=>by simp [addF,cnt,List.count_append]
      · (refine Sub.of_lists ?_ ?_ ?_ ?_ ?_<;>simp [Vw.mkS,Vw.lk,Vw.hk,AV.inn,innL,Apz,Aoz,Asz,-List.map_set,-List.getD_eq_getElem?_getD,Hdz])
    · have e:i=vs.length:=by omega
      subst e
      rw [List.take_length] at hT1
      (repeat' (first
 | (first|refine Akz ?_|refine Aez ?_)
 | ((first|refine Alz ?_|refine Adz ?_|refine Afz ?_|refine Agz ?_);simp (disch:=omega) only [push_cast,seval,l60r0,l60r1,l60r2,l60r3,l60r4,l60r5,l60r6,l60r7])
 | ((first|refine Aaz ?_ ?_|refine Acz ?_ ?_|refine Abz ?_ ?_)<;>intro h<;>(try simp only [h])<;>(try simp only [bitvec_to_nat] at h)<;>(try simp only [h])<;>(first|(exfalso;omega)|(exfalso;simp_all;done)|(simp (disch:=omega) only [push_cast,seval])|skip))
 | ((first|(refine A1z (by kernel_rfl) (by (simp (disch:=omega) only [push_cast,seval])<;>rfl) ?_)|(refine Auz (t:=23) (sz:=1) (zs:=[.int .i64 0]) (by kernel_rfl) (by (simp (disch:=omega) only [push_cast,seval])<;>rfl) (by (simp (disch:=omega) only [push_cast,seval])<;>rfl) (by first|assumption|omega|(constructor<;>omega)) (by first|((simp (disch:=omega) only [push_cast,seval]);done)|((simp (disch:=omega) only [push_cast,seval]);exact ⟨rfl,by omega⟩)) ?_)|(refine Auz (t:=0) (sz:=2) (zs:=[.int .i64 0,.int .i64 0]) (by kernel_rfl) (by (simp (disch:=omega) only [push_cast,seval])<;>rfl) (by (simp (disch:=omega) only [push_cast,seval])<;>rfl) (by first|assumption|omega|(constructor<;>omega)) (by first|((simp (disch:=omega) only [push_cast,seval]);done)|((simp (disch:=omega) only [push_cast,seval]);exact ⟨rfl,by omega⟩)) ?_)|(refine A6z (len:=3) (by kernel_rfl) (by (simp (disch:=omega) only [push_cast,seval])<;>rfl) (by (simp (disch:=omega) only [push_cast,seval])<;>rfl) (by first|assumption|omega|(constructor<;>omega)) (by first|rfl|((simp (disch:=omega) only [push_cast,seval]);rfl)) ?_)|(refine Cuz (by first|((simp (disch:=omega) only [push_cast,seval]);done)|((simp (disch:=omega) only [push_cast,seval]);exact ⟨rfl,by omega⟩)) ?_))<;>(try simp (disch:=omega) only [push_cast,seval]))
 | ((first|((with_reducible refine qcallI_of (f:=54) [96] false ?_);simp (disch:=omega) only [push_cast,seval];(refine A8z (id:=96) (Bbz _ _ _ _ _ ?_ (by assumption) ?_) (by (simp (disch:=omega) only [push_cast,seval])<;>rfl) (by decide) ⟨_,_,rfl,rfl⟩ ?_;(iterate 2 (exact sd));rintro _ _ ⟨rfl,L',c',hT',rfl⟩))|((with_reducible refine qcallI_of (f:=54) [240] false ?_);simp (disch:=omega) only [push_cast,seval];(refine A8z (id:=240) (Bbz _ _ _ _ _ ?_ (by assumption) ?_) (by (simp (disch:=omega) only [push_cast,seval])<;>rfl) (by decide) ⟨_,_,rfl,rfl⟩ ?_;(iterate 2 (exact sd));rintro _ _ ⟨rfl,L',c',hT',rfl⟩))|((with_reducible refine callD_ids (f:=54) [96] false ?_);simp (disch:=omega) only [push_cast,seval];(refine Bgz (id:=96) (Bbz _ _ _ _ _ ?_ (by assumption) ?_) (by (simp (disch:=omega) only [push_cast,seval])<;>rfl) ?_;(iterate 2 (exact sd));rintro _ _ ⟨rfl,L',c',hT',rfl⟩))|((with_reducible refine callD_ids (f:=54) [240] false ?_);simp (disch:=omega) only [push_cast,seval];(refine Bgz (id:=240) (Bbz _ _ _ _ _ ?_ (by assumption) ?_) (by (simp (disch:=omega) only [push_cast,seval])<;>rfl) ?_;(iterate 2 (exact sd));rintro _ _ ⟨rfl,L',c',hT',rfl⟩)))<;>(try simp (disch:=omega) only [push_cast,seval]))
 | ((first|refine Anz false ?_|refine Amz false ?_);simp (disch:=omega) only [push_cast,seval])
 | ((first|((first|refine call0D (cells_ok _ _ _ _ _ ?_ ?_ ?_) ?_|refine qcall0D (cells_ok _ _ _ _ _ ?_ ?_ ?_) ⟨_,_,rfl,rfl⟩ ?_);(iterate 3 (exact sd));rintro _ _ ⟨rfl,rfl⟩))<;>(try simp (disch:=omega) only [push_cast,seval]))
 | (refine Aiz ⟨.inr rfl,[96],[],_,by decide,rfl,?_⟩;(try simp (disch:=omega) only [push_cast,seval,↓Ajz,↓Ahz,↓List.map_cons,↓List.map_nil]))))
      exact ⟨L1,c1,hT1,rfl⟩
theorem tallyOf1_ok (b:Int) (sh st:List Int) (n m:Nat) (hn:sh.length=n) (hm:st.length=m) (hb:okV b sh st ∧ st.length=sh.length):BCall Tryd.prog 60 [.rows false [.int .i64 b,.rows false (IL sh) n,.rows false (IL st) m] 1] [] (fun r H'=>r=.sref 0 0 ∧ ∃ L c,Tal L c (cnt (offs b sh st)) ∧ H'=[[mapC L c]]):=by
  subst hn hm
  have:=tallyOf_ok [(b,sh,st)] 1 rfl ⟨by omega,fun v hv=>by simp at hv;subst hv;exact hb⟩
  simpa [allO,VLs] using this


set_option maxHeartbeats 8000000 in
theorem F4z (b:Int) (sh st:List Int) (n m:Nat) (hn:sh.length=n) (hm:st.length=m) (hv:vV b sh st=true):BCall Tryd.prog 55 [.agg [.int .i64 b,.rows false (IL sh) n,.rows false (IL st) m]] [] (OI (bothL (offs b sh st) (offs b sh st))):=by
  subst hn hm
  have hcs:=vV_cells hv
  have hok:=Efz hv
  have hb0:=D9z hcs
  have hat:=atL_one (offs b sh st)
  have hol:=Bmz b sh st
  have hpb:=hok.1.1.2
  have h60:(offs b sh st).length ≤ 1000:=by omega
  refine A3z (pins:=[]) (pin:=0) l55_eq rfl rfl rfl ?_
  (repeat' (first
 | (first|refine Akz ?_|refine Aez ?_)
 | ((first|refine Alz ?_|refine Adz ?_|refine Afz ?_|refine Agz ?_);simp (disch:=omega) only [push_cast,seval,l55r0,l55r1,hat,List.length_map])
 | ((first|refine Aaz ?_ ?_|refine Acz ?_ ?_|refine Abz ?_ ?_)<;>intro h<;>(try simp only [h])<;>(try simp only [bitvec_to_nat] at h)<;>(try simp only [h])<;>(first|(exfalso;omega)|(exfalso;simp_all;done)|(simp (disch:=omega) only [push_cast,seval,hat,List.length_map])|skip))
 | ((first|((with_reducible refine qcallI_of (f:=56) [80] false ?_);simp (disch:=omega) only [push_cast,seval,hat,List.length_map];(refine A8z (id:=80) (Dsz _ _ _ _ (by assumption) ?_ ?_) (by (simp (disch:=omega) only [push_cast,seval,hat,List.length_map])<;>rfl) (by decide) ⟨_,_,rfl,rfl⟩ ?_;(iterate 2 (exact sd));rintro _ _ ⟨rfl,rfl⟩))|((with_reducible refine callD_ids (f:=56) [80] false ?_);simp (disch:=omega) only [push_cast,seval,hat,List.length_map];(refine Bgz (id:=80) (Dsz _ _ _ _ (by assumption) ?_ ?_) (by (simp (disch:=omega) only [push_cast,seval,hat,List.length_map])<;>rfl) ?_;(iterate 2 (exact sd));rintro _ _ ⟨rfl,rfl⟩)))<;>(try simp (disch:=omega) only [push_cast,seval,hat,List.length_map]))
 | ((first|refine Anz false ?_|refine Amz false ?_);simp (disch:=omega) only [push_cast,seval,hat,List.length_map])
 | ((first|(refine call0D (tallyOf1_ok _ _ _ _ _ ?_ ?_ ?_) ?_;(iterate 3 (exact sd));rintro _ _ ⟨rfl,L,c,hT,rfl⟩)|(refine call0D (tallyOf_ok _ _ ?_ ?_) ?_;(iterate 2 (exact sd));rintro _ _ ⟨rfl,L,c,hT,rfl⟩))<;>(try simp (disch:=omega) only [push_cast,seval,hat,List.length_map]))
 | (refine Aiz ⟨.inr rfl,[96],[],_,by decide,rfl,?_⟩;(try simp (disch:=omega) only [push_cast,seval,↓Ajz,↓Ahz,↓List.map_cons,↓List.map_nil,hat,List.length_map]))))
  all_goals exact ⟨rfl,rfl⟩


set_option maxHeartbeats 8000000 in
theorem overlap_ok (b:Int) (sh st:List Int) (b':Int) (sh' st':List Int) (n m n' m':Nat) (hn:sh.length=n) (hm:st.length=m) (hn':sh'.length=n') (hm':st'.length=m') (hv:vV b sh st=true) (hv':vV b' sh' st'=true):BCall Tryd.prog 45 [.agg [.int .i64 b,.rows false (IL sh) n,.rows false (IL st) m],.agg [.int .i64 b',.rows false (IL sh') n',.rows false (IL st') m']] [] (OI (bothL (offs b sh st) (offs b' sh' st'))):=by
  subst hn hm hn' hm'
  have hat:=atL_two (offs b sh st) (offs b' sh' st')
  have hc1:=F8z (offs b sh st) (offs b sh st)
  have hc2:=F8z (offs b' sh' st') (offs b' sh' st')
  have hl1:=Fgz (offs b sh st) (offs b sh st)
  have hl2:=Fgz (offs b' sh' st') (offs b' sh' st')
  generalize hO:offs b sh st=O at *
  generalize hO':offs b' sh' st'=O' at *
  have hs1:=D9z hc1
  have hs2:=D9z hc2
  have hT0:=tal_nil 0
  have hb1:(bothL O O).length ≤ 1000 ∧ ∀ k:Int,(fun _:Int=>0) k ≤ 1000000:=⟨by omega,fun _=>by simp⟩
  have hb2:(bothL O' O').length ≤ 1000 ∧ ∀ k:Int,addF (fun _=>0) (cnt (bothL O O)) k ≤ 1000000:=⟨by omega,fun k=>by have:=cnt_le (bothL O O) k;simp only [addF];omega⟩
  have hs3:∀ k:Int,0 < addF (addF (fun _=>0) (cnt (bothL O O))) (cnt (bothL O' O')) k → 0 ≤ k ∧ k ≤ 59:=Faz (Faz (fun k h=>by simp at h) hs1) hs2
  have e0:addF (fun _=>0) (cnt (bothL O O))=cnt (bothL O O):=by funext k;simp [addF]
  refine A3z (pins:=[]) (pin:=0) l45_eq rfl rfl rfl ?_
  (repeat' (first
 | (first|refine Akz ?_|refine Aez ?_)
 | ((first|refine Alz ?_|refine Adz ?_|refine Afz ?_|refine Agz ?_);simp (disch:=omega) only [push_cast,seval,l45r0,l45r1,l45r2,l45r3,l45r4,hO,hO',e0,hat,List.length_map])
 | ((first|refine Aaz ?_ ?_|refine Acz ?_ ?_|refine Abz ?_ ?_)<;>intro h<;>(try simp only [h])<;>(try simp only [bitvec_to_nat] at h)<;>(try simp only [h])<;>(first|(exfalso;omega)|(exfalso;simp_all;done)|(simp (disch:=omega) only [push_cast,seval,hO,hO',e0,hat,List.length_map])|skip))
 | ((first|(refine A1z (by kernel_rfl) (by (simp (disch:=omega) only [push_cast,seval,hO,hO',e0,hat,List.length_map])<;>rfl) ?_)|(refine Auz (t:=23) (sz:=1) (zs:=[.int .i64 0]) (by kernel_rfl) (by (simp (disch:=omega) only [push_cast,seval,hO,hO',e0,hat,List.length_map])<;>rfl) (by (simp (disch:=omega) only [push_cast,seval,hO,hO',e0,hat,List.length_map])<;>rfl) (by first|assumption|omega|(constructor<;>omega)) (by first|((simp (disch:=omega) only [push_cast,seval,hO,hO',e0,hat,List.length_map]);done)|((simp (disch:=omega) only [push_cast,seval,hO,hO',e0,hat,List.length_map]);exact ⟨rfl,by omega⟩)) ?_)|(refine Auz (t:=0) (sz:=2) (zs:=[.int .i64 0,.int .i64 0]) (by kernel_rfl) (by (simp (disch:=omega) only [push_cast,seval,hO,hO',e0,hat,List.length_map])<;>rfl) (by (simp (disch:=omega) only [push_cast,seval,hO,hO',e0,hat,List.length_map])<;>rfl) (by first|assumption|omega|(constructor<;>omega)) (by first|((simp (disch:=omega) only [push_cast,seval,hO,hO',e0,hat,List.length_map]);done)|((simp (disch:=omega) only [push_cast,seval,hO,hO',e0,hat,List.length_map]);exact ⟨rfl,by omega⟩)) ?_)|(refine A6z (len:=3) (by kernel_rfl) (by (simp (disch:=omega) only [push_cast,seval,hO,hO',e0,hat,List.length_map])<;>rfl) (by (simp (disch:=omega) only [push_cast,seval,hO,hO',e0,hat,List.length_map])<;>rfl) (by first|assumption|omega|(constructor<;>omega)) (by first|rfl|((simp (disch:=omega) only [push_cast,seval,hO,hO',e0,hat,List.length_map]);rfl)) ?_)|(refine Cuz (by first|((simp (disch:=omega) only [push_cast,seval,hO,hO',e0,hat,List.length_map]);done)|((simp (disch:=omega) only [push_cast,seval,hO,hO',e0,hat,List.length_map]);exact ⟨rfl,by omega⟩)) ?_))<;>(try simp (disch:=omega) only [push_cast,seval,hO,hO',e0,hat,List.length_map]))
 | ((first|((with_reducible refine qcallI_of (f:=54) [96] false ?_);simp (disch:=omega) only [push_cast,seval,hO,hO',e0,hat,List.length_map];(refine A8z (id:=96) (Bbz _ _ _ _ _ ?_ (by assumption) ?_) (by (simp (disch:=omega) only [push_cast,seval,hO,hO',e0,hat,List.length_map])<;>rfl) (by decide) ⟨_,_,rfl,rfl⟩ ?_;(iterate 2 (exact sd));rintro _ _ ⟨rfl,L',c',hT',rfl⟩))|((with_reducible refine qcallI_of (f:=54) [144] false ?_);simp (disch:=omega) only [push_cast,seval,hO,hO',e0,hat,List.length_map];(refine A8z (id:=144) (Bbz _ _ _ _ _ ?_ (by assumption) ?_) (by (simp (disch:=omega) only [push_cast,seval,hO,hO',e0,hat,List.length_map])<;>rfl) (by decide) ⟨_,_,rfl,rfl⟩ ?_;(iterate 2 (exact sd));rintro _ _ ⟨rfl,L',c',hT',rfl⟩))|((with_reducible refine qcallI_of (f:=54) [208] false ?_);simp (disch:=omega) only [push_cast,seval,hO,hO',e0,hat,List.length_map];(refine A8z (id:=208) (Bbz _ _ _ _ _ ?_ (by assumption) ?_) (by (simp (disch:=omega) only [push_cast,seval,hO,hO',e0,hat,List.length_map])<;>rfl) (by decide) ⟨_,_,rfl,rfl⟩ ?_;(iterate 2 (exact sd));rintro _ _ ⟨rfl,L',c',hT',rfl⟩))|((with_reducible refine callD_ids (f:=54) [96] false ?_);simp (disch:=omega) only [push_cast,seval,hO,hO',e0,hat,List.length_map];(refine Bgz (id:=96) (Bbz _ _ _ _ _ ?_ (by assumption) ?_) (by (simp (disch:=omega) only [push_cast,seval,hO,hO',e0,hat,List.length_map])<;>rfl) ?_;(iterate 2 (exact sd));rintro _ _ ⟨rfl,L',c',hT',rfl⟩))|((with_reducible refine callD_ids (f:=54) [144] false ?_);simp (disch:=omega) only [push_cast,seval,hO,hO',e0,hat,List.length_map];(refine Bgz (id:=144) (Bbz _ _ _ _ _ ?_ (by assumption) ?_) (by (simp (disch:=omega) only [push_cast,seval,hO,hO',e0,hat,List.length_map])<;>rfl) ?_;(iterate 2 (exact sd));rintro _ _ ⟨rfl,L',c',hT',rfl⟩))|((with_reducible refine callD_ids (f:=54) [208] false ?_);simp (disch:=omega) only [push_cast,seval,hO,hO',e0,hat,List.length_map];(refine Bgz (id:=208) (Bbz _ _ _ _ _ ?_ (by assumption) ?_) (by (simp (disch:=omega) only [push_cast,seval,hO,hO',e0,hat,List.length_map])<;>rfl) ?_;(iterate 2 (exact sd));rintro _ _ ⟨rfl,L',c',hT',rfl⟩))|((with_reducible refine qcallI_of (f:=56) [96] false ?_);simp (disch:=omega) only [push_cast,seval,hO,hO',e0,hat,List.length_map];(refine A8z (id:=96) (Dsz _ _ _ _ (by assumption) ?_ ?_) (by (simp (disch:=omega) only [push_cast,seval,hO,hO',e0,hat,List.length_map])<;>rfl) (by decide) ⟨_,_,rfl,rfl⟩ ?_;(iterate 2 (exact sd));rintro _ _ ⟨rfl,rfl⟩))|((with_reducible refine callD_ids (f:=56) [96] false ?_);simp (disch:=omega) only [push_cast,seval,hO,hO',e0,hat,List.length_map];(refine Bgz (id:=96) (Dsz _ _ _ _ (by assumption) ?_ ?_) (by (simp (disch:=omega) only [push_cast,seval,hO,hO',e0,hat,List.length_map])<;>rfl) ?_;(iterate 2 (exact sd));rintro _ _ ⟨rfl,rfl⟩)))<;>(try simp (disch:=omega) only [push_cast,seval,hO,hO',e0,hat,List.length_map]))
 | ((first|refine Anz false ?_|refine Amz false ?_);simp (disch:=omega) only [push_cast,seval,hO,hO',e0,hat,List.length_map])
 | ((first|((first|refine call0D (F4z _ _ _ _ _ ?_ ?_ ?_) ?_|refine qcall0D (F4z _ _ _ _ _ ?_ ?_ ?_) ⟨_,_,rfl,rfl⟩ ?_);(iterate 3 (exact sd));rintro _ _ ⟨rfl,rfl⟩))<;>(try simp (disch:=omega) only [push_cast,seval,hO,hO',e0,hat,List.length_map]))
 | (refine Aiz ⟨.inr rfl,[256],[],_,by decide,rfl,?_⟩;(try simp (disch:=omega) only [push_cast,seval,↓Ajz,↓Ahz,↓List.map_cons,↓List.map_nil,hO,hO',e0,hat,List.length_map]))))
  all_goals exact ⟨rfl,rfl⟩

end Go.Proofs.YtgiaepecaokcfaaDoor
