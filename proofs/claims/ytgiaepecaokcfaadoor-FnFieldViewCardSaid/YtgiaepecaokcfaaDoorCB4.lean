/- Texts of this verifier. -/
import Derived.Test.YtgiaepecaokcfaaDoorCB3
import Derived.Test.YtgiaepecaokcfaaDoorCM1
import Derived.Test.YtgiaepecaokcfaaDoorCW3
set_option linter.unusedSimpArgs false
set_option linter.unusedVariables false
set_option maxRecDepth 4000
set_option maxHeartbeats 4000000
namespace Go.Proofs.YtgiaepecaokcfaaDoor
open VwM Vw Go

theorem B0z (σ:List (Nat × AV)) (H:List (Nat × List AV)):(mkS σ H).ev (.global 0)=.prow false [.int .i64 1,.int .i64 2,.int .i64 4] 0:=rfl
theorem Fcz {s:List Int} {k:Nat} (h:∀ j:Nat,j < k → szO (s.getD j 0)=true) (hk:szO (s.getD k 0)=true):∀ j:Nat,j < k + 1 → szO (s.getD j 0)=true:=fun j hj=>by
  by_cases e:j=k
  · rw [e];exact hk
  · exact h j (by omega)


theorem Bzz (x:Int):PCall Tryd.prog 32 [.int .i64 x] (fun r=>r=.bool (szO x)):=by
  refine Ayz l32_eq rfl ?_
  (repeat' (first
 | (first|refine Akz ?_|refine Aez ?_)
 | ((first|refine Alz ?_|refine Adz ?_|refine Afz ?_|refine Agz ?_);simp (disch:=omega) only [push_cast,seval,l32r0,l32r1,l32r2,l32r3,l32r4,l32r5,l32r6,l32r7,B0z])
 | ((first|refine Aaz ?_ ?_|refine Acz ?_ ?_|refine Abz ?_ ?_)<;>intro h<;>(try simp only [h])<;>(try simp only [bitvec_to_nat] at h)<;>(try simp only [h])<;>(first|(exfalso;omega)|(exfalso;simp_all;done)|(simp (disch:=omega) only [push_cast,seval,B0z])|skip))
 | ((first|(refine A1z (by kernel_rfl) (by (simp (disch:=omega) only [push_cast,seval,B0z])<;>rfl) ?_)|(refine Auz (t:=23) (sz:=1) (zs:=[.int .i64 0]) (by kernel_rfl) (by (simp (disch:=omega) only [push_cast,seval,B0z])<;>rfl) (by (simp (disch:=omega) only [push_cast,seval,B0z])<;>rfl) (by first|assumption|omega|(constructor<;>omega)) (by first|((simp (disch:=omega) only [push_cast,seval,B0z]);done)|((simp (disch:=omega) only [push_cast,seval,B0z]);exact ⟨rfl,by omega⟩)) ?_)|(refine Auz (t:=0) (sz:=2) (zs:=[.int .i64 0,.int .i64 0]) (by kernel_rfl) (by (simp (disch:=omega) only [push_cast,seval,B0z])<;>rfl) (by (simp (disch:=omega) only [push_cast,seval,B0z])<;>rfl) (by first|assumption|omega|(constructor<;>omega)) (by first|((simp (disch:=omega) only [push_cast,seval,B0z]);done)|((simp (disch:=omega) only [push_cast,seval,B0z]);exact ⟨rfl,by omega⟩)) ?_)|(refine A6z (len:=3) (by kernel_rfl) (by (simp (disch:=omega) only [push_cast,seval,B0z])<;>rfl) (by (simp (disch:=omega) only [push_cast,seval,B0z])<;>rfl) (by first|assumption|omega|(constructor<;>omega)) (by first|rfl|((simp (disch:=omega) only [push_cast,seval,B0z]);rfl)) ?_))<;>(try simp (disch:=omega) only [push_cast,seval,B0z]))
 | (refine Aiz ⟨.inr rfl,_,rfl,?_⟩;(try simp (disch:=omega) only [push_cast,seval,B0z]))))
  refine A4z (fun k:Nat=>mkS [(0,.int .i64 x),(5,.agg [.int .i64 1,.int .i64 2,.int .i64 4]),(6,.int .i64 k)] []) (fun k=>k ≤ 3 ∧ (1 ≤ k → ¬ x=1) ∧ (2 ≤ k → ¬ x=2) ∧ (3 ≤ k → ¬ x=4)) (fun k=>3 - k) 0 ⟨by omega,by omega,by omega,by omega⟩ ?_ ?_
  · (refine Sub.of_lists ?_ ?_ ?_ ?_ ?_<;>simp [Vw.mkS,Vw.lk,Vw.hk,AV.inn,innL,Apz,Aoz,Asz,-List.map_set,-List.getD_eq_getElem?_getD])
  · rintro k ⟨hk,h1,h2,h3⟩
    rcases (by omega:k=0 ∨ k=1 ∨ k=2 ∨ k=3) with rfl|rfl|rfl|rfl
    · by_cases h:x=1
      · subst h; (repeat' (first
 | (first|refine Akz ?_|refine Aez ?_)
 | ((first|refine Alz ?_|refine Adz ?_|refine Afz ?_|refine Agz ?_);simp (disch:=omega) only [push_cast,seval,l32r0,l32r1,l32r2,l32r3,l32r4,l32r5,l32r6,l32r7])
 | ((first|refine Aaz ?_ ?_|refine Acz ?_ ?_|refine Abz ?_ ?_)<;>intro h<;>(try simp only [h])<;>(try simp only [bitvec_to_nat] at h)<;>(try simp only [h])<;>(first|(exfalso;omega)|(exfalso;simp_all;done)|(simp (disch:=omega) only [push_cast,seval])|skip))
 | ((first|(refine A1z (by kernel_rfl) (by (simp (disch:=omega) only [push_cast,seval])<;>rfl) ?_)|(refine Auz (t:=23) (sz:=1) (zs:=[.int .i64 0]) (by kernel_rfl) (by (simp (disch:=omega) only [push_cast,seval])<;>rfl) (by (simp (disch:=omega) only [push_cast,seval])<;>rfl) (by first|assumption|omega|(constructor<;>omega)) (by first|((simp (disch:=omega) only [push_cast,seval]);done)|((simp (disch:=omega) only [push_cast,seval]);exact ⟨rfl,by omega⟩)) ?_)|(refine Auz (t:=0) (sz:=2) (zs:=[.int .i64 0,.int .i64 0]) (by kernel_rfl) (by (simp (disch:=omega) only [push_cast,seval])<;>rfl) (by (simp (disch:=omega) only [push_cast,seval])<;>rfl) (by first|assumption|omega|(constructor<;>omega)) (by first|((simp (disch:=omega) only [push_cast,seval]);done)|((simp (disch:=omega) only [push_cast,seval]);exact ⟨rfl,by omega⟩)) ?_)|(refine A6z (len:=3) (by kernel_rfl) (by (simp (disch:=omega) only [push_cast,seval])<;>rfl) (by (simp (disch:=omega) only [push_cast,seval])<;>rfl) (by first|assumption|omega|(constructor<;>omega)) (by first|rfl|((simp (disch:=omega) only [push_cast,seval]);rfl)) ?_))<;>(try simp (disch:=omega) only [push_cast,seval]))
 | (refine Aiz ⟨.inr rfl,_,rfl,?_⟩;(try simp (disch:=omega) only [push_cast,seval]))))
        all_goals rfl
      · (repeat' (first
 | (first|refine Akz ?_|refine Aez ?_)
 | ((first|refine Alz ?_|refine Adz ?_|refine Afz ?_|refine Agz ?_);simp (disch:=omega) only [push_cast,seval,l32r0,l32r1,l32r2,l32r3,l32r4,l32r5,l32r6,l32r7,h])
 | ((first|refine Aaz ?_ ?_|refine Acz ?_ ?_|refine Abz ?_ ?_)<;>intro h<;>(try simp only [h])<;>(try simp only [bitvec_to_nat] at h)<;>(try simp only [h])<;>(first|(exfalso;omega)|(exfalso;simp_all;done)|(simp (disch:=omega) only [push_cast,seval,h])|skip))
 | ((first|(refine A1z (by kernel_rfl) (by (simp (disch:=omega) only [push_cast,seval,h])<;>rfl) ?_)|(refine Auz (t:=23) (sz:=1) (zs:=[.int .i64 0]) (by kernel_rfl) (by (simp (disch:=omega) only [push_cast,seval,h])<;>rfl) (by (simp (disch:=omega) only [push_cast,seval,h])<;>rfl) (by first|assumption|omega|(constructor<;>omega)) (by first|((simp (disch:=omega) only [push_cast,seval,h]);done)|((simp (disch:=omega) only [push_cast,seval,h]);exact ⟨rfl,by omega⟩)) ?_)|(refine Auz (t:=0) (sz:=2) (zs:=[.int .i64 0,.int .i64 0]) (by kernel_rfl) (by (simp (disch:=omega) only [push_cast,seval,h])<;>rfl) (by (simp (disch:=omega) only [push_cast,seval,h])<;>rfl) (by first|assumption|omega|(constructor<;>omega)) (by first|((simp (disch:=omega) only [push_cast,seval,h]);done)|((simp (disch:=omega) only [push_cast,seval,h]);exact ⟨rfl,by omega⟩)) ?_)|(refine A6z (len:=3) (by kernel_rfl) (by (simp (disch:=omega) only [push_cast,seval,h])<;>rfl) (by (simp (disch:=omega) only [push_cast,seval,h])<;>rfl) (by first|assumption|omega|(constructor<;>omega)) (by first|rfl|((simp (disch:=omega) only [push_cast,seval,h]);rfl)) ?_))<;>(try simp (disch:=omega) only [push_cast,seval,h]))
 | (refine Aiz ⟨.inr rfl,_,rfl,?_⟩;(try simp (disch:=omega) only [push_cast,seval,h]))))
        all_goals (refine ⟨1,⟨by omega,fun _=>(by first|exact h|trivial),fun h'=>absurd h' (by omega),fun h'=>absurd h' (by omega)⟩,by omega,?_⟩;(refine Sub.of_lists ?_ ?_ ?_ ?_ ?_<;>simp [Vw.mkS,Vw.lk,Vw.hk,AV.inn,innL,Apz,Aoz,Asz,-List.map_set,-List.getD_eq_getElem?_getD]))
    · by_cases h:x=2
      · subst h; (repeat' (first
 | (first|refine Akz ?_|refine Aez ?_)
 | ((first|refine Alz ?_|refine Adz ?_|refine Afz ?_|refine Agz ?_);simp (disch:=omega) only [push_cast,seval,l32r0,l32r1,l32r2,l32r3,l32r4,l32r5,l32r6,l32r7])
 | ((first|refine Aaz ?_ ?_|refine Acz ?_ ?_|refine Abz ?_ ?_)<;>intro h<;>(try simp only [h])<;>(try simp only [bitvec_to_nat] at h)<;>(try simp only [h])<;>(first|(exfalso;omega)|(exfalso;simp_all;done)|(simp (disch:=omega) only [push_cast,seval])|skip))
 | ((first|(refine A1z (by kernel_rfl) (by (simp (disch:=omega) only [push_cast,seval])<;>rfl) ?_)|(refine Auz (t:=23) (sz:=1) (zs:=[.int .i64 0]) (by kernel_rfl) (by (simp (disch:=omega) only [push_cast,seval])<;>rfl) (by (simp (disch:=omega) only [push_cast,seval])<;>rfl) (by first|assumption|omega|(constructor<;>omega)) (by first|((simp (disch:=omega) only [push_cast,seval]);done)|((simp (disch:=omega) only [push_cast,seval]);exact ⟨rfl,by omega⟩)) ?_)|(refine Auz (t:=0) (sz:=2) (zs:=[.int .i64 0,.int .i64 0]) (by kernel_rfl) (by (simp (disch:=omega) only [push_cast,seval])<;>rfl) (by (simp (disch:=omega) only [push_cast,seval])<;>rfl) (by first|assumption|omega|(constructor<;>omega)) (by first|((simp (disch:=omega) only [push_cast,seval]);done)|((simp (disch:=omega) only [push_cast,seval]);exact ⟨rfl,by omega⟩)) ?_)|(refine A6z (len:=3) (by kernel_rfl) (by (simp (disch:=omega) only [push_cast,seval])<;>rfl) (by (simp (disch:=omega) only [push_cast,seval])<;>rfl) (by first|assumption|omega|(constructor<;>omega)) (by first|rfl|((simp (disch:=omega) only [push_cast,seval]);rfl)) ?_))<;>(try simp (disch:=omega) only [push_cast,seval]))
 | (refine Aiz ⟨.inr rfl,_,rfl,?_⟩;(try simp (disch:=omega) only [push_cast,seval]))))
        all_goals rfl
      · (repeat' (first
 | (first|refine Akz ?_|refine Aez ?_)
 | ((first|refine Alz ?_|refine Adz ?_|refine Afz ?_|refine Agz ?_);simp (disch:=omega) only [push_cast,seval,l32r0,l32r1,l32r2,l32r3,l32r4,l32r5,l32r6,l32r7,h])
 | ((first|refine Aaz ?_ ?_|refine Acz ?_ ?_|refine Abz ?_ ?_)<;>intro h<;>(try simp only [h])<;>(try simp only [bitvec_to_nat] at h)<;>(try simp only [h])<;>(first|(exfalso;omega)|(exfalso;simp_all;done)|(simp (disch:=omega) only [push_cast,seval,h])|skip))
 | ((first|(refine A1z (by kernel_rfl) (by (simp (disch:=omega) only [push_cast,seval,h])<;>rfl) ?_)|(refine Auz (t:=23) (sz:=1) (zs:=[.int .i64 0]) (by kernel_rfl) (by (simp (disch:=omega) only [push_cast,seval,h])<;>rfl) (by (simp (disch:=omega) only [push_cast,seval,h])<;>rfl) (by first|assumption|omega|(constructor<;>omega)) (by first|((simp (disch:=omega) only [push_cast,seval,h]);done)|((simp (disch:=omega) only [push_cast,seval,h]);exact ⟨rfl,by omega⟩)) ?_)|(refine Auz (t:=0) (sz:=2) (zs:=[.int .i64 0,.int .i64 0]) (by kernel_rfl) (by (simp (disch:=omega) only [push_cast,seval,h])<;>rfl) (by (simp (disch:=omega) only [push_cast,seval,h])<;>rfl) (by first|assumption|omega|(constructor<;>omega)) (by first|((simp (disch:=omega) only [push_cast,seval,h]);done)|((simp (disch:=omega) only [push_cast,seval,h]);exact ⟨rfl,by omega⟩)) ?_)|(refine A6z (len:=3) (by kernel_rfl) (by (simp (disch:=omega) only [push_cast,seval,h])<;>rfl) (by (simp (disch:=omega) only [push_cast,seval,h])<;>rfl) (by first|assumption|omega|(constructor<;>omega)) (by first|rfl|((simp (disch:=omega) only [push_cast,seval,h]);rfl)) ?_))<;>(try simp (disch:=omega) only [push_cast,seval,h]))
 | (refine Aiz ⟨.inr rfl,_,rfl,?_⟩;(try simp (disch:=omega) only [push_cast,seval,h]))))
        all_goals (refine ⟨2,⟨by omega,fun _=>(by first|exact h1 (by omega)|trivial),fun _=>(by first|exact h|trivial),fun h'=>absurd h' (by omega)⟩,by omega,?_⟩;(refine Sub.of_lists ?_ ?_ ?_ ?_ ?_<;>simp [Vw.mkS,Vw.lk,Vw.hk,AV.inn,innL,Apz,Aoz,Asz,-List.map_set,-List.getD_eq_getElem?_getD]))
    · by_cases h:x=4
      · subst h; (repeat' (first
 | (first|refine Akz ?_|refine Aez ?_)
 | ((first|refine Alz ?_|refine Adz ?_|refine Afz ?_|refine Agz ?_);simp (disch:=omega) only [push_cast,seval,l32r0,l32r1,l32r2,l32r3,l32r4,l32r5,l32r6,l32r7])
 | ((first|refine Aaz ?_ ?_|refine Acz ?_ ?_|refine Abz ?_ ?_)<;>intro h<;>(try simp only [h])<;>(try simp only [bitvec_to_nat] at h)<;>(try simp only [h])<;>(first|(exfalso;omega)|(exfalso;simp_all;done)|(simp (disch:=omega) only [push_cast,seval])|skip))
 | ((first|(refine A1z (by kernel_rfl) (by (simp (disch:=omega) only [push_cast,seval])<;>rfl) ?_)|(refine Auz (t:=23) (sz:=1) (zs:=[.int .i64 0]) (by kernel_rfl) (by (simp (disch:=omega) only [push_cast,seval])<;>rfl) (by (simp (disch:=omega) only [push_cast,seval])<;>rfl) (by first|assumption|omega|(constructor<;>omega)) (by first|((simp (disch:=omega) only [push_cast,seval]);done)|((simp (disch:=omega) only [push_cast,seval]);exact ⟨rfl,by omega⟩)) ?_)|(refine Auz (t:=0) (sz:=2) (zs:=[.int .i64 0,.int .i64 0]) (by kernel_rfl) (by (simp (disch:=omega) only [push_cast,seval])<;>rfl) (by (simp (disch:=omega) only [push_cast,seval])<;>rfl) (by first|assumption|omega|(constructor<;>omega)) (by first|((simp (disch:=omega) only [push_cast,seval]);done)|((simp (disch:=omega) only [push_cast,seval]);exact ⟨rfl,by omega⟩)) ?_)|(refine A6z (len:=3) (by kernel_rfl) (by (simp (disch:=omega) only [push_cast,seval])<;>rfl) (by (simp (disch:=omega) only [push_cast,seval])<;>rfl) (by first|assumption|omega|(constructor<;>omega)) (by first|rfl|((simp (disch:=omega) only [push_cast,seval]);rfl)) ?_))<;>(try simp (disch:=omega) only [push_cast,seval]))
 | (refine Aiz ⟨.inr rfl,_,rfl,?_⟩;(try simp (disch:=omega) only [push_cast,seval]))))
        all_goals rfl
      · (repeat' (first
 | (first|refine Akz ?_|refine Aez ?_)
 | ((first|refine Alz ?_|refine Adz ?_|refine Afz ?_|refine Agz ?_);simp (disch:=omega) only [push_cast,seval,l32r0,l32r1,l32r2,l32r3,l32r4,l32r5,l32r6,l32r7,h])
 | ((first|refine Aaz ?_ ?_|refine Acz ?_ ?_|refine Abz ?_ ?_)<;>intro h<;>(try simp only [h])<;>(try simp only [bitvec_to_nat] at h)<;>(try simp only [h])<;>(first|(exfalso;omega)|(exfalso;simp_all;done)|(simp (disch:=omega) only [push_cast,seval,h])|skip))
 | ((first|(refine A1z (by kernel_rfl) (by (simp (disch:=omega) only [push_cast,seval,h])<;>rfl) ?_)|(refine Auz (t:=23) (sz:=1) (zs:=[.int .i64 0]) (by kernel_rfl) (by (simp (disch:=omega) only [push_cast,seval,h])<;>rfl) (by (simp (disch:=omega) only [push_cast,seval,h])<;>rfl) (by first|assumption|omega|(constructor<;>omega)) (by first|((simp (disch:=omega) only [push_cast,seval,h]);done)|((simp (disch:=omega) only [push_cast,seval,h]);exact ⟨rfl,by omega⟩)) ?_)|(refine Auz (t:=0) (sz:=2) (zs:=[.int .i64 0,.int .i64 0]) (by kernel_rfl) (by (simp (disch:=omega) only [push_cast,seval,h])<;>rfl) (by (simp (disch:=omega) only [push_cast,seval,h])<;>rfl) (by first|assumption|omega|(constructor<;>omega)) (by first|((simp (disch:=omega) only [push_cast,seval,h]);done)|((simp (disch:=omega) only [push_cast,seval,h]);exact ⟨rfl,by omega⟩)) ?_)|(refine A6z (len:=3) (by kernel_rfl) (by (simp (disch:=omega) only [push_cast,seval,h])<;>rfl) (by (simp (disch:=omega) only [push_cast,seval,h])<;>rfl) (by first|assumption|omega|(constructor<;>omega)) (by first|rfl|((simp (disch:=omega) only [push_cast,seval,h]);rfl)) ?_))<;>(try simp (disch:=omega) only [push_cast,seval,h]))
 | (refine Aiz ⟨.inr rfl,_,rfl,?_⟩;(try simp (disch:=omega) only [push_cast,seval,h]))))
        all_goals (refine ⟨3,⟨by omega,fun _=>(by first|exact h1 (by omega)|trivial),fun _=>(by first|exact h2 (by omega)|trivial),fun _=>(by first|exact h|trivial)⟩,by omega,?_⟩;(refine Sub.of_lists ?_ ?_ ?_ ?_ ?_<;>simp [Vw.mkS,Vw.lk,Vw.hk,AV.inn,innL,Apz,Aoz,Asz,-List.map_set,-List.getD_eq_getElem?_getD]))
    · have e:szO x=false:=by simp [szO,h1 (by omega),h2 (by omega),h3 (by omega)]
      rw [e]
      (repeat' (first
 | (first|refine Akz ?_|refine Aez ?_)
 | ((first|refine Alz ?_|refine Adz ?_|refine Afz ?_|refine Agz ?_);simp (disch:=omega) only [push_cast,seval,l32r0,l32r1,l32r2,l32r3,l32r4,l32r5,l32r6,l32r7])
 | ((first|refine Aaz ?_ ?_|refine Acz ?_ ?_|refine Abz ?_ ?_)<;>intro h<;>(try simp only [h])<;>(try simp only [bitvec_to_nat] at h)<;>(try simp only [h])<;>(first|(exfalso;omega)|(exfalso;simp_all;done)|(simp (disch:=omega) only [push_cast,seval])|skip))
 | ((first|(refine A1z (by kernel_rfl) (by (simp (disch:=omega) only [push_cast,seval])<;>rfl) ?_)|(refine Auz (t:=23) (sz:=1) (zs:=[.int .i64 0]) (by kernel_rfl) (by (simp (disch:=omega) only [push_cast,seval])<;>rfl) (by (simp (disch:=omega) only [push_cast,seval])<;>rfl) (by first|assumption|omega|(constructor<;>omega)) (by first|((simp (disch:=omega) only [push_cast,seval]);done)|((simp (disch:=omega) only [push_cast,seval]);exact ⟨rfl,by omega⟩)) ?_)|(refine Auz (t:=0) (sz:=2) (zs:=[.int .i64 0,.int .i64 0]) (by kernel_rfl) (by (simp (disch:=omega) only [push_cast,seval])<;>rfl) (by (simp (disch:=omega) only [push_cast,seval])<;>rfl) (by first|assumption|omega|(constructor<;>omega)) (by first|((simp (disch:=omega) only [push_cast,seval]);done)|((simp (disch:=omega) only [push_cast,seval]);exact ⟨rfl,by omega⟩)) ?_)|(refine A6z (len:=3) (by kernel_rfl) (by (simp (disch:=omega) only [push_cast,seval])<;>rfl) (by (simp (disch:=omega) only [push_cast,seval])<;>rfl) (by first|assumption|omega|(constructor<;>omega)) (by first|rfl|((simp (disch:=omega) only [push_cast,seval]);rfl)) ?_))<;>(try simp (disch:=omega) only [push_cast,seval]))
 | (refine Aiz ⟨.inr rfl,_,rfl,?_⟩;(try simp (disch:=omega) only [push_cast,seval]))))


theorem fEnd_ok (p z:Int) (hb:0 ≤ p ∧ p ≤ 1000 ∧ 0 ≤ z ∧ z ≤ 1000):PCall Tryd.prog 34 [.agg [.int .i64 p,.int .i64 z]] (fun r=>r=.int .i64 (p + z)):=by
  refine Ayz l34_eq rfl ?_
  (repeat' (first
 | (first|refine Akz ?_|refine Aez ?_)
 | ((first|refine Alz ?_|refine Adz ?_|refine Afz ?_|refine Agz ?_);simp (disch:=omega) only [push_cast,seval,l34r0,l34r1])
 | ((first|refine Aaz ?_ ?_|refine Acz ?_ ?_|refine Abz ?_ ?_)<;>intro h<;>(try simp only [h])<;>(try simp only [bitvec_to_nat] at h)<;>(try simp only [h])<;>(first|(exfalso;omega)|(exfalso;simp_all;done)|(simp (disch:=omega) only [push_cast,seval])|skip))
 | (refine Aiz ⟨.inr rfl,_,rfl,?_⟩;(try simp (disch:=omega) only [push_cast,seval]))))


theorem alg_ok (s:List Int) (n:Nat) (big al:Bool) (e z:Int) (hb:(0 ≤ e ∧ e ≤ 1000) ∧ 1 ≤ z ∧ z ≤ 4):PCall Tryd.prog 33 [.agg [.rows false (IL s) n,.bool big,.bool al],.int .i64 e,.int .i64 z] (fun r=>r=.int .i64 (alg al e z)):=by
  obtain ⟨⟨h1,h2⟩,h3,h4⟩:=hb
  refine Ayz l33_eq rfl ?_
  have hq:=Cmz (x:=e + z - 1) (y:=z) (by omega) (by omega)
  have hz:z=1 ∨ z=2 ∨ z=3 ∨ z=4:=by omega
  unfold alg rup
  cases al with
  | false => (repeat' (first
 | (first|refine Akz ?_|refine Aez ?_)
 | ((first|refine Alz ?_|refine Adz ?_|refine Afz ?_|refine Agz ?_);simp (disch:=omega) only [push_cast,seval,l33r0,l33r1,l33r2,l33r3])
 | ((first|refine Aaz ?_ ?_|refine Acz ?_ ?_|refine Abz ?_ ?_)<;>intro h<;>(try simp only [h])<;>(try simp only [bitvec_to_nat] at h)<;>(try simp only [h])<;>(first|(exfalso;omega)|(exfalso;simp_all;done)|(simp (disch:=omega) only [push_cast,seval])|skip))
 | (refine Aiz ⟨.inr rfl,_,rfl,?_⟩;(try simp (disch:=omega) only [push_cast,seval]))))
  | true =>
    generalize hG:(e + z - 1).tdiv z=G at *
    have hm:0 ≤ G * z ∧ G * z ≤ 10000:=by rcases hz with rfl|rfl|rfl|rfl<;>omega
    (repeat' (first
 | (first|refine Akz ?_|refine Aez ?_)
 | ((first|refine Alz ?_|refine Adz ?_|refine Afz ?_|refine Agz ?_);simp (disch:=omega) only [push_cast,seval,l33r0,l33r1,l33r2,l33r3,hG])
 | ((first|refine Aaz ?_ ?_|refine Acz ?_ ?_|refine Abz ?_ ?_)<;>intro h<;>(try simp only [h])<;>(try simp only [bitvec_to_nat] at h)<;>(try simp only [h])<;>(first|(exfalso;omega)|(exfalso;simp_all;done)|(simp (disch:=omega) only [push_cast,seval,hG])|skip))
 | (refine Aiz ⟨.inr rfl,_,rfl,?_⟩;(try simp (disch:=omega) only [push_cast,seval,hG]))))


theorem E5z (e z:Int) (hb:(0 ≤ e ∧ e ≤ 1000) ∧ 1 ≤ z ∧ z ≤ 4):PCall Tryd.prog 42 [.int .i64 e,.int .i64 z] (fun r=>r=.int .i64 (rup e z)):=by
  obtain ⟨⟨h1,h2⟩,h3,h4⟩:=hb
  refine Ayz l42_eq rfl ?_
  have hq:=Cmz (x:=e + z - 1) (y:=z) (by omega) (by omega)
  have hz:z=1 ∨ z=2 ∨ z=3 ∨ z=4:=by omega
  unfold rup
  generalize hG:(e + z - 1).tdiv z=G at *
  have hm:0 ≤ G * z ∧ G * z ≤ 10000:=by rcases hz with rfl|rfl|rfl|rfl<;>omega
  (repeat' (first
 | (first|refine Akz ?_|refine Aez ?_)
 | ((first|refine Alz ?_|refine Adz ?_|refine Afz ?_|refine Agz ?_);simp (disch:=omega) only [push_cast,seval,l42r0,l42r1,hG])
 | ((first|refine Aaz ?_ ?_|refine Acz ?_ ?_|refine Abz ?_ ?_)<;>intro h<;>(try simp only [h])<;>(try simp only [bitvec_to_nat] at h)<;>(try simp only [h])<;>(first|(exfalso;omega)|(exfalso;simp_all;done)|(simp (disch:=omega) only [push_cast,seval,hG])|skip))
 | (refine Aiz ⟨.inr rfl,_,rfl,?_⟩;(try simp (disch:=omega) only [push_cast,seval,hG]))))


theorem Buz (s:List Int) (n:Nat) (big al:Bool) (hn:s.length=n) (hb:n ≤ 1099511627776):PCall Tryd.prog 23 [.agg [.rows false (IL s) n,.bool big,.bool al]] (fun r=>r=.bool (vF s)):=by
  subst hn
  refine Ayz l23_eq rfl ?_
  (repeat' (first
 | (first|refine Akz ?_|refine Aez ?_)
 | ((first|refine Alz ?_|refine Adz ?_|refine Afz ?_|refine Agz ?_);simp (disch:=omega) only [push_cast,seval,l23r0,l23r1,l23r2,l23r3,l23r4,l23r5,l23r6])
 | ((first|refine Aaz ?_ ?_|refine Acz ?_ ?_|refine Abz ?_ ?_)<;>intro h<;>(try simp only [h])<;>(try simp only [bitvec_to_nat] at h)<;>(try simp only [h])<;>(first|(exfalso;omega)|(exfalso;simp_all;done)|(simp (disch:=omega) only [push_cast,seval])|skip))
 | ((first|refine Anz false ?_|refine Amz false ?_);simp (disch:=omega) only [push_cast,seval])
 | ((first|((first|refine call0D (BCall.ofP (inRange_ok _ _ _)) ?_|refine qcall0D (BCall.ofP (inRange_ok _ _ _)) ⟨_,_,rfl,rfl⟩ ?_);rintro _ _ ⟨rfl,rfl⟩))<;>(try simp (disch:=omega) only [push_cast,seval]))
 | (refine Aiz ⟨.inr rfl,_,rfl,?_⟩;(try simp (disch:=omega) only [push_cast,seval]))))
  refine A4z (fun k:Nat=>mkS [(1,.ref 16 3 0),(3,.int .i64 k)] [(16,[.rows false (IL s) s.length,.bool big,.bool al])]) (fun k=>k ≤ s.length ∧ ∀ j:Nat,j < k → szO (s.getD j 0)=true) (fun k=>s.length - k) 0 ⟨Nat.zero_le _,fun j h=>absurd h (by omega)⟩ ?_ ?_
  · (refine Sub.of_lists ?_ ?_ ?_ ?_ ?_<;>simp [Vw.mkS,Vw.lk,Vw.hk,AV.inn,innL,Apz,Aoz,Asz,-List.map_set,-List.getD_eq_getElem?_getD])
  · rintro k ⟨hk,hj⟩
    by_cases hlt:k < s.length
    · by_cases g1:s.getD k 0=1
      · (repeat' (first
 | (first|refine Akz ?_|refine Aez ?_)
 | ((first|refine Alz ?_|refine Adz ?_|refine Afz ?_|refine Agz ?_);simp (disch:=omega) only [push_cast,seval,l23r0,l23r1,l23r2,l23r3,l23r4,l23r5,l23r6,g1])
 | ((first|refine Aaz ?_ ?_|refine Acz ?_ ?_|refine Abz ?_ ?_)<;>intro h<;>(try simp only [h])<;>(try simp only [bitvec_to_nat] at h)<;>(try simp only [h])<;>(first|(exfalso;omega)|(exfalso;simp_all;done)|(simp (disch:=omega) only [push_cast,seval,g1])|skip))
 | ((first|refine Anz false ?_|refine Amz false ?_);simp (disch:=omega) only [push_cast,seval,g1])
 | ((first|((first|refine call0D (BCall.ofP (inRange_ok _ _ _)) ?_|refine qcall0D (BCall.ofP (inRange_ok _ _ _)) ⟨_,_,rfl,rfl⟩ ?_);rintro _ _ ⟨rfl,rfl⟩))<;>(try simp (disch:=omega) only [push_cast,seval,g1]))
 | (refine Aiz ⟨.inr rfl,_,rfl,?_⟩;(try simp (disch:=omega) only [push_cast,seval,g1]))))
        all_goals (refine ⟨k + 1,⟨by omega,Fcz hj (by rw [g1];rfl)⟩,by omega,?_⟩;(refine Sub.of_lists ?_ ?_ ?_ ?_ ?_<;>simp [Vw.mkS,Vw.lk,Vw.hk,AV.inn,innL,Apz,Aoz,Asz,-List.map_set,-List.getD_eq_getElem?_getD]))
      · by_cases g2:s.getD k 0=2
        · (repeat' (first
 | (first|refine Akz ?_|refine Aez ?_)
 | ((first|refine Alz ?_|refine Adz ?_|refine Afz ?_|refine Agz ?_);simp (disch:=omega) only [push_cast,seval,l23r0,l23r1,l23r2,l23r3,l23r4,l23r5,l23r6,g1,g2])
 | ((first|refine Aaz ?_ ?_|refine Acz ?_ ?_|refine Abz ?_ ?_)<;>intro h<;>(try simp only [h])<;>(try simp only [bitvec_to_nat] at h)<;>(try simp only [h])<;>(first|(exfalso;omega)|(exfalso;simp_all;done)|(simp (disch:=omega) only [push_cast,seval,g1,g2])|skip))
 | ((first|refine Anz false ?_|refine Amz false ?_);simp (disch:=omega) only [push_cast,seval,g1,g2])
 | ((first|((first|refine call0D (BCall.ofP (inRange_ok _ _ _)) ?_|refine qcall0D (BCall.ofP (inRange_ok _ _ _)) ⟨_,_,rfl,rfl⟩ ?_);rintro _ _ ⟨rfl,rfl⟩))<;>(try simp (disch:=omega) only [push_cast,seval,g1,g2]))
 | (refine Aiz ⟨.inr rfl,_,rfl,?_⟩; (try simp (disch := omega) only [push_cast,seval,g1,g2]))))
          all_goals (refine ⟨k + 1,⟨by omega,Fcz hj (by rw [g2];rfl)⟩,by omega,?_⟩;(refine Sub.of_lists ?_ ?_ ?_ ?_ ?_<;>simp [Vw.mkS,Vw.lk,Vw.hk,AV.inn,innL,Apz,Aoz,Asz,-List.map_set,-List.getD_eq_getElem?_getD]))
        · by_cases g3:s.getD k 0=4
          · (repeat' (first
 | (first|refine Akz ?_|refine Aez ?_)
 | ((first|refine Alz ?_|refine Adz ?_|refine Afz ?_|refine Agz ?_);simp (disch:=omega) only [push_cast,seval,l23r0,l23r1,l23r2,l23r3,l23r4,l23r5,l23r6,g1,g2,g3])
 | ((first|refine Aaz ?_ ?_|refine Acz ?_ ?_|refine Abz ?_ ?_)<;>intro h<;>(try simp only [h])<;>(try simp only [bitvec_to_nat] at h)<;>(try simp only [h])<;>(first|(exfalso;omega)|(exfalso;simp_all;done)|(simp (disch:=omega) only [push_cast,seval,g1,g2,g3])|skip))
 | ((first|refine Anz false ?_|refine Amz false ?_);simp (disch:=omega) only [push_cast,seval,g1,g2,g3])
 | ((first|((first|refine call0D (BCall.ofP (inRange_ok _ _ _)) ?_|refine qcall0D (BCall.ofP (inRange_ok _ _ _)) ⟨_,_,rfl,rfl⟩ ?_);rintro _ _ ⟨rfl,rfl⟩))<;>(try simp (disch:=omega) only [push_cast,seval,g1,g2,g3]))
 | (refine Aiz ⟨.inr rfl,_,rfl,?_⟩; (try simp (disch := omega) only [push_cast,seval,g1,g2,g3]))))
            all_goals (refine ⟨k + 1,⟨by omega,Fcz hj (by rw [g3];rfl)⟩,by omega,?_⟩;(refine Sub.of_lists ?_ ?_ ?_ ?_ ?_<;>simp [Vw.mkS,Vw.lk,Vw.hk,AV.inn,innL,Apz,Aoz,Asz,-List.map_set,-List.getD_eq_getElem?_getD]))
          · have e:=vF_bad hlt (by simp only [szO,g1,g2,g3,decide_false,Bool.or_self])
            (repeat' (first
 | (first|refine Akz ?_|refine Aez ?_)
 | ((first|refine Alz ?_|refine Adz ?_|refine Afz ?_|refine Agz ?_);simp (disch:=omega) only [push_cast,seval,l23r0,l23r1,l23r2,l23r3,l23r4,l23r5,l23r6,g1,g2,g3,e])
 | ((first|refine Aaz ?_ ?_|refine Acz ?_ ?_|refine Abz ?_ ?_)<;>intro h<;>(try simp only [h])<;>(try simp only [bitvec_to_nat] at h)<;>(try simp only [h])<;>(first|(exfalso;omega)|(exfalso;simp_all;done)|(simp (disch:=omega) only [push_cast,seval,g1,g2,g3,e])|skip))
 | ((first|refine Anz false ?_|refine Amz false ?_);simp (disch:=omega) only [push_cast,seval,g1,g2,g3,e])
 | ((first|((first|refine call0D (BCall.ofP (inRange_ok _ _ _)) ?_|refine qcall0D (BCall.ofP (inRange_ok _ _ _)) ⟨_,_,rfl,rfl⟩ ?_);rintro _ _ ⟨rfl,rfl⟩))<;>(try simp (disch:=omega) only [push_cast,seval,g1,g2,g3,e]))
 | (refine Aiz ⟨.inr rfl,_,rfl,?_⟩;(try simp (disch:=omega) only [push_cast,seval,g1,g2,g3,e]))))
    · have ha:(∀ i,i < s.length → s.getD i 0=1 ∨ s.getD i 0=2 ∨ s.getD i 0=4):=fun i hi=>G2z.1 (hj i (by omega))
      by_cases hl:1 ≤ s.length ∧ s.length ≤ 5
      · have e:vF s=true:=C3z.2 ⟨ha,hl⟩
        rw [e]
        obtain ⟨hl1,hl2⟩:=hl
        (repeat' (first
 | (first|refine Akz ?_|refine Aez ?_)
 | ((first|refine Alz ?_|refine Adz ?_|refine Afz ?_|refine Agz ?_);simp (disch:=omega) only [push_cast,seval,l23r0,l23r1,l23r2,l23r3,l23r4,l23r5,l23r6])
 | ((first|refine Aaz ?_ ?_|refine Acz ?_ ?_|refine Abz ?_ ?_)<;>intro h<;>(try simp only [h])<;>(try simp only [bitvec_to_nat] at h)<;>(try simp only [h])<;>(first|(exfalso;omega)|(exfalso;simp_all;done)|(simp (disch:=omega) only [push_cast,seval])|skip))
 | ((first|refine Anz false ?_|refine Amz false ?_);simp (disch:=omega) only [push_cast,seval])
 | ((first|((first|refine call0D (BCall.ofP (inRange_ok _ _ _)) ?_|refine qcall0D (BCall.ofP (inRange_ok _ _ _)) ⟨_,_,rfl,rfl⟩ ?_);rintro _ _ ⟨rfl,rfl⟩))<;>(try simp (disch:=omega) only [push_cast,seval]))
 | (refine Aiz ⟨.inr rfl,_,rfl,?_⟩;(try simp (disch:=omega) only [push_cast,seval]))))
        all_goals (simp;omega)
      · have e:=vF_len hl
        rw [e]
        (repeat' (first
 | (first|refine Akz ?_|refine Aez ?_)
 | ((first|refine Alz ?_|refine Adz ?_|refine Afz ?_|refine Agz ?_);simp (disch:=omega) only [push_cast,seval,l23r0,l23r1,l23r2,l23r3,l23r4,l23r5,l23r6])
 | ((first|refine Aaz ?_ ?_|refine Acz ?_ ?_|refine Abz ?_ ?_)<;>intro h<;>(try simp only [h])<;>(try simp only [bitvec_to_nat] at h)<;>(try simp only [h])<;>(first|(exfalso;omega)|(exfalso;simp_all;done)|(simp (disch:=omega) only [push_cast,seval])|skip))
 | ((first|refine Anz false ?_|refine Amz false ?_);simp (disch:=omega) only [push_cast,seval])
 | ((first|((first|refine call0D (BCall.ofP (inRange_ok _ _ _)) ?_|refine qcall0D (BCall.ofP (inRange_ok _ _ _)) ⟨_,_,rfl,rfl⟩ ?_);rintro _ _ ⟨rfl,rfl⟩))<;>(try simp (disch:=omega) only [push_cast,seval]))
 | (refine Aiz ⟨.inr rfl,_,rfl,?_⟩;(try simp (disch:=omega) only [push_cast,seval]))))
        all_goals (simp;omega)


theorem Blz (s:List Int) (n:Nat) (big al:Bool) (hn:s.length=n) (hb:n ≤ 1099511627776):PCall Tryd.prog 15 [.agg [.rows false (IL s) n,.bool big,.bool al]] (fun r=>r=.bool (vF s)):=by
  subst hn
  refine Ayz l15_eq rfl ?_
  by_cases hl1:s.length < 1
  · have e:=vF_len (s:=s) (by omega)
    rw [e]
    have h1':(s.length:Int) < 1:=by omega
    (repeat' (first
 | (first|refine Akz ?_|refine Aez ?_)
 | ((first|refine Alz ?_|refine Adz ?_|refine Afz ?_|refine Agz ?_);simp (disch:=omega) only [push_cast,seval,l15r0,l15r1,l15r2,l15r3,l15r4,l15r5,l15r6,l15r7,l15r8,l15r9,h1'])
 | ((first|refine Aaz ?_ ?_|refine Acz ?_ ?_|refine Abz ?_ ?_)<;>intro h<;>(try simp only [h])<;>(try simp only [bitvec_to_nat] at h)<;>(try simp only [h])<;>(first|(exfalso;omega)|(exfalso;simp_all;done)|(simp (disch:=omega) only [push_cast,seval,h1'])|skip))
 | ((first|refine Anz false ?_|refine Amz false ?_);simp (disch:=omega) only [push_cast,seval,h1'])
 | ((first|((first|refine call0D (BCall.ofP (Bzz _)) ?_|refine qcall0D (BCall.ofP (Bzz _)) ⟨_,_,rfl,rfl⟩ ?_);rintro _ _ ⟨rfl,rfl⟩))<;>(try simp (disch:=omega) only [push_cast,seval,h1']))
 | (refine Aiz ⟨.inr rfl,_,rfl,?_⟩;(try simp (disch:=omega) only [push_cast,seval,h1']))))
  · by_cases hl2:5 < s.length
    · have e:=vF_len (s:=s) (by omega)
      rw [e]
      have h1':¬ (s.length:Int) < 1:=by omega
      have h2':(5:Int) < (s.length:Int):=by omega
      (repeat' (first
 | (first|refine Akz ?_|refine Aez ?_)
 | ((first|refine Alz ?_|refine Adz ?_|refine Afz ?_|refine Agz ?_);simp (disch:=omega) only [push_cast,seval,l15r0,l15r1,l15r2,l15r3,l15r4,l15r5,l15r6,l15r7,l15r8,l15r9,h1',h2'])
 | ((first|refine Aaz ?_ ?_|refine Acz ?_ ?_|refine Abz ?_ ?_)<;>intro h<;>(try simp only [h])<;>(try simp only [bitvec_to_nat] at h)<;>(try simp only [h])<;>(first|(exfalso;omega)|(exfalso;simp_all;done)|(simp (disch:=omega) only [push_cast,seval,h1',h2'])|skip))
 | ((first|refine Anz false ?_|refine Amz false ?_);simp (disch:=omega) only [push_cast,seval,h1',h2'])
 | ((first|((first|refine call0D (BCall.ofP (Bzz _)) ?_|refine qcall0D (BCall.ofP (Bzz _)) ⟨_,_,rfl,rfl⟩ ?_);rintro _ _ ⟨rfl,rfl⟩))<;>(try simp (disch:=omega) only [push_cast,seval,h1',h2']))
 | (refine Aiz ⟨.inr rfl,_,rfl,?_⟩;(try simp (disch:=omega) only [push_cast,seval,h1',h2']))))
    · have h1':¬ (s.length:Int) < 1:=by omega
      have h2':¬ (5:Int) < (s.length:Int):=by omega
      (repeat' (first
 | (first|refine Akz ?_|refine Aez ?_)
 | ((first|refine Alz ?_|refine Adz ?_|refine Afz ?_|refine Agz ?_);simp (disch:=omega) only [push_cast,seval,l15r0,l15r1,l15r2,l15r3,l15r4,l15r5,l15r6,l15r7,l15r8,l15r9,h1',h2'])
 | ((first|refine Aaz ?_ ?_|refine Acz ?_ ?_|refine Abz ?_ ?_)<;>intro h<;>(try simp only [h])<;>(try simp only [bitvec_to_nat] at h)<;>(try simp only [h])<;>(first|(exfalso;omega)|(exfalso;simp_all;done)|(simp (disch:=omega) only [push_cast,seval,h1',h2'])|skip))
 | ((first|refine Anz false ?_|refine Amz false ?_);simp (disch:=omega) only [push_cast,seval,h1',h2'])
 | ((first|((first|refine call0D (BCall.ofP (Bzz _)) ?_|refine qcall0D (BCall.ofP (Bzz _)) ⟨_,_,rfl,rfl⟩ ?_);rintro _ _ ⟨rfl,rfl⟩))<;>(try simp (disch:=omega) only [push_cast,seval,h1',h2']))
 | (refine Aiz ⟨.inr rfl,_,rfl,?_⟩;(try simp (disch:=omega) only [push_cast,seval,h1',h2']))))
      refine A4z (fun k:Nat=>mkS [(16,RI s),(17,.int .i64 s.length),(18,.int .i64 k)] []) (fun k=>k ≤ s.length ∧ ∀ j:Nat,j < k → szO (s.getD j 0)=true) (fun k=>s.length - k) 0 ⟨Nat.zero_le _,fun j h=>absurd h (by omega)⟩ ?_ ?_
      · (refine Sub.of_lists ?_ ?_ ?_ ?_ ?_<;>simp [Vw.mkS,Vw.lk,Vw.hk,AV.inn,innL,Apz,Aoz,Asz,-List.map_set,-List.getD_eq_getElem?_getD])
      · rintro k ⟨hk,hj⟩
        by_cases hlt:k < s.length
        · cases hs:szO (s.getD k 0) with
          | false =>
            have e:=vF_bad hlt hs
            (repeat' (first
 | (first|refine Akz ?_|refine Aez ?_)
 | ((first|refine Alz ?_|refine Adz ?_|refine Afz ?_|refine Agz ?_);simp (disch:=omega) only [push_cast,seval,l15r0,l15r1,l15r2,l15r3,l15r4,l15r5,l15r6,l15r7,l15r8,l15r9,hs,e])
 | ((first|refine Aaz ?_ ?_|refine Acz ?_ ?_|refine Abz ?_ ?_)<;>intro h<;>(try simp only [h])<;>(try simp only [bitvec_to_nat] at h)<;>(try simp only [h])<;>(first|(exfalso;omega)|(exfalso;simp_all;done)|(simp (disch:=omega) only [push_cast,seval,hs,e])|skip))
 | ((first|refine Anz false ?_|refine Amz false ?_);simp (disch:=omega) only [push_cast,seval,hs,e])
 | ((first|((first|refine call0D (BCall.ofP (Bzz _)) ?_|refine qcall0D (BCall.ofP (Bzz _)) ⟨_,_,rfl,rfl⟩ ?_);rintro _ _ ⟨rfl,rfl⟩))<;>(try simp (disch:=omega) only [push_cast,seval,hs,e]))
 | (refine Aiz ⟨.inr rfl,_,rfl,?_⟩; (try simp (disch := omega) only [push_cast,seval,hs,e]))))
          | true =>
            (repeat' (first
 | (first|refine Akz ?_|refine Aez ?_)
 | ((first|refine Alz ?_|refine Adz ?_|refine Afz ?_|refine Agz ?_);simp (disch:=omega) only [push_cast,seval,l15r0,l15r1,l15r2,l15r3,l15r4,l15r5,l15r6,l15r7,l15r8,l15r9,hs])
 | ((first|refine Aaz ?_ ?_|refine Acz ?_ ?_|refine Abz ?_ ?_)<;>intro h<;>(try simp only [h])<;>(try simp only [bitvec_to_nat] at h)<;>(try simp only [h])<;>(first|(exfalso;omega)|(exfalso;simp_all;done)|(simp (disch:=omega) only [push_cast,seval,hs])|skip))
 | ((first|refine Anz false ?_|refine Amz false ?_);simp (disch:=omega) only [push_cast,seval,hs])
 | ((first|((first|refine call0D (BCall.ofP (Bzz _)) ?_|refine qcall0D (BCall.ofP (Bzz _)) ⟨_,_,rfl,rfl⟩ ?_);rintro _ _ ⟨rfl,rfl⟩))<;>(try simp (disch:=omega) only [push_cast,seval,hs]))
 | (refine Aiz ⟨.inr rfl,_,rfl,?_⟩; (try simp (disch := omega) only [push_cast,seval,hs]))))
            all_goals (refine ⟨k + 1,⟨by omega,Fcz hj hs⟩,by omega,?_⟩;(refine Sub.of_lists ?_ ?_ ?_ ?_ ?_<;>simp [Vw.mkS,Vw.lk,Vw.hk,AV.inn,innL,Apz,Aoz,Asz,-List.map_set,-List.getD_eq_getElem?_getD]))
        · have e:vF s=true:=C3z.2 ⟨fun i hi=>G2z.1 (hj i (by omega)),by omega,by omega⟩
          rw [e]
          (repeat' (first
 | (first|refine Akz ?_|refine Aez ?_)
 | ((first|refine Alz ?_|refine Adz ?_|refine Afz ?_|refine Agz ?_);simp (disch:=omega) only [push_cast,seval,l15r0,l15r1,l15r2,l15r3,l15r4,l15r5,l15r6,l15r7,l15r8,l15r9])
 | ((first|refine Aaz ?_ ?_|refine Acz ?_ ?_|refine Abz ?_ ?_)<;>intro h<;>(try simp only [h])<;>(try simp only [bitvec_to_nat] at h)<;>(try simp only [h])<;>(first|(exfalso;omega)|(exfalso;simp_all;done)|(simp (disch:=omega) only [push_cast,seval])|skip))
 | ((first|refine Anz false ?_|refine Amz false ?_);simp (disch:=omega) only [push_cast,seval])
 | ((first|((first|refine call0D (BCall.ofP (Bzz _)) ?_|refine qcall0D (BCall.ofP (Bzz _)) ⟨_,_,rfl,rfl⟩ ?_);rintro _ _ ⟨rfl,rfl⟩))<;>(try simp (disch:=omega) only [push_cast,seval]))
 | (refine Aiz ⟨.inr rfl,_,rfl,?_⟩;(try simp (disch:=omega) only [push_cast,seval]))))

end Go.Proofs.YtgiaepecaokcfaaDoor
