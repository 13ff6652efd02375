import Derived.Test.YtbplegbgofnolaaCKp
import Derived.Test.YtbplegbgofnolaaCM1
set_option linter.unusedSimpArgs false
set_option linter.unusedVariables false
set_option maxRecDepth 4000
set_option maxHeartbeats 4000000
namespace Go.Proofs.Ytbplegbgofnolaa
open VwM Vw Go

theorem sdifferent_ok (xs:List Int) (n:Nat) (hn:xs.length=n) (hb:n ≤ 1099511627776):PCall Try.prog 107 [.rows false (IL xs) n] (fun r=>r=.bool (decide xs.Nodup)):=by
  subst hn
  refine A2z l107_eq rfl ?_
  (repeat' (first
 | (first|refine Anz ?_|refine Agz ?_)
 | ((first|refine Aoz ?_|refine Asz (mid:=l107r3a) (post:=l107r3b) Awz (by decide) ?_|refine Afz ?_|refine Ahz ?_|refine Aiz ?_);simp (disch:=omega) only [push_cast,seval,l107r0,l107r1,l107r2,l107r3a,l107r3b,l107r3,l107r4,l107r5,l107r6])
 | ((first|refine Acz ?_ ?_|refine Aez ?_ ?_|refine Adz ?_ ?_)<;>intro h<;>(try simp only [h])<;>(try simp only [bitvec_to_nat] at h)<;>(try simp only [h])<;>(first|(exfalso;omega)|(exfalso;simp_all;done)|(simp (disch:=omega) only [push_cast,seval])|skip))
 | ((first|refine Aqz false ?_|refine qcallD_of false ?_);simp (disch:=omega) only [push_cast,seval])
 | ((first|((first|refine call0D (BCall.ofP (placeIn_ok _ _ _ ?_ ?_)) ?_|refine qcall0D (BCall.ofP (placeIn_ok _ _ _ ?_ ?_)) ⟨_,_,rfl,rfl⟩ ?_);(iterate 2 (exact sd));rintro _ _ ⟨rfl,rfl⟩))<;>(try simp (disch:=omega) only [push_cast,seval]))
 | (refine Akz ⟨.inr rfl,_,rfl,?_⟩;(try simp (disch:=omega) only [push_cast,seval]))))
  refine Azz (fun k:Nat=>mkS [(0,RI xs),(3,.int .i64 k)] []) (fun k=>k ≤ xs.length ∧ ∀ j,j < k → xs.getD j 0 ∉ xs.take j) (fun k=>xs.length - k) 0 ⟨Nat.zero_le _,fun j h=>absurd h (Nat.not_lt_zero _)⟩ ?_ ?_
  · (refine Sub.of_lists ?_ ?_ ?_ ?_ ?_<;>simp [Vw.mkS,Vw.lk,Vw.hk,AV.inn,innL,Arz,Amz,Atz,-List.map_set,-List.getD_eq_getElem?_getD])
  · rintro k ⟨hk,hj⟩
    by_cases hlt:k < xs.length
    · have hl:(xs.take k).length=k:=by simp;omega
      by_cases hm:xs.getD k 0 ∈ xs.take k
      · have hp:0 ≤ placeI (xs.take k) (xs.getD k 0):=by
          have:=mt (@D9z (xs.take k) (xs.getD k 0)).1 (fun h=>h hm)
          omega
        have hno:¬ xs.Nodup:=not_nodup hlt hm
        (repeat' (first
 | (first|refine Anz ?_|refine Agz ?_)
 | ((first|refine Aoz ?_|refine Asz (mid:=l107r3a) (post:=l107r3b) Awz (by decide) ?_|refine Afz ?_|refine Ahz ?_|refine Aiz ?_);simp (disch:=omega) only [push_cast,seval,l107r0,l107r1,l107r2,l107r3a,l107r3b,l107r3,l107r4,l107r5,l107r6,hp,Coz,Nat.sub_zero])
 | ((first|refine Acz ?_ ?_|refine Aez ?_ ?_|refine Adz ?_ ?_)<;>intro h<;>(try simp only [h])<;>(try simp only [bitvec_to_nat] at h)<;>(try simp only [h])<;>(first|(exfalso;omega)|(exfalso;simp_all;done)|(simp (disch:=omega) only [push_cast,seval,hp,Coz,Nat.sub_zero])|skip))
 | ((first|refine Aqz false ?_|refine qcallD_of false ?_);simp (disch:=omega) only [push_cast,seval,hp,Coz,Nat.sub_zero])
 | ((first|((first|refine call0D (BCall.ofP (placeIn_ok _ _ _ ?_ ?_)) ?_|refine qcall0D (BCall.ofP (placeIn_ok _ _ _ ?_ ?_)) ⟨_,_,rfl,rfl⟩ ?_);(iterate 2 (exact sd));rintro _ _ ⟨rfl,rfl⟩))<;>(try simp (disch:=omega) only [push_cast,seval,hp,Coz,Nat.sub_zero]))
 | (refine Akz ⟨.inr rfl,_,rfl,?_⟩;(try simp (disch:=omega) only [push_cast,seval,hp,Coz,Nat.sub_zero]))))
        simp [hno]
      · have hp:¬ 0 ≤ placeI (xs.take k) (xs.getD k 0):=by have:=(@D9z (xs.take k) (xs.getD k 0)).2 hm;omega
        (repeat' (first
 | (first|refine Anz ?_|refine Agz ?_)
 | ((first|refine Aoz ?_|refine Asz (mid:=l107r3a) (post:=l107r3b) Awz (by decide) ?_|refine Afz ?_|refine Ahz ?_|refine Aiz ?_);simp (disch:=omega) only [push_cast,seval,l107r0,l107r1,l107r2,l107r3a,l107r3b,l107r3,l107r4,l107r5,l107r6,hp,Coz,Nat.sub_zero])
 | ((first|refine Acz ?_ ?_|refine Aez ?_ ?_|refine Adz ?_ ?_)<;>intro h<;>(try simp only [h])<;>(try simp only [bitvec_to_nat] at h)<;>(try simp only [h])<;>(first|(exfalso;omega)|(exfalso;simp_all;done)|(simp (disch:=omega) only [push_cast,seval,hp,Coz,Nat.sub_zero])|skip))
 | ((first|refine Aqz false ?_|refine qcallD_of false ?_);simp (disch:=omega) only [push_cast,seval,hp,Coz,Nat.sub_zero])
 | ((first|((first|refine call0D (BCall.ofP (placeIn_ok _ _ _ ?_ ?_)) ?_|refine qcall0D (BCall.ofP (placeIn_ok _ _ _ ?_ ?_)) ⟨_,_,rfl,rfl⟩ ?_);(iterate 2 (exact sd));rintro _ _ ⟨rfl,rfl⟩))<;>(try simp (disch:=omega) only [push_cast,seval,hp,Coz,Nat.sub_zero]))
 | (refine Akz ⟨.inr rfl,_,rfl,?_⟩;(try simp (disch:=omega) only [push_cast,seval,hp,Coz,Nat.sub_zero]))))
        refine ⟨k + 1,⟨by omega,fun j h=>?_⟩,by omega,?_⟩
        · by_cases hjk:j=k
          · subst hjk;assumption
          · exact hj j (by omega)
        · (refine Sub.of_lists ?_ ?_ ?_ ?_ ?_<;>simp [Vw.mkS,Vw.lk,Vw.hk,AV.inn,innL,Arz,Amz,Atz,-List.map_set,-List.getD_eq_getElem?_getD])
    · have hn:xs.Nodup:=nodup_iff.2 fun j h=>hj j (by omega)
      (repeat' (first
 | (first|refine Anz ?_|refine Agz ?_)
 | ((first|refine Aoz ?_|refine Asz (mid:=l107r3a) (post:=l107r3b) Awz (by decide) ?_|refine Afz ?_|refine Ahz ?_|refine Aiz ?_);simp (disch:=omega) only [push_cast,seval,l107r0,l107r1,l107r2,l107r3a,l107r3b,l107r3,l107r4,l107r5,l107r6])
 | ((first|refine Acz ?_ ?_|refine Aez ?_ ?_|refine Adz ?_ ?_)<;>intro h<;>(try simp only [h])<;>(try simp only [bitvec_to_nat] at h)<;>(try simp only [h])<;>(first|(exfalso;omega)|(exfalso;simp_all;done)|(simp (disch:=omega) only [push_cast,seval])|skip))
 | ((first|refine Aqz false ?_|refine qcallD_of false ?_);simp (disch:=omega) only [push_cast,seval])
 | ((first|((first|refine call0D (BCall.ofP (placeIn_ok _ _ _ ?_ ?_)) ?_|refine qcall0D (BCall.ofP (placeIn_ok _ _ _ ?_ ?_)) ⟨_,_,rfl,rfl⟩ ?_);(iterate 2 (exact sd));rintro _ _ ⟨rfl,rfl⟩))<;>(try simp (disch:=omega) only [push_cast,seval]))
 | (refine Akz ⟨.inr rfl,_,rfl,?_⟩;(try simp (disch:=omega) only [push_cast,seval]))))
      simp [hn]


def sameB (b:Int) (sh st:List Int) (b':Int) (sh' st':List Int):Bool:=vV b sh st && vV b' sh' st' && decide (sh=sh') && decide (offs b sh st=offs b' sh' st')

end Go.Proofs.Ytbplegbgofnolaa
