/- Texts of this verifier. -/
import Derived.Test.YtfmogaimamphdaaCB2
import Derived.Test.YtfmogaimamphdaaCM1
import Derived.Test.YtfmogaimamphdaaCW3
set_option linter.unusedSimpArgs false
set_option linter.unusedVariables false
set_option maxRecDepth 4000
set_option maxHeartbeats 4000000
namespace Go.Proofs.Ytfmogaimamphdaa
open VwM Vw Go

theorem Eaz (xs:List Int) (n:Nat) (x:Int) (hn:xs.length=n) (hb:n ≤ 1099511627776):PCall Try.prog 77 [.rows false (IL xs) n,.int .i64 x] (fun r=>r=.int .i64 (placeI xs x)):=by
  subst hn
  refine A0z l77_eq rfl ?_
  (repeat' (first
 | (first|refine Akz ?_|refine Aez ?_)
 | ((first|refine Alz ?_|refine Adz ?_|refine Afz ?_|refine Agz ?_);simp (disch:=omega) only [push_cast,seval,l77r0,l77r1,l77r2,l77r3,l77r4,l77r5,l77r6,l77r7])
 | ((first|refine Aaz ?_ ?_|refine Acz ?_ ?_|refine Abz ?_ ?_)<;>intro h<;>(try simp only [h])<;>(try simp only [bitvec_to_nat] at h)<;>(try simp only [h])<;>(first|(exfalso;omega)|(exfalso;simp_all;done)|(simp (disch:=omega) only [push_cast,seval])|skip))
 | (refine Ahz ⟨.inr rfl,_,rfl,?_⟩;(try simp (disch:=omega) only [push_cast,seval]))))
  refine A1z (fun k:Nat=>mkS [(0,RI xs),(1,.int .i64 x),(7,.int .i64 xs.length),(8,.int .i64 k)] []) (fun k=>k ≤ xs.length ∧ ∀ j:Nat,j < k → xs.getD j 0 ≠ x) (fun k=>xs.length - k) 0 ⟨Nat.zero_le _,fun j h=>absurd h (Nat.not_lt_zero _)⟩ ?_ ?_
  · (refine Sub.of_lists ?_ ?_ ?_ ?_ ?_<;>simp [Vw.mkS,Vw.lk,Vw.hk,AV.inn,innL,Aqz,Anz,Asz,-List.map_set,-List.getD_eq_getElem?_getD])
  · rintro k ⟨hk,hj⟩
    by_cases hlt:k < xs.length
    · by_cases he:xs.getD k 0=x
      · have he':(x=xs.getD k 0)=True:=eq_true he.symm
        (repeat' (first
 | (first|refine Akz ?_|refine Aez ?_)
 | ((first|refine Alz ?_|refine Adz ?_|refine Afz ?_|refine Agz ?_);simp (disch:=omega) only [push_cast,seval,l77r0,l77r1,l77r2,l77r3,l77r4,l77r5,l77r6,l77r7,he',decide_true])
 | ((first|refine Aaz ?_ ?_|refine Acz ?_ ?_|refine Abz ?_ ?_)<;>intro h<;>(try simp only [h])<;>(try simp only [bitvec_to_nat] at h)<;>(try simp only [h])<;>(first|(exfalso;omega)|(exfalso;simp_all;done)|(simp (disch:=omega) only [push_cast,seval,he',decide_true])|skip))
 | (refine Ahz ⟨.inr rfl,_,rfl,?_⟩;(try simp (disch:=omega) only [push_cast,seval,he',decide_true]))))
        rw [Gqz (j:=k) hlt he hj]
      · have he':(x=xs.getD k 0)=False:=eq_false fun h=>he h.symm
        (repeat' (first
 | (first|refine Akz ?_|refine Aez ?_)
 | ((first|refine Alz ?_|refine Adz ?_|refine Afz ?_|refine Agz ?_);simp (disch:=omega) only [push_cast,seval,l77r0,l77r1,l77r2,l77r3,l77r4,l77r5,l77r6,l77r7,he',decide_false])
 | ((first|refine Aaz ?_ ?_|refine Acz ?_ ?_|refine Abz ?_ ?_)<;>intro h<;>(try simp only [h])<;>(try simp only [bitvec_to_nat] at h)<;>(try simp only [h])<;>(first|(exfalso;omega)|(exfalso;simp_all;done)|(simp (disch:=omega) only [push_cast,seval,he',decide_false])|skip))
 | (refine Ahz ⟨.inr rfl,_,rfl,?_⟩;(try simp (disch:=omega) only [push_cast,seval,he',decide_false]))))
        refine ⟨k + 1,⟨by omega,fun j h=>?_⟩,by omega,?_⟩
        · by_cases hjk:j=k
          · subst hjk;assumption
          · exact hj j (by omega)
        · (refine Sub.of_lists ?_ ?_ ?_ ?_ ?_<;>simp [Vw.mkS,Vw.lk,Vw.hk,AV.inn,innL,Aqz,Anz,Asz,-List.map_set,-List.getD_eq_getElem?_getD])
    · (repeat' (first
 | (first|refine Akz ?_|refine Aez ?_)
 | ((first|refine Alz ?_|refine Adz ?_|refine Afz ?_|refine Agz ?_);simp (disch:=omega) only [push_cast,seval,l77r0,l77r1,l77r2,l77r3,l77r4,l77r5,l77r6,l77r7])
 | ((first|refine Aaz ?_ ?_|refine Acz ?_ ?_|refine Abz ?_ ?_)<;>intro h<;>(try simp only [h])<;>(try simp only [bitvec_to_nat] at h)<;>(try simp only [h])<;>(first|(exfalso;omega)|(exfalso;simp_all;done)|(simp (disch:=omega) only [push_cast,seval])|skip))
 | (refine Ahz ⟨.inr rfl,_,rfl,?_⟩;(try simp (disch:=omega) only [push_cast,seval]))))
      rw [Grz fun j h=>hj j (by omega)]


theorem Azz (xs:List Int) (n:Nat) (x:Int) (hn:xs.length=n) (hb:n ≤ 1099511627776):PCall Try.prog 57 [.rows false (IL xs) n,.int .i64 x] (fun r=>r=.bool (decide (x ∈ xs))):=by
  subst hn
  refine A0z l57_eq rfl ?_
  by_cases h:x ∈ xs
  · have hp:0 ≤ placeI xs x:=by
      have:=mt (@Ecz xs x).1 (fun h'=>h' h)
      omega
    (repeat' (first
 | (first|refine Akz ?_|refine Aez ?_)
 | ((first|refine Alz ?_|refine Adz ?_|refine Afz ?_|refine Agz ?_);simp (disch:=omega) only [push_cast,seval,l57r0,l57r1,hp,h])
 | ((first|refine Aaz ?_ ?_|refine Acz ?_ ?_|refine Abz ?_ ?_)<;>intro h<;>(try simp only [h])<;>(try simp only [bitvec_to_nat] at h)<;>(try simp only [h])<;>(first|(exfalso;omega)|(exfalso;simp_all;done)|(simp (disch:=omega) only [push_cast,seval,hp,h])|skip))
 | ((first|refine Apz false ?_|refine qcallD_of false ?_);simp (disch:=omega) only [push_cast,seval,hp,h])
 | ((first|((first|refine call0D (BCall.ofP (Eaz _ _ _ ?_ ?_)) ?_|refine qcall0D (BCall.ofP (Eaz _ _ _ ?_ ?_)) ⟨_,_,rfl,rfl⟩ ?_);(iterate 2 (exact sd));rintro _ _ ⟨rfl,rfl⟩))<;>(try simp (disch:=omega) only [push_cast,seval,hp,h]))
 | (refine Ahz ⟨.inr rfl,_,rfl,?_⟩;(try simp (disch:=omega) only [push_cast,seval,hp,h]))))
    all_goals (try simp)
  · have hp:¬ 0 ≤ placeI xs x:=by have:=(@Ecz xs x).2 h;omega
    (repeat' (first
 | (first|refine Akz ?_|refine Aez ?_)
 | ((first|refine Alz ?_|refine Adz ?_|refine Afz ?_|refine Agz ?_);simp (disch:=omega) only [push_cast,seval,l57r0,l57r1,hp,h])
 | ((first|refine Aaz ?_ ?_|refine Acz ?_ ?_|refine Abz ?_ ?_)<;>intro h<;>(try simp only [h])<;>(try simp only [bitvec_to_nat] at h)<;>(try simp only [h])<;>(first|(exfalso;omega)|(exfalso;simp_all;done)|(simp (disch:=omega) only [push_cast,seval,hp,h])|skip))
 | ((first|refine Apz false ?_|refine qcallD_of false ?_);simp (disch:=omega) only [push_cast,seval,hp,h])
 | ((first|((first|refine call0D (BCall.ofP (Eaz _ _ _ ?_ ?_)) ?_|refine qcall0D (BCall.ofP (Eaz _ _ _ ?_ ?_)) ⟨_,_,rfl,rfl⟩ ?_);(iterate 2 (exact sd));rintro _ _ ⟨rfl,rfl⟩))<;>(try simp (disch:=omega) only [push_cast,seval,hp,h]))
 | (refine Ahz ⟨.inr rfl,_,rfl,?_⟩;(try simp (disch:=omega) only [push_cast,seval,hp,h]))))
    all_goals (try simp)


theorem isOrder_ok (xs:List Int) (n:Nat) (k:Nat) (hn:xs.length=n) (hb:n ≤ 1099511627776 ∧ k ≤ 1000):PCall Try.prog 28 [.rows false (IL xs) n,.int .i64 k] (fun r=>r=.bool (decide (n=k) && allI xs 0 ((k:Int) - 1) && decide xs.Nodup)):=by
  subst hn
  obtain ⟨hb1,hb2⟩:=hb
  rw [← order_iff]
  refine A0z l28_eq rfl ?_
  by_cases hl:xs.length=k
  · have hl':(xs.length:Int)=k:=by omega
    have e0:decide (xs.length=k)=true:=decide_eq_true hl
    (repeat' (first
 | (first|refine Akz ?_|refine Aez ?_)
 | ((first|refine Alz ?_|refine Adz ?_|refine Afz ?_|refine Agz ?_);simp (disch:=omega) only [push_cast,seval,l28r0,l28r1,l28r2,l28r3,l28r4,l28r5,l28r6,l28r7,l28r8,l28r9,hl',e0])
 | ((first|refine Aaz ?_ ?_|refine Acz ?_ ?_|refine Abz ?_ ?_)<;>intro h<;>(try simp only [h])<;>(try simp only [bitvec_to_nat] at h)<;>(try simp only [h])<;>(first|(exfalso;omega)|(exfalso;simp_all;done)|(simp (disch:=omega) only [push_cast,seval,hl',e0])|skip))
 | ((first|refine Apz false ?_|refine qcallD_of false ?_);simp (disch:=omega) only [push_cast,seval,hl',e0])
 | ((first|((first|refine call0D (BCall.ofP (Azz _ _ _ ?_ ?_)) ?_|refine qcall0D (BCall.ofP (Azz _ _ _ ?_ ?_)) ⟨_,_,rfl,rfl⟩ ?_);(iterate 2 (exact sd));rintro _ _ ⟨rfl,rfl⟩))<;>(try simp (disch:=omega) only [push_cast,seval,hl',e0]))
 | (refine Ahz ⟨.inr rfl,_,rfl,?_⟩;(try simp (disch:=omega) only [push_cast,seval,hl',e0]))))
    refine A1z (fun d:Nat=>mkS [(0,RI xs),(10,.int .i64 k),(11,.int .i64 d)] []) (fun d=>d ≤ k ∧ ∀ j:Nat,j < d → (j:Int) ∈ xs) (fun d=>k - d) 0 ⟨Nat.zero_le _,fun j h=>absurd h (Nat.not_lt_zero _)⟩ ?_ ?_
    · (refine Sub.of_lists ?_ ?_ ?_ ?_ ?_<;>simp [Vw.mkS,Vw.lk,Vw.hk,AV.inn,innL,Aqz,Anz,Asz,-List.map_set,-List.getD_eq_getElem?_getD,hl])
    · rintro d ⟨hd,hj⟩
      by_cases hlt:d < k
      · by_cases hm:(d:Int) ∈ xs
        · have hm':decide ((d:Int) ∈ xs)=true:=decide_eq_true hm
          (repeat' (first
 | (first|refine Akz ?_|refine Aez ?_)
 | ((first|refine Alz ?_|refine Adz ?_|refine Afz ?_|refine Agz ?_);simp (disch:=omega) only [push_cast,seval,l28r0,l28r1,l28r2,l28r3,l28r4,l28r5,l28r6,l28r7,l28r8,l28r9,hm'])
 | ((first|refine Aaz ?_ ?_|refine Acz ?_ ?_|refine Abz ?_ ?_)<;>intro h<;>(try simp only [h])<;>(try simp only [bitvec_to_nat] at h)<;>(try simp only [h])<;>(first|(exfalso;omega)|(exfalso;simp_all;done)|(simp (disch:=omega) only [push_cast,seval,hm'])|skip))
 | ((first|refine Apz false ?_|refine qcallD_of false ?_);simp (disch:=omega) only [push_cast,seval,hm'])
 | ((first|((first|refine call0D (BCall.ofP (Azz _ _ _ ?_ ?_)) ?_|refine qcall0D (BCall.ofP (Azz _ _ _ ?_ ?_)) ⟨_,_,rfl,rfl⟩ ?_);(iterate 2 (exact sd));rintro _ _ ⟨rfl,rfl⟩))<;>(try simp (disch:=omega) only [push_cast,seval,hm']))
 | (refine Ahz ⟨.inr rfl,_,rfl,?_⟩; (try simp (disch := omega) only [push_cast,seval,hm']))))
          refine ⟨d + 1,⟨by omega,fun j h=>?_⟩,by omega,?_⟩
          · by_cases hjk:j=d
            · subst hjk;exact hm
            · exact hj j (by omega)
          · (refine Sub.of_lists ?_ ?_ ?_ ?_ ?_<;>simp [Vw.mkS,Vw.lk,Vw.hk,AV.inn,innL,Aqz,Anz,Asz,-List.map_set,-List.getD_eq_getElem?_getD])
        · have hm':decide ((d:Int) ∈ xs)=false:=decide_eq_false hm
          have hf:=hasAll_false hlt hm
          (repeat' (first
 | (first|refine Akz ?_|refine Aez ?_)
 | ((first|refine Alz ?_|refine Adz ?_|refine Afz ?_|refine Agz ?_);simp (disch:=omega) only [push_cast,seval,l28r0,l28r1,l28r2,l28r3,l28r4,l28r5,l28r6,l28r7,l28r8,l28r9,hm',hf])
 | ((first|refine Aaz ?_ ?_|refine Acz ?_ ?_|refine Abz ?_ ?_)<;>intro h<;>(try simp only [h])<;>(try simp only [bitvec_to_nat] at h)<;>(try simp only [h])<;>(first|(exfalso;omega)|(exfalso;simp_all;done)|(simp (disch:=omega) only [push_cast,seval,hm',hf])|skip))
 | ((first|refine Apz false ?_|refine qcallD_of false ?_);simp (disch:=omega) only [push_cast,seval,hm',hf])
 | ((first|((first|refine call0D (BCall.ofP (Azz _ _ _ ?_ ?_)) ?_|refine qcall0D (BCall.ofP (Azz _ _ _ ?_ ?_)) ⟨_,_,rfl,rfl⟩ ?_);(iterate 2 (exact sd));rintro _ _ ⟨rfl,rfl⟩))<;>(try simp (disch:=omega) only [push_cast,seval,hm',hf]))
 | (refine Ahz ⟨.inr rfl,_,rfl,?_⟩; (try simp (disch := omega) only [push_cast,seval,hm',hf]))))
          all_goals (try simp)
      · have ha:hasAll xs k=true:=G2z fun d' hd'=>hj d' (by omega)
        (repeat' (first
 | (first|refine Akz ?_|refine Aez ?_)
 | ((first|refine Alz ?_|refine Adz ?_|refine Afz ?_|refine Agz ?_);simp (disch:=omega) only [push_cast,seval,l28r0,l28r1,l28r2,l28r3,l28r4,l28r5,l28r6,l28r7,l28r8,l28r9,ha])
 | ((first|refine Aaz ?_ ?_|refine Acz ?_ ?_|refine Abz ?_ ?_)<;>intro h<;>(try simp only [h])<;>(try simp only [bitvec_to_nat] at h)<;>(try simp only [h])<;>(first|(exfalso;omega)|(exfalso;simp_all;done)|(simp (disch:=omega) only [push_cast,seval,ha])|skip))
 | ((first|refine Apz false ?_|refine qcallD_of false ?_);simp (disch:=omega) only [push_cast,seval,ha])
 | ((first|((first|refine call0D (BCall.ofP (Azz _ _ _ ?_ ?_)) ?_|refine qcall0D (BCall.ofP (Azz _ _ _ ?_ ?_)) ⟨_,_,rfl,rfl⟩ ?_);(iterate 2 (exact sd));rintro _ _ ⟨rfl,rfl⟩))<;>(try simp (disch:=omega) only [push_cast,seval,ha]))
 | (refine Ahz ⟨.inr rfl,_,rfl,?_⟩;(try simp (disch:=omega) only [push_cast,seval,ha]))))
        all_goals (try simp [hl])
  · have hl':¬ (xs.length:Int)=k:=by omega
    (repeat' (first
 | (first|refine Akz ?_|refine Aez ?_)
 | ((first|refine Alz ?_|refine Adz ?_|refine Afz ?_|refine Agz ?_);simp (disch:=omega) only [push_cast,seval,l28r0,l28r1,l28r2,l28r3,l28r4,l28r5,l28r6,l28r7,l28r8,l28r9,hl'])
 | ((first|refine Aaz ?_ ?_|refine Acz ?_ ?_|refine Abz ?_ ?_)<;>intro h<;>(try simp only [h])<;>(try simp only [bitvec_to_nat] at h)<;>(try simp only [h])<;>(first|(exfalso;omega)|(exfalso;simp_all;done)|(simp (disch:=omega) only [push_cast,seval,hl'])|skip))
 | ((first|refine Apz false ?_|refine qcallD_of false ?_);simp (disch:=omega) only [push_cast,seval,hl'])
 | ((first|((first|refine call0D (BCall.ofP (Azz _ _ _ ?_ ?_)) ?_|refine qcall0D (BCall.ofP (Azz _ _ _ ?_ ?_)) ⟨_,_,rfl,rfl⟩ ?_);(iterate 2 (exact sd));rintro _ _ ⟨rfl,rfl⟩))<;>(try simp (disch:=omega) only [push_cast,seval,hl']))
 | (refine Ahz ⟨.inr rfl,_,rfl,?_⟩;(try simp (disch:=omega) only [push_cast,seval,hl']))))
    all_goals (try simp [hl])


end Go.Proofs.Ytfmogaimamphdaa
set_option linter.unusedSimpArgs false
set_option linter.unusedVariables false
set_option maxRecDepth 4000
set_option maxHeartbeats 4000000
namespace Go.Proofs.Ytfmogaimamphdaa
open VwM Vw Go

/-- Two views of an equal shape fit. -/
def twoB (mem:List Int) (b:Int) (sh st:List Int) (b':Int) (sh' st':List Int):Bool:=seeB mem b sh st && seeB mem b' sh' st' && decide (sh=sh')


/-- The values can be taken by the view. -/
def takB (mem:List Int) (b:Int) (sh st vals:List Int):Bool:=seeB mem b sh st && decide ((vals.length:Int)=pr sh) && allI vals 0 255
end Go.Proofs.Ytfmogaimamphdaa
set_option linter.unusedSimpArgs false
set_option linter.unusedVariables false
set_option maxRecDepth 4000
set_option maxHeartbeats 4000000
namespace Go.Proofs.Ytfmogaimamphdaa
open VwM Vw Go

abbrev OT (x y:List Int):AV → List (List AV) → Prop:=fun r H'=>r=.agg [.own 0 x.length 1,.own 1 y.length 1] ∧ H'=[IL x,IL y]
theorem plainT [Inhabited GlobT] {P:Program} {f:Nat} {args:List AV} {x y:List Int} (h:BCall P f args [] (OT x y)):PCall P f args (fun r=>r=.agg [.rows true (IL x) x.length,.rows true (IL y) y.length]):=by
  refine (BCall.plain h).mono ?_
  rintro r ⟨r0,H',⟨rfl,rfl⟩,rfl⟩
  simp [AV.ren,nthH,List.map_map,Function.comp_def]


theorem vT_sh {x y:List Int} (h:vSh x=false):vT (x,y)=false:=by simp [vT,h]
theorem vT_len {x y:List Int} (h:¬ (y.length:Int)=pr x):vT (x,y)=false:=by simp [vT,h]
theorem vT_in {x y:List Int} (h:vSh x=true) (h2:(y.length:Int)=pr x):vT (x,y)=allI y (-1000000) 1000000:=by simp [vT,h,h2]
theorem B6z {t:Tn}:vT t=true ↔ vSh t.1=true ∧ (t.2.length:Int)=pr t.1 ∧ ∀ x ∈ t.2,-1000000 ≤ x ∧ x ≤ 1000000:=by
  simp [vT,Bdz,and_assoc]
theorem vT_len60 {t:Tn} (h:vT t=true):t.1.length ≤ 4 ∧ t.2.length ≤ 60:=by
  obtain ⟨h1,h2,_⟩:=B6z.1 h
  have:=(A5z h1).1.2
  have:=(A5z h1).2
  omega


set_option maxHeartbeats 4000000 in
theorem Hsz (x y:List Int) (n m:Nat) (hn:x.length=n) (hm:y.length=m) (hb:n ≤ 1099511627776 ∧ m ≤ 1099511627776):PCall Try.prog 37 [.agg [.rows false (IL x) n,.rows false (IL y) m]] (fun r=>r=.bool (vT (x,y))):=by
  subst hn hm
  refine A0z l37_eq rfl ?_
  cases hv:vSh x with
  | false =>
    rw [vT_sh hv]
    (repeat' (first
 | (first|refine Akz ?_|refine Aez ?_)
 | ((first|refine Alz ?_|refine Arz (mid:=l37r1a) (post:=l37r1b) Axz (by decide) ?_|refine Adz ?_|refine Afz ?_|refine Agz ?_);simp (disch:=omega) only [push_cast,seval,l37r0,l37r1a,l37r1b,l37r1,hv])
 | ((first|refine Aaz ?_ ?_|refine Acz ?_ ?_|refine Abz ?_ ?_)<;>intro h<;>(try simp only [h])<;>(try simp only [bitvec_to_nat] at h)<;>(try simp only [h])<;>(first|(exfalso;omega)|(exfalso;simp_all;done)|(simp (disch:=omega) only [push_cast,seval,hv])|skip))
 | ((first|refine Apz false ?_|refine qcallD_of false ?_);simp (disch:=omega) only [push_cast,seval,hv])
 | ((first|((first|refine call0D (BCall.ofP (Bpz _ _ ?_ ?_)) ?_|refine qcall0D (BCall.ofP (Bpz _ _ ?_ ?_)) ⟨_,_,rfl,rfl⟩ ?_);(iterate 2 (exact sd));rintro _ _ ⟨rfl,rfl⟩)|((first|refine call0D (BCall.ofP (scount_ok _ _ ?_ ?_)) ?_|refine qcall0D (BCall.ofP (scount_ok _ _ ?_ ?_)) ⟨_,_,rfl,rfl⟩ ?_);(iterate 2 (exact sd));rintro _ _ ⟨rfl,rfl⟩)|((first|refine call0D (BCall.ofP (allIn_ok _ _ _ _ ?_ ?_)) ?_|refine qcall0D (BCall.ofP (allIn_ok _ _ _ _ ?_ ?_)) ⟨_,_,rfl,rfl⟩ ?_);(iterate 2 (exact sd));rintro _ _ ⟨rfl,rfl⟩))<;>(try simp (disch:=omega) only [push_cast,seval,hv]))
 | (refine Ahz ⟨.inr rfl,_,rfl,?_⟩;(try simp (disch:=omega) only [push_cast,seval,hv]))))
  | true =>
    have hg:=(A5z hv).1
    have hl:=hg.2
    by_cases hz:(y.length:Int)=pr x
    · rw [vT_in hv hz]
      (repeat' (first
 | (first|refine Akz ?_|refine Aez ?_)
 | ((first|refine Alz ?_|refine Arz (mid:=l37r1a) (post:=l37r1b) Axz (by decide) ?_|refine Adz ?_|refine Afz ?_|refine Agz ?_);simp (disch:=omega) only [push_cast,seval,l37r0,l37r1a,l37r1b,l37r1,hv,hz])
 | ((first|refine Aaz ?_ ?_|refine Acz ?_ ?_|refine Abz ?_ ?_)<;>intro h<;>(try simp only [h])<;>(try simp only [bitvec_to_nat] at h)<;>(try simp only [h])<;>(first|(exfalso;omega)|(exfalso;simp_all;done)|(simp (disch:=omega) only [push_cast,seval,hv,hz])|skip))
 | ((first|refine Apz false ?_|refine qcallD_of false ?_);simp (disch:=omega) only [push_cast,seval,hv,hz])
 | ((first|((first|refine call0D (BCall.ofP (Bpz _ _ ?_ ?_)) ?_|refine qcall0D (BCall.ofP (Bpz _ _ ?_ ?_)) ⟨_,_,rfl,rfl⟩ ?_);(iterate 2 (exact sd));rintro _ _ ⟨rfl,rfl⟩)|((first|refine call0D (BCall.ofP (scount_ok _ _ ?_ ?_)) ?_|refine qcall0D (BCall.ofP (scount_ok _ _ ?_ ?_)) ⟨_,_,rfl,rfl⟩ ?_);(iterate 2 (exact sd));rintro _ _ ⟨rfl,rfl⟩)|((first|refine call0D (BCall.ofP (allIn_ok _ _ _ _ ?_ ?_)) ?_|refine qcall0D (BCall.ofP (allIn_ok _ _ _ _ ?_ ?_)) ⟨_,_,rfl,rfl⟩ ?_);(iterate 2 (exact sd));rintro _ _ ⟨rfl,rfl⟩))<;>(try simp (disch:=omega) only [push_cast,seval,hv,hz]))
 | (refine Ahz ⟨.inr rfl,_,rfl,?_⟩;(try simp (disch:=omega) only [push_cast,seval,hv,hz]))))
    · rw [vT_len hz]
      (repeat' (first
 | (first|refine Akz ?_|refine Aez ?_)
 | ((first|refine Alz ?_|refine Arz (mid:=l37r1a) (post:=l37r1b) Axz (by decide) ?_|refine Adz ?_|refine Afz ?_|refine Agz ?_);simp (disch:=omega) only [push_cast,seval,l37r0,l37r1a,l37r1b,l37r1,hv,hz])
 | ((first|refine Aaz ?_ ?_|refine Acz ?_ ?_|refine Abz ?_ ?_)<;>intro h<;>(try simp only [h])<;>(try simp only [bitvec_to_nat] at h)<;>(try simp only [h])<;>(first|(exfalso;omega)|(exfalso;simp_all;done)|(simp (disch:=omega) only [push_cast,seval,hv,hz])|skip))
 | ((first|refine Apz false ?_|refine qcallD_of false ?_);simp (disch:=omega) only [push_cast,seval,hv,hz])
 | ((first|((first|refine call0D (BCall.ofP (Bpz _ _ ?_ ?_)) ?_|refine qcall0D (BCall.ofP (Bpz _ _ ?_ ?_)) ⟨_,_,rfl,rfl⟩ ?_);(iterate 2 (exact sd));rintro _ _ ⟨rfl,rfl⟩)|((first|refine call0D (BCall.ofP (scount_ok _ _ ?_ ?_)) ?_|refine qcall0D (BCall.ofP (scount_ok _ _ ?_ ?_)) ⟨_,_,rfl,rfl⟩ ?_);(iterate 2 (exact sd));rintro _ _ ⟨rfl,rfl⟩)|((first|refine call0D (BCall.ofP (allIn_ok _ _ _ _ ?_ ?_)) ?_|refine qcall0D (BCall.ofP (allIn_ok _ _ _ _ ?_ ?_)) ⟨_,_,rfl,rfl⟩ ?_);(iterate 2 (exact sd));rintro _ _ ⟨rfl,rfl⟩))<;>(try simp (disch:=omega) only [push_cast,seval,hv,hz]))
 | (refine Ahz ⟨.inr rfl,_,rfl,?_⟩;(try simp (disch:=omega) only [push_cast,seval,hv,hz]))))


theorem withinB_ok (x l:Int) (h0:0 ≤ l) (h1:l ≤ 100000000):PCall Try.prog 49 [.int .i64 x,.int .i64 l] (fun r=>r=.bool (decide (-l ≤ x) && decide (x ≤ l))):=by
  refine A0z l49_eq rfl ?_
  (repeat' (first
 | (first|refine Akz ?_|refine Aez ?_)
 | ((first|refine Alz ?_|refine Adz ?_|refine Afz ?_|refine Agz ?_);simp (disch:=omega) only [push_cast,seval,l49r0,l49r1])
 | ((first|refine Aaz ?_ ?_|refine Acz ?_ ?_|refine Abz ?_ ?_)<;>intro h<;>(try simp only [h])<;>(try simp only [bitvec_to_nat] at h)<;>(try simp only [h])<;>(first|(exfalso;omega)|(exfalso;simp_all;done)|(simp (disch:=omega) only [push_cast,seval])|skip))
 | (refine Ahz ⟨.inr rfl,_,rfl,?_⟩;(try simp (disch:=omega) only [push_cast,seval]))))
  all_goals (first|rfl|(simp_all;done)|(simp_all;omega)|(simp;omega)|(simp;grind)|(simp_all;grind)|skip)


set_option maxHeartbeats 4000000 in
theorem ivT_ok (x y:List Int) (n m:Nat) (hn:x.length=n) (hm:y.length=m) (hb:n ≤ 1099511627776 ∧ m ≤ 1099511627776):PCall Try.prog 23 [.agg [.rows false (IL x) n,.rows false (IL y) m]] (fun r=>r=.bool (vT (x,y))):=by
  subst hn hm
  refine A0z l23_eq rfl ?_
  cases hv:vSh x with
  | false =>
    rw [vT_sh hv]
    (repeat' (first
 | (first|refine Akz ?_|refine Aez ?_)
 | ((first|refine Alz ?_|refine Arz (mid:=l23r1a) (post:=l23r1b) Axz (by decide) ?_|refine Adz ?_|refine Afz ?_|refine Agz ?_);simp (disch:=omega) only [push_cast,seval,l23r0,l23r1a,l23r1b,l23r1,l23r2,l23r3,l23r4,l23r5,l23r6,l23r7,l23r8,l23r9,hv])
 | ((first|refine Aaz ?_ ?_|refine Acz ?_ ?_|refine Abz ?_ ?_)<;>intro h<;>(try simp only [h])<;>(try simp only [bitvec_to_nat] at h)<;>(try simp only [h])<;>(first|(exfalso;omega)|(exfalso;simp_all;done)|(simp (disch:=omega) only [push_cast,seval,hv])|skip))
 | ((first|refine Apz false ?_|refine qcallD_of false ?_);simp (disch:=omega) only [push_cast,seval,hv])
 | ((first|((first|refine call0D (BCall.ofP (iValidShape_ok _ _ ?_ ?_)) ?_|refine qcall0D (BCall.ofP (iValidShape_ok _ _ ?_ ?_)) ⟨_,_,rfl,rfl⟩ ?_);(iterate 2 (exact sd));rintro _ _ ⟨rfl,rfl⟩)|((first|refine call0D (BCall.ofP (product_ok _ _ ?_ ?_)) ?_|refine qcall0D (BCall.ofP (product_ok _ _ ?_ ?_)) ⟨_,_,rfl,rfl⟩ ?_);(iterate 2 (exact sd));rintro _ _ ⟨rfl,rfl⟩)|((first|refine call0D (BCall.ofP (withinB_ok _ _ ?_ ?_)) ?_|refine qcall0D (BCall.ofP (withinB_ok _ _ ?_ ?_)) ⟨_,_,rfl,rfl⟩ ?_);(iterate 2 (exact sd));rintro _ _ ⟨rfl,rfl⟩))<;>(try simp (disch:=omega) only [push_cast,seval,hv]))
 | (refine Ahz ⟨.inr rfl,_,rfl,?_⟩;(try simp (disch:=omega) only [push_cast,seval,hv]))))
  | true =>
    have hg:=(A5z hv).1
    have hl:=hg.2
    by_cases hz:(y.length:Int)=pr x
    · rw [vT_in hv hz]
      (repeat' (first
 | (first|refine Akz ?_|refine Aez ?_)
 | ((first|refine Alz ?_|refine Arz (mid:=l23r1a) (post:=l23r1b) Axz (by decide) ?_|refine Adz ?_|refine Afz ?_|refine Agz ?_);simp (disch:=omega) only [push_cast,seval,l23r0,l23r1a,l23r1b,l23r1,l23r2,l23r3,l23r4,l23r5,l23r6,l23r7,l23r8,l23r9,hv,hz])
 | ((first|refine Aaz ?_ ?_|refine Acz ?_ ?_|refine Abz ?_ ?_)<;>intro h<;>(try simp only [h])<;>(try simp only [bitvec_to_nat] at h)<;>(try simp only [h])<;>(first|(exfalso;omega)|(exfalso;simp_all;done)|(simp (disch:=omega) only [push_cast,seval,hv,hz])|skip))
 | ((first|refine Apz false ?_|refine qcallD_of false ?_);simp (disch:=omega) only [push_cast,seval,hv,hz])
 | ((first|((first|refine call0D (BCall.ofP (iValidShape_ok _ _ ?_ ?_)) ?_|refine qcall0D (BCall.ofP (iValidShape_ok _ _ ?_ ?_)) ⟨_,_,rfl,rfl⟩ ?_);(iterate 2 (exact sd));rintro _ _ ⟨rfl,rfl⟩)|((first|refine call0D (BCall.ofP (product_ok _ _ ?_ ?_)) ?_|refine qcall0D (BCall.ofP (product_ok _ _ ?_ ?_)) ⟨_,_,rfl,rfl⟩ ?_);(iterate 2 (exact sd));rintro _ _ ⟨rfl,rfl⟩)|((first|refine call0D (BCall.ofP (withinB_ok _ _ ?_ ?_)) ?_|refine qcall0D (BCall.ofP (withinB_ok _ _ ?_ ?_)) ⟨_,_,rfl,rfl⟩ ?_);(iterate 2 (exact sd));rintro _ _ ⟨rfl,rfl⟩))<;>(try simp (disch:=omega) only [push_cast,seval,hv,hz]))
 | (refine Ahz ⟨.inr rfl,_,rfl,?_⟩;(try simp (disch:=omega) only [push_cast,seval,hv,hz]))))
      refine A1z (fun k:Nat=>mkS [(19,RI y),(20,.int .i64 y.length),(21,.int .i64 k)] []) (fun k=>k ≤ y.length ∧ ∀ j:Nat,j < k → -1000000 ≤ y.getD j 0 ∧ y.getD j 0 ≤ 1000000) (fun k=>y.length - k) 0 ⟨Nat.zero_le _,fun j h=>absurd h (Nat.not_lt_zero _)⟩ ?_ ?_
      · (refine Sub.of_lists ?_ ?_ ?_ ?_ ?_<;>simp [Vw.mkS,Vw.lk,Vw.hk,AV.inn,innL,Aqz,Anz,Asz,-List.map_set,-List.getD_eq_getElem?_getD,hz])
      · rintro k ⟨hk,hj⟩
        by_cases hlt:k < y.length
        · by_cases hin:-1000000 ≤ y.getD k 0 ∧ y.getD k 0 ≤ 1000000
          · have hw:(decide (-1000000 ≤ y.getD k 0) && decide (y.getD k 0 ≤ 1000000))=true:=by
              rw [Bool.and_eq_true,decide_eq_true_eq,decide_eq_true_eq];exact hin
            (repeat' (first
 | (first|refine Akz ?_|refine Aez ?_)
 | ((first|refine Alz ?_|refine Arz (mid:=l23r1a) (post:=l23r1b) Axz (by decide) ?_|refine Adz ?_|refine Afz ?_|refine Agz ?_);simp (disch:=omega) only [push_cast,seval,l23r0,l23r1a,l23r1b,l23r1,l23r2,l23r3,l23r4,l23r5,l23r6,l23r7,l23r8,l23r9,hw])
 | ((first|refine Aaz ?_ ?_|refine Acz ?_ ?_|refine Abz ?_ ?_)<;>intro h<;>(try simp only [h])<;>(try simp only [bitvec_to_nat] at h)<;>(try simp only [h])<;>(first|(exfalso;omega)|(exfalso;simp_all;done)|(simp (disch:=omega) only [push_cast,seval,hw])|skip))
 | ((first|refine Apz false ?_|refine qcallD_of false ?_);simp (disch:=omega) only [push_cast,seval,hw])
 | ((first|((first|refine call0D (BCall.ofP (iValidShape_ok _ _ ?_ ?_)) ?_|refine qcall0D (BCall.ofP (iValidShape_ok _ _ ?_ ?_)) ⟨_,_,rfl,rfl⟩ ?_);(iterate 2 (exact sd));rintro _ _ ⟨rfl,rfl⟩)|((first|refine call0D (BCall.ofP (product_ok _ _ ?_ ?_)) ?_|refine qcall0D (BCall.ofP (product_ok _ _ ?_ ?_)) ⟨_,_,rfl,rfl⟩ ?_);(iterate 2 (exact sd));rintro _ _ ⟨rfl,rfl⟩)|((first|refine call0D (BCall.ofP (withinB_ok _ _ ?_ ?_)) ?_|refine qcall0D (BCall.ofP (withinB_ok _ _ ?_ ?_)) ⟨_,_,rfl,rfl⟩ ?_);(iterate 2 (exact sd));rintro _ _ ⟨rfl,rfl⟩))<;>(try simp (disch:=omega) only [push_cast,seval,hw]))
 | (refine Ahz ⟨.inr rfl,_,rfl,?_⟩; (try simp (disch := omega) only [push_cast,seval,hw]))))
            refine ⟨k + 1,⟨by omega,fun j h=>?_⟩,by omega,?_⟩
            · by_cases hjk:j=k
              · subst hjk;exact hin
              · exact hj j (by omega)
            · (refine Sub.of_lists ?_ ?_ ?_ ?_ ?_<;>simp [Vw.mkS,Vw.lk,Vw.hk,AV.inn,innL,Aqz,Anz,Asz,-List.map_set,-List.getD_eq_getElem?_getD])
          · have hw:(decide (-1000000 ≤ y.getD k 0) && decide (y.getD k 0 ≤ 1000000))=false:=by
              rw [Bool.and_eq_false_iff,decide_eq_false_iff_not,decide_eq_false_iff_not];omega
            rw [Eoz (j:=k) hlt (by omega)]
            (repeat' (first
 | (first|refine Akz ?_|refine Aez ?_)
 | ((first|refine Alz ?_|refine Arz (mid:=l23r1a) (post:=l23r1b) Axz (by decide) ?_|refine Adz ?_|refine Afz ?_|refine Agz ?_);simp (disch:=omega) only [push_cast,seval,l23r0,l23r1a,l23r1b,l23r1,l23r2,l23r3,l23r4,l23r5,l23r6,l23r7,l23r8,l23r9,hw])
 | ((first|refine Aaz ?_ ?_|refine Acz ?_ ?_|refine Abz ?_ ?_)<;>intro h<;>(try simp only [h])<;>(try simp only [bitvec_to_nat] at h)<;>(try simp only [h])<;>(first|(exfalso;omega)|(exfalso;simp_all;done)|(simp (disch:=omega) only [push_cast,seval,hw])|skip))
 | ((first|refine Apz false ?_|refine qcallD_of false ?_);simp (disch:=omega) only [push_cast,seval,hw])
 | ((first|((first|refine call0D (BCall.ofP (iValidShape_ok _ _ ?_ ?_)) ?_|refine qcall0D (BCall.ofP (iValidShape_ok _ _ ?_ ?_)) ⟨_,_,rfl,rfl⟩ ?_);(iterate 2 (exact sd));rintro _ _ ⟨rfl,rfl⟩)|((first|refine call0D (BCall.ofP (product_ok _ _ ?_ ?_)) ?_|refine qcall0D (BCall.ofP (product_ok _ _ ?_ ?_)) ⟨_,_,rfl,rfl⟩ ?_);(iterate 2 (exact sd));rintro _ _ ⟨rfl,rfl⟩)|((first|refine call0D (BCall.ofP (withinB_ok _ _ ?_ ?_)) ?_|refine qcall0D (BCall.ofP (withinB_ok _ _ ?_ ?_)) ⟨_,_,rfl,rfl⟩ ?_);(iterate 2 (exact sd));rintro _ _ ⟨rfl,rfl⟩))<;>(try simp (disch:=omega) only [push_cast,seval,hw]))
 | (refine Ahz ⟨.inr rfl,_,rfl,?_⟩;(try simp (disch:=omega) only [push_cast,seval,hw]))))
        · rw [Fnz fun j h=>hj j (by omega)]
          (repeat' (first
 | (first|refine Akz ?_|refine Aez ?_)
 | ((first|refine Alz ?_|refine Arz (mid:=l23r1a) (post:=l23r1b) Axz (by decide) ?_|refine Adz ?_|refine Afz ?_|refine Agz ?_);simp (disch:=omega) only [push_cast,seval,l23r0,l23r1a,l23r1b,l23r1,l23r2,l23r3,l23r4,l23r5,l23r6,l23r7,l23r8,l23r9])
 | ((first|refine Aaz ?_ ?_|refine Acz ?_ ?_|refine Abz ?_ ?_)<;>intro h<;>(try simp only [h])<;>(try simp only [bitvec_to_nat] at h)<;>(try simp only [h])<;>(first|(exfalso;omega)|(exfalso;simp_all;done)|(simp (disch:=omega) only [push_cast,seval])|skip))
 | ((first|refine Apz false ?_|refine qcallD_of false ?_);simp (disch:=omega) only [push_cast,seval])
 | ((first|((first|refine call0D (BCall.ofP (iValidShape_ok _ _ ?_ ?_)) ?_|refine qcall0D (BCall.ofP (iValidShape_ok _ _ ?_ ?_)) ⟨_,_,rfl,rfl⟩ ?_);(iterate 2 (exact sd));rintro _ _ ⟨rfl,rfl⟩)|((first|refine call0D (BCall.ofP (product_ok _ _ ?_ ?_)) ?_|refine qcall0D (BCall.ofP (product_ok _ _ ?_ ?_)) ⟨_,_,rfl,rfl⟩ ?_);(iterate 2 (exact sd));rintro _ _ ⟨rfl,rfl⟩)|((first|refine call0D (BCall.ofP (withinB_ok _ _ ?_ ?_)) ?_|refine qcall0D (BCall.ofP (withinB_ok _ _ ?_ ?_)) ⟨_,_,rfl,rfl⟩ ?_);(iterate 2 (exact sd));rintro _ _ ⟨rfl,rfl⟩))<;>(try simp (disch:=omega) only [push_cast,seval]))
 | (refine Ahz ⟨.inr rfl,_,rfl,?_⟩;(try simp (disch:=omega) only [push_cast,seval]))))
    · rw [vT_len hz]
      (repeat' (first
 | (first|refine Akz ?_|refine Aez ?_)
 | ((first|refine Alz ?_|refine Arz (mid:=l23r1a) (post:=l23r1b) Axz (by decide) ?_|refine Adz ?_|refine Afz ?_|refine Agz ?_);simp (disch:=omega) only [push_cast,seval,l23r0,l23r1a,l23r1b,l23r1,l23r2,l23r3,l23r4,l23r5,l23r6,l23r7,l23r8,l23r9,hv,hz])
 | ((first|refine Aaz ?_ ?_|refine Acz ?_ ?_|refine Abz ?_ ?_)<;>intro h<;>(try simp only [h])<;>(try simp only [bitvec_to_nat] at h)<;>(try simp only [h])<;>(first|(exfalso;omega)|(exfalso;simp_all;done)|(simp (disch:=omega) only [push_cast,seval,hv,hz])|skip))
 | ((first|refine Apz false ?_|refine qcallD_of false ?_);simp (disch:=omega) only [push_cast,seval,hv,hz])
 | ((first|((first|refine call0D (BCall.ofP (iValidShape_ok _ _ ?_ ?_)) ?_|refine qcall0D (BCall.ofP (iValidShape_ok _ _ ?_ ?_)) ⟨_,_,rfl,rfl⟩ ?_);(iterate 2 (exact sd));rintro _ _ ⟨rfl,rfl⟩)|((first|refine call0D (BCall.ofP (product_ok _ _ ?_ ?_)) ?_|refine qcall0D (BCall.ofP (product_ok _ _ ?_ ?_)) ⟨_,_,rfl,rfl⟩ ?_);(iterate 2 (exact sd));rintro _ _ ⟨rfl,rfl⟩)|((first|refine call0D (BCall.ofP (withinB_ok _ _ ?_ ?_)) ?_|refine qcall0D (BCall.ofP (withinB_ok _ _ ?_ ?_)) ⟨_,_,rfl,rfl⟩ ?_);(iterate 2 (exact sd));rintro _ _ ⟨rfl,rfl⟩))<;>(try simp (disch:=omega) only [push_cast,seval,hv,hz]))
 | (refine Ahz ⟨.inr rfl,_,rfl,?_⟩;(try simp (disch:=omega) only [push_cast,seval,hv,hz]))))

end Go.Proofs.Ytfmogaimamphdaa
