/- Texts of this verifier. -/
import Derived.Test.YtkpcjppnjmhanaaDoorCB3
import Derived.Test.YtkpcjppnjmhanaaDoorCM1
import Derived.Test.YtkpcjppnjmhanaaDoorCW3
import Derived.WalkKit
import Derived.LaidEql
import Derived.Stop.Asserts
import Derived.RowKitTokens
set_option maxHeartbeats 4000000
set_option linter.unusedSimpArgs false
set_option linter.unusedSectionVars false
set_option linter.unusedVariables false
set_option maxRecDepth 4000
namespace Go.Proofs.YtkpcjppnjmhanaaDoor
open VwM Vw Go
variable [SentA]

theorem seeB_mem {mem:List Int} {b:Int} {sh st:List Int} (h:vMem mem=false):seeB mem b sh st=false:=by simp [seeB,h]
theorem seeB_view {mem:List Int} {b:Int} {sh st:List Int} (h:vV b sh st=false):seeB mem b sh st=false:=by simp [seeB,h]
theorem seeB_rest {mem:List Int} {b:Int} {sh st:List Int} (h1:vMem mem=true) (h2:vV b sh st=true):seeB mem b sh st=allI (offs b sh st) 0 ((mem.length:Int) - 1):=by simp [seeB,h1,h2]
theorem Ciz (xs:List Int) (n:Nat) (hn:xs.length=n) (hb:n ≤ 1099511627776):PCall Tryd.prog 52 [.rows false (IL xs) n] (fun r=>r=.bool (vMem xs)):=by
  subst hn
  refine A4z l52_eq rfl ?_
  by_cases h4:xs.length ≤ 60
  · cases ha:allI xs 0 255 with
    | false =>
      (repeat' (first
 | (first|refine Apz ?_|refine Aiz ?_)
 | ((first|refine Aqz ?_|refine Ahz ?_|refine Ajz ?_|refine Akz ?_);simp (disch:=omega) only [push_cast,seval,l52r0,l52r1,ha])
 | ((first|refine Acz ?_ ?_|refine Agz ?_ ?_|refine Afz ?_ ?_)<;>intro h<;>(try simp only [h])<;>(try simp only [bitvec_to_nat] at h)<;>(try simp only [h])<;>(first|(exfalso;omega)|(exfalso;simp_all;done)|(simp (disch:=omega) only [push_cast,seval,ha])|skip))
 | ((first|refine Arz false ?_|refine Anz false ?_);simp (disch:=omega) only [push_cast,seval,ha])
 | ((first|((first|refine Adz (Aez (Bkz _ _ _ _ ?_ ?_)) ?_|refine Abz (Aez (Bkz _ _ _ _ ?_ ?_)) ⟨_,_,rfl,rfl⟩ ?_);(iterate 2 (exact sd));rintro _ _ ⟨rfl,rfl⟩))<;>(try simp (disch:=omega) only [push_cast,seval,ha]))
 | (refine Amz ⟨.inr rfl,_,rfl,?_⟩;(try simp (disch:=omega) only [push_cast,seval,ha]))))
      all_goals simp [vMem,ha]
    | true =>
      (repeat' (first
 | (first|refine Apz ?_|refine Aiz ?_)
 | ((first|refine Aqz ?_|refine Ahz ?_|refine Ajz ?_|refine Akz ?_);simp (disch:=omega) only [push_cast,seval,l52r0,l52r1,ha])
 | ((first|refine Acz ?_ ?_|refine Agz ?_ ?_|refine Afz ?_ ?_)<;>intro h<;>(try simp only [h])<;>(try simp only [bitvec_to_nat] at h)<;>(try simp only [h])<;>(first|(exfalso;omega)|(exfalso;simp_all;done)|(simp (disch:=omega) only [push_cast,seval,ha])|skip))
 | ((first|refine Arz false ?_|refine Anz false ?_);simp (disch:=omega) only [push_cast,seval,ha])
 | ((first|((first|refine Adz (Aez (Bkz _ _ _ _ ?_ ?_)) ?_|refine Abz (Aez (Bkz _ _ _ _ ?_ ?_)) ⟨_,_,rfl,rfl⟩ ?_);(iterate 2 (exact sd));rintro _ _ ⟨rfl,rfl⟩))<;>(try simp (disch:=omega) only [push_cast,seval,ha]))
 | (refine Amz ⟨.inr rfl,_,rfl,?_⟩;(try simp (disch:=omega) only [push_cast,seval,ha]))))
      all_goals simp [vMem,ha,h4]
  · (repeat' (first
 | (first|refine Apz ?_|refine Aiz ?_)
 | ((first|refine Aqz ?_|refine Ahz ?_|refine Ajz ?_|refine Akz ?_);simp (disch:=omega) only [push_cast,seval,l52r0,l52r1])
 | ((first|refine Acz ?_ ?_|refine Agz ?_ ?_|refine Afz ?_ ?_)<;>intro h<;>(try simp only [h])<;>(try simp only [bitvec_to_nat] at h)<;>(try simp only [h])<;>(first|(exfalso;omega)|(exfalso;simp_all;done)|(simp (disch:=omega) only [push_cast,seval])|skip))
 | ((first|refine Arz false ?_|refine Anz false ?_);simp (disch:=omega) only [push_cast,seval])
 | ((first|((first|refine Adz (Aez (Bkz _ _ _ _ ?_ ?_)) ?_|refine Abz (Aez (Bkz _ _ _ _ ?_ ?_)) ⟨_,_,rfl,rfl⟩ ?_);(iterate 2 (exact sd));rintro _ _ ⟨rfl,rfl⟩))<;>(try simp (disch:=omega) only [push_cast,seval]))
 | (refine Amz ⟨.inr rfl,_,rfl,?_⟩;(try simp (disch:=omega) only [push_cast,seval]))))
    all_goals simp [vMem,h4]


theorem Dvz (xs:List Int) (n:Nat) (hn:xs.length=n) (hb:n ≤ 1099511627776):PCall Tryd.prog 45 [.rows false (IL xs) n] (fun r=>r=.bool (allI xs 0 255)):=by
  subst hn
  refine A4z l45_eq rfl ?_
  (repeat' (first
 | (first|refine Apz ?_|refine Aiz ?_)
 | ((first|refine Aqz ?_|refine Ahz ?_|refine Ajz ?_|refine Akz ?_);simp (disch:=omega) only [push_cast,seval,l45r0,l45r1,l45r2,l45r3,l45r4,l45r5,l45r6,l45r7])
 | ((first|refine Acz ?_ ?_|refine Agz ?_ ?_|refine Afz ?_ ?_)<;>intro h<;>(try simp only [h])<;>(try simp only [bitvec_to_nat] at h)<;>(try simp only [h])<;>(first|(exfalso;omega)|(exfalso;simp_all;done)|(simp (disch:=omega) only [push_cast,seval])|skip))
 | ((first|refine Arz false ?_|refine Anz false ?_);simp (disch:=omega) only [push_cast,seval])
 | ((first|((first|refine Adz (Aez (Bzz _ _)) ?_|refine Abz (Aez (Bzz _ _)) ⟨_,_,rfl,rfl⟩ ?_);rintro _ _ ⟨rfl,rfl⟩))<;>(try simp (disch:=omega) only [push_cast,seval]))
 | (refine Amz ⟨.inr rfl,_,rfl,?_⟩;(try simp (disch:=omega) only [push_cast,seval]))))
  refine Bqz (fun k:Nat=>mkS [(5,RI xs),(6,.int .i64 xs.length),(7,.int .i64 k)] []) (fun k=>k ≤ xs.length ∧ ∀ j:Nat,j < k → 0 ≤ xs.getD j 0 ∧ xs.getD j 0 ≤ 255) (fun k=>xs.length - k) 0 ⟨Nat.zero_le _,fun j h=>absurd h (Nat.not_lt_zero _)⟩ ?_ ?_
  · (refine Sub.of_lists ?_ ?_ ?_ ?_ ?_<;>simp [Vw.mkS,Vw.lk,Vw.hk,AV.inn,innL,Avz,Atz,Ayz,-List.map_set,-List.getD_eq_getElem?_getD])
  · rintro k ⟨hk,hj⟩
    by_cases hlt:k < xs.length
    · (repeat' (first
 | (first|refine Apz ?_|refine Aiz ?_)
 | ((first|refine Aqz ?_|refine Ahz ?_|refine Ajz ?_|refine Akz ?_);simp (disch:=omega) only [push_cast,seval,l45r0,l45r1,l45r2,l45r3,l45r4,l45r5,l45r6,l45r7])
 | ((first|refine Acz ?_ ?_|refine Agz ?_ ?_|refine Afz ?_ ?_)<;>intro h<;>(try simp only [h])<;>(try simp only [bitvec_to_nat] at h)<;>(try simp only [h])<;>(first|(exfalso;omega)|(exfalso;simp_all;done)|(simp (disch:=omega) only [push_cast,seval])|skip))
 | ((first|refine Arz false ?_|refine Anz false ?_);simp (disch:=omega) only [push_cast,seval])
 | ((first|((first|refine Adz (Aez (Bzz _ _)) ?_|refine Abz (Aez (Bzz _ _)) ⟨_,_,rfl,rfl⟩ ?_);rintro _ _ ⟨rfl,rfl⟩))<;>(try simp (disch:=omega) only [push_cast,seval]))
 | (refine Amz ⟨.inr rfl,_,rfl,?_⟩;(try simp (disch:=omega) only [push_cast,seval]))))
      · rw [Ggz (j:=k) hlt (by assumption)]
      · refine ⟨k + 1,⟨by omega,fun j h=>?_⟩,by omega,?_⟩
        · by_cases hjk:j=k
          · subst hjk;assumption
          · exact hj j (by omega)
        · (refine Sub.of_lists ?_ ?_ ?_ ?_ ?_<;>simp [Vw.mkS,Vw.lk,Vw.hk,AV.inn,innL,Avz,Atz,Ayz,-List.map_set,-List.getD_eq_getElem?_getD])
    · have ha:allI xs 0 255=true:=Hpz fun j h=>hj j (by omega)
      (repeat' (first
 | (first|refine Apz ?_|refine Aiz ?_)
 | ((first|refine Aqz ?_|refine Ahz ?_|refine Ajz ?_|refine Akz ?_);simp (disch:=omega) only [push_cast,seval,l45r0,l45r1,l45r2,l45r3,l45r4,l45r5,l45r6,l45r7])
 | ((first|refine Acz ?_ ?_|refine Agz ?_ ?_|refine Afz ?_ ?_)<;>intro h<;>(try simp only [h])<;>(try simp only [bitvec_to_nat] at h)<;>(try simp only [h])<;>(first|(exfalso;omega)|(exfalso;simp_all;done)|(simp (disch:=omega) only [push_cast,seval])|skip))
 | ((first|refine Arz false ?_|refine Anz false ?_);simp (disch:=omega) only [push_cast,seval])
 | ((first|((first|refine Adz (Aez (Bzz _ _)) ?_|refine Abz (Aez (Bzz _ _)) ⟨_,_,rfl,rfl⟩ ?_);rintro _ _ ⟨rfl,rfl⟩))<;>(try simp (disch:=omega) only [push_cast,seval]))
 | (refine Amz ⟨.inr rfl,_,rfl,?_⟩;(try simp (disch:=omega) only [push_cast,seval]))))
      simp [ha]


theorem B4z (xs:List Int) (n:Nat) (hn:xs.length=n) (hb:n ≤ 1099511627776):PCall Tryd.prog 26 [.rows false (IL xs) n] (fun r=>r=.bool (vMem xs)):=by
  subst hn
  refine A4z l26_eq rfl ?_
  by_cases h4:xs.length ≤ 60
  · (repeat' (first
 | (first|refine Apz ?_|refine Aiz ?_)
 | ((first|refine Aqz ?_|refine Ahz ?_|refine Ajz ?_|refine Akz ?_);simp (disch:=omega) only [push_cast,seval,l26r0,l26r1])
 | ((first|refine Acz ?_ ?_|refine Agz ?_ ?_|refine Afz ?_ ?_)<;>intro h<;>(try simp only [h])<;>(try simp only [bitvec_to_nat] at h)<;>(try simp only [h])<;>(first|(exfalso;omega)|(exfalso;simp_all;done)|(simp (disch:=omega) only [push_cast,seval])|skip))
 | ((first|refine Arz false ?_|refine Anz false ?_);simp (disch:=omega) only [push_cast,seval])
 | ((first|((first|refine Adz (Aez (Egz _)) ?_|refine Abz (Aez (Egz _)) ⟨_,_,rfl,rfl⟩ ?_);rintro _ _ ⟨rfl,rfl⟩)|((first|refine Adz (Aez (Dvz _ _ ?_ ?_)) ?_|refine Abz (Aez (Dvz _ _ ?_ ?_)) ⟨_,_,rfl,rfl⟩ ?_);(iterate 2 (exact sd));rintro _ _ ⟨rfl,rfl⟩))<;>(try simp (disch:=omega) only [push_cast,seval]))
 | (refine Amz ⟨.inr rfl,_,rfl,?_⟩;(try simp (disch:=omega) only [push_cast,seval]))))
    all_goals simp [vMem,h4]
  · (repeat' (first
 | (first|refine Apz ?_|refine Aiz ?_)
 | ((first|refine Aqz ?_|refine Ahz ?_|refine Ajz ?_|refine Akz ?_);simp (disch:=omega) only [push_cast,seval,l26r0,l26r1])
 | ((first|refine Acz ?_ ?_|refine Agz ?_ ?_|refine Afz ?_ ?_)<;>intro h<;>(try simp only [h])<;>(try simp only [bitvec_to_nat] at h)<;>(try simp only [h])<;>(first|(exfalso;omega)|(exfalso;simp_all;done)|(simp (disch:=omega) only [push_cast,seval])|skip))
 | ((first|refine Arz false ?_|refine Anz false ?_);simp (disch:=omega) only [push_cast,seval])
 | ((first|((first|refine Adz (Aez (Egz _)) ?_|refine Abz (Aez (Egz _)) ⟨_,_,rfl,rfl⟩ ?_);rintro _ _ ⟨rfl,rfl⟩)|((first|refine Adz (Aez (Dvz _ _ ?_ ?_)) ?_|refine Abz (Aez (Dvz _ _ ?_ ?_)) ⟨_,_,rfl,rfl⟩ ?_);(iterate 2 (exact sd));rintro _ _ ⟨rfl,rfl⟩))<;>(try simp (disch:=omega) only [push_cast,seval]))
 | (refine Amz ⟨.inr rfl,_,rfl,?_⟩;(try simp (disch:=omega) only [push_cast,seval]))))
    all_goals simp [vMem,h4]


theorem Dbz (mem:List Int) (b:Int) (sh st:List Int) (q n m:Nat) (hq:mem.length=q) (hn:sh.length=n) (hm:st.length=m) (hb:q ≤ 1099511627776 ∧ n ≤ 1099511627776 ∧ m ≤ 1099511627776):PCall Tryd.prog 93 [.rows false (IL mem) q,.agg [.int .i64 b,.rows false (IL sh) n,.rows false (IL st) m]] (fun r=>r=.bool (seeB mem b sh st)):=by
  subst hq hn hm
  obtain ⟨hb0,hb1,hb2⟩:=hb
  refine A4z l93_eq rfl ?_
  cases hm:vMem mem with
  | false =>
    rw [seeB_mem hm]
    (repeat' (first
 | (first|refine Apz ?_|refine Aiz ?_)
 | ((first|refine Aqz ?_|refine Ahz ?_|refine Ajz ?_|refine Akz ?_);simp (disch:=omega) only [push_cast,seval,l93r0,l93r1,hm])
 | ((first|refine Acz ?_ ?_|refine Agz ?_ ?_|refine Afz ?_ ?_)<;>intro h<;>(try simp only [h])<;>(try simp only [bitvec_to_nat] at h)<;>(try simp only [h])<;>(first|(exfalso;omega)|(exfalso;simp_all;done)|(simp (disch:=omega) only [push_cast,seval,hm])|skip))
 | ((first|refine Arz false ?_|refine Anz false ?_);simp (disch:=omega) only [push_cast,seval,hm])
 | ((first|((first|refine Adz (Aez (Ciz _ _ ?_ ?_)) ?_|refine Abz (Aez (Ciz _ _ ?_ ?_)) ⟨_,_,rfl,rfl⟩ ?_);(iterate 2 (exact sd));rintro _ _ ⟨rfl,rfl⟩)|((first|refine Adz (Aez (Awz _ _ _ _ _ ?_ ?_ ?_)) ?_|refine Abz (Aez (Awz _ _ _ _ _ ?_ ?_ ?_)) ⟨_,_,rfl,rfl⟩ ?_);(iterate 3 (exact sd));rintro _ _ ⟨rfl,rfl⟩)|((first|refine Adz (Aez (F3z _ _ _ _ _ _ ?_ ?_ ?_)) ?_|refine Abz (Aez (F3z _ _ _ _ _ _ ?_ ?_ ?_)) ⟨_,_,rfl,rfl⟩ ?_);(iterate 3 (exact sd));rintro _ _ ⟨rfl,rfl⟩))<;>(try simp (disch:=omega) only [push_cast,seval,hm]))
 | (refine Amz ⟨.inr rfl,_,rfl,?_⟩;(try simp (disch:=omega) only [push_cast,seval,hm]))))
  | true =>
  have h60:=(Dzz.1 hm).1
  cases hv:vV b sh st with
  | false =>
    rw [seeB_view hv]
    (repeat' (first
 | (first|refine Apz ?_|refine Aiz ?_)
 | ((first|refine Aqz ?_|refine Ahz ?_|refine Ajz ?_|refine Akz ?_);simp (disch:=omega) only [push_cast,seval,l93r0,l93r1,hm,hv])
 | ((first|refine Acz ?_ ?_|refine Agz ?_ ?_|refine Afz ?_ ?_)<;>intro h<;>(try simp only [h])<;>(try simp only [bitvec_to_nat] at h)<;>(try simp only [h])<;>(first|(exfalso;omega)|(exfalso;simp_all;done)|(simp (disch:=omega) only [push_cast,seval,hm,hv])|skip))
 | ((first|refine Arz false ?_|refine Anz false ?_);simp (disch:=omega) only [push_cast,seval,hm,hv])
 | ((first|((first|refine Adz (Aez (Ciz _ _ ?_ ?_)) ?_|refine Abz (Aez (Ciz _ _ ?_ ?_)) ⟨_,_,rfl,rfl⟩ ?_);(iterate 2 (exact sd));rintro _ _ ⟨rfl,rfl⟩)|((first|refine Adz (Aez (Awz _ _ _ _ _ ?_ ?_ ?_)) ?_|refine Abz (Aez (Awz _ _ _ _ _ ?_ ?_ ?_)) ⟨_,_,rfl,rfl⟩ ?_);(iterate 3 (exact sd));rintro _ _ ⟨rfl,rfl⟩)|((first|refine Adz (Aez (F3z _ _ _ _ _ _ ?_ ?_ ?_)) ?_|refine Abz (Aez (F3z _ _ _ _ _ _ ?_ ?_ ?_)) ⟨_,_,rfl,rfl⟩ ?_);(iterate 3 (exact sd));rintro _ _ ⟨rfl,rfl⟩))<;>(try simp (disch:=omega) only [push_cast,seval,hm,hv]))
 | (refine Amz ⟨.inr rfl,_,rfl,?_⟩;(try simp (disch:=omega) only [push_cast,seval,hm,hv]))))
  | true =>
    have hok:=(Eoz hv).1
    have q1:okV b sh st ∧ -1000000 ≤ (mem.length:Int) ∧ (mem.length:Int) ≤ 1000000:=⟨hok,by omega,by omega⟩
    rw [seeB_rest hm hv]
    (repeat' (first
 | (first|refine Apz ?_|refine Aiz ?_)
 | ((first|refine Aqz ?_|refine Ahz ?_|refine Ajz ?_|refine Akz ?_);simp (disch:=omega) only [push_cast,seval,l93r0,l93r1,hm,hv])
 | ((first|refine Acz ?_ ?_|refine Agz ?_ ?_|refine Afz ?_ ?_)<;>intro h<;>(try simp only [h])<;>(try simp only [bitvec_to_nat] at h)<;>(try simp only [h])<;>(first|(exfalso;omega)|(exfalso;simp_all;done)|(simp (disch:=omega) only [push_cast,seval,hm,hv])|skip))
 | ((first|refine Arz false ?_|refine Anz false ?_);simp (disch:=omega) only [push_cast,seval,hm,hv])
 | ((first|((first|refine Adz (Aez (Ciz _ _ ?_ ?_)) ?_|refine Abz (Aez (Ciz _ _ ?_ ?_)) ⟨_,_,rfl,rfl⟩ ?_);(iterate 2 (exact sd));rintro _ _ ⟨rfl,rfl⟩)|((first|refine Adz (Aez (Awz _ _ _ _ _ ?_ ?_ ?_)) ?_|refine Abz (Aez (Awz _ _ _ _ _ ?_ ?_ ?_)) ⟨_,_,rfl,rfl⟩ ?_);(iterate 3 (exact sd));rintro _ _ ⟨rfl,rfl⟩)|((first|refine Adz (Aez (F3z _ _ _ _ _ _ ?_ ?_ ?_)) ?_|refine Abz (Aez (F3z _ _ _ _ _ _ ?_ ?_ ?_)) ⟨_,_,rfl,rfl⟩ ?_);(iterate 3 (exact sd));rintro _ _ ⟨rfl,rfl⟩))<;>(try simp (disch:=omega) only [push_cast,seval,hm,hv]))
 | (refine Amz ⟨.inr rfl,_,rfl,?_⟩;(try simp (disch:=omega) only [push_cast,seval,hm,hv]))))


/-- Two views of an equal shape fit. -/
def twoB (mem:List Int) (b:Int) (sh st:List Int) (b':Int) (sh' st':List Int):Bool:=seeB mem b sh st && seeB mem b' sh' st' && decide (sh=sh')


theorem Kwz (mem:List Int) (b:Int) (sh st:List Int) (b':Int) (sh' st':List Int) (q n m n' m':Nat) (hq:mem.length=q) (hn:sh.length=n) (hm:st.length=m) (hn':sh'.length=n') (hm':st'.length=m') (hb:(q ≤ 1099511627776 ∧ n ≤ 1099511627776 ∧ m ≤ 1099511627776) ∧ n' ≤ 1099511627776 ∧ m' ≤ 1099511627776):PCall Tryd.prog 94 [.rows false (IL mem) q,.agg [.int .i64 b,.rows false (IL sh) n,.rows false (IL st) m],.agg [.int .i64 b',.rows false (IL sh') n',.rows false (IL st') m']] (fun r=>r=.bool (twoB mem b sh st b' sh' st')):=by
  subst hq hn hm hn' hm'
  obtain ⟨⟨hb0,hb1,hb2⟩,hb3,hb4⟩:=hb
  have q1:mem.length ≤ 1099511627776 ∧ sh.length ≤ 1099511627776 ∧ st.length ≤ 1099511627776:=⟨hb0,hb1,hb2⟩
  have q2:mem.length ≤ 1099511627776 ∧ sh'.length ≤ 1099511627776 ∧ st'.length ≤ 1099511627776:=⟨hb0,hb3,hb4⟩
  refine A4z l94_eq rfl ?_
  unfold twoB
  cases h1:seeB mem b sh st with
  | false =>
    (repeat' (first
 | (first|refine Apz ?_|refine Aiz ?_)
 | ((first|refine Aqz ?_|refine Ahz ?_|refine Ajz ?_|refine Akz ?_);simp (disch:=omega) only [push_cast,seval,l94r0,l94r1,h1])
 | ((first|refine Acz ?_ ?_|refine Agz ?_ ?_|refine Afz ?_ ?_)<;>intro h<;>(try simp only [h])<;>(try simp only [bitvec_to_nat] at h)<;>(try simp only [h])<;>(first|(exfalso;omega)|(exfalso;simp_all;done)|(simp (disch:=omega) only [push_cast,seval,h1])|skip))
 | ((first|refine Arz false ?_|refine Anz false ?_);simp (disch:=omega) only [push_cast,seval,h1])
 | ((first|((first|refine Adz (Aez (Dbz _ _ _ _ _ _ _ ?_ ?_ ?_ ?_)) ?_|refine Abz (Aez (Dbz _ _ _ _ _ _ _ ?_ ?_ ?_ ?_)) ⟨_,_,rfl,rfl⟩ ?_);(iterate 4 (exact sd));rintro _ _ ⟨rfl,rfl⟩)|((first|refine Adz (Aez (Dqz _ _ _ _ ?_ ?_ ?_)) ?_|refine Abz (Aez (Dqz _ _ _ _ ?_ ?_ ?_)) ⟨_,_,rfl,rfl⟩ ?_);(iterate 3 (exact sd));rintro _ _ ⟨rfl,rfl⟩))<;>(try simp (disch:=omega) only [push_cast,seval,h1]))
 | (refine Amz ⟨.inr rfl,_,rfl,?_⟩;(try simp (disch:=omega) only [push_cast,seval,h1]))))
    all_goals simp
  | true =>
  cases h2:seeB mem b' sh' st' with
  | false =>
    (repeat' (first
 | (first|refine Apz ?_|refine Aiz ?_)
 | ((first|refine Aqz ?_|refine Ahz ?_|refine Ajz ?_|refine Akz ?_);simp (disch:=omega) only [push_cast,seval,l94r0,l94r1,h1,h2])
 | ((first|refine Acz ?_ ?_|refine Agz ?_ ?_|refine Afz ?_ ?_)<;>intro h<;>(try simp only [h])<;>(try simp only [bitvec_to_nat] at h)<;>(try simp only [h])<;>(first|(exfalso;omega)|(exfalso;simp_all;done)|(simp (disch:=omega) only [push_cast,seval,h1,h2])|skip))
 | ((first|refine Arz false ?_|refine Anz false ?_);simp (disch:=omega) only [push_cast,seval,h1,h2])
 | ((first|((first|refine Adz (Aez (Dbz _ _ _ _ _ _ _ ?_ ?_ ?_ ?_)) ?_|refine Abz (Aez (Dbz _ _ _ _ _ _ _ ?_ ?_ ?_ ?_)) ⟨_,_,rfl,rfl⟩ ?_);(iterate 4 (exact sd));rintro _ _ ⟨rfl,rfl⟩)|((first|refine Adz (Aez (Dqz _ _ _ _ ?_ ?_ ?_)) ?_|refine Abz (Aez (Dqz _ _ _ _ ?_ ?_ ?_)) ⟨_,_,rfl,rfl⟩ ?_);(iterate 3 (exact sd));rintro _ _ ⟨rfl,rfl⟩))<;>(try simp (disch:=omega) only [push_cast,seval,h1,h2]))
 | (refine Amz ⟨.inr rfl,_,rfl,?_⟩;(try simp (disch:=omega) only [push_cast,seval,h1,h2]))))
    all_goals simp
  | true =>
    (repeat' (first
 | (first|refine Apz ?_|refine Aiz ?_)
 | ((first|refine Aqz ?_|refine Ahz ?_|refine Ajz ?_|refine Akz ?_);simp (disch:=omega) only [push_cast,seval,l94r0,l94r1,h1,h2])
 | ((first|refine Acz ?_ ?_|refine Agz ?_ ?_|refine Afz ?_ ?_)<;>intro h<;>(try simp only [h])<;>(try simp only [bitvec_to_nat] at h)<;>(try simp only [h])<;>(first|(exfalso;omega)|(exfalso;simp_all;done)|(simp (disch:=omega) only [push_cast,seval,h1,h2])|skip))
 | ((first|refine Arz false ?_|refine Anz false ?_);simp (disch:=omega) only [push_cast,seval,h1,h2])
 | ((first|((first|refine Adz (Aez (Dbz _ _ _ _ _ _ _ ?_ ?_ ?_ ?_)) ?_|refine Abz (Aez (Dbz _ _ _ _ _ _ _ ?_ ?_ ?_ ?_)) ⟨_,_,rfl,rfl⟩ ?_);(iterate 4 (exact sd));rintro _ _ ⟨rfl,rfl⟩)|((first|refine Adz (Aez (Dqz _ _ _ _ ?_ ?_ ?_)) ?_|refine Abz (Aez (Dqz _ _ _ _ ?_ ?_ ?_)) ⟨_,_,rfl,rfl⟩ ?_);(iterate 3 (exact sd));rintro _ _ ⟨rfl,rfl⟩))<;>(try simp (disch:=omega) only [push_cast,seval,h1,h2]))
 | (refine Amz ⟨.inr rfl,_,rfl,?_⟩;(try simp (disch:=omega) only [push_cast,seval,h1,h2]))))
    all_goals simp


/-- The values can be taken by the view. -/
def takB (mem:List Int) (b:Int) (sh st vals:List Int):Bool:=seeB mem b sh st && decide ((vals.length:Int)=pr sh) && allI vals 0 255
theorem E7z {mem:List Int} {b:Int} {sh st:List Int} (h:seeB mem b sh st=true):okV b sh st ∧ st.length=sh.length ∧ good4 sh ∧ 0 ≤ pr sh ∧ pr sh ≤ 60 ∧ mem.length ≤ 60:=by
  obtain ⟨h1,h2,h3⟩:=G7z.1 h
  obtain ⟨hok,hl⟩:=Eoz h2
  have hs:=Czz (Dfz.1 h2).1
  exact ⟨hok,hl,hs.1,hs.2.1,hs.2.2,(Dzz.1 h1).1⟩


theorem Cjz (mem:List Int) (b:Int) (sh st:List Int) (q n m:Nat) (hq:mem.length=q) (hn:sh.length=n) (hm:st.length=m) (hb:seeB mem b sh st=true):BCall Tryd.prog 70 [.rows false (IL mem) q,.agg [.int .i64 b,.rows false (IL sh) n,.rows false (IL st) m]] [] (OI (takesL mem (offs b sh st))):=by
  subst hq hn hm
  obtain ⟨f1,f2,f3,f4,f5,f6⟩:=E7z hb
  have hat:=fun k hk=>seeB_at (k:=k) hb hk
  have hol:=B9z b sh st
  generalize hL:offs b sh st=L at *
  refine A5z (pins:=[]) (pin:=0) l70_eq rfl rfl rfl ?_
  (repeat' (first
 | (first|refine Apz ?_|refine Aiz ?_)
 | ((first|refine Aqz ?_|refine Ahz ?_|refine Ajz ?_|refine Akz ?_);simp (disch:=omega) only [push_cast,seval,l70r0,l70r1,l70r2,l70r3,l70r4,l70r5,l70r6,l70r7,hL])
 | ((first|refine Acz ?_ ?_|refine Agz ?_ ?_|refine Afz ?_ ?_)<;>intro h<;>(try simp only [h])<;>(try simp only [bitvec_to_nat] at h)<;>(try simp only [h])<;>(first|(exfalso;omega)|(exfalso;simp_all;done)|(simp (disch:=omega) only [push_cast,seval,hL])|skip))
 | ((first|refine Arz false ?_|refine Anz false ?_);simp (disch:=omega) only [push_cast,seval,hL])
 | ((first|((first|refine Adz (A0z _ _ _ _ _ ?_ ?_ ?_) ?_|refine Abz (A0z _ _ _ _ _ ?_ ?_ ?_) ⟨_,_,rfl,rfl⟩ ?_);(iterate 3 (exact sd));rintro _ _ ⟨rfl,rfl⟩))<;>(try simp (disch:=omega) only [push_cast,seval,hL]))
 | (refine Amz ⟨.inr rfl,[128],[],_,by decide,rfl,?_⟩;(try simp (disch:=omega) only [push_cast,seval,↓Aoz,↓Alz,↓List.map_cons,↓List.map_nil,hL]);(first|done|(show AV.own _ _ _=_ ∧ _)))
 | (refine Amz ⟨.inr rfl,[160],[],_,by decide,rfl,?_⟩;(try simp (disch:=omega) only [push_cast,seval,↓Aoz,↓Alz,↓List.map_cons,↓List.map_nil,hL]);(first|done|(show AV.own _ _ _=_ ∧ _)))
 | (refine Amz ⟨.inr rfl,[400],[],_,by decide,rfl,?_⟩;(try simp (disch:=omega) only [push_cast,seval,↓Aoz,↓Alz,↓List.map_cons,↓List.map_nil,hL]);(first|done|(show AV.own _ _ _=_ ∧ _)))
 | (refine Amz ⟨.inr rfl,[416],[],_,by decide,rfl,?_⟩;(try simp (disch:=omega) only [push_cast,seval,↓Aoz,↓Alz,↓List.map_cons,↓List.map_nil,hL]);(first|done|(show AV.own _ _ _=_ ∧ _)))))
  refine Bqz (fun k:Nat=>mkS [(0,RI mem),(5,.own 128 k 1),(6,.own 160 L.length 1),(7,.int .i64 k)] [(128,IL (takesL mem (L.take k))),(160,IL L)])
    (fun k=>k ≤ L.length) (fun k=>L.length - k) 0 (Nat.zero_le _) ?_ ?_
  · have e0:takesL mem []=[]:=rfl
    (refine Sub.of_lists ?_ ?_ ?_ ?_ ?_<;>simp [Vw.mkS,Vw.lk,Vw.hk,AV.inn,innL,Avz,Atz,Ayz,-List.map_set,-List.getD_eq_getElem?_getD,e0])
  · intro k hk
    have e1:(takesL mem (L.take k)).length=k:=by rw [takesL_length];simp;omega
    by_cases hlt:k < L.length
    · obtain ⟨h1,h2⟩:=hat k hlt
      have e2:takesL mem (L.take (k + 1))=takesL mem (L.take k) ++ [mem.getD (L.getD k 0).toNat 0]:=by rw [Giz L k hlt];simp [takesL]
      (repeat' (first
 | (first|refine Apz ?_|refine Aiz ?_)
 | ((first|refine Aqz ?_|refine Ahz ?_|refine Ajz ?_|refine Akz ?_);simp (disch:=omega) only [push_cast,seval,l70r0,l70r1,l70r2,l70r3,l70r4,l70r5,l70r6,l70r7,e1])
 | ((first|refine Acz ?_ ?_|refine Agz ?_ ?_|refine Afz ?_ ?_)<;>intro h<;>(try simp only [h])<;>(try simp only [bitvec_to_nat] at h)<;>(try simp only [h])<;>(first|(exfalso;omega)|(exfalso;simp_all;done)|(simp (disch:=omega) only [push_cast,seval,e1])|skip))
 | ((first|refine Arz false ?_|refine Anz false ?_);simp (disch:=omega) only [push_cast,seval,e1])
 | ((first|((first|refine Adz (A0z _ _ _ _ _ ?_ ?_ ?_) ?_|refine Abz (A0z _ _ _ _ _ ?_ ?_ ?_) ⟨_,_,rfl,rfl⟩ ?_);(iterate 3 (exact sd));rintro _ _ ⟨rfl,rfl⟩))<;>(try simp (disch:=omega) only [push_cast,seval,e1]))
 | (refine Amz ⟨.inr rfl,[128],[],_,by decide,rfl,?_⟩;(try simp (disch:=omega) only [push_cast,seval,↓Aoz,↓Alz,↓List.map_cons,↓List.map_nil,e1]))))
      refine ⟨k + 1,by omega,by omega,?_⟩
      (refine Sub.of_lists ?_ ?_ ?_ ?_ ?_<;>simp [Vw.mkS,Vw.lk,Vw.hk,AV.inn,innL,Avz,Atz,Ayz,-List.map_set,-List.getD_eq_getElem?_getD,e2])
    · have:k=L.length:=by omega
      subst this
      rw [List.take_length] at e1
      rw [List.take_length]
      (repeat' (first
 | (first|refine Apz ?_|refine Aiz ?_)
 | ((first|refine Aqz ?_|refine Ahz ?_|refine Ajz ?_|refine Akz ?_);simp (disch:=omega) only [push_cast,seval,l70r0,l70r1,l70r2,l70r3,l70r4,l70r5,l70r6,l70r7,e1])
 | ((first|refine Acz ?_ ?_|refine Agz ?_ ?_|refine Afz ?_ ?_)<;>intro h<;>(try simp only [h])<;>(try simp only [bitvec_to_nat] at h)<;>(try simp only [h])<;>(first|(exfalso;omega)|(exfalso;simp_all;done)|(simp (disch:=omega) only [push_cast,seval,e1])|skip))
 | ((first|refine Arz false ?_|refine Anz false ?_);simp (disch:=omega) only [push_cast,seval,e1])
 | ((first|((first|refine Adz (A0z _ _ _ _ _ ?_ ?_ ?_) ?_|refine Abz (A0z _ _ _ _ _ ?_ ?_ ?_) ⟨_,_,rfl,rfl⟩ ?_);(iterate 3 (exact sd));rintro _ _ ⟨rfl,rfl⟩))<;>(try simp (disch:=omega) only [push_cast,seval,e1]))
 | (refine Amz ⟨.inr rfl,[128],[],_,by decide,rfl,?_⟩;(try simp (disch:=omega) only [push_cast,seval,↓Aoz,↓Alz,↓List.map_cons,↓List.map_nil,e1]))))
      all_goals simp [OI,e1]


theorem Klz (mem:List Int) (b:Int) (sh st vals:List Int) (q n m v:Nat) (hq:mem.length=q) (hn:sh.length=n) (hm:st.length=m) (hv:vals.length=v) (hb:seeB mem b sh st=true ∧ (v:Int)=pr sh):BCall Tryd.prog 95 [.rows false (IL mem) q,.agg [.int .i64 b,.rows false (IL sh) n,.rows false (IL st) m],.rows false (IL vals) v] [] (OI (putL mem (offs b sh st) vals)):=by
  subst hq hn hm hv
  obtain ⟨hb,hvp⟩:=hb
  obtain ⟨f1,f2,f3,f4,f5,f6⟩:=E7z hb
  have hat:=fun k hk=>seeB_at (k:=k) hb hk
  have hol:=B9z b sh st
  have hvl:vals.length=(offs b sh st).length:=by omega
  generalize hL:offs b sh st=L at *
  have hpl:mem.length ≤ 1099511627776:=by omega
  refine A5z (pins:=[]) (pin:=0) l95_eq rfl rfl rfl ?_
  (repeat' (first
 | (first|refine Apz ?_|refine Aiz ?_)
 | ((first|refine Aqz ?_|refine Asz (mid:=l95r5a) (post:=l95r5b) Axz (by decide) ?_|refine Ahz ?_|refine Ajz ?_|refine Akz ?_);simp (disch:=omega) only [push_cast,seval,l95r0,l95r1,l95r2,l95r3,l95r4,l95r5a,l95r5b,l95r5,l95r6,l95r7,hL])
 | ((first|refine Acz ?_ ?_|refine Agz ?_ ?_|refine Afz ?_ ?_)<;>intro h<;>(try simp only [h])<;>(try simp only [bitvec_to_nat] at h)<;>(try simp only [h])<;>(first|(exfalso;omega)|(exfalso;simp_all;done)|(simp (disch:=omega) only [push_cast,seval,hL])|skip))
 | ((first|refine Arz false ?_|refine Anz false ?_);simp (disch:=omega) only [push_cast,seval,hL])
 | ((first|((first|refine Adz (A7z _ _ ?_ ?_) ?_|refine Abz (A7z _ _ ?_ ?_) ⟨_,_,rfl,rfl⟩ ?_);(iterate 2 (exact sd));rintro _ _ ⟨rfl,rfl⟩)|((first|refine Adz (A0z _ _ _ _ _ ?_ ?_ ?_) ?_|refine Abz (A0z _ _ _ _ _ ?_ ?_ ?_) ⟨_,_,rfl,rfl⟩ ?_);(iterate 3 (exact sd));rintro _ _ ⟨rfl,rfl⟩))<;>(try simp (disch:=omega) only [push_cast,seval,hL]))
 | (refine Amz ⟨.inr rfl,[176],[],_,by decide,rfl,?_⟩;(try simp (disch:=omega) only [push_cast,seval,↓Aoz,↓Alz,↓List.map_cons,↓List.map_nil,hL]);(first|done|(show AV.own _ _ _=_ ∧ _)))
 | (refine Amz ⟨.inr rfl,[208],[],_,by decide,rfl,?_⟩;(try simp (disch:=omega) only [push_cast,seval,↓Aoz,↓Alz,↓List.map_cons,↓List.map_nil,hL]);(first|done|(show AV.own _ _ _=_ ∧ _)))))
  refine Bqz (fun k:Nat=>mkS [(2,RI vals),(7,.own 176 mem.length 1),(8,.own 208 L.length 1),(9,.int .i64 k)] [(176,IL (putK mem L vals k)),(208,IL L)])
    (fun k=>k ≤ L.length) (fun k=>L.length - k) 0 (Nat.zero_le _) ?_ ?_
  · have e0:putK mem L vals 0=mem:=rfl
    (refine Sub.of_lists ?_ ?_ ?_ ?_ ?_<;>simp [Vw.mkS,Vw.lk,Vw.hk,AV.inn,innL,Avz,Atz,Ayz,-List.map_set,-List.getD_eq_getElem?_getD,e0])
  · intro k hk
    have e1:=Ffz mem L vals k
    by_cases hlt:k < L.length
    · obtain ⟨h1,h2⟩:=hat k hlt
      have h3:(L.getD k 0).toNat < mem.length:=by omega
      have h4:k < vals.length:=by omega
      have e2:putK mem L vals (k + 1)=(putK mem L vals k).set (L.getD k 0).toNat (vals.getD k 0):=rfl
      generalize putK mem L vals k=p at *
      (repeat' (first
 | (first|refine Apz ?_|refine Aiz ?_)
 | ((first|refine Aqz ?_|refine Asz (mid:=l95r5a) (post:=l95r5b) Axz (by decide) ?_|refine Ahz ?_|refine Ajz ?_|refine Akz ?_);simp (disch:=omega) only [push_cast,seval,l95r0,l95r1,l95r2,l95r3,l95r4,l95r5a,l95r5b,l95r5,l95r6,l95r7,e1])
 | ((first|refine Acz ?_ ?_|refine Agz ?_ ?_|refine Afz ?_ ?_)<;>intro h<;>(try simp only [h])<;>(try simp only [bitvec_to_nat] at h)<;>(try simp only [h])<;>(first|(exfalso;omega)|(exfalso;simp_all;done)|(simp (disch:=omega) only [push_cast,seval,e1])|skip))
 | ((first|refine Arz false ?_|refine Anz false ?_);simp (disch:=omega) only [push_cast,seval,e1])
 | ((first|((first|refine Adz (A7z _ _ ?_ ?_) ?_|refine Abz (A7z _ _ ?_ ?_) ⟨_,_,rfl,rfl⟩ ?_);(iterate 2 (exact sd));rintro _ _ ⟨rfl,rfl⟩)|((first|refine Adz (A0z _ _ _ _ _ ?_ ?_ ?_) ?_|refine Abz (A0z _ _ _ _ _ ?_ ?_ ?_) ⟨_,_,rfl,rfl⟩ ?_);(iterate 3 (exact sd));rintro _ _ ⟨rfl,rfl⟩))<;>(try simp (disch:=omega) only [push_cast,seval,e1]))
 | (refine Amz ⟨.inr rfl,[176],[],_,by decide,rfl,?_⟩;(try simp (disch:=omega) only [push_cast,seval,↓Aoz,↓Alz,↓List.map_cons,↓List.map_nil,e1]))))
      refine ⟨k + 1,by omega,by omega,?_⟩
      (refine Sub.of_lists ?_ ?_ ?_ ?_ ?_<;>simp [Vw.mkS,Vw.lk,Vw.hk,AV.inn,innL,Avz,Atz,Ayz,-List.map_set,-List.getD_eq_getElem?_getD,e2,Bfz])
    · have hke:k=L.length:=by omega
      have e3:putK mem L vals k=putL mem L vals:=by rw [hke];rfl
      rw [e3] at e1
      rw [e3]
      (repeat' (first
 | (first|refine Apz ?_|refine Aiz ?_)
 | ((first|refine Aqz ?_|refine Asz (mid:=l95r5a) (post:=l95r5b) Axz (by decide) ?_|refine Ahz ?_|refine Ajz ?_|refine Akz ?_);simp (disch:=omega) only [push_cast,seval,l95r0,l95r1,l95r2,l95r3,l95r4,l95r5a,l95r5b,l95r5,l95r6,l95r7,e1])
 | ((first|refine Acz ?_ ?_|refine Agz ?_ ?_|refine Afz ?_ ?_)<;>intro h<;>(try simp only [h])<;>(try simp only [bitvec_to_nat] at h)<;>(try simp only [h])<;>(first|(exfalso;omega)|(exfalso;simp_all;done)|(simp (disch:=omega) only [push_cast,seval,e1])|skip))
 | ((first|refine Arz false ?_|refine Anz false ?_);simp (disch:=omega) only [push_cast,seval,e1])
 | ((first|((first|refine Adz (A7z _ _ ?_ ?_) ?_|refine Abz (A7z _ _ ?_ ?_) ⟨_,_,rfl,rfl⟩ ?_);(iterate 2 (exact sd));rintro _ _ ⟨rfl,rfl⟩)|((first|refine Adz (A0z _ _ _ _ _ ?_ ?_ ?_) ?_|refine Abz (A0z _ _ _ _ _ ?_ ?_ ?_) ⟨_,_,rfl,rfl⟩ ?_);(iterate 3 (exact sd));rintro _ _ ⟨rfl,rfl⟩))<;>(try simp (disch:=omega) only [push_cast,seval,e1]))
 | (refine Amz ⟨.inr rfl,[176],[],_,by decide,rfl,?_⟩;(try simp (disch:=omega) only [push_cast,seval,↓Aoz,↓Alz,↓List.map_cons,↓List.map_nil,e1]))))
      all_goals simp [OI,e1]

end Go.Proofs.YtkpcjppnjmhanaaDoor
namespace Go.Proofs.YtkpcjppnjmhanaaDoor
open VwM Vw Go
variable [SentA]

/-- The memory after cells were carried in an order. -/
def stpK (mem to fr:List Int) (g:Nat → Nat):Nat → List Int
  | 0=>mem
  | k + 1=>(stpK mem to fr g k).set (to.getD (g k) 0).toNat ((stpK mem to fr g k).getD (fr.getD (g k) 0).toNat 0)
end Go.Proofs.YtkpcjppnjmhanaaDoor
namespace Go.Proofs.YtkpcjppnjmhanaaDoor
open VwM Vw Go
variable [SentA]

/-- The way to copy. -/
def wayI (b:Int) (sh st:List Int) (b':Int) (sh' st':List Int):Int :=
  if (vV b sh st && vV b' sh' st' && decide (sh=sh'))=true then
    (if mtL (offs b sh st) (offs b' sh' st')=false then 0 else if (!mtL (offs b' sh' st') (offs b sh st) && decide (offs b sh st).Nodup)=true then 1 else 2) else -1
end Go.Proofs.YtkpcjppnjmhanaaDoor
namespace Go.Proofs.YtkpcjppnjmhanaaDoor
open VwM Vw Go
variable [SentA]

/-- A list and whether there is one: nothing without. -/
abbrev TB (v:Bool) (l:List Int):AV → List (List AV) → Prop:=fun r H'=>r=.tup [.own 0 (MVL v l).length 1,.bool v] ∧ H'=[IL (MVL v l)]
theorem MVL_true (l:List Int):MVL true l=l:=rfl
theorem MVL_false (l:List Int):MVL false l=[]:=rfl
theorem two_facts {mem:List Int} {b b':Int} {sh st sh' st':List Int} (h:twoB mem b sh st b' sh' st'=true):seeB mem b sh st=true ∧ seeB mem b' sh' st'=true ∧ sh=sh':=by
  simp only [twoB,Bool.and_eq_true,decide_eq_true_eq] at h
  exact ⟨h.1.1,h.1.2,h.2⟩
set_option maxHeartbeats 8000000 in
theorem Dwz (mem:List Int) (b:Int) (sh st:List Int) (b':Int) (sh' st':List Int) (q n m n' m':Nat) (hq:mem.length=q) (hn:sh.length=n) (hm:st.length=m) (hn':sh'.length=n') (hm':st'.length=m') (hb:(q ≤ 1099511627776 ∧ n ≤ 1099511627776 ∧ m ≤ 1099511627776) ∧ n' ≤ 1099511627776 ∧ m' ≤ 1099511627776):BCall Tryd.prog 88 [.rows false (IL mem) q,.agg [.int .i64 b,.rows false (IL sh) n,.rows false (IL st) m],.agg [.int .i64 b',.rows false (IL sh') n',.rows false (IL st') m']] [] (TB (twoB mem b sh st b' sh' st') (putL mem (offs b sh st) (takesL mem (offs b' sh' st')))):=by
  subst hq hn hm hn' hm'
  obtain ⟨⟨hb0,hb1,hb2⟩,hb3,hb4⟩:=hb
  have q0:(mem.length ≤ 1099511627776 ∧ sh.length ≤ 1099511627776 ∧ st.length ≤ 1099511627776) ∧ sh'.length ≤ 1099511627776 ∧ st'.length ≤ 1099511627776:=⟨⟨hb0,hb1,hb2⟩,hb3,hb4⟩
  refine A5z (pins:=[]) (pin:=0) l88_eq rfl rfl rfl ?_
  cases h:twoB mem b sh st b' sh' st' with
  | false =>
    (repeat' (first
 | (first|refine Apz ?_|refine Aiz ?_)
 | ((first|refine Aqz ?_|refine Asz (mid:=l88r3a) (post:=l88r3b) Axz (by decide) ?_|refine Ahz ?_|refine Ajz ?_|refine Akz ?_);simp (disch:=omega) only [push_cast,seval,l88r0,l88r1,l88r2,l88r3a,l88r3b,l88r3,h])
 | ((first|refine Acz ?_ ?_|refine Agz ?_ ?_|refine Afz ?_ ?_)<;>intro h<;>(try simp only [h])<;>(try simp only [bitvec_to_nat] at h)<;>(try simp only [h])<;>(first|(exfalso;omega)|(exfalso;simp_all;done)|(simp (disch:=omega) only [push_cast,seval,h])|skip))
 | ((first|refine Arz false ?_|refine Anz false ?_);simp (disch:=omega) only [push_cast,seval,h])
 | ((first|((first|refine Adz (Aez (Kwz _ _ _ _ _ _ _ _ _ _ _ _ ?_ ?_ ?_ ?_ ?_ ?_)) ?_|refine Abz (Aez (Kwz _ _ _ _ _ _ _ _ _ _ _ _ ?_ ?_ ?_ ?_ ?_ ?_)) ⟨_,_,rfl,rfl⟩ ?_);(iterate 6 (exact sd));rintro _ _ ⟨rfl,rfl⟩)|((first|refine Adz (Cjz _ _ _ _ _ _ _ ?_ ?_ ?_ ?_) ?_|refine Abz (Cjz _ _ _ _ _ _ _ ?_ ?_ ?_ ?_) ⟨_,_,rfl,rfl⟩ ?_);(iterate 4 (exact sd));rintro _ _ ⟨rfl,rfl⟩)|((first|refine Adz (Klz _ _ _ _ _ _ _ _ _ ?_ ?_ ?_ ?_ ?_) ?_|refine Abz (Klz _ _ _ _ _ _ _ _ _ ?_ ?_ ?_ ?_ ?_) ⟨_,_,rfl,rfl⟩ ?_);(iterate 5 (exact sd));rintro _ _ ⟨rfl,rfl⟩))<;>(try simp (disch:=omega) only [push_cast,seval,h]))
 | (refine Amz ⟨.inr rfl,[16000],[(16000,1)],_,by decide,rfl,?_⟩;(try simp (disch:=omega) only [push_cast,seval,↓Aoz,↓Alz,↓List.map_cons,↓List.map_nil,h]))))
    all_goals simp [TB,MVL]
  | true =>
    obtain ⟨h1,h2,h3⟩:=two_facts h
    subst h3
    obtain ⟨f1,f2,f3,f4,f5,f6⟩:=E7z h1
    obtain ⟨g1,g2,_,_,_,_⟩:=E7z h2
    have o1:=B9z b sh st
    have o2:=B9z b' sh st'
    have c1:=(G7z.1 h1).2.2
    have c2:=(G7z.1 h2).2.2
    have q1:okV b sh st ∧ st.length=sh.length:=⟨f1,f2⟩
    have q2:okV b' sh st' ∧ st'.length=sh.length:=⟨g1,g2⟩
    have hp:(pr sh).toNat ≤ 60:=by omega
    have hpc:(((pr sh).toNat:Nat):Int)=pr sh:=by omega
    have hsp:∃ c:Nat,pr sh=(c:Int) ∧ c ≤ 60:=⟨(pr sh).toNat,by omega,by omega⟩
    obtain ⟨c,hc,hc60⟩:=hsp
    have hlL:(offs b sh st).length=c:=by omega
    have hlL':(offs b' sh st').length=c:=by omega
    generalize hL:offs b sh st=L at *
    generalize hL':offs b' sh st'=L' at *
    have tl:=takesL_length mem L'
    have k1:seeB mem b sh st=true ∧ (L'.length:Int)=pr sh:=⟨h1,by omega⟩
    have k2:(c=c ∧ c=c ∧ mem.length ≤ 60 ∧ c ≤ 60) ∧ (∀ x ∈ L,0 ≤ x ∧ x ≤ (mem.length:Int) - 1) ∧ ∀ x ∈ L',0 ≤ x ∧ x ≤ (mem.length:Int) - 1:=⟨⟨rfl,rfl,f6,hc60⟩,c1,c2⟩
    have k3:(c=c ∧ mem.length ≤ 60 ∧ c ≤ 60) ∧ (∀ x ∈ L,0 ≤ x ∧ x ≤ (mem.length:Int) - 1) ∧ ∀ x ∈ L',0 ≤ x ∧ x ≤ (mem.length:Int) - 1:=⟨⟨rfl,f6,hc60⟩,c1,c2⟩
    have k4:(c=c ∧ mem.length ≤ 60 ∧ c ≤ 60) ∧ (∀ x ∈ L.reverse,0 ≤ x ∧ x ≤ (mem.length:Int) - 1) ∧ ∀ x ∈ L'.reverse,0 ≤ x ∧ x ≤ (mem.length:Int) - 1:=⟨⟨rfl,f6,hc60⟩,fun x hx=>c1 x (List.mem_reverse.1 hx),fun x hx=>c2 x (List.mem_reverse.1 hx)⟩
    have k5:c ≤ 1000:=by omega
    have lrL:L.reverse.length=c:=by rw [List.length_reverse];exact hlL
    have lrL':L'.reverse.length=c:=by rw [List.length_reverse];exact hlL'
    (repeat' (first
 | (first|refine Apz ?_|refine Aiz ?_)
 | ((first|refine Aqz ?_|refine Asz (mid:=l88r3a) (post:=l88r3b) Axz (by decide) ?_|refine Ahz ?_|refine Ajz ?_|refine Akz ?_);simp (disch:=omega) only [push_cast,seval,l88r0,l88r1,l88r2,l88r3a,l88r3b,l88r3,h,hL,hL',hc,hlL,hlL',tl,lrL,lrL',List.length_reverse,Dgz,Int.toNat_natCast])
 | ((first|refine Acz ?_ ?_|refine Agz ?_ ?_|refine Afz ?_ ?_)<;>intro h<;>(try simp only [h])<;>(try simp only [bitvec_to_nat] at h)<;>(try simp only [h])<;>(first|(exfalso;omega)|(exfalso;simp_all;done)|(simp (disch:=omega) only [push_cast,seval,h,hL,hL',hc,hlL,hlL',tl,lrL,lrL',List.length_reverse,Dgz,Int.toNat_natCast])|skip))
 | ((first|refine Arz false ?_|refine Anz false ?_);simp (disch:=omega) only [push_cast,seval,h,hL,hL',hc,hlL,hlL',tl,lrL,lrL',List.length_reverse,Dgz,Int.toNat_natCast])
 | ((first|((first|refine Adz (Aez (Kwz _ _ _ _ _ _ _ _ _ _ _ _ ?_ ?_ ?_ ?_ ?_ ?_)) ?_|refine Abz (Aez (Kwz _ _ _ _ _ _ _ _ _ _ _ _ ?_ ?_ ?_ ?_ ?_ ?_)) ⟨_,_,rfl,rfl⟩ ?_);(iterate 6 (exact sd));rintro _ _ ⟨rfl,rfl⟩)|((first|refine Adz (Cjz _ _ _ _ _ _ _ ?_ ?_ ?_ ?_) ?_|refine Abz (Cjz _ _ _ _ _ _ _ ?_ ?_ ?_ ?_) ⟨_,_,rfl,rfl⟩ ?_);(iterate 4 (exact sd));rintro _ _ ⟨rfl,rfl⟩)|((first|refine Adz (Klz _ _ _ _ _ _ _ _ _ ?_ ?_ ?_ ?_ ?_) ?_|refine Abz (Klz _ _ _ _ _ _ _ _ _ ?_ ?_ ?_ ?_ ?_) ⟨_,_,rfl,rfl⟩ ?_);(iterate 5 (exact sd));rintro _ _ ⟨rfl,rfl⟩))<;>(try simp (disch:=omega) only [push_cast,seval,h,hL,hL',hc,hlL,hlL',tl,lrL,lrL',List.length_reverse,Dgz,Int.toNat_natCast]))
 | (refine Amz ⟨.inr rfl,[288],[],_,by decide,rfl,?_⟩;(try simp (disch:=omega) only [push_cast,seval,↓Aoz,↓Alz,↓List.map_cons,↓List.map_nil,h,hL,hL',hc,hlL,hlL',tl,lrL,lrL',List.length_reverse,Dgz,Int.toNat_natCast]))))
    all_goals simp [TB,MVL]


/-- The cells with different values,of memories with as many cells. -/
def chB (a b:List Int):Bool:=vMem a && vMem b && decide (a.length=b.length)


def sumV (mem:List Int) (b:Int) (sh st:List Int):Int:=if seeB mem b sh st=true then sumT (takesL mem (offs b sh st)) (offs b sh st).length else -1
theorem Ilz {mem L:List Int} (h:∀ x ∈ mem,0 ≤ x ∧ x ≤ 255):∀ x ∈ takesL mem L,0 ≤ x ∧ x ≤ 255:=by
  intro x hx
  unfold takesL at hx
  obtain ⟨i,_,rfl⟩:=List.mem_map.1 hx
  by_cases hl:i.toNat < mem.length
  · exact h _ (C2z hl)
  · rw [List.getD,List.getElem?_eq_none (Nat.le_of_not_lt hl)]
    exact ⟨Int.le_refl 0,by decide⟩

end Go.Proofs.YtkpcjppnjmhanaaDoor
namespace Go.Proofs.YtkpcjppnjmhanaaDoor
open VwM Vw Go
variable [SentA]

end Go.Proofs.YtkpcjppnjmhanaaDoor
namespace Go.Proofs.YtkpcjppnjmhanaaDoor
open VwM Vw Go
variable [SentA]

/-- A value can be stored everywhere. -/
def filB (mem:List Int) (b:Int) (sh st:List Int) (x:Int):Bool:=seeB mem b sh st && (decide (0 ≤ x) && decide (x ≤ 255))
def filL (mem:List Int) (b:Int) (sh st:List Int) (x:Int):List Int:=putL mem (offs b sh st) (rpt [x] (pr sh).toNat)
theorem rpt_at {x:Int} {n k:Nat} (h:k < n):(rpt [x] n).getD k 0=x:=by rw [rpt_one];simp [List.getD,h]


set_option maxHeartbeats 8000000 in
theorem Etz (mem:List Int) (b:Int) (sh st:List Int) (x:Int) (q n m:Nat) (hq:mem.length=q) (hn:sh.length=n) (hm:st.length=m) (hb:q ≤ 1099511627776 ∧ n ≤ 1099511627776 ∧ m ≤ 1099511627776):BCall Tryd.prog 87 [.rows false (IL mem) q,.agg [.int .i64 b,.rows false (IL sh) n,.rows false (IL st) m],.int .i64 x] [] (TB (filB mem b sh st x) (filL mem b sh st x)):=by
  subst hq hn hm
  refine A5z (pins:=[]) (pin:=0) l87_eq rfl rfl rfl ?_
  unfold filB
  cases h1:seeB mem b sh st with
  | false =>
    (repeat' (first
 | (first|refine Apz ?_|refine Aiz ?_)
 | ((first|refine Aqz ?_|refine Ahz ?_|refine Ajz ?_|refine Akz ?_);simp (disch:=omega) only [push_cast,seval,l87r0,l87r1,l87r2,l87r3,l87r4,l87r5,l87r6,l87r7,l87r8,l87r9,h1])
 | ((first|refine Acz ?_ ?_|refine Agz ?_ ?_|refine Afz ?_ ?_)<;>intro h<;>(try simp only [h])<;>(try simp only [bitvec_to_nat] at h)<;>(try simp only [h])<;>(first|(exfalso;omega)|(exfalso;simp_all;done)|(simp (disch:=omega) only [push_cast,seval,h1])|skip))
 | ((first|refine Arz false ?_|refine Anz false ?_);simp (disch:=omega) only [push_cast,seval,h1])
 | ((first|((first|refine Adz (Aez (Dbz _ _ _ _ _ _ _ ?_ ?_ ?_ ?_)) ?_|refine Abz (Aez (Dbz _ _ _ _ _ _ _ ?_ ?_ ?_ ?_)) ⟨_,_,rfl,rfl⟩ ?_);(iterate 4 (exact sd));rintro _ _ ⟨rfl,rfl⟩)|((first|refine Adz (Aez (Auz _ _ _)) ?_|refine Abz (Aez (Auz _ _ _)) ⟨_,_,rfl,rfl⟩ ?_);rintro _ _ ⟨rfl,rfl⟩)|((first|refine Adz (A7z _ _ ?_ ?_) ?_|refine Abz (A7z _ _ ?_ ?_) ⟨_,_,rfl,rfl⟩ ?_);(iterate 2 (exact sd));rintro _ _ ⟨rfl,rfl⟩)|((first|refine Adz (A0z _ _ _ _ _ ?_ ?_ ?_) ?_|refine Abz (A0z _ _ _ _ _ ?_ ?_ ?_) ⟨_,_,rfl,rfl⟩ ?_);(iterate 3 (exact sd));rintro _ _ ⟨rfl,rfl⟩))<;>(try simp (disch:=omega) only [push_cast,seval,h1]))
 | (refine Amz ⟨.inr rfl,[16000],[(16000,1)],_,by decide,rfl,?_⟩;(try simp (disch:=omega) only [push_cast,seval,↓Aoz,↓Alz,↓List.map_cons,↓List.map_nil,h1]))))
    all_goals simp [TB,MVL]
  | true =>
  obtain ⟨f1,f2,f3,f4,f5,f6⟩:=E7z h1
  by_cases hx:0 ≤ x ∧ x ≤ 255
  · have hx':(decide (0 ≤ x) && decide (x ≤ 255))=true:=by simp [hx]
    have hxa:allI [x] 0 255=true:=by simp [allI,hx]
    obtain ⟨hx1,hx2⟩:=hx
    have hol:=B9z b sh st
    have hml:mem.length ≤ 1099511627776:=by omega
    have q1:okV b sh st ∧ st.length=sh.length:=⟨f1,f2⟩
    obtain ⟨c,hc⟩:∃ c:Nat,pr sh=(c:Int):=⟨(pr sh).toNat,by omega⟩
    have hcn:(pr sh).toNat=c:=by omega
    have hck:c ≤ 1000:=by omega
    have hrl:(rpt [x] c).length=c:=by rw [Jtz];simp
    have k1:seeB mem b sh st=true ∧ (c:Int)=pr sh:=⟨h1,by omega⟩
    have hpl:=Emz mem (offs b sh st) (rpt [x] c)
    rw [hx',filL,hcn]
    have hat:=fun k hk=>seeB_at (k:=k) h1 hk
    rw [hcn] at hol
    generalize hL:offs b sh st=L at *
    clear k1
    (repeat' (first
 | (first|refine Apz ?_|refine Aiz ?_)
 | ((first|refine Aqz ?_|refine Ahz ?_|refine Ajz ?_|refine Akz ?_);simp (disch:=omega) only [push_cast,seval,l87r0,l87r1,l87r2,l87r3,l87r4,l87r5,l87r6,l87r7,l87r8,l87r9,h1,hx1,hx2,hL])
 | ((first|refine Acz ?_ ?_|refine Agz ?_ ?_|refine Afz ?_ ?_)<;>intro h<;>(try simp only [h])<;>(try simp only [bitvec_to_nat] at h)<;>(try simp only [h])<;>(first|(exfalso;omega)|(exfalso;simp_all;done)|(simp (disch:=omega) only [push_cast,seval,h1,hx1,hx2,hL])|skip))
 | ((first|refine Arz false ?_|refine Anz false ?_);simp (disch:=omega) only [push_cast,seval,h1,hx1,hx2,hL])
 | ((first|((first|refine Adz (Aez (Dbz _ _ _ _ _ _ _ ?_ ?_ ?_ ?_)) ?_|refine Abz (Aez (Dbz _ _ _ _ _ _ _ ?_ ?_ ?_ ?_)) ⟨_,_,rfl,rfl⟩ ?_);(iterate 4 (exact sd));rintro _ _ ⟨rfl,rfl⟩)|((first|refine Adz (Aez (Auz _ _ _)) ?_|refine Abz (Aez (Auz _ _ _)) ⟨_,_,rfl,rfl⟩ ?_);rintro _ _ ⟨rfl,rfl⟩)|((first|refine Adz (A7z _ _ ?_ ?_) ?_|refine Abz (A7z _ _ ?_ ?_) ⟨_,_,rfl,rfl⟩ ?_);(iterate 2 (exact sd));rintro _ _ ⟨rfl,rfl⟩)|((first|refine Adz (A0z _ _ _ _ _ ?_ ?_ ?_) ?_|refine Abz (A0z _ _ _ _ _ ?_ ?_ ?_) ⟨_,_,rfl,rfl⟩ ?_);(iterate 3 (exact sd));rintro _ _ ⟨rfl,rfl⟩))<;>(try simp (disch:=omega) only [push_cast,seval,h1,hx1,hx2,hL]))
 | (refine Amz ⟨.inr rfl,[336],[],_,by decide,rfl,?_⟩;(try simp (disch:=omega) only [push_cast,seval,↓Aoz,↓Alz,↓List.map_cons,↓List.map_nil,h1,hx1,hx2,hL]))))
    refine Bqz (fun k:Nat=>mkS [(2,.int .i64 x),(8,.own 336 mem.length 1),(9,.own 368 L.length 1),(10,.int .i64 k)] [(336,IL (putK mem L (rpt [x] c) k)),(368,IL L)])
      (fun k=>k ≤ L.length) (fun k=>L.length - k) 0 (Nat.zero_le _) ?_ ?_
    · have e0:putK mem L (rpt [x] c) 0=mem:=rfl
      (refine Sub.of_lists ?_ ?_ ?_ ?_ ?_<;>simp [Vw.mkS,Vw.lk,Vw.hk,AV.inn,innL,Avz,Atz,Ayz,-List.map_set,-List.getD_eq_getElem?_getD,e0])
    · intro k hk
      have e1:=Ffz mem L (rpt [x] c) k
      by_cases hlt:k < L.length
      · obtain ⟨g1,g2⟩:=hat k hlt
        have g3:(L.getD k 0).toNat < mem.length:=by omega
        have e2:putK mem L (rpt [x] c) (k + 1)=(putK mem L (rpt [x] c) k).set (L.getD k 0).toNat x:=by simp only [putK];rw [rpt_at (by omega)]
        generalize putK mem L (rpt [x] c) k=p at *
        (repeat' (first
 | (first|refine Apz ?_|refine Aiz ?_)
 | ((first|refine Aqz ?_|refine Ahz ?_|refine Ajz ?_|refine Akz ?_);simp (disch:=omega) only [push_cast,seval,l87r0,l87r1,l87r2,l87r3,l87r4,l87r5,l87r6,l87r7,l87r8,l87r9,e1])
 | ((first|refine Acz ?_ ?_|refine Agz ?_ ?_|refine Afz ?_ ?_)<;>intro h<;>(try simp only [h])<;>(try simp only [bitvec_to_nat] at h)<;>(try simp only [h])<;>(first|(exfalso;omega)|(exfalso;simp_all;done)|(simp (disch:=omega) only [push_cast,seval,e1])|skip))
 | ((first|refine Arz false ?_|refine Anz false ?_);simp (disch:=omega) only [push_cast,seval,e1])
 | ((first|((first|refine Adz (Aez (Dbz _ _ _ _ _ _ _ ?_ ?_ ?_ ?_)) ?_|refine Abz (Aez (Dbz _ _ _ _ _ _ _ ?_ ?_ ?_ ?_)) ⟨_,_,rfl,rfl⟩ ?_);(iterate 4 (exact sd));rintro _ _ ⟨rfl,rfl⟩)|((first|refine Adz (Aez (Auz _ _ _)) ?_|refine Abz (Aez (Auz _ _ _)) ⟨_,_,rfl,rfl⟩ ?_);rintro _ _ ⟨rfl,rfl⟩)|((first|refine Adz (A7z _ _ ?_ ?_) ?_|refine Abz (A7z _ _ ?_ ?_) ⟨_,_,rfl,rfl⟩ ?_);(iterate 2 (exact sd));rintro _ _ ⟨rfl,rfl⟩)|((first|refine Adz (A0z _ _ _ _ _ ?_ ?_ ?_) ?_|refine Abz (A0z _ _ _ _ _ ?_ ?_ ?_) ⟨_,_,rfl,rfl⟩ ?_);(iterate 3 (exact sd));rintro _ _ ⟨rfl,rfl⟩))<;>(try simp (disch:=omega) only [push_cast,seval,e1]))
 | (refine Amz ⟨.inr rfl,[336],[],_,by decide,rfl,?_⟩;(try simp (disch:=omega) only [push_cast,seval,↓Aoz,↓Alz,↓List.map_cons,↓List.map_nil,e1]))))
        refine ⟨k + 1,by omega,by omega,?_⟩
        (refine Sub.of_lists ?_ ?_ ?_ ?_ ?_<;>simp [Vw.mkS,Vw.lk,Vw.hk,AV.inn,innL,Avz,Atz,Ayz,-List.map_set,-List.getD_eq_getElem?_getD,e2,Bfz])
      · have hke:k=L.length:=by omega
        have e3:putK mem L (rpt [x] c) k=putL mem L (rpt [x] c):=by rw [hke];rfl
        rw [e3]
        (repeat' (first
 | (first|refine Apz ?_|refine Aiz ?_)
 | ((first|refine Aqz ?_|refine Ahz ?_|refine Ajz ?_|refine Akz ?_);simp (disch:=omega) only [push_cast,seval,l87r0,l87r1,l87r2,l87r3,l87r4,l87r5,l87r6,l87r7,l87r8,l87r9,hpl])
 | ((first|refine Acz ?_ ?_|refine Agz ?_ ?_|refine Afz ?_ ?_)<;>intro h<;>(try simp only [h])<;>(try simp only [bitvec_to_nat] at h)<;>(try simp only [h])<;>(first|(exfalso;omega)|(exfalso;simp_all;done)|(simp (disch:=omega) only [push_cast,seval,hpl])|skip))
 | ((first|refine Arz false ?_|refine Anz false ?_);simp (disch:=omega) only [push_cast,seval,hpl])
 | ((first|((first|refine Adz (Aez (Dbz _ _ _ _ _ _ _ ?_ ?_ ?_ ?_)) ?_|refine Abz (Aez (Dbz _ _ _ _ _ _ _ ?_ ?_ ?_ ?_)) ⟨_,_,rfl,rfl⟩ ?_);(iterate 4 (exact sd));rintro _ _ ⟨rfl,rfl⟩)|((first|refine Adz (Aez (Auz _ _ _)) ?_|refine Abz (Aez (Auz _ _ _)) ⟨_,_,rfl,rfl⟩ ?_);rintro _ _ ⟨rfl,rfl⟩)|((first|refine Adz (A7z _ _ ?_ ?_) ?_|refine Abz (A7z _ _ ?_ ?_) ⟨_,_,rfl,rfl⟩ ?_);(iterate 2 (exact sd));rintro _ _ ⟨rfl,rfl⟩)|((first|refine Adz (A0z _ _ _ _ _ ?_ ?_ ?_) ?_|refine Abz (A0z _ _ _ _ _ ?_ ?_ ?_) ⟨_,_,rfl,rfl⟩ ?_);(iterate 3 (exact sd));rintro _ _ ⟨rfl,rfl⟩))<;>(try simp (disch:=omega) only [push_cast,seval,hpl]))
 | (refine Amz ⟨.inr rfl,[336],[],_,by decide,rfl,?_⟩;(try simp (disch:=omega) only [push_cast,seval,↓Aoz,↓Alz,↓List.map_cons,↓List.map_nil,hpl]))))
        all_goals simp [TB,MVL,hpl]
  · have hx':(decide (0 ≤ x) && decide (x ≤ 255))=false:=by
      rw [Bool.eq_false_iff]
      intro h
      simp at h
      exact hx h
    have hxa:allI [x] 0 255=false:=by
      rw [Bool.eq_false_iff]
      intro h
      simp [allI] at h
      exact hx h
    rw [hx']
    (repeat' (first
 | (first|refine Apz ?_|refine Aiz ?_)
 | ((first|refine Aqz ?_|refine Ahz ?_|refine Ajz ?_|refine Akz ?_);simp (disch:=omega) only [push_cast,seval,l87r0,l87r1,l87r2,l87r3,l87r4,l87r5,l87r6,l87r7,l87r8,l87r9,h1,hx',hxa])
 | ((first|refine Acz ?_ ?_|refine Agz ?_ ?_|refine Afz ?_ ?_)<;>intro h<;>(try simp only [h])<;>(try simp only [bitvec_to_nat] at h)<;>(try simp only [h])<;>(first|(exfalso;omega)|(exfalso;simp_all;done)|(simp (disch:=omega) only [push_cast,seval,h1,hx',hxa])|skip))
 | ((first|refine Arz false ?_|refine Anz false ?_);simp (disch:=omega) only [push_cast,seval,h1,hx',hxa])
 | ((first|((first|refine Adz (Aez (Dbz _ _ _ _ _ _ _ ?_ ?_ ?_ ?_)) ?_|refine Abz (Aez (Dbz _ _ _ _ _ _ _ ?_ ?_ ?_ ?_)) ⟨_,_,rfl,rfl⟩ ?_);(iterate 4 (exact sd));rintro _ _ ⟨rfl,rfl⟩)|((first|refine Adz (Aez (Auz _ _ _)) ?_|refine Abz (Aez (Auz _ _ _)) ⟨_,_,rfl,rfl⟩ ?_);rintro _ _ ⟨rfl,rfl⟩)|((first|refine Adz (A7z _ _ ?_ ?_) ?_|refine Abz (A7z _ _ ?_ ?_) ⟨_,_,rfl,rfl⟩ ?_);(iterate 2 (exact sd));rintro _ _ ⟨rfl,rfl⟩)|((first|refine Adz (A0z _ _ _ _ _ ?_ ?_ ?_) ?_|refine Abz (A0z _ _ _ _ _ ?_ ?_ ?_) ⟨_,_,rfl,rfl⟩ ?_);(iterate 3 (exact sd));rintro _ _ ⟨rfl,rfl⟩))<;>(try simp (disch:=omega) only [push_cast,seval,h1,hx',hxa]))
 | (refine Amz ⟨.inr rfl,[16000],[(16000,1)],_,by decide,rfl,?_⟩;(try simp (disch:=omega) only [push_cast,seval,↓Aoz,↓Alz,↓List.map_cons,↓List.map_nil,h1,hx',hxa]))))
    all_goals simp [TB,MVL]

end Go.Proofs.YtkpcjppnjmhanaaDoor
namespace Go.Proofs.YtkpcjppnjmhanaaDoor
open VwM Vw Go
variable [SentA]

open Go.RowKit Go.Extern.Stop Go.Stop Go.Extern in
open Go.RowKit Go.Extern.Stop Go.Stop Go.Extern in
theorem isTypeOf1 (v:Value) (w:World):(Extern.ReflectliteType.typeOf #[.iface 133 v]).run Tryd.prog w=.ok (.iface 92 (.agg #[.pointer (some ⟨1,133,none⟩)])) w:=by kernel_rfl
open Go.RowKit Go.Extern.Stop Go.Stop Go.Extern Go.Extern.ReflectliteType in
theorem isComparable (w : World) : ((Extern.ReflectliteType.method fun t => do Extern.Rtype.noPackHeld "Comparable" t; pure (.bool (← typeInfo t).comparable)) #[.agg #[.pointer (some ⟨1,133,none⟩)]]).run Tryd.prog w = .ok (.bool true) w := by kernel_rfl
open Go.RowKit Go.Extern.Stop Go.Stop Go.Extern Go.Extern.ReflectliteType in
theorem Kqz (w:World):Sem.run Tryd.prog (callFunc 120 #[.agg #[.pointer (some ⟨1,133,none⟩)]]) w=Result.ok (Next.value (Value.bool true)) w:=by
  have h := @run_callFunc_extern Tryd.prog 120 _ (Extern.ReflectliteType.method fun t => do Extern.Rtype.noPackHeld "Comparable" t; pure (.bool (← typeInfo t).comparable)) Tryd.func120 (by kernel_rfl) (by kernel_rfl) (by kernel_rfl) (by kernel_rfl)
  rw [h,isComparable]
  rfl
theorem Hiz (v : Value) (w : World) : (Go.method 271 92 v "Comparable").run Tryd.prog w = .ok (120,v) w := by kernel_rfl
theorem isComp:(Tryd.prog.info? 133).map (·.comparable)=some true:=by kernel_rfl
theorem isSize:(Tryd.prog.info? 159).map (·.size)=some 1:=by kernel_rfl
open Go.RowKit Go.Extern.Stop Go.Stop Go.Extern in
set_option maxHeartbeats 16000000 in
theorem is_same (a:Addr) (w:World) :
    Calls Tryd.prog 28 #[.iface 133 (.pointer (some a)),.iface 133 (.pointer (some a))] w fun e w'=>e=.returned (.bool true) ∧ w'=w:=by
  obtain ⟨i,hi,hcmp⟩:=Option.map_eq_some_iff.1 isComp
  obtain ⟨j,hj,hjs⟩:=Option.map_eq_some_iff.1 isSize
  have h8:=@run_callFunc_extern Tryd.prog 48 _ Extern.ReflectliteType.typeOf Tryd.func48 (by kernel_rfl) (by kernel_rfl) (by kernel_rfl) (by kernel_rfl)
  have h32:=Kqz
  have tT:=isTypeOf1
  have mR:=Hiz
  have heq:=run_eql_iface_ptr_same (P:=Tryd.prog) w a Tryd.underlying49 Tryd.underlying133 hi hcmp hj
  go_enter Tryd.func28,Tryd.ntmps28
  go_wp2
  all_goals (try (refine wp_loop_rounds 1 ?_;rw [rounds_succ];go_wp2))
  all_goals (try (go_ret;exact ⟨rfl,rfl⟩))
open Go.RowKit Go.Extern.Stop Go.Stop Go.Extern in
theorem is_nil (b:Addr) (w:World) :
    Calls Tryd.prog 28 #[.nilIface,.iface 133 (.pointer (some b))] w fun e w'=>e=.returned (.bool false) ∧ w'=w:=by
  have hn:=run_eql_iface_nil_left (P:=Tryd.prog) w 133 (.pointer (some b)) Tryd.underlying49
  go_enter Tryd.func28,Tryd.ntmps28
  go_wp2
  go_ret
  exact ⟨rfl,rfl⟩

end Go.Proofs.YtkpcjppnjmhanaaDoor
