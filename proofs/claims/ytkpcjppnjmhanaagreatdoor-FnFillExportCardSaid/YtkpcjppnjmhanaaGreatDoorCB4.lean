/- Texts of this verifier. -/
import Derived.Test.YtkpcjppnjmhanaaGreatDoorCB3
import Derived.Test.YtkpcjppnjmhanaaGreatDoorCM1
import Derived.Test.YtkpcjppnjmhanaaGreatDoorCW3
set_option maxHeartbeats 4000000
set_option linter.unusedSimpArgs false
set_option linter.unusedSectionVars false
set_option linter.unusedVariables false
set_option maxRecDepth 4000
namespace Go.Proofs.YtkpcjppnjmhanaaGreatDoor
open VwM Vw Go
variable [SentA]

theorem seeB_mem {mem:List Int} {b:Int} {sh st:List Int} (h:vMem mem=false):seeB mem b sh st=false:=by simp [seeB,h]
theorem seeB_view {mem:List Int} {b:Int} {sh st:List Int} (h:vV b sh st=false):seeB mem b sh st=false:=by simp [seeB,h]
theorem seeB_rest {mem:List Int} {b:Int} {sh st:List Int} (h1:vMem mem=true) (h2:vV b sh st=true):seeB mem b sh st=allI (offs b sh st) 0 ((mem.length:Int) - 1):=by simp [seeB,h1,h2]
theorem fitB_see {mem:List Int} {b:Int} {sh st:List Int} (h1:vMem mem=true):fitB b sh st (mem.length:Int)=seeB mem b sh st:=by
  have:=(Cuz.1 h1).1
  have h3:((mem.length:Int) ≤ 60)=True:=eq_true (by omega)
  have h4:((0:Int) ≤ (mem.length:Int))=True:=eq_true (by omega)
  simp only [fitB,seeB,h1,h3,h4,decide_true,Bool.and_true,Bool.true_and]


theorem C9z (xs:List Int) (n:Nat) (hn:xs.length=n) (hb:n ≤ 1099511627776):PCall Tryz.prog 87 [.rows false (IL xs) n] (fun r=>r=.bool (vMem xs)):=by
  subst hn
  refine Axz l87_eq rfl ?_
  by_cases h4:xs.length ≤ 60
  · cases ha:allI xs 0 255 with
    | false =>
      (repeat' (first
 | (first|refine Agz ?_|refine Abz ?_)
 | ((first|refine Ahz ?_);simp (disch:=omega) only [push_cast,seval,l87r0,l87r1,ha])
 | ((first|refine Bez (fun h=>?_) (fun h=>?_))<;>(try simp only [h])<;>(try simp only [bitvec_to_nat] at h)<;>(try simp only [h])<;>(first|(exfalso;omega)|(exfalso;simp_all;done)|(simp (disch:=omega) only [push_cast,seval,ha])|skip))
 | ((first|refine Alz false ?_);simp (disch:=omega) only [push_cast,seval,ha])
 | ((first|((first|refine Akz (Ajz (Bnz _ _ _ _ ?_ ?_)) ?_|refine Aiz (Ajz (Bnz _ _ _ _ ?_ ?_)) ⟨_,_,rfl,rfl⟩ ?_);(iterate 2 (exact sd));rintro _ _ ⟨rfl,rfl⟩))<;>(try simp (disch:=omega) only [push_cast,seval,ha]))
 | (refine Afz ⟨.inr rfl,_,rfl,?_⟩;(try simp (disch:=omega) only [push_cast,seval,ha]))))
      all_goals simp [vMem,ha]
    | true =>
      (repeat' (first
 | (first|refine Agz ?_|refine Abz ?_)
 | ((first|refine Ahz ?_);simp (disch:=omega) only [push_cast,seval,l87r0,l87r1,ha])
 | ((first|refine Bez (fun h=>?_) (fun h=>?_))<;>(try simp only [h])<;>(try simp only [bitvec_to_nat] at h)<;>(try simp only [h])<;>(first|(exfalso;omega)|(exfalso;simp_all;done)|(simp (disch:=omega) only [push_cast,seval,ha])|skip))
 | ((first|refine Alz false ?_);simp (disch:=omega) only [push_cast,seval,ha])
 | ((first|((first|refine Akz (Ajz (Bnz _ _ _ _ ?_ ?_)) ?_|refine Aiz (Ajz (Bnz _ _ _ _ ?_ ?_)) ⟨_,_,rfl,rfl⟩ ?_);(iterate 2 (exact sd));rintro _ _ ⟨rfl,rfl⟩))<;>(try simp (disch:=omega) only [push_cast,seval,ha]))
 | (refine Afz ⟨.inr rfl,_,rfl,?_⟩;(try simp (disch:=omega) only [push_cast,seval,ha]))))
      all_goals simp [vMem,ha,h4]
  · (repeat' (first
 | (first|refine Agz ?_|refine Abz ?_)
 | ((first|refine Ahz ?_);simp (disch:=omega) only [push_cast,seval,l87r0,l87r1])
 | ((first|refine Bez (fun h=>?_) (fun h=>?_))<;>(try simp only [h])<;>(try simp only [bitvec_to_nat] at h)<;>(try simp only [h])<;>(first|(exfalso;omega)|(exfalso;simp_all;done)|(simp (disch:=omega) only [push_cast,seval])|skip))
 | (refine Afz ⟨.inr rfl,_,rfl,?_⟩;(try simp (disch:=omega) only [push_cast,seval]))))
    all_goals simp [vMem,h4]


theorem D8z (xs:List Int) (n:Nat) (hn:xs.length=n) (hb:n ≤ 1099511627776):PCall Tryz.prog 92 [.rows false (IL xs) n] (fun r=>r=.bool (allI xs 0 255)):=by
  subst hn
  refine Axz l92_eq rfl ?_
  (repeat' (first
 | (first|refine Agz ?_|refine Abz ?_)
 | ((first|refine Ahz ?_);simp (disch:=omega) only [push_cast,seval,l92r0,l92r1,l92r2,l92r3,l92r4,l92r5,l92r6,l92r7])
 | (refine Afz ⟨.inr rfl,_,rfl,?_⟩;(try simp (disch:=omega) only [push_cast,seval]))))
  refine A7z (fun k:Nat=>mkS [(5,RI xs),(6,.int .i64 xs.length),(7,.int .i64 k)] []) (fun k=>k ≤ xs.length ∧ ∀ j:Nat,j < k → 0 ≤ xs.getD j 0 ∧ xs.getD j 0 ≤ 255) (fun k=>xs.length - k) 0 ⟨Nat.zero_le _,fun j h=>absurd h (Nat.not_lt_zero _)⟩ ?_ ?_
  · (refine Sub.of_lists ?_ ?_ ?_ ?_ ?_<;>simp [Vw.mkS,Vw.lk,Vw.hk,AV.inn,innL,Apz,Anz,Aqz,-List.map_set,-List.getD_eq_getElem?_getD])
  · rintro k ⟨hk,hj⟩
    by_cases hlt:k < xs.length
    · (repeat' (first
 | (first|refine Agz ?_|refine Abz ?_)
 | ((first|refine Ahz ?_|refine Aez ?_|refine Aoz ?_);simp (disch:=omega) only [push_cast,seval,l92r0,l92r1,l92r2,l92r3,l92r4,l92r5,l92r6,l92r7])
 | ((first|refine Amz (fun h=>?_) (fun h=>?_))<;>(try simp only [h])<;>(try simp only [bitvec_to_nat] at h)<;>(try simp only [h])<;>(first|(exfalso;omega)|(exfalso;simp_all;done)|(simp (disch:=omega) only [push_cast,seval])|skip))
 | ((first|refine Alz false ?_);simp (disch:=omega) only [push_cast,seval])
 | ((first|((first|refine Akz (Ajz (Ccz _ _)) ?_|refine Aiz (Ajz (Ccz _ _)) ⟨_,_,rfl,rfl⟩ ?_);rintro _ _ ⟨rfl,rfl⟩))<;>(try simp (disch:=omega) only [push_cast,seval]))
 | (refine Afz ⟨.inr rfl,_,rfl,?_⟩;(try simp (disch:=omega) only [push_cast,seval]))))
      · rw [Gbz (j:=k) hlt (by assumption)]
      · refine ⟨k + 1,⟨by omega,fun j h=>?_⟩,by omega,?_⟩
        · by_cases hjk:j=k
          · subst hjk;assumption
          · exact hj j (by omega)
        · (refine Sub.of_lists ?_ ?_ ?_ ?_ ?_<;>simp [Vw.mkS,Vw.lk,Vw.hk,AV.inn,innL,Apz,Anz,Aqz,-List.map_set,-List.getD_eq_getElem?_getD])
    · have ha:allI xs 0 255=true:=Hlz fun j h=>hj j (by omega)
      (repeat' (first
 | (first|refine Agz ?_|refine Abz ?_)
 | ((first|refine Ahz ?_|refine Aez ?_|refine A1z ?_);simp (disch:=omega) only [push_cast,seval,l92r0,l92r1,l92r2,l92r3,l92r4,l92r5,l92r6,l92r7])
 | ((first|refine Amz (fun h=>?_) (fun h=>?_))<;>(try simp only [h])<;>(try simp only [bitvec_to_nat] at h)<;>(try simp only [h])<;>(first|(exfalso;omega)|(exfalso;simp_all;done)|(simp (disch:=omega) only [push_cast,seval])|skip))
 | (refine Afz ⟨.inr rfl,_,rfl,?_⟩;(try simp (disch:=omega) only [push_cast,seval]))))
      simp [ha]


theorem Ddz (xs:List Int) (n:Nat) (hn:xs.length=n) (hb:n ≤ 1099511627776):PCall Tryz.prog 53 [.rows false (IL xs) n] (fun r=>r=.bool (vMem xs)):=by
  subst hn
  refine Axz l53_eq rfl ?_
  by_cases h4:xs.length ≤ 60
  · (repeat' (first
 | (first|refine Agz ?_|refine Abz ?_)
 | ((first|refine Ahz ?_);simp (disch:=omega) only [push_cast,seval,l53r0,l53r1])
 | ((first|refine Bez (fun h=>?_) (fun h=>?_))<;>(try simp only [h])<;>(try simp only [bitvec_to_nat] at h)<;>(try simp only [h])<;>(first|(exfalso;omega)|(exfalso;simp_all;done)|(simp (disch:=omega) only [push_cast,seval])|skip))
 | ((first|refine Alz false ?_);simp (disch:=omega) only [push_cast,seval])
 | ((first|((first|refine Akz (Ajz (Doz _)) ?_|refine Aiz (Ajz (Doz _)) ⟨_,_,rfl,rfl⟩ ?_);rintro _ _ ⟨rfl,rfl⟩)|((first|refine Akz (Ajz (D8z _ _ ?_ ?_)) ?_|refine Aiz (Ajz (D8z _ _ ?_ ?_)) ⟨_,_,rfl,rfl⟩ ?_);(iterate 2 (exact sd));rintro _ _ ⟨rfl,rfl⟩))<;>(try simp (disch:=omega) only [push_cast,seval]))
 | (refine Afz ⟨.inr rfl,_,rfl,?_⟩;(try simp (disch:=omega) only [push_cast,seval]))))
    all_goals simp [vMem,h4]
  · (repeat' (first
 | (first|refine Agz ?_|refine Abz ?_)
 | ((first|refine Ahz ?_);simp (disch:=omega) only [push_cast,seval,l53r0,l53r1])
 | ((first|refine Bez (fun h=>?_) (fun h=>?_))<;>(try simp only [h])<;>(try simp only [bitvec_to_nat] at h)<;>(try simp only [h])<;>(first|(exfalso;omega)|(exfalso;simp_all;done)|(simp (disch:=omega) only [push_cast,seval])|skip))
 | ((first|refine Alz false ?_);simp (disch:=omega) only [push_cast,seval])
 | ((first|((first|refine Akz (Ajz (Doz _)) ?_|refine Aiz (Ajz (Doz _)) ⟨_,_,rfl,rfl⟩ ?_);rintro _ _ ⟨rfl,rfl⟩))<;>(try simp (disch:=omega) only [push_cast,seval]))
 | (refine Afz ⟨.inr rfl,_,rfl,?_⟩;(try simp (disch:=omega) only [push_cast,seval]))))
    all_goals simp [vMem,h4]


theorem Dlz (mem:List Int) (b:Int) (sh st:List Int) (q n m:Nat) (hq:mem.length=q) (hn:sh.length=n) (hm:st.length=m) (hb:q ≤ 1099511627776 ∧ n ≤ 1099511627776 ∧ m ≤ 1099511627776):PCall Tryz.prog 98 [.rows false (IL mem) q,.agg [.int .i64 b,.rows false (IL sh) n,.rows false (IL st) m]] (fun r=>r=.bool (seeB mem b sh st)):=by
  subst hq hn hm
  obtain ⟨hb0,hb1,hb2⟩:=hb
  refine Axz l98_eq rfl ?_
  cases hm:vMem mem with
  | false =>
    rw [seeB_mem hm]
    (repeat' (first
 | (first|refine Agz ?_|refine Abz ?_)
 | ((first|refine Ahz ?_);simp (disch:=omega) only [push_cast,seval,l98r0,l98r1,hm])
 | ((first|refine Alz false ?_);simp (disch:=omega) only [push_cast,seval,hm])
 | ((first|((first|refine Akz (Ajz (C9z _ _ ?_ ?_)) ?_|refine Aiz (Ajz (C9z _ _ ?_ ?_)) ⟨_,_,rfl,rfl⟩ ?_);(iterate 2 (exact sd));rintro _ _ ⟨rfl,rfl⟩))<;>(try simp (disch:=omega) only [push_cast,seval,hm]))
 | (refine Afz ⟨.inr rfl,_,rfl,?_⟩;(try simp (disch:=omega) only [push_cast,seval,hm]))))
  | true =>
  have h60:=(Cuz.1 hm).1
  cases hv:vV b sh st with
  | false =>
    rw [seeB_view hv]
    (repeat' (first
 | (first|refine Agz ?_|refine Abz ?_)
 | ((first|refine Ahz ?_);simp (disch:=omega) only [push_cast,seval,l98r0,l98r1,hm,hv])
 | ((first|refine Alz false ?_);simp (disch:=omega) only [push_cast,seval,hm,hv])
 | ((first|((first|refine Akz (Ajz (C9z _ _ ?_ ?_)) ?_|refine Aiz (Ajz (C9z _ _ ?_ ?_)) ⟨_,_,rfl,rfl⟩ ?_);(iterate 2 (exact sd));rintro _ _ ⟨rfl,rfl⟩)|((first|refine Akz (Ajz (Arz _ _ _ _ _ ?_ ?_ ?_)) ?_|refine Aiz (Ajz (Arz _ _ _ _ _ ?_ ?_ ?_)) ⟨_,_,rfl,rfl⟩ ?_);(iterate 3 (exact sd));rintro _ _ ⟨rfl,rfl⟩))<;>(try simp (disch:=omega) only [push_cast,seval,hm,hv]))
 | (refine Afz ⟨.inr rfl,_,rfl,?_⟩;(try simp (disch:=omega) only [push_cast,seval,hm,hv]))))
  | true =>
    have hok:=(Coz hv).1
    have q1:okV b sh st ∧ -1000000 ≤ (mem.length:Int) ∧ (mem.length:Int) ≤ 1000000:=⟨hok,by omega,by omega⟩
    rw [seeB_rest hm hv]
    (repeat' (first
 | (first|refine Agz ?_|refine Abz ?_)
 | ((first|refine Ahz ?_);simp (disch:=omega) only [push_cast,seval,l98r0,l98r1,hm,hv])
 | ((first|refine Alz false ?_);simp (disch:=omega) only [push_cast,seval,hm,hv])
 | ((first|((first|refine Akz (Ajz (C9z _ _ ?_ ?_)) ?_|refine Aiz (Ajz (C9z _ _ ?_ ?_)) ⟨_,_,rfl,rfl⟩ ?_);(iterate 2 (exact sd));rintro _ _ ⟨rfl,rfl⟩)|((first|refine Akz (Ajz (Arz _ _ _ _ _ ?_ ?_ ?_)) ?_|refine Aiz (Ajz (Arz _ _ _ _ _ ?_ ?_ ?_)) ⟨_,_,rfl,rfl⟩ ?_);(iterate 3 (exact sd));rintro _ _ ⟨rfl,rfl⟩)|((first|refine Akz (Ajz (sfits_ok _ _ _ _ _ _ ?_ ?_ ?_)) ?_|refine Aiz (Ajz (sfits_ok _ _ _ _ _ _ ?_ ?_ ?_)) ⟨_,_,rfl,rfl⟩ ?_);(iterate 3 (exact sd));rintro _ _ ⟨rfl,rfl⟩))<;>(try simp (disch:=omega) only [push_cast,seval,hm,hv]))
 | (refine Afz ⟨.inr rfl,_,rfl,?_⟩;(try simp (disch:=omega) only [push_cast,seval,hm,hv]))))


theorem Dez (mem:List Int) (b:Int) (sh st:List Int) (q n m:Nat) (hq:mem.length=q) (hn:sh.length=n) (hm:st.length=m) (hb:q ≤ 1099511627776 ∧ n ≤ 1099511627776 ∧ m ≤ 1099511627776):PCall Tryz.prog 55 [.rows false (IL mem) q,.agg [.int .i64 b,.rows false (IL sh) n,.rows false (IL st) m]] (fun r=>r=.bool (seeB mem b sh st)):=by
  subst hq hn hm
  obtain ⟨hb0,hb1,hb2⟩:=hb
  refine Axz l55_eq rfl ?_
  cases hm:vMem mem with
  | false =>
    rw [seeB_mem hm]
    (repeat' (first
 | (first|refine Agz ?_|refine Abz ?_)
 | ((first|refine Ahz ?_);simp (disch:=omega) only [push_cast,seval,l55r0,l55r1,hm])
 | ((first|refine Alz false ?_);simp (disch:=omega) only [push_cast,seval,hm])
 | ((first|((first|refine Akz (Ajz (Ddz _ _ ?_ ?_)) ?_|refine Aiz (Ajz (Ddz _ _ ?_ ?_)) ⟨_,_,rfl,rfl⟩ ?_);(iterate 2 (exact sd));rintro _ _ ⟨rfl,rfl⟩))<;>(try simp (disch:=omega) only [push_cast,seval,hm]))
 | (refine Afz ⟨.inr rfl,_,rfl,?_⟩;(try simp (disch:=omega) only [push_cast,seval,hm]))))
  | true =>
    have e:=fitB_see (b:=b) (sh:=sh) (st:=st) hm
    (repeat' (first
 | (first|refine Agz ?_|refine Abz ?_)
 | ((first|refine Ahz ?_);simp (disch:=omega) only [push_cast,seval,l55r0,l55r1,hm,e])
 | ((first|refine Alz false ?_);simp (disch:=omega) only [push_cast,seval,hm,e])
 | ((first|((first|refine Akz (Ajz (Ddz _ _ ?_ ?_)) ?_|refine Aiz (Ajz (Ddz _ _ ?_ ?_)) ⟨_,_,rfl,rfl⟩ ?_);(iterate 2 (exact sd));rintro _ _ ⟨rfl,rfl⟩)|((first|refine Akz (Ajz (F3z _ _ _ _ _ _ ?_ ?_ ?_)) ?_|refine Aiz (Ajz (F3z _ _ _ _ _ _ ?_ ?_ ?_)) ⟨_,_,rfl,rfl⟩ ?_);(iterate 3 (exact sd));rintro _ _ ⟨rfl,rfl⟩))<;>(try simp (disch:=omega) only [push_cast,seval,hm,e]))
 | (refine Afz ⟨.inr rfl,_,rfl,?_⟩;(try simp (disch:=omega) only [push_cast,seval,hm,e]))))


/-- Two views of an equal shape fit. -/
def twoB (mem:List Int) (b:Int) (sh st:List Int) (b':Int) (sh' st':List Int):Bool:=seeB mem b sh st && seeB mem b' sh' st' && decide (sh=sh')


theorem Lrz (mem:List Int) (b:Int) (sh st:List Int) (b':Int) (sh' st':List Int) (q n m n' m':Nat) (hq:mem.length=q) (hn:sh.length=n) (hm:st.length=m) (hn':sh'.length=n') (hm':st'.length=m') (hb:(q ≤ 1099511627776 ∧ n ≤ 1099511627776 ∧ m ≤ 1099511627776) ∧ n' ≤ 1099511627776 ∧ m' ≤ 1099511627776):PCall Tryz.prog 107 [.rows false (IL mem) q,.agg [.int .i64 b,.rows false (IL sh) n,.rows false (IL st) m],.agg [.int .i64 b',.rows false (IL sh') n',.rows false (IL st') m']] (fun r=>r=.bool (twoB mem b sh st b' sh' st')):=by
  subst hq hn hm hn' hm'
  obtain ⟨⟨hb0,hb1,hb2⟩,hb3,hb4⟩:=hb
  have q1:mem.length ≤ 1099511627776 ∧ sh.length ≤ 1099511627776 ∧ st.length ≤ 1099511627776:=⟨hb0,hb1,hb2⟩
  have q2:mem.length ≤ 1099511627776 ∧ sh'.length ≤ 1099511627776 ∧ st'.length ≤ 1099511627776:=⟨hb0,hb3,hb4⟩
  refine Axz l107_eq rfl ?_
  unfold twoB
  cases h1:seeB mem b sh st with
  | false =>
    (repeat' (first
 | (first|refine Agz ?_|refine Abz ?_)
 | ((first|refine Ahz ?_);simp (disch:=omega) only [push_cast,seval,l107r0,l107r1,h1])
 | ((first|refine Alz false ?_);simp (disch:=omega) only [push_cast,seval,h1])
 | ((first|((first|refine Akz (Ajz (Dlz _ _ _ _ _ _ _ ?_ ?_ ?_ ?_)) ?_|refine Aiz (Ajz (Dlz _ _ _ _ _ _ _ ?_ ?_ ?_ ?_)) ⟨_,_,rfl,rfl⟩ ?_);(iterate 4 (exact sd));rintro _ _ ⟨rfl,rfl⟩))<;>(try simp (disch:=omega) only [push_cast,seval,h1]))
 | (refine Afz ⟨.inr rfl,_,rfl,?_⟩;(try simp (disch:=omega) only [push_cast,seval,h1]))))
    all_goals simp
  | true =>
  cases h2:seeB mem b' sh' st' with
  | false =>
    (repeat' (first
 | (first|refine Agz ?_|refine Abz ?_)
 | ((first|refine Ahz ?_);simp (disch:=omega) only [push_cast,seval,l107r0,l107r1,h1,h2])
 | ((first|refine Alz false ?_);simp (disch:=omega) only [push_cast,seval,h1,h2])
 | ((first|((first|refine Akz (Ajz (Dlz _ _ _ _ _ _ _ ?_ ?_ ?_ ?_)) ?_|refine Aiz (Ajz (Dlz _ _ _ _ _ _ _ ?_ ?_ ?_ ?_)) ⟨_,_,rfl,rfl⟩ ?_);(iterate 4 (exact sd));rintro _ _ ⟨rfl,rfl⟩))<;>(try simp (disch:=omega) only [push_cast,seval,h1,h2]))
 | (refine Afz ⟨.inr rfl,_,rfl,?_⟩;(try simp (disch:=omega) only [push_cast,seval,h1,h2]))))
    all_goals simp
  | true =>
    (repeat' (first
 | (first|refine Agz ?_|refine Abz ?_)
 | ((first|refine Ahz ?_);simp (disch:=omega) only [push_cast,seval,l107r0,l107r1,h1,h2])
 | ((first|refine Alz false ?_);simp (disch:=omega) only [push_cast,seval,h1,h2])
 | ((first|((first|refine Akz (Ajz (Dlz _ _ _ _ _ _ _ ?_ ?_ ?_ ?_)) ?_|refine Aiz (Ajz (Dlz _ _ _ _ _ _ _ ?_ ?_ ?_ ?_)) ⟨_,_,rfl,rfl⟩ ?_);(iterate 4 (exact sd));rintro _ _ ⟨rfl,rfl⟩)|((first|refine Akz (Ajz (Izz _ _ _ _ ?_ ?_ ?_)) ?_|refine Aiz (Ajz (Izz _ _ _ _ ?_ ?_ ?_)) ⟨_,_,rfl,rfl⟩ ?_);(iterate 3 (exact sd));rintro _ _ ⟨rfl,rfl⟩))<;>(try simp (disch:=omega) only [push_cast,seval,h1,h2]))
 | (refine Afz ⟨.inr rfl,_,rfl,?_⟩;(try simp (disch:=omega) only [push_cast,seval,h1,h2]))))
    all_goals simp


theorem Cnz {mem:List Int} {b:Int} {sh st:List Int} (h:seeB mem b sh st=true):okV b sh st ∧ st.length=sh.length ∧ good4 sh ∧ 0 ≤ pr sh ∧ pr sh ≤ 60 ∧ mem.length ≤ 60:=by
  obtain ⟨h1,h2,h3⟩:=Eiz.1 h
  obtain ⟨hok,hl⟩:=Coz h2
  have hs:=Cdz (Crz.1 h2).1
  exact ⟨hok,hl,hs.1,hs.2.1,hs.2.2,(Cuz.1 h1).1⟩


theorem Ilz (mem:List Int) (b:Int) (sh st:List Int) (q n m:Nat) (hq:mem.length=q) (hn:sh.length=n) (hm:st.length=m) (hb:seeB mem b sh st=true):BCall Tryz.prog 52 [.rows false (IL mem) q,.agg [.int .i64 b,.rows false (IL sh) n,.rows false (IL st) m]] [] (OI (takesL mem (offs b sh st))):=by
  subst hq hn hm
  obtain ⟨f1,f2,f3,f4,f5,f6⟩:=Cnz hb
  have hat:=fun k hk=>Iyz (k:=k) hb hk
  have hol:=A8z b sh st
  generalize hL:offs b sh st=L at *
  refine Auz (pins:=[]) (pin:=0) l52_eq rfl rfl rfl ?_
  (repeat' (first
 | (first|refine Agz ?_|refine Abz ?_)
 | ((first|refine Ahz ?_);simp (disch:=omega) only [push_cast,seval,l52r0,l52r1,l52r2,l52r3,l52r4,l52r5,l52r6,l52r7,hL])
 | ((first|refine Alz false ?_);simp (disch:=omega) only [push_cast,seval,hL])
 | ((first|((first|refine Akz (Boz _ _ _ _ _ ?_ ?_ ?_) ?_|refine Aiz (Boz _ _ _ _ _ ?_ ?_ ?_) ⟨_,_,rfl,rfl⟩ ?_);(iterate 3 (exact sd));rintro _ _ ⟨rfl,rfl⟩))<;>(try simp (disch:=omega) only [push_cast,seval,hL]))
 | (refine Afz ⟨.inr rfl,[128],[],_,by decide,rfl,?_⟩;(try simp (disch:=omega) only [push_cast,seval,↓Adz,↓Acz,↓List.map_cons,↓List.map_nil,hL]);(first|done|(show AV.own _ _ _=_ ∧ _)))
 | (refine Afz ⟨.inr rfl,[160],[],_,by decide,rfl,?_⟩;(try simp (disch:=omega) only [push_cast,seval,↓Adz,↓Acz,↓List.map_cons,↓List.map_nil,hL]);(first|done|(show AV.own _ _ _=_ ∧ _)))
 | (refine Afz ⟨.inr rfl,[400],[],_,by decide,rfl,?_⟩;(try simp (disch:=omega) only [push_cast,seval,↓Adz,↓Acz,↓List.map_cons,↓List.map_nil,hL]);(first|done|(show AV.own _ _ _=_ ∧ _)))
 | (refine Afz ⟨.inr rfl,[416],[],_,by decide,rfl,?_⟩;(try simp (disch:=omega) only [push_cast,seval,↓Adz,↓Acz,↓List.map_cons,↓List.map_nil,hL]);(first|done|(show AV.own _ _ _=_ ∧ _)))))
  refine A7z (fun k:Nat=>mkS [(0,RI mem),(5,.own 128 k 1),(6,.own 160 L.length 1),(7,.int .i64 k)] [(128,IL (takesL mem (L.take k))),(160,IL L)])
    (fun k=>k ≤ L.length) (fun k=>L.length - k) 0 (Nat.zero_le _) ?_ ?_
  · have e0:takesL mem []=[]:=rfl
    (refine Sub.of_lists ?_ ?_ ?_ ?_ ?_<;>simp [Vw.mkS,Vw.lk,Vw.hk,AV.inn,innL,Apz,Anz,Aqz,-List.map_set,-List.getD_eq_getElem?_getD,e0])
  · intro k hk
    have e1:(takesL mem (L.take k)).length=k:=by rw [takesL_length];simp;omega
    by_cases hlt:k < L.length
    · obtain ⟨h1,h2⟩:=hat k hlt
      have e2:takesL mem (L.take (k + 1))=takesL mem (L.take k) ++ [mem.getD (L.getD k 0).toNat 0]:=by rw [C7z L k hlt];simp [takesL]
      (repeat' (first
 | (first|refine Agz ?_|refine Abz ?_)
 | ((first|refine Ahz ?_|refine Aez ?_|refine Aoz ?_);simp (disch:=omega) only [push_cast,seval,l52r0,l52r1,l52r2,l52r3,l52r4,l52r5,l52r6,l52r7,e1])
 | ((first|refine Amz (fun h=>?_) (fun h=>?_))<;>(try simp only [h])<;>(try simp only [bitvec_to_nat] at h)<;>(try simp only [h])<;>(first|(exfalso;omega)|(exfalso;simp_all;done)|(simp (disch:=omega) only [push_cast,seval,e1])|skip))
 | (refine Afz ⟨.inr rfl,[128],[],_,by decide,rfl,?_⟩;(try simp (disch:=omega) only [push_cast,seval,↓Adz,↓Acz,↓List.map_cons,↓List.map_nil,e1]))))
      refine ⟨k + 1,by omega,by omega,?_⟩
      (refine Sub.of_lists ?_ ?_ ?_ ?_ ?_<;>simp [Vw.mkS,Vw.lk,Vw.hk,AV.inn,innL,Apz,Anz,Aqz,-List.map_set,-List.getD_eq_getElem?_getD,e2])
    · have:k=L.length:=by omega
      subst this
      rw [List.take_length] at e1
      rw [List.take_length]
      (repeat' (first
 | (first|refine Agz ?_|refine Abz ?_)
 | ((first|refine Ahz ?_|refine Aez ?_|refine A1z ?_);simp (disch:=omega) only [push_cast,seval,l52r0,l52r1,l52r2,l52r3,l52r4,l52r5,l52r6,l52r7,e1])
 | ((first|refine Amz (fun h=>?_) (fun h=>?_))<;>(try simp only [h])<;>(try simp only [bitvec_to_nat] at h)<;>(try simp only [h])<;>(first|(exfalso;omega)|(exfalso;simp_all;done)|(simp (disch:=omega) only [push_cast,seval,e1])|skip))
 | (refine Afz ⟨.inr rfl,[128],[],_,by decide,rfl,?_⟩;(try simp (disch:=omega) only [push_cast,seval,↓Adz,↓Acz,↓List.map_cons,↓List.map_nil,e1]))))
      all_goals simp [OI,e1]


theorem sput_ok (mem:List Int) (b:Int) (sh st vals:List Int) (q n m v:Nat) (hq:mem.length=q) (hn:sh.length=n) (hm:st.length=m) (hv:vals.length=v) (hb:seeB mem b sh st=true ∧ (v:Int)=pr sh):BCall Tryz.prog 108 [.rows false (IL mem) q,.agg [.int .i64 b,.rows false (IL sh) n,.rows false (IL st) m],.rows false (IL vals) v] [] (OI (putL mem (offs b sh st) vals)):=by
  subst hq hn hm hv
  obtain ⟨hb,hvp⟩:=hb
  obtain ⟨f1,f2,f3,f4,f5,f6⟩:=Cnz hb
  have hat:=fun k hk=>Iyz (k:=k) hb hk
  have hol:=A8z b sh st
  have hvl:vals.length=(offs b sh st).length:=by omega
  generalize hL:offs b sh st=L at *
  have hpl:mem.length ≤ 1099511627776:=by omega
  refine Auz (pins:=[]) (pin:=0) l108_eq rfl rfl rfl ?_
  (repeat' (first
 | (first|refine Agz ?_|refine Abz ?_)
 | ((first|refine Ahz ?_);simp (disch:=omega) only [push_cast,seval,l108r0,l108r1,l108r2,l108r3,l108r4,l108r5a,l108r5b,l108r5,l108r6,l108r7,hL])
 | ((first|refine Alz false ?_);simp (disch:=omega) only [push_cast,seval,hL])
 | ((first|((first|refine Akz (Cjz _ _ ?_ ?_) ?_|refine Aiz (Cjz _ _ ?_ ?_) ⟨_,_,rfl,rfl⟩ ?_);(iterate 2 (exact sd));rintro _ _ ⟨rfl,rfl⟩)|((first|refine Akz (Boz _ _ _ _ _ ?_ ?_ ?_) ?_|refine Aiz (Boz _ _ _ _ _ ?_ ?_ ?_) ⟨_,_,rfl,rfl⟩ ?_);(iterate 3 (exact sd));rintro _ _ ⟨rfl,rfl⟩))<;>(try simp (disch:=omega) only [push_cast,seval,hL]))
 | (refine Afz ⟨.inr rfl,[176],[],_,by decide,rfl,?_⟩;(try simp (disch:=omega) only [push_cast,seval,↓Adz,↓Acz,↓List.map_cons,↓List.map_nil,hL]);(first|done|(show AV.own _ _ _=_ ∧ _)))
 | (refine Afz ⟨.inr rfl,[208],[],_,by decide,rfl,?_⟩;(try simp (disch:=omega) only [push_cast,seval,↓Adz,↓Acz,↓List.map_cons,↓List.map_nil,hL]);(first|done|(show AV.own _ _ _=_ ∧ _)))))
  refine A7z (fun k:Nat=>mkS [(2,RI vals),(7,.own 176 mem.length 1),(8,.own 208 L.length 1),(9,.int .i64 k)] [(176,IL (putK mem L vals k)),(208,IL L)])
    (fun k=>k ≤ L.length) (fun k=>L.length - k) 0 (Nat.zero_le _) ?_ ?_
  · have e0:putK mem L vals 0=mem:=rfl
    (refine Sub.of_lists ?_ ?_ ?_ ?_ ?_<;>simp [Vw.mkS,Vw.lk,Vw.hk,AV.inn,innL,Apz,Anz,Aqz,-List.map_set,-List.getD_eq_getElem?_getD,e0])
  · intro k hk
    have e1:=C2z mem L vals k
    by_cases hlt:k < L.length
    · obtain ⟨h1,h2⟩:=hat k hlt
      have h3:(L.getD k 0).toNat < mem.length:=by omega
      have h4:k < vals.length:=by omega
      have e2:putK mem L vals (k + 1)=(putK mem L vals k).set (L.getD k 0).toNat (vals.getD k 0):=rfl
      generalize putK mem L vals k=p at *
      (repeat' (first
 | (first|refine Agz ?_|refine Abz ?_)
 | ((first|refine Ahz ?_|refine Awz (mid:=l108r5a) (post:=l108r5b) mixed (by decide) ?_|refine Aez ?_|refine Aoz ?_);simp (disch:=omega) only [push_cast,seval,l108r0,l108r1,l108r2,l108r3,l108r4,l108r5a,l108r5b,l108r5,l108r6,l108r7,e1])
 | ((first|refine Amz (fun h=>?_) (fun h=>?_))<;>(try simp only [h])<;>(try simp only [bitvec_to_nat] at h)<;>(try simp only [h])<;>(first|(exfalso;omega)|(exfalso;simp_all;done)|(simp (disch:=omega) only [push_cast,seval,e1])|skip))
 | (refine Afz ⟨.inr rfl,[176],[],_,by decide,rfl,?_⟩;(try simp (disch:=omega) only [push_cast,seval,↓Adz,↓Acz,↓List.map_cons,↓List.map_nil,e1]))))
      refine ⟨k + 1,by omega,by omega,?_⟩
      (refine Sub.of_lists ?_ ?_ ?_ ?_ ?_<;>simp [Vw.mkS,Vw.lk,Vw.hk,AV.inn,innL,Apz,Anz,Aqz,-List.map_set,-List.getD_eq_getElem?_getD,e2,Bkz])
    · have hke:k=L.length:=by omega
      have e3:putK mem L vals k=putL mem L vals:=by rw [hke];rfl
      rw [e3] at e1
      rw [e3]
      (repeat' (first
 | (first|refine Agz ?_|refine Abz ?_)
 | ((first|refine Ahz ?_|refine Aez ?_|refine A1z ?_);simp (disch:=omega) only [push_cast,seval,l108r0,l108r1,l108r2,l108r3,l108r4,l108r5a,l108r5b,l108r5,l108r6,l108r7,e1])
 | ((first|refine Amz (fun h=>?_) (fun h=>?_))<;>(try simp only [h])<;>(try simp only [bitvec_to_nat] at h)<;>(try simp only [h])<;>(first|(exfalso;omega)|(exfalso;simp_all;done)|(simp (disch:=omega) only [push_cast,seval,e1])|skip))
 | (refine Afz ⟨.inr rfl,[176],[],_,by decide,rfl,?_⟩;(try simp (disch:=omega) only [push_cast,seval,↓Adz,↓Acz,↓List.map_cons,↓List.map_nil,e1]))))
      all_goals simp [OI,e1]

end Go.Proofs.YtkpcjppnjmhanaaGreatDoor
namespace Go.Proofs.YtkpcjppnjmhanaaGreatDoor
open VwM Vw Go
variable [SentA]

theorem Ikz (b:Int) (sh st:List Int) (n m:Nat) (hn:sh.length=n) (hm:st.length=m) (hb:good4 sh ∧ m=n):PCall Tryz.prog 93 [.agg [.int .i64 b,.rows false (IL sh) n,.rows false (IL st) m]] (fun r=>r=.int .i64 (wdt sh st)):=by
  subst hn hm
  obtain ⟨hg,hl⟩:=hb
  have h4:=hg.2
  refine Axz l93_eq rfl ?_
  unfold wdt
  by_cases h0:sh.length=0
  · have h0':(sh.length:Int)=0:=by omega
    rw [if_pos h0]
    (repeat' (first
 | (first|refine Agz ?_|refine Abz ?_)
 | ((first|refine Ahz ?_|refine Aez ?_);simp (disch:=omega) only [push_cast,seval,l93r0,l93r1,l93r2,l93r3,l93r4,h0'])
 | (refine Afz ⟨.inr rfl,_,rfl,?_⟩;(try simp (disch:=omega) only [push_cast,seval,h0']))))
    all_goals simp
  · rw [if_neg h0]
    obtain ⟨k,hk⟩:∃ k,sh.length=k + 1:=⟨sh.length - 1,by omega⟩
    have hk':(sh.length:Int)=(k:Int) + 1:=by omega
    have e1:(k:Int) + 1 - 1=(k:Int):=by omega
    have hgd:=Cpz hg (k:=k) (by omega)
    have hks:k < sh.length:=by omega
    have hkt:k < st.length:=by omega
    rw [hk,Nat.add_sub_cancel]
    by_cases h1:st.getD k 0=1
    · rw [if_pos h1]
      have e2:(((sh.getD k 0).toNat:Nat):Int)=sh.getD k 0:=by omega
      rw [e2]
      (repeat' (first
 | (first|refine Agz ?_|refine Abz ?_)
 | ((first|refine Ahz ?_|refine Aez ?_|refine Aoz ?_);simp (disch:=omega) only [push_cast,seval,l93r0,l93r1,l93r2,l93r3,l93r4,hk',e1,h1])
 | ((first|refine Amz (fun h=>?_) (fun h=>?_)|refine Bez (fun h=>?_) (fun h=>?_))<;>(try simp only [h])<;>(try simp only [bitvec_to_nat] at h)<;>(try simp only [h])<;>(first|(exfalso;omega)|(exfalso;simp_all;done)|(simp (disch:=omega) only [push_cast,seval,hk',e1,h1])|skip))
 | (refine Afz ⟨.inr rfl,_,rfl,?_⟩;(try simp (disch:=omega) only [push_cast,seval,hk',e1,h1]))))
    · rw [if_neg h1]
      (repeat' (first
 | (first|refine Agz ?_|refine Abz ?_)
 | ((first|refine Ahz ?_|refine Aez ?_);simp (disch:=omega) only [push_cast,seval,l93r0,l93r1,l93r2,l93r3,l93r4,hk',e1,h1])
 | ((first|refine Bez (fun h=>?_) (fun h=>?_))<;>(try simp only [h])<;>(try simp only [bitvec_to_nat] at h)<;>(try simp only [h])<;>(first|(exfalso;omega)|(exfalso;simp_all;done)|(simp (disch:=omega) only [push_cast,seval,hk',e1,h1])|skip))
 | (refine Afz ⟨.inr rfl,_,rfl,?_⟩;(try simp (disch:=omega) only [push_cast,seval,hk',e1,h1]))))
      all_goals simp


theorem rowOfO_ok (xs:List Int) (n:Nat) (a w:Int) (hn:xs.length=n) (hb:(0 ≤ a ∧ 0 ≤ w) ∧ a + w ≤ n ∧ n ≤ 1000):BCall Tryz.prog 94 [.own 0 n 1,.int .i64 a,.int .i64 w] [IL xs] (fun r H'=>r=.osl 0 n a.toNat w.toNat 1 w.toNat ∧ H'=[IL xs]):=by
  subst hn
  obtain ⟨⟨h0,h1⟩,h2,h3⟩:=hb
  obtain ⟨a,rfl⟩:∃ k:Nat,a=k:=⟨a.toNat,by omega⟩
  obtain ⟨w,rfl⟩:∃ k:Nat,w=k:=⟨w.toNat,by omega⟩
  refine Auz (pins:=[0]) (pin:=1) l94_eq rfl rfl rfl ?_
  have e1:((a:Int) + (w:Int)).toNat=a + w:=by omega
  have e2:a + w - a=w:=by omega
  simp only [Int.toNat_natCast]
  (repeat' (first
 | (first|refine Agz ?_|refine Abz ?_)
 | ((first|refine Ahz ?_);simp (disch:=omega) only [push_cast,seval,l94r0,l94r1,l94r2,e1,e2,Nat.zero_add,Nat.mul_one])
 | (refine Afz ⟨.inr rfl,[],[],_,by decide,rfl,?_⟩;(try simp (disch:=omega) only [push_cast,seval,↓Adz,↓Acz,↓List.map_cons,↓List.map_nil,e1,e2,Nat.zero_add,Nat.mul_one]))))
theorem rowOfR_ok (xs:List Int) (n:Nat) (a w:Int) (hn:xs.length=n) (hb:(0 ≤ a ∧ 0 ≤ w) ∧ a + w ≤ n ∧ n ≤ 1000):BCall Tryz.prog 94 [.rows false (IL xs) n,.int .i64 a,.int .i64 w] [] (fun r H'=>r=.rows false (IL ((xs.drop a.toNat).take w.toNat)) w.toNat ∧ H'=[]):=by
  subst hn
  obtain ⟨⟨h0,h1⟩,h2,h3⟩:=hb
  obtain ⟨a,rfl⟩:∃ k:Nat,a=k:=⟨a.toNat,by omega⟩
  obtain ⟨w,rfl⟩:∃ k:Nat,w=k:=⟨w.toNat,by omega⟩
  refine Auz (pins:=[]) (pin:=0) l94_eq rfl rfl rfl ?_
  have e1:((a:Int) + (w:Int)).toNat=a + w:=by omega
  have e2:a + w - a=w:=by omega
  simp only [Int.toNat_natCast]
  (repeat' (first
 | (first|refine Agz ?_|refine Abz ?_)
 | ((first|refine Ahz ?_);simp (disch:=omega) only [push_cast,seval,l94r0,l94r1,l94r2,e1,e2,IL_td,Nat.zero_add,Nat.mul_one])
 | (refine Afz ⟨.inr rfl,[],[],_,by decide,rfl,?_⟩;(try simp (disch:=omega) only [push_cast,seval,↓Adz,↓Acz,↓List.map_cons,↓List.map_nil,e1,e2,IL_td,Nat.zero_add,Nat.mul_one]))))


set_option maxHeartbeats 8000000 in
theorem loaded_ok (mem:List Int) (b:Int) (sh st:List Int) (q n m:Nat) (hq:mem.length=q) (hn:sh.length=n) (hm:st.length=m) (hb:seeB mem b sh st=true):BCall Tryz.prog 56 [.rows false (IL mem) q,.agg [.int .i64 b,.rows false (IL sh) n,.rows false (IL st) m]] [] (OI (takesL mem (offs b sh st))):=by
  subst hq hn hm
  obtain ⟨f1,f2,f3,f4,f5,f6⟩:=Cnz hb
  have hat:=fun k hk=>Iyz (k:=k) hb hk
  have hol:=A8z b sh st
  have hrow:=fun (k j:Nat) hk hj h=>offs_rowW (b:=b) (sh:=sh) (st:=st) (k:=k) (j:=j) f3 hk hj h
  have hdv:=wdt_dvd (st:=st) f3
  have hwl:=wdt_le (st:=st) f3
  have hwp:=wdt_pos (st:=st) f3
  have q1:okV b sh st ∧ st.length=sh.length:=⟨f1,f2⟩
  have q2:good4 sh ∧ st.length=sh.length:=⟨f3,f2⟩
  generalize hL:offs b sh st=L at *
  generalize hW:wdt sh st=W at *
  refine Auz (pins:=[]) (pin:=0) l56_eq rfl rfl rfl ?_
  (repeat' (first
 | (first|refine Agz ?_|refine Abz ?_)
 | ((first|refine Ahz ?_|refine Awz (mid:=l56r1a) (post:=l56r1b) mixed (by decide) ?_);simp (disch:=omega) only [push_cast,seval,l56r0,l56r1a,l56r1b,l56r1,l56r2,l56r3,l56r4,l56r5a,l56r5b,l56r5,l56r6,l56r7,hL,hW])
 | ((first|refine Alz false ?_|refine A2z false ?_);simp (disch:=omega) only [push_cast,seval,hL,hW])
 | ((first|((first|refine Akz (D7z _ _ _ _ _ ?_ ?_ ?_) ?_|refine Aiz (D7z _ _ _ _ _ ?_ ?_ ?_) ⟨_,_,rfl,rfl⟩ ?_);(iterate 3 (exact sd));rintro _ _ ⟨rfl,rfl⟩)|((first|refine Akz (Ajz (Ikz _ _ _ _ _ ?_ ?_ ?_)) ?_|refine Aiz (Ajz (Ikz _ _ _ _ _ ?_ ?_ ?_)) ⟨_,_,rfl,rfl⟩ ?_);(iterate 3 (exact sd));rintro _ _ ⟨rfl,rfl⟩))<;>(try simp (disch:=omega) only [push_cast,seval,hL,hW]))
 | (refine Afz ⟨.inr rfl,[240],[],_,by decide,rfl,?_⟩;(try simp (disch:=omega) only [push_cast,seval,↓Adz,↓Acz,↓List.map_cons,↓List.map_nil,hL,hW]))))
  refine A7z (fun k:Nat=>mkS [(0,RI mem),(5,.own 160 L.length 1),(6,.int .i64 W),(7,.own 240 L.length 1),(8,.int .i64 k)] [(240,IL (filled (fun k=>mem.getD (L.getD k 0).toNat 0) L.length k)),(160,IL L)])
    (fun k=>k ≤ L.length ∧ W ∣ k) (fun k=>L.length - k) 0 ⟨Nat.zero_le _,Nat.dvd_zero _⟩ ?_ ?_
  · (refine Sub.of_lists ?_ ?_ ?_ ?_ ?_<;>simp [Vw.mkS,Vw.lk,Vw.hk,AV.inn,innL,Apz,Anz,Aqz,-List.map_set,-List.getD_eq_getElem?_getD,Jxz])
  · rintro k ⟨hk,hkd⟩
    have e1:=E1z (fun k=>mem.getD (L.getD k 0).toNat 0) L.length k
    by_cases hlt:k < L.length
    · have hw1:=hwp (by omega)
      have hend:=row_end hw1 hdv hkd (by omega)
      obtain ⟨h1,h2⟩:=hat k hlt
      have hlast:=hat (k + (W - 1)) (by omega)
      rw [hrow k (W - 1) hkd (by omega) (by omega)] at hlast
      obtain ⟨c,hc⟩:∃ c:Nat,L.getD k 0=c:=⟨(L.getD k 0).toNat,by omega⟩
      have hr:=load_row (mem:=mem) (cells:=L) (n:=L.length) (k:=k) W (by omega) (by omega) (fun j hj=>by rw [hrow k j hkd hj (by omega)];omega)
      rw [hc] at hr
      rw [Int.toNat_natCast] at hr
      have hcw:c + W ≤ mem.length:=by omega
      have hkw:k + W ≤ L.length:=by omega
      have e2:min W W=W:=Nat.min_self W
      generalize hF:filled (fun k=>mem.getD (L.getD k 0).toNat 0) L.length k=F at *
      have e4:(((mem.drop c).take W).map (AV.int .i64)).take W=((mem.drop c).take W).map (AV.int .i64):=by rw [← List.map_take,List.take_take,Nat.min_self]
      have e5:((mem.drop c).take W).length=W:=by simp;omega
      (repeat' (first
 | (first|refine Agz ?_|refine Abz ?_)
 | ((first|refine Ahz ?_|refine Bsz (mid:=l56r5a) (post:=l56r5b) [192,240] mixed (by decide) ?_|refine Aez ?_|refine Aoz ?_);simp (disch:=omega) only [push_cast,seval,l56r0,l56r1a,l56r1b,l56r1,l56r2,l56r3,l56r4,l56r5a,l56r5b,l56r5,l56r6,l56r7,hc,e1,e2,e4,e5,hr,Int.toNat_natCast])
 | ((first|refine Amz (fun h=>?_) (fun h=>?_))<;>(try simp only [h])<;>(try simp only [bitvec_to_nat] at h)<;>(try simp only [h])<;>(first|(exfalso;omega)|(exfalso;simp_all;done)|(simp (disch:=omega) only [push_cast,seval,hc,e1,e2,e4,e5,hr,Int.toNat_natCast])|skip))
 | ((first|((with_reducible refine Emz (f:=94) [240] false ?_);simp (disch:=omega) only [push_cast,seval,hc,e1,e2,e4,e5,hr,Int.toNat_natCast];(refine I5z (id:=240) (rowOfO_ok _ _ _ _ ?_ ?_) (by (simp (disch:=omega) only [push_cast,seval,hc,e1,e2,e4,e5,hr,Int.toNat_natCast])<;>rfl) (by decide) ⟨_,_,rfl,rfl⟩ ?_;(iterate 2 (exact sd));rintro _ _ ⟨rfl,rfl⟩))|((with_reducible refine Alz (f:=94) true ?_);simp (disch:=omega) only [push_cast,seval,hc,e1,e2,e4,e5,hr,Int.toNat_natCast];(refine Akz (rowOfR_ok _ _ _ _ ?_ ?_) ?_;(iterate 2 (exact sd));rintro _ _ ⟨rfl,rfl⟩)))<;>(try simp (disch:=omega) only [push_cast,seval,hc,e1,e2,e4,e5,hr,Int.toNat_natCast]))
 | (refine Afz ⟨.inr rfl,[240],[],_,by decide,rfl,?_⟩;(try simp (disch:=omega) only [push_cast,seval,↓Adz,↓Acz,↓List.map_cons,↓List.map_nil,hc,e1,e2,e4,e5,hr,Int.toNat_natCast]))))
      refine ⟨k + W,⟨by omega,Nat.dvd_add hkd (Nat.dvd_refl W)⟩,by omega,?_⟩
      (refine Sub.of_lists ?_ ?_ ?_ ?_ ?_<;>simp [Vw.mkS,Vw.lk,Vw.hk,AV.inn,innL,Apz,Anz,Aqz,-List.map_set,-List.getD_eq_getElem?_getD,hr])
    · have hke:k=L.length:=by omega
      subst hke
      rw [G1z] at e1
      rw [G1z]
      (repeat' (first
 | (first|refine Agz ?_|refine Abz ?_)
 | ((first|refine Ahz ?_|refine Aez ?_|refine A1z ?_);simp (disch:=omega) only [push_cast,seval,l56r0,l56r1a,l56r1b,l56r1,l56r2,l56r3,l56r4,l56r5a,l56r5b,l56r5,l56r6,l56r7,e1])
 | ((first|refine Amz (fun h=>?_) (fun h=>?_))<;>(try simp only [h])<;>(try simp only [bitvec_to_nat] at h)<;>(try simp only [h])<;>(first|(exfalso;omega)|(exfalso;simp_all;done)|(simp (disch:=omega) only [push_cast,seval,e1])|skip))
 | (refine Afz ⟨.inr rfl,[240],[],_,by decide,rfl,?_⟩;(try simp (disch:=omega) only [push_cast,seval,↓Adz,↓Acz,↓List.map_cons,↓List.map_nil,e1]))))
      all_goals simp [OI,e1]

end Go.Proofs.YtkpcjppnjmhanaaGreatDoor
namespace Go.Proofs.YtkpcjppnjmhanaaGreatDoor
open VwM Vw Go
variable [SentA]

set_option maxHeartbeats 8000000 in
theorem stored_ok (mem:List Int) (b:Int) (sh st vals:List Int) (q n m v:Nat) (hq:mem.length=q) (hn:sh.length=n) (hm:st.length=m) (hv:vals.length=v) (hb:seeB mem b sh st=true ∧ (v:Int)=pr sh):BCall Tryz.prog 95 [.rows false (IL mem) q,.agg [.int .i64 b,.rows false (IL sh) n,.rows false (IL st) m],.rows false (IL vals) v] [] (OI (putL mem (offs b sh st) vals)):=by
  subst hq hn hm hv
  obtain ⟨hb,hvp⟩:=hb
  obtain ⟨f1,f2,f3,f4,f5,f6⟩:=Cnz hb
  have hat:=fun k hk=>Iyz (k:=k) hb hk
  have hol:=A8z b sh st
  have hrow:=fun (k j:Nat) hk hj h=>offs_rowW (b:=b) (sh:=sh) (st:=st) (k:=k) (j:=j) f3 hk hj h
  have hdv:=wdt_dvd (st:=st) f3
  have hwl:=wdt_le (st:=st) f3
  have hwp:=wdt_pos (st:=st) f3
  have q1:okV b sh st ∧ st.length=sh.length:=⟨f1,f2⟩
  have q2:good4 sh ∧ st.length=sh.length:=⟨f3,f2⟩
  have hvl:vals.length=(offs b sh st).length:=by omega
  generalize hL:offs b sh st=L at *
  generalize hW:wdt sh st=W at *
  have hml:mem.length ≤ 1099511627776:=by omega
  refine Auz (pins:=[]) (pin:=0) l95_eq rfl rfl rfl ?_
  (repeat' (first
 | (first|refine Agz ?_|refine Abz ?_)
 | ((first|refine Ahz ?_|refine Awz (mid:=l95r2a) (post:=l95r2b) mixed (by decide) ?_);simp (disch:=omega) only [push_cast,seval,l95r0,l95r1,l95r2a,l95r2b,l95r2,l95r3,l95r4,l95r5,l95r6,l95r7,hL,hW])
 | ((first|refine Alz false ?_|refine A2z false ?_);simp (disch:=omega) only [push_cast,seval,hL,hW])
 | ((first|((first|refine Akz (F7z _ _ ?_ ?_) ?_|refine Aiz (F7z _ _ ?_ ?_) ⟨_,_,rfl,rfl⟩ ?_);(iterate 2 (exact sd));rintro _ _ ⟨rfl,rfl⟩)|((first|refine Akz (D7z _ _ _ _ _ ?_ ?_ ?_) ?_|refine Aiz (D7z _ _ _ _ _ ?_ ?_ ?_) ⟨_,_,rfl,rfl⟩ ?_);(iterate 3 (exact sd));rintro _ _ ⟨rfl,rfl⟩)|((first|refine Akz (Ajz (Ikz _ _ _ _ _ ?_ ?_ ?_)) ?_|refine Aiz (Ajz (Ikz _ _ _ _ _ ?_ ?_ ?_)) ⟨_,_,rfl,rfl⟩ ?_);(iterate 3 (exact sd));rintro _ _ ⟨rfl,rfl⟩))<;>(try simp (disch:=omega) only [push_cast,seval,hL,hW]))
 | (refine Afz ⟨.inr rfl,[192],[],_,by decide,rfl,?_⟩;(try simp (disch:=omega) only [push_cast,seval,↓Adz,↓Acz,↓List.map_cons,↓List.map_nil,hL,hW]))))
  refine A7z (fun k:Nat=>mkS [(2,RI vals),(7,.own 192 mem.length 1),(8,.own 224 L.length 1),(9,.int .i64 W),(10,.int .i64 k)] [(192,IL (putK mem L vals k)),(224,IL L)])
    (fun k=>k ≤ L.length ∧ W ∣ k) (fun k=>L.length - k) 0 ⟨Nat.zero_le _,Nat.dvd_zero _⟩ ?_ ?_
  · have e0:putK mem L vals 0=mem:=rfl
    (refine Sub.of_lists ?_ ?_ ?_ ?_ ?_<;>simp [Vw.mkS,Vw.lk,Vw.hk,AV.inn,innL,Apz,Anz,Aqz,-List.map_set,-List.getD_eq_getElem?_getD,e0])
  · rintro k ⟨hk,hkd⟩
    have e1:=C2z mem L vals k
    by_cases hlt:k < L.length
    · have hw1:=hwp (by omega)
      have hend:=row_end hw1 hdv hkd (by omega)
      obtain ⟨h1,h2⟩:=hat k hlt
      have hlast:=hat (k + (W - 1)) (by omega)
      rw [hrow k (W - 1) hkd (by omega) (by omega)] at hlast
      obtain ⟨c,hc⟩:∃ c:Nat,L.getD k 0=c:=⟨(L.getD k 0).toNat,by omega⟩
      have hr:=putK_row (mem:=mem) (cells:=L) (vals:=vals) (k:=k) W (by omega) (fun j hj=>by rw [hrow k j hkd hj (by omega)];omega)
      rw [hc] at hr
      rw [Int.toNat_natCast] at hr
      have hcw:c + W ≤ mem.length:=by omega
      have hkw:k + W ≤ vals.length:=by omega
      have e2:min W W=W:=Nat.min_self W
      generalize hF:putK mem L vals k=F at *
      have e4:(((vals.drop k).take W).map (AV.int .i64)).take W=((vals.drop k).take W).map (AV.int .i64):=by rw [← List.map_take,List.take_take,Nat.min_self]
      have e5:((vals.drop k).take W).length=W:=by simp;omega
      (repeat' (first
 | (first|refine Agz ?_|refine Abz ?_)
 | ((first|refine Ahz ?_|refine Aez ?_|refine Aoz ?_);simp (disch:=omega) only [push_cast,seval,l95r0,l95r1,l95r2a,l95r2b,l95r2,l95r3,l95r4,l95r5,l95r6,l95r7,hc,e1,e2,e4,e5,hr,Int.toNat_natCast])
 | ((first|refine Amz (fun h=>?_) (fun h=>?_))<;>(try simp only [h])<;>(try simp only [bitvec_to_nat] at h)<;>(try simp only [h])<;>(first|(exfalso;omega)|(exfalso;simp_all;done)|(simp (disch:=omega) only [push_cast,seval,hc,e1,e2,e4,e5,hr,Int.toNat_natCast])|skip))
 | ((first|((with_reducible refine A6z (f:=94) [192] false ?_);simp (disch:=omega) only [push_cast,seval,hc,e1,e2,e4,e5,hr,Int.toNat_natCast];(refine E8z (id:=192) (rowOfO_ok _ _ _ _ ?_ ?_) (by (simp (disch:=omega) only [push_cast,seval,hc,e1,e2,e4,e5,hr,Int.toNat_natCast])<;>rfl) ?_;(iterate 2 (exact sd));rintro _ _ ⟨rfl,rfl⟩))|((with_reducible refine Alz (f:=94) true ?_);simp (disch:=omega) only [push_cast,seval,hc,e1,e2,e4,e5,hr,Int.toNat_natCast];(refine Akz (rowOfR_ok _ _ _ _ ?_ ?_) ?_;(iterate 2 (exact sd));rintro _ _ ⟨rfl,rfl⟩)))<;>(try simp (disch:=omega) only [push_cast,seval,hc,e1,e2,e4,e5,hr,Int.toNat_natCast]))
 | (refine Afz ⟨.inr rfl,[192],[],_,by decide,rfl,?_⟩;(try simp (disch:=omega) only [push_cast,seval,↓Adz,↓Acz,↓List.map_cons,↓List.map_nil,hc,e1,e2,e4,e5,hr,Int.toNat_natCast]))))
      refine ⟨k + W,⟨by omega,Nat.dvd_add hkd (Nat.dvd_refl W)⟩,by omega,?_⟩
      (refine Sub.of_lists ?_ ?_ ?_ ?_ ?_<;>simp [Vw.mkS,Vw.lk,Vw.hk,AV.inn,innL,Apz,Anz,Aqz,-List.map_set,-List.getD_eq_getElem?_getD,hr])
    · have hke:k=L.length:=by omega
      have e3:putK mem L vals k=putL mem L vals:=by rw [hke];rfl
      rw [e3] at e1
      rw [e3]
      (repeat' (first
 | (first|refine Agz ?_|refine Abz ?_)
 | ((first|refine Ahz ?_|refine Aez ?_|refine A1z ?_);simp (disch:=omega) only [push_cast,seval,l95r0,l95r1,l95r2a,l95r2b,l95r2,l95r3,l95r4,l95r5,l95r6,l95r7,e1])
 | ((first|refine Amz (fun h=>?_) (fun h=>?_))<;>(try simp only [h])<;>(try simp only [bitvec_to_nat] at h)<;>(try simp only [h])<;>(first|(exfalso;omega)|(exfalso;simp_all;done)|(simp (disch:=omega) only [push_cast,seval,e1])|skip))
 | (refine Afz ⟨.inr rfl,[192],[],_,by decide,rfl,?_⟩;(try simp (disch:=omega) only [push_cast,seval,↓Adz,↓Acz,↓List.map_cons,↓List.map_nil,e1]))))
      all_goals simp [OI,e1]

end Go.Proofs.YtkpcjppnjmhanaaGreatDoor
namespace Go.Proofs.YtkpcjppnjmhanaaGreatDoor
open VwM Vw Go
variable [SentA]

end Go.Proofs.YtkpcjppnjmhanaaGreatDoor
namespace Go.Proofs.YtkpcjppnjmhanaaGreatDoor
open VwM Vw Go
variable [SentA]

end Go.Proofs.YtkpcjppnjmhanaaGreatDoor
namespace Go.Proofs.YtkpcjppnjmhanaaGreatDoor
open VwM Vw Go
variable [SentA]

/-- A list and whether there is one: nothing without. -/
abbrev TB (v:Bool) (l:List Int):AV → List (List AV) → Prop:=fun r H'=>r=.tup [.own 0 (MVL v l).length 1,.bool v] ∧ H'=[IL (MVL v l)]
theorem MVL_true (l:List Int):MVL true l=l:=rfl
theorem MVL_false (l:List Int):MVL false l=[]:=rfl
theorem two_facts {mem:List Int} {b b':Int} {sh st sh' st':List Int} (h:twoB mem b sh st b' sh' st'=true):seeB mem b sh st=true ∧ seeB mem b' sh' st'=true ∧ sh=sh':=by
  simp only [twoB,Bool.and_eq_true,decide_eq_true_eq] at h
  exact ⟨h.1.1,h.1.2,h.2⟩
theorem iLoad_ok (mem:List Int) (b:Int) (sh st:List Int) (q n m:Nat) (hq:mem.length=q) (hn:sh.length=n) (hm:st.length=m) (hb:q ≤ 1099511627776 ∧ n ≤ 1099511627776 ∧ m ≤ 1099511627776):BCall Tryz.prog 20 [.rows false (IL mem) q,.agg [.int .i64 b,.rows false (IL sh) n,.rows false (IL st) m]] [] (OI (MVL (seeB mem b sh st) (takesL mem (offs b sh st)))):=by
  subst hq hn hm
  refine Auz (pins:=[]) (pin:=0) l20_eq rfl rfl rfl ?_
  cases h1:seeB mem b sh st with
  | false =>
    (repeat' (first
 | (first|refine Agz ?_|refine Abz ?_)
 | ((first|refine Ahz ?_|refine Aez ?_);simp (disch:=omega) only [push_cast,seval,l20r0,l20r1,l20r2,l20r3,h1])
 | ((first|refine Alz false ?_);simp (disch:=omega) only [push_cast,seval,h1])
 | ((first|((first|refine Akz (Ajz (Dez _ _ _ _ _ _ _ ?_ ?_ ?_ ?_)) ?_|refine Aiz (Ajz (Dez _ _ _ _ _ _ _ ?_ ?_ ?_ ?_)) ⟨_,_,rfl,rfl⟩ ?_);(iterate 4 (exact sd));rintro _ _ ⟨rfl,rfl⟩))<;>(try simp (disch:=omega) only [push_cast,seval,h1]))
 | (refine Afz ⟨.inr rfl,[16000],[(16000,1)],_,by decide,rfl,?_⟩;(try simp (disch:=omega) only [push_cast,seval,↓Adz,↓Acz,↓List.map_cons,↓List.map_nil,h1]))))
    all_goals simp [OI,MVL]
  | true =>
    (repeat' (first
 | (first|refine Agz ?_|refine Abz ?_)
 | ((first|refine Ahz ?_|refine Aez ?_|refine Aoz ?_);simp (disch:=omega) only [push_cast,seval,l20r0,l20r1,l20r2,l20r3,h1])
 | ((first|refine Alz false ?_);simp (disch:=omega) only [push_cast,seval,h1])
 | ((first|((first|refine Akz (Ajz (Dez _ _ _ _ _ _ _ ?_ ?_ ?_ ?_)) ?_|refine Aiz (Ajz (Dez _ _ _ _ _ _ _ ?_ ?_ ?_ ?_)) ⟨_,_,rfl,rfl⟩ ?_);(iterate 4 (exact sd));rintro _ _ ⟨rfl,rfl⟩)|((first|refine Akz (loaded_ok _ _ _ _ _ _ _ ?_ ?_ ?_ ?_) ?_|refine Aiz (loaded_ok _ _ _ _ _ _ _ ?_ ?_ ?_ ?_) ⟨_,_,rfl,rfl⟩ ?_);(iterate 4 (exact sd));rintro _ _ ⟨rfl,rfl⟩))<;>(try simp (disch:=omega) only [push_cast,seval,h1]))
 | (refine Afz ⟨.inr rfl,[112],[],_,by decide,rfl,?_⟩;(try simp (disch:=omega) only [push_cast,seval,↓Adz,↓Acz,↓List.map_cons,↓List.map_nil,h1]);(first|done|(show AV.own _ _ _=_ ∧ _)))
 | (refine Afz ⟨.inr rfl,[176],[],_,by decide,rfl,?_⟩;(try simp (disch:=omega) only [push_cast,seval,↓Adz,↓Acz,↓List.map_cons,↓List.map_nil,h1]);(first|done|(show AV.own _ _ _=_ ∧ _)))))
    all_goals simp [OI,MVL]


set_option maxHeartbeats 8000000 in
theorem Inz (mem:List Int) (b:Int) (sh st:List Int) (b':Int) (sh' st':List Int) (q n m n' m':Nat) (hq:mem.length=q) (hn:sh.length=n) (hm:st.length=m) (hn':sh'.length=n') (hm':st'.length=m') (hb:(q ≤ 1099511627776 ∧ n ≤ 1099511627776 ∧ m ≤ 1099511627776) ∧ n' ≤ 1099511627776 ∧ m' ≤ 1099511627776):BCall Tryz.prog 67 [.rows false (IL mem) q,.agg [.int .i64 b,.rows false (IL sh) n,.rows false (IL st) m],.agg [.int .i64 b',.rows false (IL sh') n',.rows false (IL st') m']] [] (TB (twoB mem b sh st b' sh' st') (putL mem (offs b sh st) (takesL mem (offs b' sh' st')))):=by
  subst hq hn hm hn' hm'
  obtain ⟨⟨hb0,hb1,hb2⟩,hb3,hb4⟩:=hb
  have q0:(mem.length ≤ 1099511627776 ∧ sh.length ≤ 1099511627776 ∧ st.length ≤ 1099511627776) ∧ sh'.length ≤ 1099511627776 ∧ st'.length ≤ 1099511627776:=⟨⟨hb0,hb1,hb2⟩,hb3,hb4⟩
  refine Auz (pins:=[]) (pin:=0) l67_eq rfl rfl rfl ?_
  cases h:twoB mem b sh st b' sh' st' with
  | false =>
    (repeat' (first
 | (first|refine Agz ?_|refine Abz ?_)
 | ((first|refine Ahz ?_|refine Aez ?_);simp (disch:=omega) only [push_cast,seval,l67r0,l67r1,l67r2,l67r3a,l67r3b,l67r3,h])
 | ((first|refine Alz false ?_);simp (disch:=omega) only [push_cast,seval,h])
 | ((first|((first|refine Akz (Ajz (Lrz _ _ _ _ _ _ _ _ _ _ _ _ ?_ ?_ ?_ ?_ ?_ ?_)) ?_|refine Aiz (Ajz (Lrz _ _ _ _ _ _ _ _ _ _ _ _ ?_ ?_ ?_ ?_ ?_ ?_)) ⟨_,_,rfl,rfl⟩ ?_);(iterate 6 (exact sd));rintro _ _ ⟨rfl,rfl⟩))<;>(try simp (disch:=omega) only [push_cast,seval,h]))
 | (refine Afz ⟨.inr rfl,[16000],[(16000,1)],_,by decide,rfl,?_⟩;(try simp (disch:=omega) only [push_cast,seval,↓Adz,↓Acz,↓List.map_cons,↓List.map_nil,h]))))
    all_goals simp [TB,MVL]
  | true =>
    obtain ⟨h1,h2,h3⟩:=two_facts h
    subst h3
    obtain ⟨f1,f2,f3,f4,f5,f6⟩:=Cnz h1
    obtain ⟨g1,g2,_,_,_,_⟩:=Cnz h2
    have o1:=A8z b sh st
    have o2:=A8z b' sh st'
    have c1:=(Eiz.1 h1).2.2
    have c2:=(Eiz.1 h2).2.2
    have q1:okV b sh st ∧ st.length=sh.length:=⟨f1,f2⟩
    have q2:okV b' sh st' ∧ st'.length=sh.length:=⟨g1,g2⟩
    have hp:(pr sh).toNat ≤ 60:=by omega
    have hpc:(((pr sh).toNat:Nat):Int)=pr sh:=by omega
    have hsp:∃ c:Nat,pr sh=(c:Int) ∧ c ≤ 60:=⟨(pr sh).toNat,by omega,by omega⟩
    obtain ⟨c,hc,hc60⟩:=hsp
    have hlL:(offs b sh st).length=c:=by omega
    have hlL':(offs b' sh st').length=c:=by omega
    generalize hL:offs b sh st=L at *
    generalize hL':offs b' sh st'=L' at *
    have tl:=takesL_length mem L'
    have k1:seeB mem b sh st=true ∧ (L'.length:Int)=pr sh:=⟨h1,by omega⟩
    have k2:(c=c ∧ c=c ∧ mem.length ≤ 60 ∧ c ≤ 60) ∧ (∀ x ∈ L,0 ≤ x ∧ x ≤ (mem.length:Int) - 1) ∧ ∀ x ∈ L',0 ≤ x ∧ x ≤ (mem.length:Int) - 1:=⟨⟨rfl,rfl,f6,hc60⟩,c1,c2⟩
    have k3:(c=c ∧ mem.length ≤ 60 ∧ c ≤ 60) ∧ (∀ x ∈ L,0 ≤ x ∧ x ≤ (mem.length:Int) - 1) ∧ ∀ x ∈ L',0 ≤ x ∧ x ≤ (mem.length:Int) - 1:=⟨⟨rfl,f6,hc60⟩,c1,c2⟩
    have k4:(c=c ∧ mem.length ≤ 60 ∧ c ≤ 60) ∧ (∀ x ∈ L.reverse,0 ≤ x ∧ x ≤ (mem.length:Int) - 1) ∧ ∀ x ∈ L'.reverse,0 ≤ x ∧ x ≤ (mem.length:Int) - 1:=⟨⟨rfl,f6,hc60⟩,fun x hx=>c1 x (List.mem_reverse.1 hx),fun x hx=>c2 x (List.mem_reverse.1 hx)⟩
    have k5:c ≤ 1000:=by omega
    have lrL:L.reverse.length=c:=by rw [List.length_reverse];exact hlL
    have lrL':L'.reverse.length=c:=by rw [List.length_reverse];exact hlL'
    (repeat' (first
 | (first|refine Agz ?_|refine Abz ?_)
 | ((first|refine Ahz ?_|refine Awz (mid:=l67r3a) (post:=l67r3b) mixed (by decide) ?_|refine Aez ?_|refine Aoz ?_);simp (disch:=omega) only [push_cast,seval,l67r0,l67r1,l67r2,l67r3a,l67r3b,l67r3,h,hL,hL',hc,hlL,hlL',tl,lrL,lrL',List.length_reverse,Csz,Int.toNat_natCast])
 | ((first|refine Alz false ?_|refine A2z false ?_);simp (disch:=omega) only [push_cast,seval,h,hL,hL',hc,hlL,hlL',tl,lrL,lrL',List.length_reverse,Csz,Int.toNat_natCast])
 | ((first|((first|refine Akz (Ajz (Lrz _ _ _ _ _ _ _ _ _ _ _ _ ?_ ?_ ?_ ?_ ?_ ?_)) ?_|refine Aiz (Ajz (Lrz _ _ _ _ _ _ _ _ _ _ _ _ ?_ ?_ ?_ ?_ ?_ ?_)) ⟨_,_,rfl,rfl⟩ ?_);(iterate 6 (exact sd));rintro _ _ ⟨rfl,rfl⟩)|((first|refine Akz (Ilz _ _ _ _ _ _ _ ?_ ?_ ?_ ?_) ?_|refine Aiz (Ilz _ _ _ _ _ _ _ ?_ ?_ ?_ ?_) ⟨_,_,rfl,rfl⟩ ?_);(iterate 4 (exact sd));rintro _ _ ⟨rfl,rfl⟩)|((first|refine Akz (sput_ok _ _ _ _ _ _ _ _ _ ?_ ?_ ?_ ?_ ?_) ?_|refine Aiz (sput_ok _ _ _ _ _ _ _ _ _ ?_ ?_ ?_ ?_ ?_) ⟨_,_,rfl,rfl⟩ ?_);(iterate 5 (exact sd));rintro _ _ ⟨rfl,rfl⟩))<;>(try simp (disch:=omega) only [push_cast,seval,h,hL,hL',hc,hlL,hlL',tl,lrL,lrL',List.length_reverse,Csz,Int.toNat_natCast]))
 | (refine Afz ⟨.inr rfl,[288],[],_,by decide,rfl,?_⟩;(try simp (disch:=omega) only [push_cast,seval,↓Adz,↓Acz,↓List.map_cons,↓List.map_nil,h,hL,hL',hc,hlL,hlL',tl,lrL,lrL',List.length_reverse,Csz,Int.toNat_natCast]))))
    all_goals simp [TB,MVL]


theorem Iwz {mem L:List Int} (h:∀ x ∈ mem,0 ≤ x ∧ x ≤ 255):∀ x ∈ takesL mem L,0 ≤ x ∧ x ≤ 255:=by
  intro x hx
  unfold takesL at hx
  obtain ⟨i,_,rfl⟩:=List.mem_map.1 hx
  by_cases hl:i.toNat < mem.length
  · exact h _ (Cez hl)
  · rw [List.getD,List.getElem?_eq_none (Nat.le_of_not_lt hl)]
    exact ⟨Int.le_refl 0,by decide⟩

end Go.Proofs.YtkpcjppnjmhanaaGreatDoor
namespace Go.Proofs.YtkpcjppnjmhanaaGreatDoor
open VwM Vw Go
variable [SentA]

end Go.Proofs.YtkpcjppnjmhanaaGreatDoor
