/- Texts of this verifier. -/
import Derived.Test.YtpicoecbbiiaoaaCB6
import Derived.Test.YtpicoecbbiiaoaaCM1
import Derived.Test.YtpicoecbbiiaoaaCW3
set_option linter.unusedSimpArgs false
set_option linter.unusedVariables false
set_option maxRecDepth 4000
set_option maxHeartbeats 4000000
namespace Go.Proofs.Ytpicoecbbiiaoaa
open VwM Vw Go

set_option maxHeartbeats 8000000 in
theorem iwithout_ok (xs ys:List Int) (n m:Nat) (hn:xs.length=n) (hm:ys.length=m) (hb:n ≤ 1099511627776 ∧ m ≤ 1099511627776):BCall Try.prog 81 [.rows false (IL xs) n,.rows false (IL ys) m] [] (OI (wiL xs ys)):=by
  subst hn hm
  obtain ⟨hb0,hb1⟩:=hb
  refine A6z (pins:=[]) (pin:=0) l81_eq rfl rfl rfl ?_
  (repeat' (first
 | (first|refine Amz ?_|refine Agz ?_)
 | ((first|refine Anz ?_|refine Afz ?_|refine Ahz ?_|refine Aiz ?_);simp (disch:=omega) only [push_cast,seval,l81r0,l81r1,l81r2,l81r3,l81r4,l81r5,l81r6,l81r7,l81r8])
 | ((first|refine Acz ?_ ?_|refine Aez ?_ ?_|refine Adz ?_ ?_)<;>intro h<;>(try simp only [h])<;>(try simp only [bitvec_to_nat] at h)<;>(try simp only [h])<;>(first|(exfalso;omega)|(exfalso;simp_all;done)|(simp (disch:=omega) only [push_cast,seval])|skip))
 | ((first|refine Apz false ?_|refine Akz false ?_);simp (disch:=omega) only [push_cast,seval])
 | ((first|((first|refine call0D (BCall.ofP (Bdz _ _ _ ?_ ?_)) ?_|refine qcall0D (BCall.ofP (Bdz _ _ _ ?_ ?_)) ⟨_,_,rfl,rfl⟩ ?_);(iterate 2 (exact sd));rintro _ _ ⟨rfl,rfl⟩))<;>(try simp (disch:=omega) only [push_cast,seval]))
 | (refine Ajz ⟨.inr rfl,[336],[],_,by decide,rfl,?_⟩;(try simp (disch:=omega) only [push_cast,seval,↓Aqz,↓Aoz,↓List.map_cons,↓List.map_nil]))))
  refine Cjz (fun k:Nat=>mkS [(1,RI ys),(5,.own 336 (wiL (xs.take k) ys).length 1),(8,RI xs),(9,.int .i64 xs.length),(10,.int .i64 k)] [(336,IL (wiL (xs.take k) ys))]) (fun k=>k ≤ xs.length) (fun k=>xs.length - k) 0 (Nat.zero_le _) ?_ ?_
  · refine SubW.adopt [5] 336 1 (by simp [Vw.hk]) (SubW.of ?_)
    simp only [adL,List.map_cons,List.map_nil,adA,List.contains_cons,List.contains_nil]
    have e0:wiL [] ys=[]:=rfl
    (refine Sub.of_lists ?_ ?_ ?_ ?_ ?_<;>simp [Vw.mkS,Vw.lk,Vw.hk,AV.inn,innL,Arz,Alz,Asz,-List.map_set,-List.getD_eq_getElem?_getD,e0])
  · intro k hk
    have hwl:=wiL_len (xs.take k) ys
    rw [List.length_take] at hwl
    by_cases hlt:k < xs.length
    · by_cases hin:xs.getD k 0 ∈ ys
      · have e3:=wiL_in hlt hin
        generalize hU:wiL (xs.take k) ys=U at *
        (repeat' (first
 | (first|refine Amz ?_|refine Agz ?_)
 | ((first|refine Anz ?_|refine Afz ?_|refine Ahz ?_|refine Aiz ?_);simp (disch:=omega) only [push_cast,seval,l81r0,l81r1,l81r2,l81r3,l81r4,l81r5,l81r6,l81r7,l81r8,hin,decide_true])
 | ((first|refine Acz ?_ ?_|refine Aez ?_ ?_|refine Adz ?_ ?_)<;>intro h<;>(try simp only [h])<;>(try simp only [bitvec_to_nat] at h)<;>(try simp only [h])<;>(first|(exfalso;omega)|(exfalso;simp_all;done)|(simp (disch:=omega) only [push_cast,seval,hin,decide_true])|skip))
 | ((first|refine Apz false ?_|refine Akz false ?_);simp (disch:=omega) only [push_cast,seval,hin,decide_true])
 | ((first|((first|refine call0D (BCall.ofP (Bdz _ _ _ ?_ ?_)) ?_|refine qcall0D (BCall.ofP (Bdz _ _ _ ?_ ?_)) ⟨_,_,rfl,rfl⟩ ?_);(iterate 2 (exact sd));rintro _ _ ⟨rfl,rfl⟩))<;>(try simp (disch:=omega) only [push_cast,seval,hin,decide_true]))
 | (refine Ajz ⟨.inr rfl,[336],[],_,by decide,rfl,?_⟩;(try simp (disch:=omega) only [push_cast,seval,↓Aqz,↓Aoz,↓List.map_cons,↓List.map_nil,hin,decide_true]))))
        refine ⟨k + 1,by omega,by omega,SubW.of ?_⟩
        (refine Sub.of_lists ?_ ?_ ?_ ?_ ?_<;>simp [Vw.mkS,Vw.lk,Vw.hk,AV.inn,innL,Arz,Alz,Asz,-List.map_set,-List.getD_eq_getElem?_getD,e3])
      · have e3:=wiL_out hlt hin
        generalize hU:wiL (xs.take k) ys=U at *
        (repeat' (first
 | (first|refine Amz ?_|refine Agz ?_)
 | ((first|refine Anz ?_|refine Afz ?_|refine Ahz ?_|refine Aiz ?_);simp (disch:=omega) only [push_cast,seval,l81r0,l81r1,l81r2,l81r3,l81r4,l81r5,l81r6,l81r7,l81r8,hin,decide_false,List.length_map])
 | ((first|refine Acz ?_ ?_|refine Aez ?_ ?_|refine Adz ?_ ?_)<;>intro h<;>(try simp only [h])<;>(try simp only [bitvec_to_nat] at h)<;>(try simp only [h])<;>(first|(exfalso;omega)|(exfalso;simp_all;done)|(simp (disch:=omega) only [push_cast,seval,hin,decide_false,List.length_map])|skip))
 | ((first|refine Apz false ?_|refine Akz false ?_);simp (disch:=omega) only [push_cast,seval,hin,decide_false,List.length_map])
 | ((first|((first|refine call0D (BCall.ofP (Bdz _ _ _ ?_ ?_)) ?_|refine qcall0D (BCall.ofP (Bdz _ _ _ ?_ ?_)) ⟨_,_,rfl,rfl⟩ ?_);(iterate 2 (exact sd));rintro _ _ ⟨rfl,rfl⟩))<;>(try simp (disch:=omega) only [push_cast,seval,hin,decide_false,List.length_map]))
 | (refine Ajz ⟨.inr rfl,[336],[],_,by decide,rfl,?_⟩;(try simp (disch:=omega) only [push_cast,seval,↓Aqz,↓Aoz,↓List.map_cons,↓List.map_nil,hin,decide_false,List.length_map]))))
        refine ⟨k + 1,by omega,by omega,SubW.of ?_⟩
        (refine Sub.of_lists ?_ ?_ ?_ ?_ ?_<;>simp [Vw.mkS,Vw.lk,Vw.hk,AV.inn,innL,Arz,Alz,Asz,-List.map_set,-List.getD_eq_getElem?_getD,e3])
    · rw [List.take_of_length_le (by omega)] at hwl ⊢
      (repeat' (first
 | (first|refine Amz ?_|refine Agz ?_)
 | ((first|refine Anz ?_|refine Afz ?_|refine Ahz ?_|refine Aiz ?_);simp (disch:=omega) only [push_cast,seval,l81r0,l81r1,l81r2,l81r3,l81r4,l81r5,l81r6,l81r7,l81r8,List.length_map])
 | ((first|refine Acz ?_ ?_|refine Aez ?_ ?_|refine Adz ?_ ?_)<;>intro h<;>(try simp only [h])<;>(try simp only [bitvec_to_nat] at h)<;>(try simp only [h])<;>(first|(exfalso;omega)|(exfalso;simp_all;done)|(simp (disch:=omega) only [push_cast,seval,List.length_map])|skip))
 | ((first|refine Apz false ?_|refine Akz false ?_);simp (disch:=omega) only [push_cast,seval,List.length_map])
 | ((first|((first|refine call0D (BCall.ofP (Bdz _ _ _ ?_ ?_)) ?_|refine qcall0D (BCall.ofP (Bdz _ _ _ ?_ ?_)) ⟨_,_,rfl,rfl⟩ ?_);(iterate 2 (exact sd));rintro _ _ ⟨rfl,rfl⟩))<;>(try simp (disch:=omega) only [push_cast,seval,List.length_map]))
 | (refine Ajz ⟨.inr rfl,[336],[],_,by decide,rfl,?_⟩;(try simp (disch:=omega) only [push_cast,seval,↓Aqz,↓Aoz,↓List.map_cons,↓List.map_nil,List.length_map]))))
      all_goals (first|exact ⟨rfl,rfl⟩|skip)


set_option maxHeartbeats 8000000 in
theorem besL_ok (ls:List (List Int)) (n:Nat) (i j:Nat) (hn:ls.length=n) (hb:(n ≤ 1048576 ∧ i ≤ 1048576) ∧ j ≤ 1048576):BCall Try.prog 67 [.rows false (LL false ls) n,.int .i64 i,.int .i64 j] [] (fun r H'=>r=.own 0 (besL ls i j).length 1 ∧ H'=[LL false (besL ls i j)]):=by
  subst hn
  obtain ⟨⟨hb0,hb1⟩,hb2⟩:=hb
  have hll:=A3z false ls
  refine A6z (pins:=[]) (pin:=0) l67_eq rfl rfl rfl ?_
  (repeat' (first
 | (first|refine Amz ?_|refine Agz ?_)
 | ((first|refine Anz ?_|refine Afz ?_|refine Ahz ?_|refine Aiz ?_);simp (disch:=omega) only [push_cast,seval,l67r0,l67r1,l67r2,l67r3,l67r4,l67r5,l67r6,l67r7,l67r8,Aaz])
 | ((first|refine Acz ?_ ?_|refine Aez ?_ ?_|refine Adz ?_ ?_)<;>intro h<;>(try simp only [h])<;>(try simp only [bitvec_to_nat] at h)<;>(try simp only [h])<;>(first|(exfalso;omega)|(exfalso;simp_all;done)|(simp (disch:=omega) only [push_cast,seval,Aaz])|skip))
 | (refine Ajz ⟨.inr rfl,[448],[],_,by decide,rfl,?_⟩;(try simp (disch:=omega) only [push_cast,seval,↓Aqz,↓Aoz,↓List.map_cons,↓List.map_nil,Aaz]))))
  refine Cjz (fun k:Nat=>mkS [(1,.int .i64 i),(2,.int .i64 j),(7,.own 448 (besT ls i j k).length 1),(10,.rows false (LL false ls) ls.length),(11,.int .i64 ls.length),(12,.int .i64 k)] [(448,LL false (besT ls i j k))]) (fun k=>k ≤ ls.length) (fun k=>ls.length - k) 0 (Nat.zero_le _) ?_ ?_
  · refine SubW.adopt [7] 448 1 (by simp [Vw.hk]) (SubW.of ?_)
    simp only [adL,List.map_cons,List.map_nil,adA,List.contains_cons,List.contains_nil]
    (refine Sub.of_lists ?_ ?_ ?_ ?_ ?_<;>simp [Vw.mkS,Vw.lk,Vw.hk,AV.inn,innL,Arz,Alz,Asz,-List.map_set,-List.getD_eq_getElem?_getD,besT,LL,Aaz])
  · intro k hk
    have hbl:=Hvz ls i j k
    have hlb:=A3z false (besT ls i j k)
    by_cases hlt:k < ls.length
    · obtain ⟨l,hl⟩:=Boz hlt
      have hd:=Bnz false ls k hl
      have hil:k + 1 ≤ ls.length:=by omega
      by_cases hki:k=i
      · subst hki
        have e3:=E0z (l:=ls) (i:=k) (j:=j) (k:=k) (.inl rfl)
        generalize hU:besT ls k j k=U at *
        (repeat' (first
 | (first|refine Amz ?_|refine Agz ?_)
 | ((first|refine Anz ?_|refine Afz ?_|refine Ahz ?_|refine Aiz ?_);simp (disch:=omega) only [push_cast,seval,l67r0,l67r1,l67r2,l67r3,l67r4,l67r5,l67r6,l67r7,l67r8,hd,hll,hil,Aaz])
 | ((first|refine Acz ?_ ?_|refine Aez ?_ ?_|refine Adz ?_ ?_)<;>intro h<;>(try simp only [h])<;>(try simp only [bitvec_to_nat] at h)<;>(try simp only [h])<;>(first|(exfalso;omega)|(exfalso;simp_all;done)|(simp (disch:=omega) only [push_cast,seval,hd,hll,hil,Aaz])|skip))
 | (refine Ajz ⟨.inr rfl,[448],[],_,by decide,rfl,?_⟩;(try simp (disch:=omega) only [push_cast,seval,↓Aqz,↓Aoz,↓List.map_cons,↓List.map_nil,hd,hll,hil,Aaz]))))
        refine ⟨k + 1,by omega,by omega,SubW.of ?_⟩
        (refine Sub.of_lists ?_ ?_ ?_ ?_ ?_<;>simp [Vw.mkS,Vw.lk,Vw.hk,AV.inn,innL,Arz,Alz,Asz,-List.map_set,-List.getD_eq_getElem?_getD,e3,Aaz])
      · by_cases hkj:k=j
        · subst hkj
          have e3:=E0z (l:=ls) (i:=i) (j:=k) (k:=k) (.inr rfl)
          have h1:¬ (k:Int)=i:=by omega
          generalize hU:besT ls i k k=U at *
          (repeat' (first
 | (first|refine Amz ?_|refine Agz ?_)
 | ((first|refine Anz ?_|refine Afz ?_|refine Ahz ?_|refine Aiz ?_);simp (disch:=omega) only [push_cast,seval,l67r0,l67r1,l67r2,l67r3,l67r4,l67r5,l67r6,l67r7,l67r8,hd,hll,hil,h1,Aaz])
 | ((first|refine Acz ?_ ?_|refine Aez ?_ ?_|refine Adz ?_ ?_)<;>intro h<;>(try simp only [h])<;>(try simp only [bitvec_to_nat] at h)<;>(try simp only [h])<;>(first|(exfalso;omega)|(exfalso;simp_all;done)|(simp (disch:=omega) only [push_cast,seval,hd,hll,hil,h1,Aaz])|skip))
 | (refine Ajz ⟨.inr rfl,[448],[],_,by decide,rfl,?_⟩; (try simp (disch := omega) only [push_cast,seval,↓Aqz,↓Aoz,↓List.map_cons,↓List.map_nil,hd,hll,hil,h1,Aaz]))))
          refine ⟨k + 1,by omega,by omega,SubW.of ?_⟩
          (refine Sub.of_lists ?_ ?_ ?_ ?_ ?_<;>simp [Vw.mkS,Vw.lk,Vw.hk,AV.inn,innL,Arz,Alz,Asz,-List.map_set,-List.getD_eq_getElem?_getD,e3,Aaz])
        · have h1:¬ (k:Int)=i:=by omega
          have h2:¬ (k:Int)=j:=by omega
          have e3:=Huz hl hki hkj
          have e4:=LL_snoc false (besT ls i j k) l
          rw [← e3] at e4
          have e6:(besT ls i j k).length + 1=(besT ls i j (k + 1)).length:=by rw [e3,List.length_append];rfl
          clear e3
          generalize hU:besT ls i j k=U at *
          generalize hU2:besT ls i j (k + 1)=U2 at *
          (repeat' (first
 | (first|refine Amz ?_|refine Agz ?_)
 | ((first|refine Anz ?_|refine Afz ?_|refine Ahz ?_|refine Aiz ?_);simp (disch:=omega) only [push_cast,seval,l67r0,l67r1,l67r2,l67r3,l67r4,l67r5,l67r6,l67r7,l67r8,hd,hll,hil,h1,h2,hlb,Aaz])
 | ((first|refine Acz ?_ ?_|refine Aez ?_ ?_|refine Adz ?_ ?_)<;>intro h<;>(try simp only [h])<;>(try simp only [bitvec_to_nat] at h)<;>(try simp only [h])<;>(first|(exfalso;omega)|(exfalso;simp_all;done)|(simp (disch:=omega) only [push_cast,seval,hd,hll,hil,h1,h2,hlb,Aaz])|skip))
 | (refine Ajz ⟨.inr rfl,[448],[],_,by decide,rfl,?_⟩; (try simp (disch := omega) only [push_cast,seval,↓Aqz,↓Aoz,↓List.map_cons,↓List.map_nil,hd,hll,hil,h1,h2,hlb,Aaz]))))
          refine ⟨k + 1,by omega,by omega,SubW.of ?_⟩
          rw [hU2]
          clear hU hU2 hk hbl
          (refine Sub.of_lists ?_ ?_ ?_ ?_ ?_<;>simp [Vw.mkS,Vw.lk,Vw.hk,AV.inn,innL,Arz,Alz,Asz,-List.map_set,-List.getD_eq_getElem?_getD,e4,e6,Aaz])
    · have ek:k=ls.length:=by omega
      subst ek
      (repeat' (first
 | (first|refine Amz ?_|refine Agz ?_)
 | ((first|refine Anz ?_|refine Afz ?_|refine Ahz ?_|refine Aiz ?_);simp (disch:=omega) only [push_cast,seval,l67r0,l67r1,l67r2,l67r3,l67r4,l67r5,l67r6,l67r7,l67r8,hlb,Aaz])
 | ((first|refine Acz ?_ ?_|refine Aez ?_ ?_|refine Adz ?_ ?_)<;>intro h<;>(try simp only [h])<;>(try simp only [bitvec_to_nat] at h)<;>(try simp only [h])<;>(first|(exfalso;omega)|(exfalso;simp_all;done)|(simp (disch:=omega) only [push_cast,seval,hlb,Aaz])|skip))
 | (refine Ajz ⟨.inr rfl,[448],[],_,by decide,rfl,?_⟩;(try simp (disch:=omega) only [push_cast,seval,↓Aqz,↓Aoz,↓List.map_cons,↓List.map_nil,hlb,Aaz]))))
      all_goals (first|exact ⟨rfl,rfl⟩|skip)


theorem arePair_ok (i j n:Int) (hn:0 ≤ n ∧ n ≤ 1099511627776):PCall Try.prog 56 [.int .i64 i,.int .i64 j,.int .i64 n] (fun r=>r=.bool (!decide (i=j) && (decide (0 ≤ i) && decide (i ≤ n - 1)) && (decide (0 ≤ j) && decide (j ≤ n - 1)))):=by
  refine A0z l56_eq rfl ?_
  by_cases h1:i=j
  · (repeat' (first
 | (first|refine Amz ?_|refine Agz ?_)
 | ((first|refine Anz ?_|refine Afz ?_|refine Ahz ?_|refine Aiz ?_);simp (disch:=omega) only [push_cast,seval,l56r0,l56r1,h1])
 | ((first|refine Acz ?_ ?_|refine Aez ?_ ?_|refine Adz ?_ ?_)<;>intro h<;>(try simp only [h])<;>(try simp only [bitvec_to_nat] at h)<;>(try simp only [h])<;>(first|(exfalso;omega)|(exfalso;simp_all;done)|(simp (disch:=omega) only [push_cast,seval,h1])|skip))
 | ((first|refine Apz false ?_|refine Akz false ?_);simp (disch:=omega) only [push_cast,seval,h1])
 | ((first|((first|refine call0D (BCall.ofP (Bjz _ _)) ?_|refine qcall0D (BCall.ofP (Bjz _ _)) ⟨_,_,rfl,rfl⟩ ?_);rintro _ _ ⟨rfl,rfl⟩))<;>(try simp (disch:=omega) only [push_cast,seval,h1]))
 | (refine Ajz ⟨.inr rfl,_,rfl,?_⟩;(try simp (disch:=omega) only [push_cast,seval,h1]))))
    all_goals (try simp [h1])
  · by_cases h2:0 ≤ i ∧ i ≤ n - 1
    · have hw:(decide (0 ≤ i) && decide (i ≤ n - 1))=true:=by rw [Bool.and_eq_true,decide_eq_true_eq,decide_eq_true_eq];exact h2
      (repeat' (first
 | (first|refine Amz ?_|refine Agz ?_)
 | ((first|refine Anz ?_|refine Afz ?_|refine Ahz ?_|refine Aiz ?_);simp (disch:=omega) only [push_cast,seval,l56r0,l56r1,h1,hw])
 | ((first|refine Acz ?_ ?_|refine Aez ?_ ?_|refine Adz ?_ ?_)<;>intro h<;>(try simp only [h])<;>(try simp only [bitvec_to_nat] at h)<;>(try simp only [h])<;>(first|(exfalso;omega)|(exfalso;simp_all;done)|(simp (disch:=omega) only [push_cast,seval,h1,hw])|skip))
 | ((first|refine Apz false ?_|refine Akz false ?_);simp (disch:=omega) only [push_cast,seval,h1,hw])
 | ((first|((first|refine call0D (BCall.ofP (Bjz _ _)) ?_|refine qcall0D (BCall.ofP (Bjz _ _)) ⟨_,_,rfl,rfl⟩ ?_);rintro _ _ ⟨rfl,rfl⟩))<;>(try simp (disch:=omega) only [push_cast,seval,h1,hw]))
 | (refine Ajz ⟨.inr rfl,_,rfl,?_⟩;(try simp (disch:=omega) only [push_cast,seval,h1,hw]))))
      all_goals (try simp [h1])
    · have hw:(decide (0 ≤ i) && decide (i ≤ n - 1))=false:=by rw [Bool.and_eq_false_iff,decide_eq_false_iff_not,decide_eq_false_iff_not];omega
      (repeat' (first
 | (first|refine Amz ?_|refine Agz ?_)
 | ((first|refine Anz ?_|refine Afz ?_|refine Ahz ?_|refine Aiz ?_);simp (disch:=omega) only [push_cast,seval,l56r0,l56r1,h1,hw])
 | ((first|refine Acz ?_ ?_|refine Aez ?_ ?_|refine Adz ?_ ?_)<;>intro h<;>(try simp only [h])<;>(try simp only [bitvec_to_nat] at h)<;>(try simp only [h])<;>(first|(exfalso;omega)|(exfalso;simp_all;done)|(simp (disch:=omega) only [push_cast,seval,h1,hw])|skip))
 | ((first|refine Apz false ?_|refine Akz false ?_);simp (disch:=omega) only [push_cast,seval,h1,hw])
 | ((first|((first|refine call0D (BCall.ofP (Bjz _ _)) ?_|refine qcall0D (BCall.ofP (Bjz _ _)) ⟨_,_,rfl,rfl⟩ ?_);rintro _ _ ⟨rfl,rfl⟩))<;>(try simp (disch:=omega) only [push_cast,seval,h1,hw]))
 | (refine Ajz ⟨.inr rfl,_,rfl,?_⟩;(try simp (disch:=omega) only [push_cast,seval,h1,hw]))))
      all_goals (try simp [h1])


def sumLen (ls:List (List Int)) (k:Nat):Nat:=(ls.take k).flatten.length
theorem D0z {ls:List (List Int)} {k:Nat} {l:List Int} (h:ls[k]?=some l):(ls.take (k + 1)).flatten=(ls.take k).flatten ++ l:=by rw [List.take_add_one,h];simp
theorem flat_mono (ls:List (List Int)) (k:Nat):(ls.take k).flatten.length ≤ ls.flatten.length:=by
  have:ls.flatten=(ls.take k).flatten ++ (ls.drop k).flatten:=by rw [← List.flatten_append,List.take_append_drop]
  rw [this,List.length_append];omega
theorem setR_flat {A l:List Int} {N:Nat} (h:A.length + l.length ≤ N):setRange ((A ++ List.replicate (N - A.length) 0).map (AV.int .i64)) A.length (l.map (AV.int .i64))=(A ++ l ++ List.replicate (N - (A ++ l).length) 0).map (AV.int .i64):=by
  have:=E6z (l.map (AV.int .i64)) (A.map (AV.int .i64)) ((List.replicate l.length 0).map (AV.int .i64)) ((List.replicate (N - A.length - l.length) (0:Int)).map (AV.int .i64)) (by simp)
  rw [← List.map_append,← List.map_append,List.length_map] at this
  have e:List.replicate l.length (0:Int) ++ List.replicate (N - A.length - l.length) 0=List.replicate (N - A.length) 0:=by
    rw [List.replicate_append_replicate];congr 1;omega
  rw [e] at this
  rw [this,List.length_append,List.map_append,List.map_append,List.append_assoc]
  congr 4
  omega


set_option maxHeartbeats 8000000 in
theorem Caz (k:Nat) (hk:0 < k ∧ k ≤ 1099511627776):BCall Try.prog 97 [.val (.slice none 0 0),.int .i64 k] [] (fun r H'=>r=.osl 0 (k) 0 0 1 k ∧ H'=[IL (List.replicate k 0)]):=by
  obtain ⟨h0,h1⟩:=hk
  refine A6z (pins:=[]) (pin:=0) l97_eq rfl rfl rfl ?_
  have hz:List.replicate k (AV.int .i64 0)=IL (List.replicate k 0):=by simp
  have lz:(List.replicate k (0:Int)).length=k:=by simp
  (repeat' (first
 | (first|refine Amz ?_|refine Agz ?_)
 | ((first|refine Anz ?_|refine Afz ?_|refine Ahz ?_|refine Aiz ?_);simp (disch:=omega) only [push_cast,seval,l97r0,l97r1,l97r2,l97r3,l97r4,l97r5,l97r6,hz,lz,Int.sub_zero,Nat.sub_zero])
 | ((first|refine Acz ?_ ?_|refine Aez ?_ ?_|refine Adz ?_ ?_)<;>intro h<;>(try simp only [h])<;>(try simp only [bitvec_to_nat] at h)<;>(try simp only [h])<;>(first|(exfalso;omega)|(exfalso;simp_all;done)|(simp (disch:=omega) only [push_cast,seval,hz,lz,Int.sub_zero,Nat.sub_zero])|skip))
 | ((first|(refine Bgz (by kernel_rfl) (by (simp (disch:=omega) only [push_cast,seval,hz,lz,Int.sub_zero,Nat.sub_zero])<;>rfl) ?_)|(refine A4z (t:=24) (sz:=1) (zs:=[.int .i64 0]) (by kernel_rfl) (by (simp (disch:=omega) only [push_cast,seval,hz,lz,Int.sub_zero,Nat.sub_zero])<;>rfl) (by (simp (disch:=omega) only [push_cast,seval,hz,lz,Int.sub_zero,Nat.sub_zero])<;>rfl) (by first|assumption|omega|(constructor<;>omega)) (by first|((simp (disch:=omega) only [push_cast,seval,hz,lz,Int.sub_zero,Nat.sub_zero]);done)|((simp (disch:=omega) only [push_cast,seval,hz,lz,Int.sub_zero,Nat.sub_zero]);exact ⟨rfl,by omega⟩)) ?_)|(refine A4z (t:=0) (sz:=2) (zs:=[.int .i64 0,.int .i64 0]) (by kernel_rfl) (by (simp (disch:=omega) only [push_cast,seval,hz,lz,Int.sub_zero,Nat.sub_zero])<;>rfl) (by (simp (disch:=omega) only [push_cast,seval,hz,lz,Int.sub_zero,Nat.sub_zero])<;>rfl) (by first|assumption|omega|(constructor<;>omega)) (by first|((simp (disch:=omega) only [push_cast,seval,hz,lz,Int.sub_zero,Nat.sub_zero]);done)|((simp (disch:=omega) only [push_cast,seval,hz,lz,Int.sub_zero,Nat.sub_zero]);exact ⟨rfl,by omega⟩)) ?_)|(refine Btz (len:=3) (by kernel_rfl) (by (simp (disch:=omega) only [push_cast,seval,hz,lz,Int.sub_zero,Nat.sub_zero])<;>rfl) (by (simp (disch:=omega) only [push_cast,seval,hz,lz,Int.sub_zero,Nat.sub_zero])<;>rfl) (by first|assumption|omega|(constructor<;>omega)) (by first|rfl|((simp (disch:=omega) only [push_cast,seval,hz,lz,Int.sub_zero,Nat.sub_zero]);rfl)) ?_))<;>(try simp (disch:=omega) only [push_cast,seval,hz,lz,Int.sub_zero,Nat.sub_zero]))
 | (refine Ajz ⟨.inr rfl,[352],[],_,by decide,rfl,?_⟩;(try simp (disch:=omega) only [push_cast,seval,↓Aqz,↓Aoz,↓List.map_cons,↓List.map_nil,hz,lz,Int.sub_zero,Nat.sub_zero]))))
  all_goals (try exact ⟨rfl,rfl⟩)


set_option maxHeartbeats 8000000 in
theorem catL_ok (ls:List (List Int)) (hb:(0 < ls.flatten.length ∧ ls.flatten.length ≤ 1000000000) ∧ ls.length ≤ 1000000000):BCall Try.prog 82 [.rows false (LL false ls) ls.length] [] (fun r H'=>r=.osl 0 ls.flatten.length 0 ls.flatten.length 1 ls.flatten.length ∧ H'=[IL ls.flatten]):=by
  obtain ⟨⟨h0,h1⟩,h2⟩:=hb
  have hll:=A3z false ls
  have hmono:=flat_mono ls
  refine A6z (pins:=[]) (pin:=0) l82_eq rfl rfl rfl ?_
  (repeat' (first
 | (first|refine Amz ?_|refine Agz ?_)
 | ((first|refine Anz ?_|refine Afz ?_|refine Ahz ?_|refine Aiz ?_);simp (disch:=omega) only [push_cast,seval,l82r0,l82r1,l82r2,l82r3,l82r4,l82r5,l82r6,l82r7,l82r8,l82r9,l82r10,l82r11,l82r12,l82r13,l82r14,l82r15,Aaz])
 | ((first|refine Acz ?_ ?_|refine Aez ?_ ?_|refine Adz ?_ ?_)<;>intro h<;>(try simp only [h])<;>(try simp only [bitvec_to_nat] at h)<;>(try simp only [h])<;>(first|(exfalso;omega)|(exfalso;simp_all;done)|(simp (disch:=omega) only [push_cast,seval,Aaz])|skip))
 | ((first|((with_reducible refine callDN_of (f:=97) ?_);simp (disch:=omega) only [push_cast,seval,Aaz];((with_reducible refine Blz (Caz _ ?_) ?_);(exact sd);rintro _ _ ⟨rfl,rfl⟩))|((with_reducible refine callDN_of (f:=97) ?_);simp (disch:=omega) only [push_cast,seval,Aaz];((with_reducible refine Blz (Buz) ?_);rintro _ _ ⟨rfl,rfl⟩)))<;>(try simp (disch:=omega) only [push_cast,seval,Aaz]))
 | (refine Ajz ⟨.inr rfl,[384],[],_,by decide,rfl,?_⟩;(try simp (disch:=omega) only [push_cast,seval,↓Aqz,↓Aoz,↓List.map_cons,↓List.map_nil,Aaz]))))
  refine Ayz (fun k:Nat=>mkS [(0,.rows false (LL false ls) ls.length),(3,.int .i64 (ls.take k).flatten.length),(9,.rows false (LL false ls) ls.length),(10,.int .i64 ls.length),(11,.int .i64 k)] []) (fun k=>k ≤ ls.length) (fun k=>ls.length - k) 0 (Nat.zero_le _) ?_ ?_
  · (refine Sub.of_lists ?_ ?_ ?_ ?_ ?_<;>simp [Vw.mkS,Vw.lk,Vw.hk,AV.inn,innL,Arz,Alz,Asz,-List.map_set,-List.getD_eq_getElem?_getD,Aaz])
  · intro k hk
    by_cases hlt:k < ls.length
    · obtain ⟨l,hl⟩:=Boz hlt
      have hd:=Bnz false ls k hl
      have hil:k + 1 ≤ ls.length:=by omega
      have e3:=D0z hl
      have e4:=hmono (k + 1)
      rw [e3,List.length_append] at e4
      have e5:(ls.take (k + 1)).flatten.length=(ls.take k).flatten.length + l.length:=by rw [e3,List.length_append]
      generalize hU:(ls.take k).flatten.length=U at *
      (repeat' (first
 | (first|refine Amz ?_|refine Agz ?_)
 | ((first|refine Anz ?_|refine Afz ?_|refine Ahz ?_|refine Aiz ?_);simp (disch:=omega) only [push_cast,seval,l82r0,l82r1,l82r2,l82r3,l82r4,l82r5,l82r6,l82r7,l82r8,l82r9,l82r10,l82r11,l82r12,l82r13,l82r14,l82r15,hd,hll,hil,Aaz])
 | ((first|refine Acz ?_ ?_|refine Aez ?_ ?_|refine Adz ?_ ?_)<;>intro h<;>(try simp only [h])<;>(try simp only [bitvec_to_nat] at h)<;>(try simp only [h])<;>(first|(exfalso;omega)|(exfalso;simp_all;done)|(simp (disch:=omega) only [push_cast,seval,hd,hll,hil,Aaz])|skip))
 | ((first|((with_reducible refine callDN_of (f:=97) ?_);simp (disch:=omega) only [push_cast,seval,hd,hll,hil,Aaz];((with_reducible refine Blz (Caz _ ?_) ?_);(exact sd);rintro _ _ ⟨rfl,rfl⟩))|((with_reducible refine callDN_of (f:=97) ?_);simp (disch:=omega) only [push_cast,seval,hd,hll,hil,Aaz];((with_reducible refine Blz (Buz) ?_);rintro _ _ ⟨rfl,rfl⟩)))<;>(try simp (disch:=omega) only [push_cast,seval,hd,hll,hil,Aaz]))
 | (refine Ajz ⟨.inr rfl,[384],[],_,by decide,rfl,?_⟩;(try simp (disch:=omega) only [push_cast,seval,↓Aqz,↓Aoz,↓List.map_cons,↓List.map_nil,hd,hll,hil,Aaz]))))
      refine ⟨k + 1,by omega,by omega,?_⟩
      rw [e5]
      (refine Sub.of_lists ?_ ?_ ?_ ?_ ?_<;>simp [Vw.mkS,Vw.lk,Vw.hk,AV.inn,innL,Arz,Alz,Asz,-List.map_set,-List.getD_eq_getElem?_getD,Aaz])
    · have ek:ls.take k=ls:=List.take_of_length_le (by omega)
      rw [ek]
      have q1:0 < ls.flatten.length ∧ ls.flatten.length ≤ 1099511627776:=⟨h0,by omega⟩
      have hN0:¬ (ls.flatten.length:Int) < 0:=by omega
      generalize hF:ls.flatten=F at *
      generalize hN:F.length=N at *
      (repeat' (first
 | (first|refine Amz ?_|refine Agz ?_)
 | ((first|refine Anz ?_|refine Afz ?_|refine Ahz ?_|refine Aiz ?_);simp (disch:=omega) only [push_cast,seval,l82r0,l82r1,l82r2,l82r3,l82r4,l82r5,l82r6,l82r7,l82r8,l82r9,l82r10,l82r11,l82r12,l82r13,l82r14,l82r15,Aaz])
 | ((first|refine Acz ?_ ?_|refine Aez ?_ ?_|refine Adz ?_ ?_)<;>intro h<;>(try simp only [h])<;>(try simp only [bitvec_to_nat] at h)<;>(try simp only [h])<;>(first|(exfalso;omega)|(exfalso;simp_all;done)|(simp (disch:=omega) only [push_cast,seval,Aaz])|skip))
 | ((first|((with_reducible refine callDN_of (f:=97) ?_);simp (disch:=omega) only [push_cast,seval,Aaz];((with_reducible refine Blz (Caz _ ?_) ?_);(exact sd);rintro _ _ ⟨rfl,rfl⟩))|((with_reducible refine callDN_of (f:=97) ?_);simp (disch:=omega) only [push_cast,seval,Aaz];((with_reducible refine Blz (Buz) ?_);rintro _ _ ⟨rfl,rfl⟩)))<;>(try simp (disch:=omega) only [push_cast,seval,Aaz]))
 | (refine Ajz ⟨.inr rfl,[384],[],_,by decide,rfl,?_⟩;(try simp (disch:=omega) only [push_cast,seval,↓Aqz,↓Aoz,↓List.map_cons,↓List.map_nil,Aaz]))))
      refine Ayz (fun k:Nat=>mkS [(6,.osl 384 N 0 (ls.take k).flatten.length 1 N),(25,.rows false (LL false ls) ls.length),(26,.int .i64 ls.length),(27,.int .i64 k)] [(384,IL ((ls.take k).flatten ++ List.replicate (N - (ls.take k).flatten.length) 0))]) (fun k=>k ≤ ls.length) (fun k=>ls.length - k) 0 (Nat.zero_le _) ?_ ?_
      · (refine Sub.of_lists ?_ ?_ ?_ ?_ ?_<;>simp [Vw.mkS,Vw.lk,Vw.hk,AV.inn,innL,Arz,Alz,Asz,-List.map_set,-List.getD_eq_getElem?_getD,Aaz])
      · intro k hk
        by_cases hlt:k < ls.length
        · obtain ⟨l,hl⟩:=Boz hlt
          have hd:=Bnz false ls k hl
          have hil:k + 1 ≤ ls.length:=by omega
          have e3:=D0z hl
          have e4:=hmono (k + 1)
          rw [e3,List.length_append] at e4
          have hs:=setR_flat (A:=(ls.take k).flatten) (l:=l) (N:=N) e4
          have hl1:((ls.take k).flatten ++ List.replicate (N - (ls.take k).flatten.length) 0).length=N:=by rw [List.length_append,List.length_replicate];omega
          rw [← e3] at hs
          have e5:(ls.take (k + 1)).flatten.length=(ls.take k).flatten.length + l.length:=by rw [e3,List.length_append]
          clear e3
          generalize hW:(ls.take k).flatten ++ List.replicate (N - (ls.take k).flatten.length) 0=W at *
          generalize hU:(ls.take k).flatten.length=U at *
          generalize hW2:(ls.take (k + 1)).flatten ++ List.replicate (N - (ls.take (k + 1)).flatten.length) 0=W2 at *
          (repeat' (first
 | (first|refine Amz ?_|refine Agz ?_)
 | ((first|refine Anz ?_|refine Afz ?_|refine Ahz ?_|refine Aiz ?_);simp (disch:=omega) only [push_cast,seval,l82r0,l82r1,l82r2,l82r3,l82r4,l82r5,l82r6,l82r7,l82r8,l82r9,l82r10,l82r11,l82r12,l82r13,l82r14,l82r15,hd,hll,hil,hl1,hs,Nat.zero_add,Nat.mul_one,Aaz])
 | ((first|refine Acz ?_ ?_|refine Aez ?_ ?_|refine Adz ?_ ?_)<;>intro h<;>(try simp only [h])<;>(try simp only [bitvec_to_nat] at h)<;>(try simp only [h])<;>(first|(exfalso;omega)|(exfalso;simp_all;done)|(simp (disch:=omega) only [push_cast,seval,hd,hll,hil,hl1,hs,Nat.zero_add,Nat.mul_one,Aaz])|skip))
 | ((first|((with_reducible refine callDN_of (f:=97) ?_);simp (disch:=omega) only [push_cast,seval,hd,hll,hil,hl1,hs,Nat.zero_add,Nat.mul_one,Aaz];((with_reducible refine Blz (Caz _ ?_) ?_);(exact sd);rintro _ _ ⟨rfl,rfl⟩))|((with_reducible refine callDN_of (f:=97) ?_);simp (disch:=omega) only [push_cast,seval,hd,hll,hil,hl1,hs,Nat.zero_add,Nat.mul_one,Aaz];((with_reducible refine Blz (Buz) ?_);rintro _ _ ⟨rfl,rfl⟩)))<;>(try simp (disch:=omega) only [push_cast,seval,hd,hll,hil,hl1,hs,Nat.zero_add,Nat.mul_one,Aaz]))
 | (refine Ajz ⟨.inr rfl,[384],[],_,by decide,rfl,?_⟩; (try simp (disch := omega) only [push_cast,seval,↓Aqz,↓Aoz,↓List.map_cons,↓List.map_nil,hd,hll,hil,hl1,hs,Nat.zero_add,Nat.mul_one,Aaz]))))
          refine ⟨k + 1,by omega,by omega,?_⟩
          rw [hW2,e5]
          (refine Sub.of_lists ?_ ?_ ?_ ?_ ?_<;>simp [Vw.mkS,Vw.lk,Vw.hk,AV.inn,innL,Arz,Alz,Asz,-List.map_set,-List.getD_eq_getElem?_getD,Aaz])
        · have ek:ls.take k=ls:=List.take_of_length_le (by omega)
          rw [ek,hF,hN,Nat.sub_self,List.replicate_zero,List.append_nil]
          (repeat' (first
 | (first|refine Amz ?_|refine Agz ?_)
 | ((first|refine Anz ?_|refine Afz ?_|refine Ahz ?_|refine Aiz ?_);simp (disch:=omega) only [push_cast,seval,l82r0,l82r1,l82r2,l82r3,l82r4,l82r5,l82r6,l82r7,l82r8,l82r9,l82r10,l82r11,l82r12,l82r13,l82r14,l82r15,hN,Aaz])
 | ((first|refine Acz ?_ ?_|refine Aez ?_ ?_|refine Adz ?_ ?_)<;>intro h<;>(try simp only [h])<;>(try simp only [bitvec_to_nat] at h)<;>(try simp only [h])<;>(first|(exfalso;omega)|(exfalso;simp_all;done)|(simp (disch:=omega) only [push_cast,seval,hN,Aaz])|skip))
 | ((first|((with_reducible refine callDN_of (f:=97) ?_);simp (disch:=omega) only [push_cast,seval,hN,Aaz];((with_reducible refine Blz (Caz _ ?_) ?_);(exact sd);rintro _ _ ⟨rfl,rfl⟩))|((with_reducible refine callDN_of (f:=97) ?_);simp (disch:=omega) only [push_cast,seval,hN,Aaz];((with_reducible refine Blz (Buz) ?_);rintro _ _ ⟨rfl,rfl⟩)))<;>(try simp (disch:=omega) only [push_cast,seval,hN,Aaz]))
 | (refine Ajz ⟨.inr rfl,[384],[],_,by decide,rfl,?_⟩; (try simp (disch := omega) only [push_cast,seval,↓Aqz,↓Aoz,↓List.map_cons,↓List.map_nil,hN,Aaz]))))
          all_goals (first|exact ⟨rfl,rfl⟩|skip)
set_option maxHeartbeats 8000000 in
theorem catL0_ok (ls:List (List Int)) (hb:ls.flatten.length=0 ∧ ls.length ≤ 1000000000):BCall Try.prog 82 [.rows false (LL false ls) ls.length] [] (fun r H'=>r=.own 0 0 1 ∧ H'=[[]]):=by
  obtain ⟨h0,h2⟩:=hb
  have hll:=A3z false ls
  have hmono:=flat_mono ls
  have hz:∀ (k:Nat) (l:List Int),ls[k]?=some l → l=[]:=fun k l hl=>by
    have:=hmono (k + 1)
    rw [D0z hl,List.length_append] at this
    exact List.length_eq_zero_iff.1 (by omega)
  refine A6z (pins:=[]) (pin:=0) l82_eq rfl rfl rfl ?_
  (repeat' (first
 | (first|refine Amz ?_|refine Agz ?_)
 | ((first|refine Anz ?_|refine Afz ?_|refine Ahz ?_|refine Aiz ?_);simp (disch:=omega) only [push_cast,seval,l82r0,l82r1,l82r2,l82r3,l82r4,l82r5,l82r6,l82r7,l82r8,l82r9,l82r10,l82r11,l82r12,l82r13,l82r14,l82r15,Aaz])
 | ((first|refine Acz ?_ ?_|refine Aez ?_ ?_|refine Adz ?_ ?_)<;>intro h<;>(try simp only [h])<;>(try simp only [bitvec_to_nat] at h)<;>(try simp only [h])<;>(first|(exfalso;omega)|(exfalso;simp_all;done)|(simp (disch:=omega) only [push_cast,seval,Aaz])|skip))
 | ((first|((with_reducible refine callDN_of (f:=97) ?_);simp (disch:=omega) only [push_cast,seval,Aaz];((with_reducible refine Blz (Caz _ ?_) ?_);(exact sd);rintro _ _ ⟨rfl,rfl⟩))|((with_reducible refine callDN_of (f:=97) ?_);simp (disch:=omega) only [push_cast,seval,Aaz];((with_reducible refine Blz (Buz) ?_);rintro _ _ ⟨rfl,rfl⟩)))<;>(try simp (disch:=omega) only [push_cast,seval,Aaz]))
 | (refine Ajz ⟨.inr rfl,[384],[],_,by decide,rfl,?_⟩;(try simp (disch:=omega) only [push_cast,seval,↓Aqz,↓Aoz,↓List.map_cons,↓List.map_nil,Aaz]))))
  refine Ayz (fun k:Nat=>mkS [(0,.rows false (LL false ls) ls.length),(3,.int .i64 0),(9,.rows false (LL false ls) ls.length),(10,.int .i64 ls.length),(11,.int .i64 k)] []) (fun k=>k ≤ ls.length) (fun k=>ls.length - k) 0 (Nat.zero_le _) ?_ ?_
  · (refine Sub.of_lists ?_ ?_ ?_ ?_ ?_<;>simp [Vw.mkS,Vw.lk,Vw.hk,AV.inn,innL,Arz,Alz,Asz,-List.map_set,-List.getD_eq_getElem?_getD,Aaz])
  · intro k hk
    by_cases hlt:k < ls.length
    · obtain ⟨l,hl⟩:=Boz hlt
      have hd:=Bnz false ls k hl
      have hil:k + 1 ≤ ls.length:=by omega
      have hl0:=hz k l hl
      subst hl0
      have z0:((0:Nat):Int)=0:=rfl
      (repeat' (first
 | (first|refine Amz ?_|refine Agz ?_)
 | ((first|refine Anz ?_|refine Afz ?_|refine Ahz ?_|refine Aiz ?_);simp (disch:=omega) only [push_cast,seval,l82r0,l82r1,l82r2,l82r3,l82r4,l82r5,l82r6,l82r7,l82r8,l82r9,l82r10,l82r11,l82r12,l82r13,l82r14,l82r15,hd,hll,hil,z0,List.length_nil,Int.add_zero,Aaz])
 | ((first|refine Acz ?_ ?_|refine Aez ?_ ?_|refine Adz ?_ ?_)<;>intro h<;>(try simp only [h])<;>(try simp only [bitvec_to_nat] at h)<;>(try simp only [h])<;>(first|(exfalso;omega)|(exfalso;simp_all;done)|(simp (disch:=omega) only [push_cast,seval,hd,hll,hil,z0,List.length_nil,Int.add_zero,Aaz])|skip))
 | ((first|((with_reducible refine callDN_of (f:=97) ?_);simp (disch:=omega) only [push_cast,seval,hd,hll,hil,z0,List.length_nil,Int.add_zero,Aaz];((with_reducible refine Blz (Caz _ ?_) ?_);(exact sd);rintro _ _ ⟨rfl,rfl⟩))|((with_reducible refine callDN_of (f:=97) ?_);simp (disch:=omega) only [push_cast,seval,hd,hll,hil,z0,List.length_nil,Int.add_zero,Aaz];((with_reducible refine Blz (Buz) ?_);rintro _ _ ⟨rfl,rfl⟩)))<;>(try simp (disch:=omega) only [push_cast,seval,hd,hll,hil,z0,List.length_nil,Int.add_zero,Aaz]))
 | (refine Ajz ⟨.inr rfl,[384],[],_,by decide,rfl,?_⟩;(try simp (disch:=omega) only [push_cast,seval,↓Aqz,↓Aoz,↓List.map_cons,↓List.map_nil,hd,hll,hil,z0,List.length_nil,Int.add_zero,Aaz]))))
      refine ⟨k + 1,by omega,by omega,?_⟩
      (refine Sub.of_lists ?_ ?_ ?_ ?_ ?_<;>simp [Vw.mkS,Vw.lk,Vw.hk,AV.inn,innL,Arz,Alz,Asz,-List.map_set,-List.getD_eq_getElem?_getD,Aaz])
    · (repeat' (first
 | (first|refine Amz ?_|refine Agz ?_)
 | ((first|refine Anz ?_|refine Afz ?_|refine Ahz ?_|refine Aiz ?_);simp (disch:=omega) only [push_cast,seval,l82r0,l82r1,l82r2,l82r3,l82r4,l82r5,l82r6,l82r7,l82r8,l82r9,l82r10,l82r11,l82r12,l82r13,l82r14,l82r15,Aaz])
 | ((first|refine Acz ?_ ?_|refine Aez ?_ ?_|refine Adz ?_ ?_)<;>intro h<;>(try simp only [h])<;>(try simp only [bitvec_to_nat] at h)<;>(try simp only [h])<;>(first|(exfalso;omega)|(exfalso;simp_all;done)|(simp (disch:=omega) only [push_cast,seval,Aaz])|skip))
 | ((first|((with_reducible refine callDN_of (f:=97) ?_);simp (disch:=omega) only [push_cast,seval,Aaz];((with_reducible refine Blz (Caz _ ?_) ?_);(exact sd);rintro _ _ ⟨rfl,rfl⟩))|((with_reducible refine callDN_of (f:=97) ?_);simp (disch:=omega) only [push_cast,seval,Aaz];((with_reducible refine Blz (Buz) ?_);rintro _ _ ⟨rfl,rfl⟩)))<;>(try simp (disch:=omega) only [push_cast,seval,Aaz]))
 | (refine Ajz ⟨.inr rfl,[384],[],_,by decide,rfl,?_⟩;(try simp (disch:=omega) only [push_cast,seval,↓Aqz,↓Aoz,↓List.map_cons,↓List.map_nil,Aaz]))))
      refine Ayz (fun k:Nat=>mkS [(6,.own 384 0 1),(25,.rows false (LL false ls) ls.length),(26,.int .i64 ls.length),(27,.int .i64 k)] [(384,[])]) (fun k=>k ≤ ls.length) (fun k=>ls.length - k) 0 (Nat.zero_le _) ?_ ?_
      · (refine Sub.of_lists ?_ ?_ ?_ ?_ ?_<;>simp [Vw.mkS,Vw.lk,Vw.hk,AV.inn,innL,Arz,Alz,Asz,-List.map_set,-List.getD_eq_getElem?_getD,Aaz])
      · intro k hk
        by_cases hlt:k < ls.length
        · obtain ⟨l,hl⟩:=Boz hlt
          have hd:=Bnz false ls k hl
          have hil:k + 1 ≤ ls.length:=by omega
          have hl0:=hz k l hl
          subst hl0
          (repeat' (first
 | (first|refine Amz ?_|refine Agz ?_)
 | ((first|refine Anz ?_|refine Afz ?_|refine Ahz ?_|refine Aiz ?_);simp (disch:=omega) only [push_cast,seval,l82r0,l82r1,l82r2,l82r3,l82r4,l82r5,l82r6,l82r7,l82r8,l82r9,l82r10,l82r11,l82r12,l82r13,l82r14,l82r15,hd,hll,hil,List.length_nil,List.map_nil,List.append_nil,Aaz])
 | ((first|refine Acz ?_ ?_|refine Aez ?_ ?_|refine Adz ?_ ?_)<;>intro h<;>(try simp only [h])<;>(try simp only [bitvec_to_nat] at h)<;>(try simp only [h])<;>(first|(exfalso;omega)|(exfalso;simp_all;done)|(simp (disch:=omega) only [push_cast,seval,hd,hll,hil,List.length_nil,List.map_nil,List.append_nil,Aaz])|skip))
 | ((first|((with_reducible refine callDN_of (f:=97) ?_);simp (disch:=omega) only [push_cast,seval,hd,hll,hil,List.length_nil,List.map_nil,List.append_nil,Aaz];((with_reducible refine Blz (Caz _ ?_) ?_);(exact sd);rintro _ _ ⟨rfl,rfl⟩))|((with_reducible refine callDN_of (f:=97) ?_);simp (disch:=omega) only [push_cast,seval,hd,hll,hil,List.length_nil,List.map_nil,List.append_nil,Aaz];((with_reducible refine Blz (Buz) ?_);rintro _ _ ⟨rfl,rfl⟩)))<;>(try simp (disch:=omega) only [push_cast,seval,hd,hll,hil,List.length_nil,List.map_nil,List.append_nil,Aaz]))
 | (refine Ajz ⟨.inr rfl,[384],[],_,by decide,rfl,?_⟩; (try simp (disch := omega) only [push_cast,seval,↓Aqz,↓Aoz,↓List.map_cons,↓List.map_nil,hd,hll,hil,List.length_nil,List.map_nil,List.append_nil,Aaz]))))
          refine ⟨k + 1,by omega,by omega,?_⟩
          (refine Sub.of_lists ?_ ?_ ?_ ?_ ?_<;>simp [Vw.mkS,Vw.lk,Vw.hk,AV.inn,innL,Arz,Alz,Asz,-List.map_set,-List.getD_eq_getElem?_getD,Aaz])
        · (repeat' (first
 | (first|refine Amz ?_|refine Agz ?_)
 | ((first|refine Anz ?_|refine Afz ?_|refine Ahz ?_|refine Aiz ?_);simp (disch:=omega) only [push_cast,seval,l82r0,l82r1,l82r2,l82r3,l82r4,l82r5,l82r6,l82r7,l82r8,l82r9,l82r10,l82r11,l82r12,l82r13,l82r14,l82r15,Aaz])
 | ((first|refine Acz ?_ ?_|refine Aez ?_ ?_|refine Adz ?_ ?_)<;>intro h<;>(try simp only [h])<;>(try simp only [bitvec_to_nat] at h)<;>(try simp only [h])<;>(first|(exfalso;omega)|(exfalso;simp_all;done)|(simp (disch:=omega) only [push_cast,seval,Aaz])|skip))
 | ((first|((with_reducible refine callDN_of (f:=97) ?_);simp (disch:=omega) only [push_cast,seval,Aaz];((with_reducible refine Blz (Caz _ ?_) ?_);(exact sd);rintro _ _ ⟨rfl,rfl⟩))|((with_reducible refine callDN_of (f:=97) ?_);simp (disch:=omega) only [push_cast,seval,Aaz];((with_reducible refine Blz (Buz) ?_);rintro _ _ ⟨rfl,rfl⟩)))<;>(try simp (disch:=omega) only [push_cast,seval,Aaz]))
 | (refine Ajz ⟨.inr rfl,[384],[],_,by decide,rfl,?_⟩; (try simp (disch := omega) only [push_cast,seval,↓Aqz,↓Aoz,↓List.map_cons,↓List.map_nil,Aaz]))))
          all_goals (first|exact ⟨rfl,rfl⟩|skip)
theorem catLP_ok (ls:List (List Int)) (n:Nat) (hn:ls.length=n) (hb:n ≤ 1000000000 ∧ ls.flatten.length ≤ 1000000000):PCall Try.prog 82 [.rows false (LL false ls) n] (fun r=>r=.rows true (IL ls.flatten) ls.flatten.length):=by
  subst hn
  by_cases h:ls.flatten.length=0
  · refine (BCall.plain (catL0_ok ls ⟨h,hb.1⟩)).mono ?_
    rintro r ⟨r0,H',⟨rfl,rfl⟩,rfl⟩
    rw [h,List.length_eq_zero_iff.1 h]
    simp [AV.ren,nthH]
  · refine (BCall.plain (catL_ok ls ⟨⟨by omega,hb.2⟩,hb.1⟩)).mono ?_
    rintro r ⟨r0,H',⟨rfl,rfl⟩,rfl⟩
    generalize ls.flatten=F
    simp [AV.ren,nthH,List.map_map,Function.comp_def]
    exact List.take_of_length_le (by simp)


theorem labelsOf2_ok (a b:List Int) (n m:Nat) (hn:a.length=n) (hm:b.length=m) (hb:(n ≤ 1099511627776 ∧ m ≤ 1099511627776) ∧ (∀ x ∈ a,0 ≤ x ∧ x ≤ 4) ∧ ∀ x ∈ b,0 ≤ x ∧ x ≤ 4):BCall Try.prog 59 [.rows false [.rows false (IL a) n,.rows false (IL b) m] 2] [] (OI (lbS ([a,b]:List (List Int)).flatten)):=by
  subst hn hm
  refine D5z [a,b] 2 rfl ⟨by omega,fun l hl=>?_,fun l hl=>?_⟩
  · simp at hl;rcases hl with rfl|rfl<;>omega
  · simp at hl;rcases hl with rfl|rfl
    · exact hb.2.1
    · exact hb.2.2


set_option maxHeartbeats 8000000 in
theorem kept_ok (ls:List (List Int)) (out:List Int) (n m:Nat) (i j:Nat) (a b:List Int) (hi:ls[i]?=some a) (hj:ls[j]?=some b) (hn:ls.length=n) (hm:out.length=m) (hb:(n ≤ 1000 ∧ m ≤ 100000000) ∧ (∀ l ∈ ls,∀ x ∈ l,0 ≤ x ∧ x ≤ 4) ∧ (∀ l ∈ ls,l.length ≤ 1000)):BCall Try.prog 57 [.rows false (LL false ls) n,.rows false (IL out) m,.int .i64 i,.int .i64 j] [] (OI (keL ls out a b i j)):=by
  subst hn hm
  obtain ⟨⟨hb0,hb1⟩,hb2,hb3⟩:=hb
  have hll:=A3z false ls
  have hil:=(List.getElem?_eq_some_iff.1 hi).1
  have hjl:=(List.getElem?_eq_some_iff.1 hj).1
  have hdi:=Bnz false ls i hi
  have hdj:=Bnz false ls j hj
  have ha:=hb3 _ (List.mem_of_getElem? hi)
  have hbb:=hb3 _ (List.mem_of_getElem? hj)
  have q1:(a.length ≤ 1099511627776 ∧ b.length ≤ 1099511627776) ∧ (∀ x ∈ a,0 ≤ x ∧ x ≤ 4) ∧ ∀ x ∈ b,0 ≤ x ∧ x ≤ 4:=⟨⟨by omega,by omega⟩,hb2 _ (List.mem_of_getElem? hi),hb2 _ (List.mem_of_getElem? hj)⟩
  have q2:(ls.length ≤ 1048576 ∧ i ≤ 1048576) ∧ j ≤ 1048576:=⟨⟨by omega,by omega⟩,by omega⟩
  have hbl:(besL ls i j).length ≤ ls.length:=Hvz ls i j ls.length
  have hfl:(besL ls i j ++ [out]).flatten.length ≤ 1000000000:=by
    have:=G0z (n:=1000) fun l hl=>hb3 l (besT_sub (i:=i) (j:=j) (k:=ls.length) hl)
    rw [List.flatten_append,List.length_append]
    have:(besL ls i j).flatten.length ≤ ls.length * 1000:=Nat.le_trans this (Nat.mul_le_mul_right _ hbl)
    simp only [List.flatten_cons,List.flatten_nil,List.append_nil]
    omega
  have hke:=kept_eq ls out a b i j
  have hlb:=lbT_len ([a,b]:List (List Int)).flatten 5
  have hlbs:=A3z false (besL ls i j)
  have hsn:=LL_snoc false (besL ls i j) out
  have hsl:(besL ls i j ++ [out]).length=(besL ls i j).length + 1:=by simp
  have q3:(besL ls i j).length + 1 ≤ 1000000000 ∧ (besL ls i j ++ [out]).flatten.length ≤ 1000000000:=⟨by omega,hfl⟩
  have hi1:i + 1 ≤ ls.length:=by omega
  have hj1:j + 1 ≤ ls.length:=by omega
  refine A6z (pins:=[]) (pin:=0) l57_eq rfl rfl rfl ?_
  rw [← hke]
  generalize hS:lbS ([a,b]:List (List Int)).flatten=S1 at *
  have hw:=wiL_len S1 (besL ls i j ++ [out]).flatten
  generalize hB:besL ls i j=B at *
  generalize hD:(B ++ [out]).flatten=D at *
  generalize hW:wiL S1 D=W at *
  generalize hBO:B ++ [out]=BO at *
  (repeat' (first
 | (first|refine Amz ?_|refine Agz ?_)
 | ((first|refine Anz ?_|refine awp_drawX (mid:=l57r1a) (post:=l57r1b) [] A5z (by decide) ?_|refine Afz ?_|refine Ahz ?_|refine Aiz ?_);simp (disch:=omega) only [push_cast,seval,l57r0,l57r1a,l57r1b,l57r1,l57r2,l57r3,hdi,hdj,hll,hi1,hj1,hS,hB,hlbs,hsn,hsl,hD,hW,Aaz])
 | ((first|refine Acz ?_ ?_|refine Aez ?_ ?_|refine Adz ?_ ?_)<;>intro h<;>(try simp only [h])<;>(try simp only [bitvec_to_nat] at h)<;>(try simp only [h])<;>(first|(exfalso;omega)|(exfalso;simp_all;done)|(simp (disch:=omega) only [push_cast,seval,hdi,hdj,hll,hi1,hj1,hS,hB,hlbs,hsn,hsl,hD,hW,Aaz])|skip))
 | ((first|((with_reducible refine Apz (f:=67) true ?_);simp (disch:=omega) only [push_cast,seval,hdi,hdj,hll,hi1,hj1,hS,hB,hlbs,hsn,hsl,hD,hW,Aaz];(refine call0D (besL_ok _ _ _ _ ?_ ?_) ?_;(iterate 2 (exact sd));rintro _ _ ⟨rfl,rfl⟩)))<;>(try simp (disch:=omega) only [push_cast,seval,hdi,hdj,hll,hi1,hj1,hS,hB,hlbs,hsn,hsl,hD,hW,Aaz]))
 | ((first|refine Apz false ?_|refine Akz false ?_);simp (disch:=omega) only [push_cast,seval,hdi,hdj,hll,hi1,hj1,hS,hB,hlbs,hsn,hsl,hD,hW,Aaz])
 | ((first|((first|refine call0D (D5z _ _ ?_ ?_) ?_|refine qcall0D (D5z _ _ ?_ ?_) ⟨_,_,rfl,rfl⟩ ?_);(iterate 2 (exact sd));rintro _ _ ⟨rfl,rfl⟩)|((first|refine call0D (labelsOf2_ok _ _ _ _ ?_ ?_ ?_) ?_|refine qcall0D (labelsOf2_ok _ _ _ _ ?_ ?_ ?_) ⟨_,_,rfl,rfl⟩ ?_);(iterate 3 (exact sd));rintro _ _ ⟨rfl,rfl⟩)|((first|refine call0D (BCall.ofP (catLP_ok _ _ ?_ ?_)) ?_|refine qcall0D (BCall.ofP (catLP_ok _ _ ?_ ?_)) ⟨_,_,rfl,rfl⟩ ?_);(iterate 2 (exact sd));rintro _ _ ⟨rfl,rfl⟩)|((first|refine call0D (iwithout_ok _ _ _ _ ?_ ?_ ?_) ?_|refine qcall0D (iwithout_ok _ _ _ _ ?_ ?_ ?_) ⟨_,_,rfl,rfl⟩ ?_);(iterate 3 (exact sd));rintro _ _ ⟨rfl,rfl⟩))<;>(try simp (disch:=omega) only [push_cast,seval,hdi,hdj,hll,hi1,hj1,hS,hB,hlbs,hsn,hsl,hD,hW,Aaz]))
 | (refine Ajz ⟨.inr rfl,[528],[],_,by decide,rfl,?_⟩;(try simp (disch:=omega) only [push_cast,seval,↓Aqz,↓Aoz,↓List.map_cons,↓List.map_nil,hdi,hdj,hll,hi1,hj1,hS,hB,hlbs,hsn,hsl,hD,hW,Aaz]))))
  all_goals (first|exact ⟨rfl,rfl⟩|skip)

end Go.Proofs.Ytpicoecbbiiaoaa
