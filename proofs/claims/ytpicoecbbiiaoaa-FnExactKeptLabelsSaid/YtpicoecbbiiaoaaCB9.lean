/- Texts of this verifier. -/
import Derived.Test.YtpicoecbbiiaoaaCB8
import Derived.Test.YtpicoecbbiiaoaaCM1
import Derived.Test.YtpicoecbbiiaoaaCW3
set_option linter.unusedSimpArgs false
set_option linter.unusedVariables false
set_option maxRecDepth 4000
set_option maxHeartbeats 4000000
namespace Go.Proofs.Ytpicoecbbiiaoaa
open VwM Vw Go

def klL (ts:List Tn) (ls:List (List Int)) (out:List Int) (i j:Int):List Int:=match exP ts ls out with|none=>[]|some e=>if pairB i j ts.length=true then keL ls out (ls.getD i.toNat []) (ls.getD j.toNat []) i.toNat j.toNat else []
theorem klL_len (ts:List Tn) (ls:List (List Int)) (out:List Int) (i j:Int):(klL ts ls out i j).length ≤ 5:=by
  unfold klL
  split
  · simp
  · split
    · exact keT_len _ _ _ _ _ _ 5
    · simp


set_option maxHeartbeats 16000000 in
theorem sKL_ok (ts:List Tn) (ls:List (List Int)) (out:List Int) (n m q:Nat) (i j:Int) (hn:ts.length=n) (hm:ls.length=m) (hq:out.length=q) (hb:n ≤ 1048576 ∧ m ≤ 1048576 ∧ q ≤ 1048576 ∧ (∀ t ∈ ts,t.1.length ≤ 1048576 ∧ t.2.length ≤ 1048576) ∧ ∀ l ∈ ls,l.length ≤ 1048576) :
    BCall Try.prog 27 [.rows false (TL false ts) n,.rows false (LL false ls) m,.rows false (IL out) q,.int .i64 i,.int .i64 j] [] (OI (klL ts ls out i j)):=by
  subst hn hm hq
  obtain ⟨hb0,hb1,hb2,hb3,hb4⟩:=hb
  have q0:ts.length ≤ 1099511627776 ∧ ls.length ≤ 1099511627776 ∧ (∀ t ∈ ts,t.1.length ≤ 1099511627776 ∧ t.2.length ≤ 1099511627776) ∧ ∀ l ∈ ls,l.length ≤ 1099511627776:=⟨by omega,by omega,fun t ht=>by have:=hb3 t ht;omega,fun l hl=>by have:=hb4 l hl;omega⟩
  refine A6z (pins:=[]) (pin:=0) l27_eq rfl rfl rfl ?_
  unfold klL
  have hpb:pairB i j ts.length=(!decide (i=j) && (decide (0 ≤ i) && decide (i ≤ (ts.length:Int) - 1)) && (decide (0 ≤ j) && decide (j ≤ (ts.length:Int) - 1))):=rfl
  cases hx:exO ts ls with
  | none =>
    have hp:exP ts ls out=none:=by rw [exP_eq,hx];split<;>rfl
    rw [hp]
    (repeat' (first
 | (first|refine Amz ?_|refine Agz ?_)
 | ((first|refine Anz ?_|refine Afz ?_|refine Ahz ?_|refine Aiz ?_);simp (disch:=omega) only [push_cast,seval,l27r0,l27r1,l27r2,l27r3,l27r4,hx,Option.isSome_none,Abz,Aaz])
 | ((first|refine Acz ?_ ?_|refine Aez ?_ ?_|refine Adz ?_ ?_)<;>intro h<;>(try simp only [h])<;>(try simp only [bitvec_to_nat] at h)<;>(try simp only [h])<;>(first|(exfalso;omega)|(exfalso;simp_all;done)|(simp (disch:=omega) only [push_cast,seval,hx,Option.isSome_none,Abz,Aaz])|skip))
 | ((first|refine Apz false ?_|refine Akz false ?_);simp (disch:=omega) only [push_cast,seval,hx,Option.isSome_none,Abz,Aaz])
 | ((first|((first|refine call0D (Cdz _ _ _ _ ?_ ?_ ?_) ?_|refine qcall0D (BCall.ofP (plainI (Cdz _ _ _ _ ?_ ?_ ?_))) ⟨_,_,rfl,rfl⟩ ?_);(iterate 3 (exact sd));rintro _ _ ⟨rfl,rfl⟩)|((first|refine call0D (BCall.ofP (allIn_ok _ _ _ _ ?_ ?_)) ?_|refine qcall0D (BCall.ofP (allIn_ok _ _ _ _ ?_ ?_)) ⟨_,_,rfl,rfl⟩ ?_);(iterate 2 (exact sd));rintro _ _ ⟨rfl,rfl⟩)|((first|refine call0D (BCall.ofP (inRange_ok _ _ _)) ?_|refine qcall0D (BCall.ofP (inRange_ok _ _ _)) ⟨_,_,rfl,rfl⟩ ?_);rintro _ _ ⟨rfl,rfl⟩)|((first|refine call0D (skeep_ok _ _ _ _ _ _ _ _ (by assumption) (by assumption) ?_ ?_ ?_) ?_|refine qcall0D (BCall.ofP (plainI (skeep_ok _ _ _ _ _ _ _ _ (by assumption) (by assumption) ?_ ?_ ?_))) ⟨_,_,rfl,rfl⟩ ?_);(iterate 3 (exact sd));rintro _ _ ⟨rfl,rfl⟩))<;>(try simp (disch:=omega) only [push_cast,seval,hx,Option.isSome_none,Abz,Aaz]))
 | (refine Ajz ⟨.inr rfl,[16000],[(16000,1)],_,by decide,rfl,?_⟩;(try simp (disch:=omega) only [push_cast,seval,↓Aqz,↓Aoz,↓List.map_cons,↓List.map_nil,hx,Option.isSome_none,Abz,Aaz]))))
    all_goals (try exact ⟨rfl,rfl⟩)
  | some e =>
    cases ho:allI out 0 4 with
    | false =>
      have hp:exP ts ls out=none:=by rw [exP_eq,ho];rfl
      rw [hp]
      (repeat' (first
 | (first|refine Amz ?_|refine Agz ?_)
 | ((first|refine Anz ?_|refine Afz ?_|refine Ahz ?_|refine Aiz ?_);simp (disch:=omega) only [push_cast,seval,l27r0,l27r1,l27r2,l27r3,l27r4,hx,ho,Option.isSome_some,Abz,Aaz])
 | ((first|refine Acz ?_ ?_|refine Aez ?_ ?_|refine Adz ?_ ?_)<;>intro h<;>(try simp only [h])<;>(try simp only [bitvec_to_nat] at h)<;>(try simp only [h])<;>(first|(exfalso;omega)|(exfalso;simp_all;done)|(simp (disch:=omega) only [push_cast,seval,hx,ho,Option.isSome_some,Abz,Aaz])|skip))
 | ((first|refine Apz false ?_|refine Akz false ?_);simp (disch:=omega) only [push_cast,seval,hx,ho,Option.isSome_some,Abz,Aaz])
 | ((first|((first|refine call0D (Cdz _ _ _ _ ?_ ?_ ?_) ?_|refine qcall0D (BCall.ofP (plainI (Cdz _ _ _ _ ?_ ?_ ?_))) ⟨_,_,rfl,rfl⟩ ?_);(iterate 3 (exact sd));rintro _ _ ⟨rfl,rfl⟩)|((first|refine call0D (BCall.ofP (allIn_ok _ _ _ _ ?_ ?_)) ?_|refine qcall0D (BCall.ofP (allIn_ok _ _ _ _ ?_ ?_)) ⟨_,_,rfl,rfl⟩ ?_);(iterate 2 (exact sd));rintro _ _ ⟨rfl,rfl⟩)|((first|refine call0D (BCall.ofP (inRange_ok _ _ _)) ?_|refine qcall0D (BCall.ofP (inRange_ok _ _ _)) ⟨_,_,rfl,rfl⟩ ?_);rintro _ _ ⟨rfl,rfl⟩)|((first|refine call0D (skeep_ok _ _ _ _ _ _ _ _ (by assumption) (by assumption) ?_ ?_ ?_) ?_|refine qcall0D (BCall.ofP (plainI (skeep_ok _ _ _ _ _ _ _ _ (by assumption) (by assumption) ?_ ?_ ?_))) ⟨_,_,rfl,rfl⟩ ?_);(iterate 3 (exact sd));rintro _ _ ⟨rfl,rfl⟩))<;>(try simp (disch:=omega) only [push_cast,seval,hx,ho,Option.isSome_some,Abz,Aaz]))
 | (refine Ajz ⟨.inr rfl,[16000],[(16000,1)],_,by decide,rfl,?_⟩;(try simp (disch:=omega) only [push_cast,seval,↓Aqz,↓Aoz,↓List.map_cons,↓List.map_nil,hx,ho,Option.isSome_some,Abz,Aaz]))))
      all_goals (try exact ⟨rfl,rfl⟩)
    | true =>
      have hp:exP ts ls out=some e:=by rw [exP_eq,ho,hx];rfl
      rw [hp]
      obtain ⟨h5,f1,f2,f3,f4,f5,f6,f7⟩:=Gez hx
      obtain ⟨l1,l2⟩:=lab_len hx
      cases hB:pairB i j ts.length with
 | false =>
        simp only [Bool.false_eq_true,if_false]
        rw [hpb] at hB
        by_cases h1:0 ≤ i ∧ i ≤ (ts.length:Int) - 1
        · have w1:(decide (0 ≤ i) && decide (i ≤ (ts.length:Int) - 1))=true:=by rw [Bool.and_eq_true,decide_eq_true_eq,decide_eq_true_eq];exact h1
          by_cases h2:0 ≤ j ∧ j ≤ (ts.length:Int) - 1
          · have w2:(decide (0 ≤ j) && decide (j ≤ (ts.length:Int) - 1))=true:=by rw [Bool.and_eq_true,decide_eq_true_eq,decide_eq_true_eq];exact h2
            rw [w1,w2] at hB
            have h3:i=j:=by simpa using hB
            have h3':(i=j)=True:=eq_true h3
            (repeat' (first
 | (first|refine Amz ?_|refine Agz ?_)
 | ((first|refine Anz ?_|refine Afz ?_|refine Ahz ?_|refine Aiz ?_);simp (disch:=omega) only [push_cast,seval,l27r0,l27r1,l27r2,l27r3,l27r4,hx,ho,w1,w2,h3',Option.isSome_some,Abz,Aaz])
 | ((first|refine Acz ?_ ?_|refine Aez ?_ ?_|refine Adz ?_ ?_)<;>intro h<;>(try simp only [h])<;>(try simp only [bitvec_to_nat] at h)<;>(try simp only [h])<;>(first|(exfalso;omega)|(exfalso;simp_all;done)|(simp (disch:=omega) only [push_cast,seval,hx,ho,w1,w2,h3',Option.isSome_some,Abz,Aaz])|skip))
 | ((first|refine Apz false ?_|refine Akz false ?_);simp (disch:=omega) only [push_cast,seval,hx,ho,w1,w2,h3',Option.isSome_some,Abz,Aaz])
 | ((first|((first|refine call0D (Cdz _ _ _ _ ?_ ?_ ?_) ?_|refine qcall0D (BCall.ofP (plainI (Cdz _ _ _ _ ?_ ?_ ?_))) ⟨_,_,rfl,rfl⟩ ?_);(iterate 3 (exact sd));rintro _ _ ⟨rfl,rfl⟩)|((first|refine call0D (BCall.ofP (allIn_ok _ _ _ _ ?_ ?_)) ?_|refine qcall0D (BCall.ofP (allIn_ok _ _ _ _ ?_ ?_)) ⟨_,_,rfl,rfl⟩ ?_);(iterate 2 (exact sd));rintro _ _ ⟨rfl,rfl⟩)|((first|refine call0D (BCall.ofP (inRange_ok _ _ _)) ?_|refine qcall0D (BCall.ofP (inRange_ok _ _ _)) ⟨_,_,rfl,rfl⟩ ?_);rintro _ _ ⟨rfl,rfl⟩)|((first|refine call0D (skeep_ok _ _ _ _ _ _ _ _ (by assumption) (by assumption) ?_ ?_ ?_) ?_|refine qcall0D (BCall.ofP (plainI (skeep_ok _ _ _ _ _ _ _ _ (by assumption) (by assumption) ?_ ?_ ?_))) ⟨_,_,rfl,rfl⟩ ?_);(iterate 3 (exact sd));rintro _ _ ⟨rfl,rfl⟩))<;>(try simp (disch:=omega) only [push_cast,seval,hx,ho,w1,w2,h3',Option.isSome_some,Abz,Aaz]))
 | (refine Ajz ⟨.inr rfl,[16000],[(16000,1)],_,by decide,rfl,?_⟩; (try simp (disch := omega) only [push_cast,seval,↓Aqz,↓Aoz,↓List.map_cons,↓List.map_nil,hx,ho,w1,w2,h3',Option.isSome_some,Abz,Aaz]))))
            all_goals (try exact ⟨rfl,rfl⟩)
          · have w2:(decide (0 ≤ j) && decide (j ≤ (ts.length:Int) - 1))=false:=by rw [Bool.and_eq_false_iff,decide_eq_false_iff_not,decide_eq_false_iff_not];omega
            (repeat' (first
 | (first|refine Amz ?_|refine Agz ?_)
 | ((first|refine Anz ?_|refine Afz ?_|refine Ahz ?_|refine Aiz ?_);simp (disch:=omega) only [push_cast,seval,l27r0,l27r1,l27r2,l27r3,l27r4,hx,ho,w1,w2,Option.isSome_some,Abz,Aaz])
 | ((first|refine Acz ?_ ?_|refine Aez ?_ ?_|refine Adz ?_ ?_)<;>intro h<;>(try simp only [h])<;>(try simp only [bitvec_to_nat] at h)<;>(try simp only [h])<;>(first|(exfalso;omega)|(exfalso;simp_all;done)|(simp (disch:=omega) only [push_cast,seval,hx,ho,w1,w2,Option.isSome_some,Abz,Aaz])|skip))
 | ((first|refine Apz false ?_|refine Akz false ?_);simp (disch:=omega) only [push_cast,seval,hx,ho,w1,w2,Option.isSome_some,Abz,Aaz])
 | ((first|((first|refine call0D (Cdz _ _ _ _ ?_ ?_ ?_) ?_|refine qcall0D (BCall.ofP (plainI (Cdz _ _ _ _ ?_ ?_ ?_))) ⟨_,_,rfl,rfl⟩ ?_);(iterate 3 (exact sd));rintro _ _ ⟨rfl,rfl⟩)|((first|refine call0D (BCall.ofP (allIn_ok _ _ _ _ ?_ ?_)) ?_|refine qcall0D (BCall.ofP (allIn_ok _ _ _ _ ?_ ?_)) ⟨_,_,rfl,rfl⟩ ?_);(iterate 2 (exact sd));rintro _ _ ⟨rfl,rfl⟩)|((first|refine call0D (BCall.ofP (inRange_ok _ _ _)) ?_|refine qcall0D (BCall.ofP (inRange_ok _ _ _)) ⟨_,_,rfl,rfl⟩ ?_);rintro _ _ ⟨rfl,rfl⟩)|((first|refine call0D (skeep_ok _ _ _ _ _ _ _ _ (by assumption) (by assumption) ?_ ?_ ?_) ?_|refine qcall0D (BCall.ofP (plainI (skeep_ok _ _ _ _ _ _ _ _ (by assumption) (by assumption) ?_ ?_ ?_))) ⟨_,_,rfl,rfl⟩ ?_);(iterate 3 (exact sd));rintro _ _ ⟨rfl,rfl⟩))<;>(try simp (disch:=omega) only [push_cast,seval,hx,ho,w1,w2,Option.isSome_some,Abz,Aaz]))
 | (refine Ajz ⟨.inr rfl,[16000],[(16000,1)],_,by decide,rfl,?_⟩; (try simp (disch := omega) only [push_cast,seval,↓Aqz,↓Aoz,↓List.map_cons,↓List.map_nil,hx,ho,w1,w2,Option.isSome_some,Abz,Aaz]))))
            all_goals (try exact ⟨rfl,rfl⟩)
        · have w1:(decide (0 ≤ i) && decide (i ≤ (ts.length:Int) - 1))=false:=by rw [Bool.and_eq_false_iff,decide_eq_false_iff_not,decide_eq_false_iff_not];omega
          (repeat' (first
 | (first|refine Amz ?_|refine Agz ?_)
 | ((first|refine Anz ?_|refine Afz ?_|refine Ahz ?_|refine Aiz ?_);simp (disch:=omega) only [push_cast,seval,l27r0,l27r1,l27r2,l27r3,l27r4,hx,ho,w1,Option.isSome_some,Abz,Aaz])
 | ((first|refine Acz ?_ ?_|refine Aez ?_ ?_|refine Adz ?_ ?_)<;>intro h<;>(try simp only [h])<;>(try simp only [bitvec_to_nat] at h)<;>(try simp only [h])<;>(first|(exfalso;omega)|(exfalso;simp_all;done)|(simp (disch:=omega) only [push_cast,seval,hx,ho,w1,Option.isSome_some,Abz,Aaz])|skip))
 | ((first|refine Apz false ?_|refine Akz false ?_);simp (disch:=omega) only [push_cast,seval,hx,ho,w1,Option.isSome_some,Abz,Aaz])
 | ((first|((first|refine call0D (Cdz _ _ _ _ ?_ ?_ ?_) ?_|refine qcall0D (BCall.ofP (plainI (Cdz _ _ _ _ ?_ ?_ ?_))) ⟨_,_,rfl,rfl⟩ ?_);(iterate 3 (exact sd));rintro _ _ ⟨rfl,rfl⟩)|((first|refine call0D (BCall.ofP (allIn_ok _ _ _ _ ?_ ?_)) ?_|refine qcall0D (BCall.ofP (allIn_ok _ _ _ _ ?_ ?_)) ⟨_,_,rfl,rfl⟩ ?_);(iterate 2 (exact sd));rintro _ _ ⟨rfl,rfl⟩)|((first|refine call0D (BCall.ofP (inRange_ok _ _ _)) ?_|refine qcall0D (BCall.ofP (inRange_ok _ _ _)) ⟨_,_,rfl,rfl⟩ ?_);rintro _ _ ⟨rfl,rfl⟩)|((first|refine call0D (skeep_ok _ _ _ _ _ _ _ _ (by assumption) (by assumption) ?_ ?_ ?_) ?_|refine qcall0D (BCall.ofP (plainI (skeep_ok _ _ _ _ _ _ _ _ (by assumption) (by assumption) ?_ ?_ ?_))) ⟨_,_,rfl,rfl⟩ ?_);(iterate 3 (exact sd));rintro _ _ ⟨rfl,rfl⟩))<;>(try simp (disch:=omega) only [push_cast,seval,hx,ho,w1,Option.isSome_some,Abz,Aaz]))
 | (refine Ajz ⟨.inr rfl,[16000],[(16000,1)],_,by decide,rfl,?_⟩; (try simp (disch := omega) only [push_cast,seval,↓Aqz,↓Aoz,↓List.map_cons,↓List.map_nil,hx,ho,w1,Option.isSome_some,Abz,Aaz]))))
          all_goals (try exact ⟨rfl,rfl⟩)
 | true =>
        simp only [if_true]
        obtain ⟨p,p',rfl,rfl,hpl,hpl',hne⟩:=pairB_nat hB
        obtain ⟨a,ha⟩:=Boz (l:=ls) (i:=p) (by omega)
        obtain ⟨b,hb⟩:=Boz (l:=ls) (i:=p') (by omega)
        have w1:(decide (0 ≤ (p:Int)) && decide ((p:Int) ≤ (ts.length:Int) - 1))=true:=by rw [Bool.and_eq_true,decide_eq_true_eq,decide_eq_true_eq];omega
        have w2:(decide (0 ≤ (p':Int)) && decide ((p':Int) ≤ (ts.length:Int) - 1))=true:=by rw [Bool.and_eq_true,decide_eq_true_eq,decide_eq_true_eq];omega
        have h3:((p:Int)=p')=False:=eq_false (by omega)
        have q9:(ls.length ≤ 1000 ∧ out.length ≤ 100000000) ∧ (∀ l ∈ ls,l.length ≤ 100000000):=⟨⟨by omega,by omega⟩,fun l hl=>by have:=l2 l hl;omega⟩
        have hga:ls.getD p []=a:=by simp [List.getD,ha]
        have hgb:ls.getD p' []=b:=by simp [List.getD,hb]
        rw [Int.toNat_natCast,Int.toNat_natCast,hga,hgb]
        clear hpb hB
        generalize hK:keL ls out a b p p'=K
        (repeat' (first
 | (first|refine Amz ?_|refine Agz ?_)
 | ((first|refine Anz ?_|refine Afz ?_|refine Ahz ?_|refine Aiz ?_);simp (disch:=omega) only [push_cast,seval,l27r0,l27r1,l27r2,l27r3,l27r4,hx,ho,w1,w2,h3,hK,Option.isSome_some,Option.getD_some,Abz,Aaz])
 | ((first|refine Acz ?_ ?_|refine Aez ?_ ?_|refine Adz ?_ ?_)<;>intro h<;>(try simp only [h])<;>(try simp only [bitvec_to_nat] at h)<;>(try simp only [h])<;>(first|(exfalso;omega)|(exfalso;simp_all;done)|(simp (disch:=omega) only [push_cast,seval,hx,ho,w1,w2,h3,hK,Option.isSome_some,Option.getD_some,Abz,Aaz])|skip))
 | ((first|refine Apz false ?_|refine Akz false ?_);simp (disch:=omega) only [push_cast,seval,hx,ho,w1,w2,h3,hK,Option.isSome_some,Option.getD_some,Abz,Aaz])
 | ((first|((first|refine call0D (Cdz _ _ _ _ ?_ ?_ ?_) ?_|refine qcall0D (BCall.ofP (plainI (Cdz _ _ _ _ ?_ ?_ ?_))) ⟨_,_,rfl,rfl⟩ ?_);(iterate 3 (exact sd));rintro _ _ ⟨rfl,rfl⟩)|((first|refine call0D (BCall.ofP (allIn_ok _ _ _ _ ?_ ?_)) ?_|refine qcall0D (BCall.ofP (allIn_ok _ _ _ _ ?_ ?_)) ⟨_,_,rfl,rfl⟩ ?_);(iterate 2 (exact sd));rintro _ _ ⟨rfl,rfl⟩)|((first|refine call0D (BCall.ofP (inRange_ok _ _ _)) ?_|refine qcall0D (BCall.ofP (inRange_ok _ _ _)) ⟨_,_,rfl,rfl⟩ ?_);rintro _ _ ⟨rfl,rfl⟩)|((first|refine call0D (skeep_ok _ _ _ _ _ _ _ _ (by assumption) (by assumption) ?_ ?_ ?_) ?_|refine qcall0D (BCall.ofP (plainI (skeep_ok _ _ _ _ _ _ _ _ (by assumption) (by assumption) ?_ ?_ ?_))) ⟨_,_,rfl,rfl⟩ ?_);(iterate 3 (exact sd));rintro _ _ ⟨rfl,rfl⟩))<;>(try simp (disch:=omega) only [push_cast,seval,hx,ho,w1,w2,h3,hK,Option.isSome_some,Option.getD_some,Abz,Aaz]))
 | (refine Ajz ⟨.inr rfl,[816],[],_,by decide,rfl,?_⟩;(try simp (disch:=omega) only [push_cast,seval,↓Aqz,↓Aoz,↓List.map_cons,↓List.map_nil,hx,ho,w1,w2,h3,hK,Option.isSome_some,Option.getD_some,Abz,Aaz]))))
        all_goals (try exact ⟨rfl,rfl⟩)




set_option maxHeartbeats 16000000 in
theorem iKL_ok (ts:List Tn) (ls:List (List Int)) (out:List Int) (n m q:Nat) (i j:Int) (hn:ts.length=n) (hm:ls.length=m) (hq:out.length=q) (hb:n ≤ 1048576 ∧ m ≤ 1048576 ∧ q ≤ 1048576 ∧ (∀ t ∈ ts,t.1.length ≤ 1048576 ∧ t.2.length ≤ 1048576) ∧ ∀ l ∈ ls,l.length ≤ 1048576) :
    BCall Try.prog 29 [.rows false (TL false ts) n,.rows false (LL false ls) m,.rows false (IL out) q,.int .i64 i,.int .i64 j] [] (OI (klL ts ls out i j)):=by
  subst hn hm hq
  obtain ⟨hb0,hb1,hb2,hb3,hb4⟩:=hb
  have q0:ts.length ≤ 1099511627776 ∧ ls.length ≤ 1099511627776 ∧ out.length ≤ 1099511627776 ∧ (∀ t ∈ ts,t.1.length ≤ 1099511627776 ∧ t.2.length ≤ 1099511627776) ∧ ∀ l ∈ ls,l.length ≤ 1099511627776:=⟨by omega,by omega,by omega,fun t ht=>by have:=hb3 t ht;omega,fun l hl=>by have:=hb4 l hl;omega⟩
  refine A6z (pins:=[]) (pin:=0) l29_eq rfl rfl rfl ?_
  unfold klL
  have hpb:pairB i j ts.length=(!decide (i=j) && (decide (0 ≤ i) && decide (i ≤ (ts.length:Int) - 1)) && (decide (0 ≤ j) && decide (j ≤ (ts.length:Int) - 1))):=rfl
  cases hxp:exP ts ls out with
  | none =>
    (repeat' (first
 | (first|refine Amz ?_|refine Agz ?_)
 | ((first|refine Anz ?_|refine Afz ?_|refine Ahz ?_|refine Aiz ?_);simp (disch:=omega) only [push_cast,seval,l29r0,l29r1,l29r2,l29r3,l29r4,hxp,set5,tak5,Cvz,Option.isSome_none,Abz,Aaz])
 | ((first|refine Acz ?_ ?_|refine Aez ?_ ?_|refine Adz ?_ ?_)<;>intro h<;>(try simp only [h])<;>(try simp only [bitvec_to_nat] at h)<;>(try simp only [h])<;>(first|(exfalso;omega)|(exfalso;simp_all;done)|(simp (disch:=omega) only [push_cast,seval,hxp,set5,tak5,Cvz,Option.isSome_none,Abz,Aaz])|skip))
 | ((first|refine Apz false ?_|refine Akz false ?_);simp (disch:=omega) only [push_cast,seval,hxp,set5,tak5,Cvz,Option.isSome_none,Abz,Aaz])
 | ((first|(refine call0D (BCall.ofP (Ckz _ _ _ _ _ _ ?_ ?_ ?_ ?_)) ?_;(iterate 4 (exact sd));rintro _ _ ⟨⟨g,hg5,rfl⟩,rfl⟩;(try simp only [hxp,Option.getD_none,Option.getD_some] at hg5))|(refine call0D (BCall.ofP (extentsOfN_ok _ _ _ _ ?_ ?_ ?_)) ?_;(iterate 3 (exact sd));rintro _ _ ⟨⟨g,hg5,rfl⟩,rfl⟩;(try simp only [hxp,Option.getD_none,Option.getD_some] at hg5))|((first|refine call0D (BCall.ofP (arePair_ok _ _ _ ?_)) ?_|refine qcall0D (BCall.ofP (arePair_ok _ _ _ ?_)) ⟨_,_,rfl,rfl⟩ ?_);(exact sd);rintro _ _ ⟨rfl,rfl⟩)|((first|refine call0D (kept_ok _ _ _ _ _ _ _ _ (by assumption) (by assumption) ?_ ?_ ?_) ?_|refine qcall0D (kept_ok _ _ _ _ _ _ _ _ (by assumption) (by assumption) ?_ ?_ ?_) ⟨_,_,rfl,rfl⟩ ?_);(iterate 3 (exact sd));rintro _ _ ⟨rfl,rfl⟩))<;>(try simp (disch:=omega) only [push_cast,seval,hxp,set5,tak5,Cvz,Option.isSome_none,Abz,Aaz]))
 | (refine Ajz ⟨.inr rfl,[16000],[(16000,1)],_,by decide,rfl,?_⟩;(try simp (disch:=omega) only [push_cast,seval,↓Aqz,↓Aoz,↓List.map_cons,↓List.map_nil,hxp,set5,tak5,Cvz,Option.isSome_none,Abz,Aaz]))))
    all_goals (try exact ⟨rfl,rfl⟩)
  | some e =>
    obtain ⟨ho,hx⟩:=exP_some hxp
    obtain ⟨h5,f1,f2,f3,f4,f5,f6,f7⟩:=Gez hx
    obtain ⟨l1,l2⟩:=lab_len hx
    cases hB:pairB i j ts.length with
    | false =>
      have hB2:=hB
      rw [hpb] at hB2
      simp only [Bool.false_eq_true,if_false]
      (repeat' (first
 | (first|refine Amz ?_|refine Agz ?_)
 | ((first|refine Anz ?_|refine Afz ?_|refine Ahz ?_|refine Aiz ?_);simp (disch:=omega) only [push_cast,seval,l29r0,l29r1,l29r2,l29r3,l29r4,hxp,hB2,h5,set5,tak5,Cvz,Option.isSome_some,Option.getD_some,Abz,Aaz])
 | ((first|refine Acz ?_ ?_|refine Aez ?_ ?_|refine Adz ?_ ?_)<;>intro h<;>(try simp only [h])<;>(try simp only [bitvec_to_nat] at h)<;>(try simp only [h])<;>(first|(exfalso;omega)|(exfalso;simp_all;done)|(simp (disch:=omega) only [push_cast,seval,hxp,hB2,h5,set5,tak5,Cvz,Option.isSome_some,Option.getD_some,Abz,Aaz])|skip))
 | ((first|refine Apz false ?_|refine Akz false ?_);simp (disch:=omega) only [push_cast,seval,hxp,hB2,h5,set5,tak5,Cvz,Option.isSome_some,Option.getD_some,Abz,Aaz])
 | ((first|(refine call0D (BCall.ofP (Ckz _ _ _ _ _ _ ?_ ?_ ?_ ?_)) ?_;(iterate 4 (exact sd));rintro _ _ ⟨⟨g,hg5,rfl⟩,rfl⟩;(try simp only [hxp,Option.getD_none,Option.getD_some] at hg5))|(refine call0D (BCall.ofP (extentsOfN_ok _ _ _ _ ?_ ?_ ?_)) ?_;(iterate 3 (exact sd));rintro _ _ ⟨⟨g,hg5,rfl⟩,rfl⟩;(try simp only [hxp,Option.getD_none,Option.getD_some] at hg5))|((first|refine call0D (BCall.ofP (arePair_ok _ _ _ ?_)) ?_|refine qcall0D (BCall.ofP (arePair_ok _ _ _ ?_)) ⟨_,_,rfl,rfl⟩ ?_);(exact sd);rintro _ _ ⟨rfl,rfl⟩)|((first|refine call0D (kept_ok _ _ _ _ _ _ _ _ (by assumption) (by assumption) ?_ ?_ ?_) ?_|refine qcall0D (kept_ok _ _ _ _ _ _ _ _ (by assumption) (by assumption) ?_ ?_ ?_) ⟨_,_,rfl,rfl⟩ ?_);(iterate 3 (exact sd));rintro _ _ ⟨rfl,rfl⟩))<;>(try simp (disch:=omega) only [push_cast,seval,hxp,hB2,h5,set5,tak5,Cvz,Option.isSome_some,Option.getD_some,Abz,Aaz]))
 | (refine Ajz ⟨.inr rfl,[16000],[(16000,1)],_,by decide,rfl,?_⟩;(try simp (disch:=omega) only [push_cast,seval,↓Aqz,↓Aoz,↓List.map_cons,↓List.map_nil,hxp,hB2,h5,set5,tak5,Cvz,Option.isSome_some,Option.getD_some,Abz,Aaz]))))
      all_goals (try exact ⟨rfl,rfl⟩)
    | true =>
      have hB2:=hB
      rw [hpb] at hB2
      simp only [if_true]
      obtain ⟨p,p',rfl,rfl,hpl,hpl',hne⟩:=pairB_nat hB
      obtain ⟨a,ha⟩:=Boz (l:=ls) (i:=p) (by omega)
      obtain ⟨b,hb⟩:=Boz (l:=ls) (i:=p') (by omega)
      have hfl:∀ l ∈ ls,∀ x ∈ l,x ∈ ls.flatten:=fun l hl x hx=>List.mem_flatten.2 ⟨l,hl,hx⟩
      have q3:(ls.length ≤ 1000 ∧ out.length ≤ 100000000) ∧ (∀ l ∈ ls,∀ x ∈ l,0 ≤ x ∧ x ≤ 4) ∧ (∀ l ∈ ls,l.length ≤ 1000):=⟨⟨by omega,by omega⟩,fun l hl x hx=>f4 x (hfl l hl x hx),fun l hl=>by have:=l2 l hl;omega⟩
      have hga:ls.getD p []=a:=by simp [List.getD,ha]
      have hgb:ls.getD p' []=b:=by simp [List.getD,hb]
      rw [Int.toNat_natCast,Int.toNat_natCast,hga,hgb]
      clear hpb hB hfl f1 f2 f3 f4 f5 f6
      generalize hK:keL ls out a b p p'=K
      (repeat' (first
 | (first|refine Amz ?_|refine Agz ?_)
 | ((first|refine Anz ?_|refine Afz ?_|refine Ahz ?_|refine Aiz ?_);simp (disch:=omega) only [push_cast,seval,l29r0,l29r1,l29r2,l29r3,l29r4,hxp,hB2,hK,h5,set5,tak5,Cvz,Option.isSome_some,Option.getD_some,Abz,Aaz])
 | ((first|refine Acz ?_ ?_|refine Aez ?_ ?_|refine Adz ?_ ?_)<;>intro h<;>(try simp only [h])<;>(try simp only [bitvec_to_nat] at h)<;>(try simp only [h])<;>(first|(exfalso;omega)|(exfalso;simp_all;done)|(simp (disch:=omega) only [push_cast,seval,hxp,hB2,hK,h5,set5,tak5,Cvz,Option.isSome_some,Option.getD_some,Abz,Aaz])|skip))
 | ((first|refine Apz false ?_|refine Akz false ?_);simp (disch:=omega) only [push_cast,seval,hxp,hB2,hK,h5,set5,tak5,Cvz,Option.isSome_some,Option.getD_some,Abz,Aaz])
 | ((first|(refine call0D (BCall.ofP (Ckz _ _ _ _ _ _ ?_ ?_ ?_ ?_)) ?_;(iterate 4 (exact sd));rintro _ _ ⟨⟨g,hg5,rfl⟩,rfl⟩;(try simp only [hxp,Option.getD_none,Option.getD_some] at hg5))|(refine call0D (BCall.ofP (extentsOfN_ok _ _ _ _ ?_ ?_ ?_)) ?_;(iterate 3 (exact sd));rintro _ _ ⟨⟨g,hg5,rfl⟩,rfl⟩;(try simp only [hxp,Option.getD_none,Option.getD_some] at hg5))|((first|refine call0D (BCall.ofP (arePair_ok _ _ _ ?_)) ?_|refine qcall0D (BCall.ofP (arePair_ok _ _ _ ?_)) ⟨_,_,rfl,rfl⟩ ?_);(exact sd);rintro _ _ ⟨rfl,rfl⟩)|((first|refine call0D (kept_ok _ _ _ _ _ _ _ _ (by assumption) (by assumption) ?_ ?_ ?_) ?_|refine qcall0D (kept_ok _ _ _ _ _ _ _ _ (by assumption) (by assumption) ?_ ?_ ?_) ⟨_,_,rfl,rfl⟩ ?_);(iterate 3 (exact sd));rintro _ _ ⟨rfl,rfl⟩))<;>(try simp (disch:=omega) only [push_cast,seval,hxp,hB2,hK,h5,set5,tak5,Cvz,Option.isSome_some,Option.getD_some,Abz,Aaz]))
 | (refine Ajz ⟨.inr rfl,[544],[],_,by decide,rfl,?_⟩;(try simp (disch:=omega) only [push_cast,seval,↓Aqz,↓Aoz,↓List.map_cons,↓List.map_nil,hxp,hB2,hK,h5,set5,tak5,Cvz,Option.isSome_some,Option.getD_some,Abz,Aaz]))))
      all_goals (try exact ⟨rfl,rfl⟩)

end Go.Proofs.Ytpicoecbbiiaoaa
set_option linter.unusedSimpArgs false
set_option linter.unusedVariables false
set_option maxRecDepth 4000
set_option maxHeartbeats 4000000
namespace Go.Proofs.Ytpicoecbbiiaoaa
open VwM Vw Go

end Go.Proofs.Ytpicoecbbiiaoaa
set_option linter.unusedSimpArgs false
set_option linter.unusedVariables false
set_option maxRecDepth 4000
set_option maxHeartbeats 4000000
namespace Go.Proofs.Ytpicoecbbiiaoaa
open VwM Vw Go

def ctV (ts:List Tn) (ls:List (List Int)) (out e:List Int) (n:Nat):List Int:=(List.range n).map fun p=>w64 (ctE ts ls out e p)
end Go.Proofs.Ytpicoecbbiiaoaa
set_option linter.unusedSimpArgs false
set_option linter.unusedVariables false
set_option maxRecDepth 4000
set_option maxHeartbeats 4000000
namespace Go.Proofs.Ytpicoecbbiiaoaa
open VwM Vw Go

end Go.Proofs.Ytpicoecbbiiaoaa
set_option linter.unusedSimpArgs false
set_option linter.unusedVariables false
set_option maxRecDepth 4000
set_option maxHeartbeats 4000000
namespace Go.Proofs.Ytpicoecbbiiaoaa
open VwM Vw Go

def ctC (out e:List Int):Bool:=(allI out 0 4 && decide out.Nodup) && vSh (out.map (gE e)) && decide (pr (spE e) ≤ 4000)
def ctW (ts:List Tn) (ls:List (List Int)) (out e:List Int):Tn:=(out.map (gE e),ctV ts ls out e (pr (out.map (gE e))).toNat)
def ctT (ts:List Tn) (ls:List (List Int)) (out:List Int):Option Tn:=(exO ts ls).bind fun e=>if (ctC out e && vT (ctW ts ls out e))=true then some (ctW ts ls out e) else none
def t0 (o:Option Tn):Tn:=o.getD ([],[])
/-- What a contraction yields: a tensor,whether it is possible. -/
abbrev OTn (o:Option Tn):AV → List (List AV) → Prop:=fun r H'=>r=.tup [.agg [.own 0 (t0 o).1.length 1,.own 1 (t0 o).2.length 1],.bool o.isSome] ∧ H'=[IL (t0 o).1,IL (t0 o).2]
end Go.Proofs.Ytpicoecbbiiaoaa
set_option linter.unusedSimpArgs false
set_option linter.unusedVariables false
set_option maxRecDepth 4000
set_option maxHeartbeats 4000000
namespace Go.Proofs.Ytpicoecbbiiaoaa
open VwM Vw Go

theorem mem_ltS {α:Type} {l:List α} {i:Nat} (h:i < l.length):∃ x,l[i]?=some x:=⟨_,List.getElem?_eq_getElem h⟩
theorem innL_repS {P:Nat → Bool} {n:Nat} {a:AV} (h:a.inn P=true):innL P (List.replicate n a)=true:=by
  induction n with
  | zero=>rfl
  | succ n ih=>simp only [List.replicate_succ,innL,h,ih,Bool.and_self]
theorem Bwz (j:Nat):(j + 1=0)=False:=by simp
theorem Bxz (j:Nat):(0=j + 1)=False:=by simp
theorem swown (a b id n sz:Nat) (h1:id ≠ a) (h2:id ≠ b):(AV.own id n sz).sw a b=.own id n sz:=by simp only [AV.sw,Clz h1 h2]
theorem fimne (d j id:Nat) (h:id < 1099511627776):id ≠ fim d j:=fun e=>by have:=Cqz d j;omega
theorem swL_LL (a b:Nat) (c:Bool):∀ ls:List (List Int),swL a b (LL c ls)=LL c ls
  | []=>rfl
  | l :: r=>by simp only [LL,swL,AV.sw,Dvz,swL_LL a b c r]
theorem swL_TL (a b:Nat) (c:Bool):∀ ts:List Tn,swL a b (TL c ts)=TL c ts
  | []=>rfl
  | l :: r=>by simp only [TL,swL,AV.sw,Dvz,swL_TL a b c r]
theorem swp112 (a d i n:Nat) (h:n < 1099511627776) (hn:n ≠ a):swp a (fim d i) n=n:=Clz hn (fimne _ _ _ h)
def cellI (d:Nat) (rows:Nat → List Int) (z:AV) (i p:Nat):AV:=if p < i then .own (fim d p) (rows p).length 1 else z
theorem cellI_inn {d:Nat} {rows:Nat → List Int} {z:AV} {i p:Nat} (c1:List AV) (id0:Nat) (hz:∀ P,z.inn P=true):(cellI d rows z i p).inn (fun id=>(hk ((id0,c1) :: famR d rows i) id).isSome)=true:=by
  unfold cellI
  split
  · rename_i h
    simp only [AV.inn,hk]
    split
    · rfl
    · rw [Cwz d rows i p h];rfl
  · exact hz _


set_option maxHeartbeats 8000000 in
theorem Flz (ls:List (List Int)) (n:Nat) (hn:ls.length=n) (hb:n ≤ 1048576 ∧ ∀ l ∈ ls,l.length ≤ 1099511627776):BCall Try.prog 21 [.rows false (LL false ls) n] [] (fun r H'=>r=.own 0 n 1 ∧ H'=(lsF ls).cellsG (· + 1) :: (lsF ls).conts):=by
  subst hn
  obtain ⟨hb1,hb2⟩:=hb
  refine A6z (pins:=[]) (pin:=0) l21_eq rfl rfl rfl ?_
  have hll:=A3z false ls
  (repeat' (first
 | (first|refine Amz ?_|refine Agz ?_)
 | ((first|refine Anz ?_|refine Afz ?_|refine Ahz ?_|refine Aiz ?_);simp (disch:=omega) only [push_cast,seval,l21r0,l21r1,l21r2,l21r3,l21r4,l21r5,l21r6,Aaz])
 | ((first|refine Acz ?_ ?_|refine Aez ?_ ?_|refine Adz ?_ ?_)<;>intro h<;>(try simp only [h])<;>(try simp only [bitvec_to_nat] at h)<;>(try simp only [h])<;>(first|(exfalso;omega)|(exfalso;simp_all;done)|(simp (disch:=omega) only [push_cast,seval,Aaz])|skip))
 | ((first|refine Apz false ?_|refine Akz false ?_);simp (disch:=omega) only [push_cast,seval,Aaz])
 | ((first|((first|refine call0D (toIntS_ok _ _ ?_ ?_) ?_|refine qcall0D (toIntS_ok _ _ ?_ ?_) ⟨_,_,rfl,rfl⟩ ?_);(iterate 2 (exact sd));rintro _ _ ⟨rfl,rfl⟩))<;>(try simp (disch:=omega) only [push_cast,seval,Aaz]))
 | (refine Ajz ⟨.inr rfl,[112],[],_,by decide,rfl,?_⟩;(try simp (disch:=omega) only [push_cast,seval,↓Aqz,↓Aoz,↓List.map_cons,↓List.map_nil,Aaz]))))
  refine Cjz (fun i:Nat=>mkS [(0,.rows false (LL false ls) ls.length),(3,.own 112 ls.length 1),(4,.int .i64 i)] ((112,row ls.length (cellI 7 (lsF ls).rows (.val (.slice none 0 0)) i)) :: famR 7 (lsF ls).rows i)) (fun i=>i ≤ ls.length) (fun i=>ls.length - i) 0 (Nat.zero_le _) ?_ ?_
  · refine SubW.of ?_
    have e:row ls.length (cellI 7 (lsF ls).rows (.val (.slice none 0 0)) 0)=List.replicate ls.length (.val (.slice none 0 0)):=by
      symm
      refine Hcz (by simp) fun p hp=>?_
      rw [List.getElem?_replicate,if_pos hp];rfl
    rw [e,famR_zero]
    have hzi:∀ P:Nat → Bool,innL P (List.replicate ls.length (AV.val (.slice none 0 0)))=true:=fun P=>innL_repS rfl
    generalize List.replicate ls.length (AV.val (.slice none 0 0))=Z at *
    (refine Sub.of_lists ?_ ?_ ?_ ?_ ?_<;>simp [Vw.mkS,Vw.lk,Vw.hk,AV.inn,innL,Arz,Alz,Asz,-List.map_set,-List.getD_eq_getElem?_getD,Aaz,LL,hzi])
  · intro i hi
    by_cases hlt:i < ls.length
    · obtain ⟨l,hli⟩:=mem_ltS hlt
      have hbb:=hb2 _ (List.mem_of_getElem? hli)
      have hd:=Bnz false ls i hli
      have hil:i + 1 ≤ ls.length:=by omega
      have hwl:=Cuz ls.length (cellI 7 (lsF ls).rows (.val (.slice none 0 0)) i)
      have hr:(lsF ls).rows i=l:=by simp [lsF,List.getD,hli]
      (repeat' (first
 | (first|refine Amz ?_|refine Agz ?_)
 | ((first|refine Anz ?_|refine Afz ?_|refine Ahz ?_|refine Aiz ?_);simp (disch:=omega) only [push_cast,seval,l21r0,l21r1,l21r2,l21r3,l21r4,l21r5,l21r6,hd,hll,hil,hwl,Aaz])
 | ((first|refine Acz ?_ ?_|refine Aez ?_ ?_|refine Adz ?_ ?_)<;>intro h<;>(try simp only [h])<;>(try simp only [bitvec_to_nat] at h)<;>(try simp only [h])<;>(first|(exfalso;omega)|(exfalso;simp_all;done)|(simp (disch:=omega) only [push_cast,seval,hd,hll,hil,hwl,Aaz])|skip))
 | ((first|refine Apz false ?_|refine Akz false ?_);simp (disch:=omega) only [push_cast,seval,hd,hll,hil,hwl,Aaz])
 | ((first|((first|refine call0D (toIntS_ok _ _ ?_ ?_) ?_|refine qcall0D (toIntS_ok _ _ ?_ ?_) ⟨_,_,rfl,rfl⟩ ?_);(iterate 2 (exact sd));rintro _ _ ⟨rfl,rfl⟩))<;>(try simp (disch:=omega) only [push_cast,seval,hd,hll,hil,hwl,Aaz]))))
      refine ⟨i + 1,by omega,by omega,SubW.fam1 (a:=320) (d:=7) (i:=i) (id0:=112) (rows:=(lsF ls).rows) (c0:=(row ls.length (cellI 7 (lsF ls).rows (.val (.slice none 0 0)) i)).set i (.own 320 l.length 1)) ?_ ?_ ⟨by omega,by omega,by omega⟩ ?_ ?_ ?_ ?_ ?_⟩
      · rw [hr];rfl
      · rfl
      · intro j hj
        simp only [hk,Dxz 7 j 112 (by omega),Dxz 7 j 320 (by omega),if_false]
        exact Cwz _ _ _ _ hj
      · rw [row_set,Cmz]
        refine Bsz fun p hp=>?_
        by_cases e:p=i
        · subst e
          rw [Axz]
          unfold cellI
          rw [if_pos (by omega),hr]
          simp only [AV.sw,swp_fst]
        · rw [Azz _ _ _ _ e]
          unfold cellI
          by_cases hpi:p < i
          · rw [if_pos hpi,if_pos (by omega)]
            exact swown _ _ _ _ _ (Ne.symm (fimne _ _ _ (by omega))) (fun e'=>e (Cez e'))
          · rw [if_neg hpi,if_neg (by omega)]
            rfl
      · simp [lk,AV.sw,swL_LL,swp112]
      · simp [AV.inn,Aaz,hk]
      · exact Hoz _ _ _ fun p _=>cellI_inn _ _ fun _=>rfl
    · have e:i=ls.length:=by omega
      subst e
      (repeat' (first
 | (first|refine Amz ?_|refine Agz ?_)
 | ((first|refine Anz ?_|refine Afz ?_|refine Ahz ?_|refine Aiz ?_);simp (disch:=omega) only [push_cast,seval,l21r0,l21r1,l21r2,l21r3,l21r4,l21r5,l21r6,Aaz])
 | ((first|refine Acz ?_ ?_|refine Aez ?_ ?_|refine Adz ?_ ?_)<;>intro h<;>(try simp only [h])<;>(try simp only [bitvec_to_nat] at h)<;>(try simp only [h])<;>(first|(exfalso;omega)|(exfalso;simp_all;done)|(simp (disch:=omega) only [push_cast,seval,Aaz])|skip))
 | ((first|refine Apz false ?_|refine Akz false ?_);simp (disch:=omega) only [push_cast,seval,Aaz])
 | ((first|((first|refine call0D (toIntS_ok _ _ ?_ ?_) ?_|refine qcall0D (toIntS_ok _ _ ?_ ?_) ⟨_,_,rfl,rfl⟩ ?_);(iterate 2 (exact sd));rintro _ _ ⟨rfl,rfl⟩))<;>(try simp (disch:=omega) only [push_cast,seval,Aaz]))))
      refine Ajz ⟨.inr rfl,ret_famS (F:=lsF ls) (d:=7) rfl ?_ ?_ (by omega)⟩
      · simp only [hk,if_true]
        congr 1
        exact Bsz fun p hp=>by unfold cellI;rw [if_pos hp];rfl
      · intro j hj
        simp only [hk,Dxz 7 j 112 (by omega),if_false]
        exact Cwz _ _ _ _ hj


set_option maxHeartbeats 8000000 in
theorem Ekz (F:Fam) (n:Nat) (k:Int) (hF:F.C=n ∧ F.R=n ∧ ∀ p,F.pat p=.inr p) (hk:0 ≤ k ∧ k ≤ 1125899906842624) (hb:n ≤ 1048576 ∧ ∀ j,(F.rows j).length ≤ 1048576):BCall Try.prog 26 [.own 0 n 1,.int .i64 k] (F.cellsG (· + 1) :: F.conts) (fun r H'=>∃ G k',(k ≤ k' ∧ k' ≤ k + 1099511627776) ∧ F.like G ∧ r=.int .i64 k' ∧ H'=G.cellsG (· + 1) :: G.conts):=by
  obtain ⟨hC,hR,hpat⟩:=hF
  obtain ⟨hb2,hb3⟩:=hb
  have hb1:=hk
  clear hk
  refine A6z (pins:=List.range (F.R + 1)) (pin:=F.R + 1) l26_eq rfl (by simp [B0z]) (by simp [B0z]) ?_
  rw [initB_fam]
  generalize hc0:F.cellsG (· + 1)=c0
  have hcl:c0.length=n:=by rw [← hc0,B3z,hC]
  have hat:∀ i,i < n → (c0.drop i).take 1=[.own (i + 1) (F.rows i).length 1]:=fun i hi=>by
    rw [← hc0]
    unfold Fam.cellsG
    rw [row_1 _ _ _ (by omega)]
    simp [Fam.atG,hpat]
  generalize hRR:F.R=R at *
  have hret:∀ (rows:Nat → List Int),(∀ j,(rows j).length=(F.rows j).length) → ∃ G:Fam,F.like G ∧ G.rows=rows ∧ G.R=R ∧ c0=G.cellsG (· + 1):=fun rows hl=>by
    refine ⟨⟨F.C,F.R,F.pat,rows,F.ok,F.cell⟩,⟨rfl,rfl,fun j _=>hl j⟩,rfl,hRR,?_⟩
    rw [← hc0]
    unfold Fam.cellsG Fam.atG
    simp only [hl]
  (repeat' (first
 | (first|refine Amz ?_|refine Agz ?_)
 | ((first|refine Anz ?_|refine Afz ?_|refine Ahz ?_|refine Aiz ?_);simp (disch:=omega) only [push_cast,seval,l26r0,l26r1,l26r2,l26r3,l26r4,l26r5])
 | ((first|refine Acz ?_ ?_|refine Aez ?_ ?_|refine Adz ?_ ?_)<;>intro h<;>(try simp only [h])<;>(try simp only [bitvec_to_nat] at h)<;>(try simp only [h])<;>(first|(exfalso;omega)|(exfalso;simp_all;done)|(simp (disch:=omega) only [push_cast,seval])|skip))
 | ((first|((with_reducible refine qcallI_of (f:=15) [272] false ?_);simp (disch:=omega) only [push_cast,seval];(refine Bqz (id:=272) (Atz _ _ _ ?_ ?_) (by (simp (disch:=omega) only [push_cast,seval])<;>rfl) (by decide) ⟨_,_,rfl,rfl⟩ ?_;(iterate 2 (exact sd));rintro _ _ ⟨rfl,rfl⟩))|((with_reducible refine callD_ids (f:=15) [272] false ?_);simp (disch:=omega) only [push_cast,seval];(refine Bvz (id:=272) (Atz _ _ _ ?_ ?_) (by (simp (disch:=omega) only [push_cast,seval])<;>rfl) ?_;(iterate 2 (exact sd));rintro _ _ ⟨rfl,rfl⟩)))<;>(try simp (disch:=omega) only [push_cast,seval]))))
  refine Cjz (fun x:Nat × Int × (Nat → List Int)=>mkS [(0,.own 0 n 1),(1,.int .i64 x.2.1),(5,.int .i64 x.1)] ((0,c0) :: pinR x.2.2 R)) (fun x=>x.1 ≤ n ∧ (k ≤ x.2.1 ∧ x.2.1 ≤ k + x.1 * 1048576) ∧ ∀ j,(x.2.2 j).length=(F.rows j).length) (fun x=>n - x.1) (0,k,F.rows) ⟨Nat.zero_le _,by simp,fun _=>rfl⟩ ?_ ?_
  · refine SubW.slots ?_
    simp [lk]
  · rintro ⟨i,kk,rows⟩ ⟨hi,hkk,hl⟩
    simp only at hi hkk hl ⊢
    by_cases hlt:i < n
    · have hd:=hat i hlt
      have hkp:=Dfz rows R i (by omega)
      have hli:=hl i
      have hbi:=hb3 i
      generalize hLL:(F.rows i).length=L at *
      (repeat' (first
 | (first|refine Amz ?_|refine Agz ?_)
 | ((first|refine Anz ?_|refine Afz ?_|refine Ahz ?_|refine Aiz ?_);simp (disch:=omega) only [push_cast,seval,l26r0,l26r1,l26r2,l26r3,l26r4,l26r5,hd,hkp,hli,hcl,Bwz,Bxz])
 | ((first|refine Acz ?_ ?_|refine Aez ?_ ?_|refine Adz ?_ ?_)<;>intro h<;>(try simp only [h])<;>(try simp only [bitvec_to_nat] at h)<;>(try simp only [h])<;>(first|(exfalso;omega)|(exfalso;simp_all;done)|(simp (disch:=omega) only [push_cast,seval,hd,hkp,hli,hcl,Bwz,Bxz])|skip))
 | ((first|((with_reducible refine callD_ids (f:=15) [(i + 1)] false ?_);simp (disch:=omega) only [push_cast,seval,hd,hkp,hli,hcl,Bwz,Bxz];(refine Bvz (id:=(i + 1)) (Atz _ _ _ ?_ ?_) (by (simp (disch:=omega) only [push_cast,seval,hd,hkp,hli,hcl,Bwz,Bxz])<;>rfl) ?_;(iterate 2 (exact sd));rintro _ _ ⟨rfl,rfl⟩)))<;>(try simp (disch:=omega) only [push_cast,seval,hd,hkp,hli,hcl,Bwz,Bxz]))))
      refine ⟨(i + 1,kk + L,upd rows i (upFrom kk L)),⟨by simp only;omega,by simp only;omega,fun j=>?_⟩,by simp only;omega,?_⟩
      · simp only
        by_cases e:j=i
        · subst e;rw [Axz,hLL];simp [upFrom]
        · rw [Azz _ _ _ _ e];exact hl j
      · refine SubW.heq (fun id=>Hiz (by omega) id) (SubW.slots ?_)
        simp [lk]
    · have e:i=n:=by omega
      subst e
      (repeat' (first
 | (first|refine Amz ?_|refine Agz ?_)
 | ((first|refine Anz ?_|refine Afz ?_|refine Ahz ?_|refine Aiz ?_);simp (disch:=omega) only [push_cast,seval,l26r0,l26r1,l26r2,l26r3,l26r4,l26r5])
 | ((first|refine Acz ?_ ?_|refine Aez ?_ ?_|refine Adz ?_ ?_)<;>intro h<;>(try simp only [h])<;>(try simp only [bitvec_to_nat] at h)<;>(try simp only [h])<;>(first|(exfalso;omega)|(exfalso;simp_all;done)|(simp (disch:=omega) only [push_cast,seval])|skip))
 | ((first|((with_reducible refine qcallI_of (f:=15) [272] false ?_);simp (disch:=omega) only [push_cast,seval];(refine Bqz (id:=272) (Atz _ _ _ ?_ ?_) (by (simp (disch:=omega) only [push_cast,seval])<;>rfl) (by decide) ⟨_,_,rfl,rfl⟩ ?_;(iterate 2 (exact sd));rintro _ _ ⟨rfl,rfl⟩))|((with_reducible refine callD_ids (f:=15) [272] false ?_);simp (disch:=omega) only [push_cast,seval];(refine Bvz (id:=272) (Atz _ _ _ ?_ ?_) (by (simp (disch:=omega) only [push_cast,seval])<;>rfl) ?_;(iterate 2 (exact sd));rintro _ _ ⟨rfl,rfl⟩)))<;>(try simp (disch:=omega) only [push_cast,seval]))))
      refine Ajz ⟨.inr rfl,ret_pinS (fun _=>rfl) (by omega) (hret rows hl)⟩

end Go.Proofs.Ytpicoecbbiiaoaa
set_option linter.unusedSimpArgs false
set_option linter.unusedVariables false
set_option maxRecDepth 4000
set_option maxHeartbeats 4000000
namespace Go.Proofs.Ytpicoecbbiiaoaa
open VwM Vw Go

theorem swl2 (a d i m:Nat) (hm:m < 1099511627776) (hn:m ≠ a) (n sz:Nat):(AV.own m n sz).sw a (fim d i)=.own m n sz:=by simp only [AV.sw,swp112 a d i m hm hn]




set_option maxHeartbeats 8000000 in
theorem Eez (ts:List Tn) (n:Nat) (hn:ts.length=n) (hb:n ≤ 1048576 ∧ ∀ t ∈ ts,t.1.length ≤ 1099511627776 ∧ t.2.length ≤ 1099511627776):BCall Try.prog 20 [.rows false (TL false ts) n] [] (fun r H'=>r=.own 0 n 2 ∧ H'=(tsF ts).cellsG (· + 1) :: (tsF ts).conts):=by
  subst hn
  obtain ⟨hb1,hb2⟩:=hb
  refine A6z (pins:=[]) (pin:=0) l20_eq rfl rfl rfl ?_
  have htl:=Bez false ts
  have hzl:(zcells [AV.val (.slice none 0 0),.val (.slice none 0 0)] ts.length).length=ts.length * 2:=by simp [zcells,Nat.mul_comm]
  (repeat' (first
 | (first|refine Amz ?_|refine Agz ?_)
 | ((first|refine Anz ?_|refine Afz ?_|refine Ahz ?_|refine Aiz ?_);simp (disch:=omega) only [push_cast,seval,l20r0,l20r1,l20r2,l20r3,l20r4,l20r5,l20r6,Abz])
 | ((first|refine Acz ?_ ?_|refine Aez ?_ ?_|refine Adz ?_ ?_)<;>intro h<;>(try simp only [h])<;>(try simp only [bitvec_to_nat] at h)<;>(try simp only [h])<;>(first|(exfalso;omega)|(exfalso;simp_all;done)|(simp (disch:=omega) only [push_cast,seval,Abz])|skip))
 | ((first|refine Apz false ?_|refine Akz false ?_);simp (disch:=omega) only [push_cast,seval,Abz])
 | ((first|((first|refine call0D (Byz _ _ _ _ ?_ ?_ ?_) ?_|refine qcall0D (Byz _ _ _ _ ?_ ?_ ?_) ⟨_,_,rfl,rfl⟩ ?_);(iterate 3 (exact sd));rintro _ _ ⟨rfl,rfl⟩))<;>(try simp (disch:=omega) only [push_cast,seval,Abz]))
 | (refine Ajz ⟨.inr rfl,[112],[],_,by decide,rfl,?_⟩;(try simp (disch:=omega) only [push_cast,seval,↓Aqz,↓Aoz,↓List.map_cons,↓List.map_nil,Abz]))))
  refine Cjz (fun i:Nat=>mkS [(0,.rows false (TL false ts) ts.length),(3,.own 112 ts.length 2),(4,.int .i64 i)] ((112,row (ts.length * 2) (cellI 7 (tsF ts).rows (.val (.slice none 0 0)) (i * 2))) :: famR 7 (tsF ts).rows (i * 2))) (fun i=>i ≤ ts.length) (fun i=>ts.length - i) 0 (Nat.zero_le _) ?_ ?_
  · refine SubW.of ?_
    have e:row (ts.length * 2) (cellI 7 (tsF ts).rows (.val (.slice none 0 0)) (0 * 2))=zcells [AV.val (.slice none 0 0),.val (.slice none 0 0)] ts.length:=by
      symm
      refine Hcz hzl fun p hp=>?_
      unfold zcells
      rw [List.getElem?_map,List.getElem?_range (by simpa using hp)]
      rcases Nat.mod_two_eq_zero_or_one p with h|h<;>simp [h,cellI]
    have hzi:∀ P:Nat → Bool,innL P (row (ts.length * 2) (cellI 7 (tsF ts).rows (.val (.slice none 0 0)) (0 * 2)))=true:=fun P=>Hoz _ _ _ fun p _=>by simp [cellI,AV.inn]
    rw [Nat.zero_mul,famR_zero] at *
    rw [e] at hzi
    rw [e]
    generalize zcells [AV.val (.slice none 0 0),.val (.slice none 0 0)] ts.length=Z at *
    (refine Sub.of_lists ?_ ?_ ?_ ?_ ?_<;>simp [Vw.mkS,Vw.lk,Vw.hk,AV.inn,innL,Arz,Alz,Asz,-List.map_set,-List.getD_eq_getElem?_getD,Abz,TL,hzi])
  · intro i hi
    by_cases hlt:i < ts.length
    · obtain ⟨⟨x,y⟩,hti⟩:=mem_ltS hlt
      have hbb:x.length ≤ 1099511627776 ∧ y.length ≤ 1099511627776:=hb2 _ (List.mem_of_getElem? hti)
      have hd:=C7z false ts i hti
      simp only at hd
      have hil:i * 2 + 2 ≤ ts.length * 2:=by omega
      have hwl:=Cuz (ts.length * 2) (cellI 7 (tsF ts).rows (.val (.slice none 0 0)) (i * 2))
      obtain ⟨hr0,hr1⟩:(tsF ts).rows (i * 2)=x ∧ (tsF ts).rows (i * 2 + 1)=y:=tnRow_0 hti
      (repeat' (first
 | (first|refine Amz ?_|refine Agz ?_)
 | ((first|refine Anz ?_|refine Afz ?_|refine Ahz ?_|refine Aiz ?_);simp (disch:=omega) only [push_cast,seval,l20r0,l20r1,l20r2,l20r3,l20r4,l20r5,l20r6,hd,htl,hil,hwl,Abz])
 | ((first|refine Acz ?_ ?_|refine Aez ?_ ?_|refine Adz ?_ ?_)<;>intro h<;>(try simp only [h])<;>(try simp only [bitvec_to_nat] at h)<;>(try simp only [h])<;>(first|(exfalso;omega)|(exfalso;simp_all;done)|(simp (disch:=omega) only [push_cast,seval,hd,htl,hil,hwl,Abz])|skip))
 | ((first|refine Apz false ?_|refine Akz false ?_);simp (disch:=omega) only [push_cast,seval,hd,htl,hil,hwl,Abz])
 | ((first|((first|refine call0D (Byz _ _ _ _ ?_ ?_ ?_) ?_|refine qcall0D (Byz _ _ _ _ ?_ ?_ ?_) ⟨_,_,rfl,rfl⟩ ?_);(iterate 3 (exact sd));rintro _ _ ⟨rfl,rfl⟩))<;>(try simp (disch:=omega) only [push_cast,seval,hd,htl,hil,hwl,Abz]))))
      refine ⟨i + 1,by omega,by omega,?_⟩
      rw [show (i + 1) * 2=i * 2 + 2 by omega]
      refine SubW.fam2 (a:=320) (b:=321) (d:=7) (i:=i * 2) (id0:=112) (rows:=(tsF ts).rows) (c0:=((row (ts.length * 2) (cellI 7 (tsF ts).rows (.val (.slice none 0 0)) (i * 2))).set (i * 2) (.own 320 x.length 1)).set (i * 2 + 1) (.own 321 y.length 1)) ?_ ?_ ?_ ⟨by omega,by omega,by omega⟩ ?_ ?_ ?_ ?_ ?_
      · rw [hr0];rfl
      · rw [hr1];rfl
      · rfl
      · intro j hj
        simp only [hk,Dxz 7 j 112 (by omega),Dxz 7 j 320 (by omega),Dxz 7 j 321 (by omega),if_false]
        exact Cwz _ _ _ _ hj
      · rw [row_set,row_set,Cmz,Cmz]
        refine Bsz fun p hp=>?_
        by_cases e:p=i * 2 + 1
        · subst e
          rw [Axz]
          unfold cellI
          rw [if_pos (by omega),hr1,swl2 _ _ _ _ (by omega) (by omega)]
          simp only [AV.sw,swp_fst]
        · rw [Azz _ _ _ _ e]
          by_cases e':p=i * 2
          · subst e'
            rw [Axz]
            unfold cellI
            rw [if_pos (by omega),hr0]
            simp only [AV.sw,swp_fst]
            rw [Clz (Ne.symm (fimne _ _ _ (by omega))) (fun e'=>by have:=Cez e';omega)]
          · rw [Azz _ _ _ _ e']
            unfold cellI
            by_cases hpi:p < i * 2
            · rw [if_pos hpi,if_pos (by omega),swown _ _ _ _ _ (Ne.symm (fimne _ _ _ (by omega))) (fun e'=>by have:=Cez e';omega)]
              exact swown _ _ _ _ _ (Ne.symm (fimne _ _ _ (by omega))) (fun e'=>by have:=Cez e';omega)
            · rw [if_neg hpi,if_neg (by omega)]
              rfl
      · simp [lk,AV.sw,swL_TL,swp112]
      · simp [AV.inn,Abz,hk]
      · exact Hoz _ _ _ fun p _=>cellI_inn _ _ fun _=>rfl
    · have e:i=ts.length:=by omega
      subst e
      (repeat' (first
 | (first|refine Amz ?_|refine Agz ?_)
 | ((first|refine Anz ?_|refine Afz ?_|refine Ahz ?_|refine Aiz ?_);simp (disch:=omega) only [push_cast,seval,l20r0,l20r1,l20r2,l20r3,l20r4,l20r5,l20r6,Abz])
 | ((first|refine Acz ?_ ?_|refine Aez ?_ ?_|refine Adz ?_ ?_)<;>intro h<;>(try simp only [h])<;>(try simp only [bitvec_to_nat] at h)<;>(try simp only [h])<;>(first|(exfalso;omega)|(exfalso;simp_all;done)|(simp (disch:=omega) only [push_cast,seval,Abz])|skip))
 | ((first|refine Apz false ?_|refine Akz false ?_);simp (disch:=omega) only [push_cast,seval,Abz])
 | ((first|((first|refine call0D (Byz _ _ _ _ ?_ ?_ ?_) ?_|refine qcall0D (Byz _ _ _ _ ?_ ?_ ?_) ⟨_,_,rfl,rfl⟩ ?_);(iterate 3 (exact sd));rintro _ _ ⟨rfl,rfl⟩))<;>(try simp (disch:=omega) only [push_cast,seval,Abz]))))
      refine Ajz ⟨.inr rfl,ret_famS (F:=tsF ts) (d:=7) rfl ?_ ?_ (by omega)⟩
      · simp only [hk,if_true]
        congr 1
        exact Bsz fun p hp=>by unfold cellI;rw [if_pos hp];rfl
      · intro j hj
        simp only [hk,Dxz 7 j 112 (by omega),if_false]
        exact Cwz _ _ _ _ hj




set_option maxHeartbeats 8000000 in
theorem Dbz (F:Fam) (n:Nat) (k:Int) (hF:F.C=n * 2 ∧ F.R=n * 2 ∧ ∀ p,F.pat p=.inr p) (hk:0 ≤ k ∧ k ≤ 1125899906842624) (hb:n ≤ 1048576 ∧ ∀ j,(F.rows j).length ≤ 1048576):BCall Try.prog 25 [.own 0 n 2,.int .i64 k] (F.cellsG (· + 1) :: F.conts) (fun r H'=>∃ G k',(k ≤ k' ∧ k' ≤ k + 2199023255552) ∧ F.like G ∧ r=.int .i64 k' ∧ H'=G.cellsG (· + 1) :: G.conts):=by
  obtain ⟨hC,hR,hpat⟩:=hF
  obtain ⟨hb2,hb3⟩:=hb
  have hb1:=hk
  clear hk
  refine A6z (pins:=List.range (F.R + 1)) (pin:=F.R + 1) l25_eq rfl (by simp [B0z]) (by simp [B0z]) ?_
  rw [initB_fam]
  generalize hc0:F.cellsG (· + 1)=c0
  have hcl:c0.length=n * 2:=by rw [← hc0,B3z,hC]
  have hat:∀ i,i < n * 2 → (c0.drop i).take 1=[.own (i + 1) (F.rows i).length 1]:=fun i hi=>by
    rw [← hc0]
    unfold Fam.cellsG
    rw [row_1 _ _ _ (by omega)]
    simp [Fam.atG,hpat]
  generalize hRR:F.R=R at *
  have hret:∀ (rows:Nat → List Int),(∀ j,(rows j).length=(F.rows j).length) → ∃ G:Fam,F.like G ∧ G.rows=rows ∧ G.R=R ∧ c0=G.cellsG (· + 1):=fun rows hl=>by
    refine ⟨⟨F.C,F.R,F.pat,rows,F.ok,F.cell⟩,⟨rfl,rfl,fun j _=>hl j⟩,rfl,hRR,?_⟩
    rw [← hc0]
    unfold Fam.cellsG Fam.atG
    simp only [hl]
  (repeat' (first
 | (first|refine Amz ?_|refine Agz ?_)
 | ((first|refine Anz ?_|refine Afz ?_|refine Ahz ?_|refine Aiz ?_);simp (disch:=omega) only [push_cast,seval,l25r0,l25r1,l25r2,l25r3,l25r4,l25r5,l25r6])
 | ((first|refine Acz ?_ ?_|refine Aez ?_ ?_|refine Adz ?_ ?_)<;>intro h<;>(try simp only [h])<;>(try simp only [bitvec_to_nat] at h)<;>(try simp only [h])<;>(first|(exfalso;omega)|(exfalso;simp_all;done)|(simp (disch:=omega) only [push_cast,seval])|skip))
 | ((first|((with_reducible refine qcallI_of (f:=15) [288] false ?_);simp (disch:=omega) only [push_cast,seval];(refine Bqz (id:=288) (Atz _ _ _ ?_ ?_) (by (simp (disch:=omega) only [push_cast,seval])<;>rfl) (by decide) ⟨_,_,rfl,rfl⟩ ?_;(iterate 2 (exact sd));rintro _ _ ⟨rfl,rfl⟩))|((with_reducible refine qcallI_of (f:=15) [400] false ?_);simp (disch:=omega) only [push_cast,seval];(refine Bqz (id:=400) (Atz _ _ _ ?_ ?_) (by (simp (disch:=omega) only [push_cast,seval])<;>rfl) (by decide) ⟨_,_,rfl,rfl⟩ ?_;(iterate 2 (exact sd));rintro _ _ ⟨rfl,rfl⟩))|((with_reducible refine callD_ids (f:=15) [288] false ?_);simp (disch:=omega) only [push_cast,seval];(refine Bvz (id:=288) (Atz _ _ _ ?_ ?_) (by (simp (disch:=omega) only [push_cast,seval])<;>rfl) ?_;(iterate 2 (exact sd));rintro _ _ ⟨rfl,rfl⟩))|((with_reducible refine callD_ids (f:=15) [400] false ?_);simp (disch:=omega) only [push_cast,seval];(refine Bvz (id:=400) (Atz _ _ _ ?_ ?_) (by (simp (disch:=omega) only [push_cast,seval])<;>rfl) ?_;(iterate 2 (exact sd));rintro _ _ ⟨rfl,rfl⟩)))<;>(try simp (disch:=omega) only [push_cast,seval]))))
  refine Cjz (fun x:Nat × Int × (Nat → List Int)=>mkS [(0,.own 0 n 2),(1,.int .i64 x.2.1),(5,.int .i64 x.1)] ((0,c0) :: pinR x.2.2 R)) (fun x=>x.1 ≤ n ∧ (k ≤ x.2.1 ∧ x.2.1 ≤ k + x.1 * 2097152) ∧ ∀ j,(x.2.2 j).length=(F.rows j).length) (fun x=>n - x.1) (0,k,F.rows) ⟨Nat.zero_le _,by simp,fun _=>rfl⟩ ?_ ?_
  · refine SubW.slots ?_
    simp [lk]
  · rintro ⟨i,kk,rows⟩ ⟨hi,hkk,hl⟩
    simp only at hi hkk hl ⊢
    by_cases hlt:i < n
    · have hd:=hat (i * 2) (by omega)
      have hd2:=hat (i * 2 + 1) (by omega)
      have hkp:=Dfz rows R (i * 2) (by omega)
      have hkp2:=Dfz rows R (i * 2 + 1) (by omega)
      have hli:=hl (i * 2)
      have hbi:=hb3 (i * 2)
      have hli2:=hl (i * 2 + 1)
      have hbi2:=hb3 (i * 2 + 1)
      have hil:i * 2 + 2 ≤ n * 2:=by omega
      have hne:(i * 2 + 1 + 1=i * 2 + 1)=False:=by simp
      generalize hLL:(F.rows (i * 2)).length=L at *
      generalize hLL2:(F.rows (i * 2 + 1)).length=L2 at *
      (repeat' (first
 | (first|refine Amz ?_|refine Agz ?_)
 | ((first|refine Anz ?_|refine Afz ?_|refine Ahz ?_|refine Aiz ?_);simp (disch:=omega) only [push_cast,seval,l25r0,l25r1,l25r2,l25r3,l25r4,l25r5,l25r6,hd,hd2,hkp,hkp2,hli,hli2,hcl,hil,hne,Bwz,Bxz])
 | ((first|refine Acz ?_ ?_|refine Aez ?_ ?_|refine Adz ?_ ?_)<;>intro h<;>(try simp only [h])<;>(try simp only [bitvec_to_nat] at h)<;>(try simp only [h])<;>(first|(exfalso;omega)|(exfalso;simp_all;done)|(simp (disch:=omega) only [push_cast,seval,hd,hd2,hkp,hkp2,hli,hli2,hcl,hil,hne,Bwz,Bxz])|skip))
 | ((first|((with_reducible refine callD_ids (f:=15) [(i * 2 + 1)] false ?_);simp (disch:=omega) only [push_cast,seval,hd,hd2,hkp,hkp2,hli,hli2,hcl,hil,hne,Bwz,Bxz];(refine Bvz (id:=(i * 2 + 1)) (Atz _ _ _ ?_ ?_) (by (simp (disch:=omega) only [push_cast,seval,hd,hd2,hkp,hkp2,hli,hli2,hcl,hil,hne,Bwz,Bxz])<;>rfl) ?_;(iterate 2 (exact sd));rintro _ _ ⟨rfl,rfl⟩))|((with_reducible refine callD_ids (f:=15) [(i * 2 + 1 + 1)] false ?_);simp (disch:=omega) only [push_cast,seval,hd,hd2,hkp,hkp2,hli,hli2,hcl,hil,hne,Bwz,Bxz];(refine Bvz (id:=(i * 2 + 1 + 1)) (Atz _ _ _ ?_ ?_) (by (simp (disch:=omega) only [push_cast,seval,hd,hd2,hkp,hkp2,hli,hli2,hcl,hil,hne,Bwz,Bxz])<;>rfl) ?_;(iterate 2 (exact sd));rintro _ _ ⟨rfl,rfl⟩)))<;>(try simp (disch:=omega) only [push_cast,seval,hd,hd2,hkp,hkp2,hli,hli2,hcl,hil,hne,Bwz,Bxz]))))
      refine ⟨(i + 1,kk + L + L2,upd (upd rows (i * 2) (upFrom kk L)) (i * 2 + 1) (upFrom (kk + L) L2)),⟨by simp only;omega,by simp only;omega,fun j=>?_⟩,by simp only;omega,?_⟩
      · simp only
        by_cases e:j=i * 2 + 1
        · subst e;rw [Axz,hLL2];simp [upFrom]
        · rw [Azz _ _ _ _ e]
          by_cases e:j=i * 2
          · subst e;rw [Axz,hLL];simp [upFrom]
          · rw [Azz _ _ _ _ e];exact hl j
      · refine SubW.heq (H':=(0,c0) :: pinR (upd (upd rows (i * 2) (upFrom kk L)) (i * 2 + 1) (upFrom (kk + L) L2)) R) (fun id=>?_) (SubW.slots ?_)
        · rw [Hiz (by omega) id]
          simp only [hk]
          by_cases e:id=i * 2 + 1 + 1
          · rw [if_pos e,if_pos e]
          · rw [if_neg e,if_neg e]
            exact Hiz (by omega) id
        · simp [lk]
    · have e:i=n:=by omega
      subst e
      (repeat' (first
 | (first|refine Amz ?_|refine Agz ?_)
 | ((first|refine Anz ?_|refine Afz ?_|refine Ahz ?_|refine Aiz ?_);simp (disch:=omega) only [push_cast,seval,l25r0,l25r1,l25r2,l25r3,l25r4,l25r5,l25r6])
 | ((first|refine Acz ?_ ?_|refine Aez ?_ ?_|refine Adz ?_ ?_)<;>intro h<;>(try simp only [h])<;>(try simp only [bitvec_to_nat] at h)<;>(try simp only [h])<;>(first|(exfalso;omega)|(exfalso;simp_all;done)|(simp (disch:=omega) only [push_cast,seval])|skip))
 | ((first|((with_reducible refine qcallI_of (f:=15) [288] false ?_);simp (disch:=omega) only [push_cast,seval];(refine Bqz (id:=288) (Atz _ _ _ ?_ ?_) (by (simp (disch:=omega) only [push_cast,seval])<;>rfl) (by decide) ⟨_,_,rfl,rfl⟩ ?_;(iterate 2 (exact sd));rintro _ _ ⟨rfl,rfl⟩))|((with_reducible refine qcallI_of (f:=15) [400] false ?_);simp (disch:=omega) only [push_cast,seval];(refine Bqz (id:=400) (Atz _ _ _ ?_ ?_) (by (simp (disch:=omega) only [push_cast,seval])<;>rfl) (by decide) ⟨_,_,rfl,rfl⟩ ?_;(iterate 2 (exact sd));rintro _ _ ⟨rfl,rfl⟩))|((with_reducible refine callD_ids (f:=15) [288] false ?_);simp (disch:=omega) only [push_cast,seval];(refine Bvz (id:=288) (Atz _ _ _ ?_ ?_) (by (simp (disch:=omega) only [push_cast,seval])<;>rfl) ?_;(iterate 2 (exact sd));rintro _ _ ⟨rfl,rfl⟩))|((with_reducible refine callD_ids (f:=15) [400] false ?_);simp (disch:=omega) only [push_cast,seval];(refine Bvz (id:=400) (Atz _ _ _ ?_ ?_) (by (simp (disch:=omega) only [push_cast,seval])<;>rfl) ?_;(iterate 2 (exact sd));rintro _ _ ⟨rfl,rfl⟩)))<;>(try simp (disch:=omega) only [push_cast,seval]))))
      refine Ajz ⟨.inr rfl,ret_pinS (fun _=>rfl) (by omega) (hret rows hl)⟩

end Go.Proofs.Ytpicoecbbiiaoaa
