/- Texts of this verifier. -/
import Derived.Test.YtpicoecbbiiaoaaCB7
import Derived.Test.YtpicoecbbiiaoaaCM1
import Derived.Test.YtpicoecbbiiaoaaCW3
set_option linter.unusedSimpArgs false
set_option linter.unusedVariables false
set_option maxRecDepth 4000
set_option maxHeartbeats 4000000
namespace Go.Proofs.Ytpicoecbbiiaoaa
open VwM Vw Go

theorem plI_in {xs:List Int} {x:Int} (h:x ∈ xs):0 ≤ placeI xs x ∧ ¬ placeI xs x < 0:=by
  have h1:=mt (@Doz xs x).1 (fun h'=>h' h)
  exact ⟨by omega,h1⟩
theorem Euz {xs:List Int} {x:Int} (h:x ∉ xs):¬ 0 ≤ placeI xs x ∧ placeI xs x < 0:=by
  have h1:=(@Doz xs x).2 h
  exact ⟨by omega,h1⟩


set_option maxHeartbeats 16000000 in
theorem skeep_ok (ls:List (List Int)) (out:List Int) (n m:Nat) (i j:Nat) (a b:List Int) (hi:ls[i]?=some a) (hj:ls[j]?=some b) (hn:ls.length=n) (hm:out.length=m) (hb:(n ≤ 1000 ∧ m ≤ 100000000) ∧ (∀ l ∈ ls,l.length ≤ 100000000)):BCall Try.prog 55 [.rows false (LL false ls) n,.rows false (IL out) m,.int .i64 i,.int .i64 j] [] (OI (keL ls out a b i j)):=by
  subst hn hm
  obtain ⟨⟨hb0,hb1⟩,hb3⟩:=hb
  have hll:=A3z false ls
  have hil:=(List.getElem?_eq_some_iff.1 hi).1
  have hjl:=(List.getElem?_eq_some_iff.1 hj).1
  have hdi:=Bnz false ls i hi
  have hdj:=Bnz false ls j hj
  have ha:=hb3 _ (List.mem_of_getElem? hi)
  have hbb:=hb3 _ (List.mem_of_getElem? hj)
  have hi1:i + 1 ≤ ls.length:=by omega
  have hj1:j + 1 ≤ ls.length:=by omega
  refine A6z (pins:=[]) (pin:=0) l55_eq rfl rfl rfl ?_
  (repeat' (first
 | (first|refine Amz ?_|refine Agz ?_)
 | ((first|refine Anz ?_|refine Afz ?_|refine Ahz ?_|refine Aiz ?_);simp (disch:=omega) only [push_cast,seval,l55r0,l55r1,l55r2,l55r3,l55r4,l55r5,l55r6,l55r7,l55r8,l55r9,l55r10,l55r11,l55r12,l55r13,Aaz])
 | ((first|refine Acz ?_ ?_|refine Aez ?_ ?_|refine Adz ?_ ?_)<;>intro h<;>(try simp only [h])<;>(try simp only [bitvec_to_nat] at h)<;>(try simp only [h])<;>(first|(exfalso;omega)|(exfalso;simp_all;done)|(simp (disch:=omega) only [push_cast,seval,Aaz])|skip))
 | ((first|refine Apz false ?_|refine Akz false ?_);simp (disch:=omega) only [push_cast,seval,Aaz])
 | ((first|((first|refine call0D (BCall.ofP (Awz _ _ _ ?_ ?_)) ?_|refine qcall0D (BCall.ofP (Awz _ _ _ ?_ ?_)) ⟨_,_,rfl,rfl⟩ ?_);(iterate 2 (exact sd));rintro _ _ ⟨rfl,rfl⟩))<;>(try simp (disch:=omega) only [push_cast,seval,Aaz]))
 | (refine Ajz ⟨.inr rfl,[208],[],_,by decide,rfl,?_⟩;(try simp (disch:=omega) only [push_cast,seval,↓Aqz,↓Aoz,↓List.map_cons,↓List.map_nil,Aaz]))))
  refine Ayz (fun k:Nat=>mkS [(0,.rows false (LL false ls) ls.length),(1,RI out),(2,.int .i64 i),(3,.int .i64 j),(9,.own 208 (keT ls out a b i j k).length 1),(10,.int .i64 k)] [(208,IL (keT ls out a b i j k))]) (fun k=>k ≤ 5) (fun k=>5 - k) 0 (Nat.zero_le _) ?_ ?_
  · have e0:keT ls out a b i j 0=[]:=rfl
    (refine Sub.of_lists ?_ ?_ ?_ ?_ ?_<;>simp [Vw.mkS,Vw.lk,Vw.hk,AV.inn,innL,Arz,Alz,Asz,-List.map_set,-List.getD_eq_getElem?_getD,Aaz,e0])
  · intro k hk
    have hkl:=keT_len ls out a b i j k
    have hst:=keT_step ls out a b i j k
    by_cases hk5:k < 5
    · generalize hU:keT ls out a b i j k=U at *
      generalize hU2:keT ls out a b i j (k + 1)=U2 at *
      by_cases hin:(k:Int) ∈ a ∨ (k:Int) ∈ b
      · have hab:(decide ((k:Int) ∈ a) || decide ((k:Int) ∈ b))=true:=by simp only [Bool.or_eq_true,decide_eq_true_eq];exact hin
        rw [hab,Bool.true_and] at hst
        have hp:(0 ≤ placeI out (k:Int))=((k:Int) ∈ out):=by
          by_cases h:(k:Int) ∈ out
          · exact propext ⟨fun _=>h,fun _=>(plI_in h).1⟩
          · exact propext ⟨fun h'=>absurd h' (Euz h).1,fun h'=>absurd h' h⟩
        have hp2:decide (0 ≤ placeI out (k:Int))=(decide ((k:Int) ∈ out) || decide ((k:Int) ∈ (besT ls i j 0).flatten)):=by
          simp only [hp,besT,List.flatten_nil,List.not_mem_nil,decide_false,Bool.or_false]
        by_cases hA:(k:Int) ∈ a
        · have hpa:=plI_in hA
          have hpa1:=hpa.2
          (repeat' (first
 | (first|refine Amz ?_|refine Agz ?_)
 | ((first|refine Anz ?_|refine Afz ?_|refine Ahz ?_|refine Aiz ?_);simp (disch:=omega) only [push_cast,seval,l55r0,l55r1,l55r2,l55r3,l55r4,l55r5,l55r6,l55r7,l55r8,l55r9,l55r10,l55r11,l55r12,l55r13,hdi,hdj,hll,hi1,hj1,hpa1,hp2,Aaz])
 | ((first|refine Acz ?_ ?_|refine Aez ?_ ?_|refine Adz ?_ ?_)<;>intro h<;>(try simp only [h])<;>(try simp only [bitvec_to_nat] at h)<;>(try simp only [h])<;>(first|(exfalso;omega)|(exfalso;simp_all;done)|(simp (disch:=omega) only [push_cast,seval,hdi,hdj,hll,hi1,hj1,hpa1,hp2,Aaz])|skip))
 | ((first|refine Apz false ?_|refine Akz false ?_);simp (disch:=omega) only [push_cast,seval,hdi,hdj,hll,hi1,hj1,hpa1,hp2,Aaz])
 | ((first|((first|refine call0D (BCall.ofP (Awz _ _ _ ?_ ?_)) ?_|refine qcall0D (BCall.ofP (Awz _ _ _ ?_ ?_)) ⟨_,_,rfl,rfl⟩ ?_);(iterate 2 (exact sd));rintro _ _ ⟨rfl,rfl⟩))<;>(try simp (disch:=omega) only [push_cast,seval,hdi,hdj,hll,hi1,hj1,hpa1,hp2,Aaz]))
 | (refine Ajz ⟨.inr rfl,[208],[],_,by decide,rfl,?_⟩; (try simp (disch := omega) only [push_cast,seval,↓Aqz,↓Aoz,↓List.map_cons,↓List.map_nil,hdi,hdj,hll,hi1,hj1,hpa1,hp2,Aaz]))))
          refine Ayz (fun q:Nat=>mkS [(0,.rows false (LL false ls) ls.length),(1,RI out),(2,.int .i64 i),(3,.int .i64 j),(9,.own 208 U.length 1),(10,.int .i64 k),(11,.bool (decide ((k:Int) ∈ out) || decide ((k:Int) ∈ (besT ls i j q).flatten))),(12,.int .i64 q)] [(208,IL U)]) (fun q=>q ≤ ls.length) (fun q=>ls.length - q) 0 (Nat.zero_le _) ?_ ?_
          · (refine Sub.of_lists ?_ ?_ ?_ ?_ ?_<;>simp [Vw.mkS,Vw.lk,Vw.hk,AV.inn,innL,Arz,Alz,Asz,-List.map_set,-List.getD_eq_getElem?_getD,Aaz])
          · intro q hq
            by_cases hql:q < ls.length
            · obtain ⟨l,hl⟩:=Boz hql
              have hd:=Bnz false ls q hl
              have hq1:q + 1 ≤ ls.length:=by omega
              have hbl:=hb3 _ (List.mem_of_getElem? hl)
              cases hN:(decide ((k:Int) ∈ out) || decide ((k:Int) ∈ (besT ls i j q).flatten)) with
              | true =>
                have hN2:(decide ((k:Int) ∈ out) || decide ((k:Int) ∈ (besT ls i j (q + 1)).flatten))=true:=by
                  rw [Bool.or_eq_true,decide_eq_true_eq,decide_eq_true_eq] at hN ⊢
                  rcases hN with h|h
                  · exact .inl h
                  · exact .inr (by simp only [besT,List.flatten_append,List.mem_append];exact .inl h)
                (repeat' (first
 | (first|refine Amz ?_|refine Agz ?_)
 | ((first|refine Anz ?_|refine Afz ?_|refine Ahz ?_|refine Aiz ?_);simp (disch:=omega) only [push_cast,seval,l55r0,l55r1,l55r2,l55r3,l55r4,l55r5,l55r6,l55r7,l55r8,l55r9,l55r10,l55r11,l55r12,l55r13,hd,hll,hq1,Aaz])
 | ((first|refine Acz ?_ ?_|refine Aez ?_ ?_|refine Adz ?_ ?_)<;>intro h<;>(try simp only [h])<;>(try simp only [bitvec_to_nat] at h)<;>(try simp only [h])<;>(first|(exfalso;omega)|(exfalso;simp_all;done)|(simp (disch:=omega) only [push_cast,seval,hd,hll,hq1,Aaz])|skip))
 | ((first|refine Apz false ?_|refine Akz false ?_);simp (disch:=omega) only [push_cast,seval,hd,hll,hq1,Aaz])
 | ((first|((first|refine call0D (BCall.ofP (Awz _ _ _ ?_ ?_)) ?_|refine qcall0D (BCall.ofP (Awz _ _ _ ?_ ?_)) ⟨_,_,rfl,rfl⟩ ?_);(iterate 2 (exact sd));rintro _ _ ⟨rfl,rfl⟩))<;>(try simp (disch:=omega) only [push_cast,seval,hd,hll,hq1,Aaz]))
 | (refine Ajz ⟨.inr rfl,[208],[],_,by decide,rfl,?_⟩; (try simp (disch := omega) only [push_cast,seval,↓Aqz,↓Aoz,↓List.map_cons,↓List.map_nil,hd,hll,hq1,Aaz]))))
                refine ⟨q + 1,by omega,by omega,?_⟩
                rw [hN2]
                (refine Sub.of_lists ?_ ?_ ?_ ?_ ?_<;>simp [Vw.mkS,Vw.lk,Vw.hk,AV.inn,innL,Arz,Alz,Asz,-List.map_set,-List.getD_eq_getElem?_getD,Aaz])
              | false =>
                rw [Bool.or_eq_false_iff,decide_eq_false_iff_not,decide_eq_false_iff_not] at hN
                by_cases hqi:q=i
                · have hN2:(decide ((k:Int) ∈ out) || decide ((k:Int) ∈ (besT ls i j (q + 1)).flatten))=false:=by
                    rw [E0z (.inl hqi),Bool.or_eq_false_iff,decide_eq_false_iff_not,decide_eq_false_iff_not];exact hN
                  have h1:(q:Int)=i:=by omega
                  have h1':((q:Int)=i)=True:=eq_true h1
                  (repeat' (first
 | (first|refine Amz ?_|refine Agz ?_)
 | ((first|refine Anz ?_|refine Afz ?_|refine Ahz ?_|refine Aiz ?_);simp (disch:=omega) only [push_cast,seval,l55r0,l55r1,l55r2,l55r3,l55r4,l55r5,l55r6,l55r7,l55r8,l55r9,l55r10,l55r11,l55r12,l55r13,hd,hll,hq1,h1',ne_eq,not_true_eq_false,decide_false,Aaz])
 | ((first|refine Acz ?_ ?_|refine Aez ?_ ?_|refine Adz ?_ ?_)<;>intro h<;>(try simp only [h])<;>(try simp only [bitvec_to_nat] at h)<;>(try simp only [h])<;>(first|(exfalso;omega)|(exfalso;simp_all;done)|(simp (disch:=omega) only [push_cast,seval,hd,hll,hq1,h1',ne_eq,not_true_eq_false,decide_false,Aaz])|skip))
 | ((first|refine Apz false ?_|refine Akz false ?_);simp (disch:=omega) only [push_cast,seval,hd,hll,hq1,h1',ne_eq,not_true_eq_false,decide_false,Aaz])
 | ((first|((first|refine call0D (BCall.ofP (Awz _ _ _ ?_ ?_)) ?_|refine qcall0D (BCall.ofP (Awz _ _ _ ?_ ?_)) ⟨_,_,rfl,rfl⟩ ?_);(iterate 2 (exact sd));rintro _ _ ⟨rfl,rfl⟩))<;>(try simp (disch:=omega) only [push_cast,seval,hd,hll,hq1,h1',ne_eq,not_true_eq_false,decide_false,Aaz]))
 | (refine Ajz ⟨.inr rfl,[208],[],_,by decide,rfl,?_⟩; (try simp (disch := omega) only [push_cast,seval,↓Aqz,↓Aoz,↓List.map_cons,↓List.map_nil,hd,hll,hq1,h1',ne_eq,not_true_eq_false,decide_false,Aaz]))))
                  refine ⟨q + 1,by omega,by omega,?_⟩
                  rw [hN2]
                  (refine Sub.of_lists ?_ ?_ ?_ ?_ ?_<;>simp [Vw.mkS,Vw.lk,Vw.hk,AV.inn,innL,Arz,Alz,Asz,-List.map_set,-List.getD_eq_getElem?_getD,Aaz])
                · have h1:((q:Int)=i)=False:=eq_false (by omega)
                  by_cases hqj:q=j
                  · have hN2:(decide ((k:Int) ∈ out) || decide ((k:Int) ∈ (besT ls i j (q + 1)).flatten))=false:=by
                      rw [E0z (.inr hqj),Bool.or_eq_false_iff,decide_eq_false_iff_not,decide_eq_false_iff_not];exact hN
                    have h2:((q:Int)=j)=True:=eq_true (by omega)
                    (repeat' (first
 | (first|refine Amz ?_|refine Agz ?_)
 | ((first|refine Anz ?_|refine Afz ?_|refine Ahz ?_|refine Aiz ?_);simp (disch:=omega) only [push_cast,seval,l55r0,l55r1,l55r2,l55r3,l55r4,l55r5,l55r6,l55r7,l55r8,l55r9,l55r10,l55r11,l55r12,l55r13,hd,hll,hq1,h1,h2,Aaz])
 | ((first|refine Acz ?_ ?_|refine Aez ?_ ?_|refine Adz ?_ ?_)<;>intro h<;>(try simp only [h])<;>(try simp only [bitvec_to_nat] at h)<;>(try simp only [h])<;>(first|(exfalso;omega)|(exfalso;simp_all;done)|(simp (disch:=omega) only [push_cast,seval,hd,hll,hq1,h1,h2,Aaz])|skip))
 | ((first|refine Apz false ?_|refine Akz false ?_);simp (disch:=omega) only [push_cast,seval,hd,hll,hq1,h1,h2,Aaz])
 | ((first|((first|refine call0D (BCall.ofP (Awz _ _ _ ?_ ?_)) ?_|refine qcall0D (BCall.ofP (Awz _ _ _ ?_ ?_)) ⟨_,_,rfl,rfl⟩ ?_);(iterate 2 (exact sd));rintro _ _ ⟨rfl,rfl⟩))<;>(try simp (disch:=omega) only [push_cast,seval,hd,hll,hq1,h1,h2,Aaz]))
 | (refine Ajz ⟨.inr rfl,[208],[],_,by decide,rfl,?_⟩; (try simp (disch := omega) only [push_cast,seval,↓Aqz,↓Aoz,↓List.map_cons,↓List.map_nil,hd,hll,hq1,h1,h2,Aaz]))))
                    refine ⟨q + 1,by omega,by omega,?_⟩
                    rw [hN2]
                    (refine Sub.of_lists ?_ ?_ ?_ ?_ ?_<;>simp [Vw.mkS,Vw.lk,Vw.hk,AV.inn,innL,Arz,Alz,Asz,-List.map_set,-List.getD_eq_getElem?_getD,Aaz])
                  · have h2:((q:Int)=j)=False:=eq_false (by omega)
                    have hN2:(decide ((k:Int) ∈ out) || decide ((k:Int) ∈ (besT ls i j (q + 1)).flatten))=decide ((k:Int) ∈ l):=by
                      rw [Huz hl hqi hqj,Bool.eq_iff_iff]
                      simp only [Bool.or_eq_true,decide_eq_true_eq,List.flatten_append,List.mem_append,List.flatten_cons,List.flatten_nil,List.append_nil]
                      exact ⟨fun h=>by rcases h with h|h|h;exact absurd h hN.1;exact absurd h hN.2;exact h,fun h=>.inr (.inr h)⟩
                    have hp3:(0 ≤ placeI l (k:Int))=((k:Int) ∈ l):=by
                      by_cases h:(k:Int) ∈ l
                      · exact propext ⟨fun _=>h,fun _=>(plI_in h).1⟩
                      · exact propext ⟨fun h'=>absurd h' (Euz h).1,fun h'=>absurd h' h⟩
                    (repeat' (first
 | (first|refine Amz ?_|refine Agz ?_)
 | ((first|refine Anz ?_|refine Afz ?_|refine Ahz ?_|refine Aiz ?_);simp (disch:=omega) only [push_cast,seval,l55r0,l55r1,l55r2,l55r3,l55r4,l55r5,l55r6,l55r7,l55r8,l55r9,l55r10,l55r11,l55r12,l55r13,hd,hll,hq1,h1,h2,hp3,Aaz])
 | ((first|refine Acz ?_ ?_|refine Aez ?_ ?_|refine Adz ?_ ?_)<;>intro h<;>(try simp only [h])<;>(try simp only [bitvec_to_nat] at h)<;>(try simp only [h])<;>(first|(exfalso;omega)|(exfalso;simp_all;done)|(simp (disch:=omega) only [push_cast,seval,hd,hll,hq1,h1,h2,hp3,Aaz])|skip))
 | ((first|refine Apz false ?_|refine Akz false ?_);simp (disch:=omega) only [push_cast,seval,hd,hll,hq1,h1,h2,hp3,Aaz])
 | ((first|((first|refine call0D (BCall.ofP (Awz _ _ _ ?_ ?_)) ?_|refine qcall0D (BCall.ofP (Awz _ _ _ ?_ ?_)) ⟨_,_,rfl,rfl⟩ ?_);(iterate 2 (exact sd));rintro _ _ ⟨rfl,rfl⟩))<;>(try simp (disch:=omega) only [push_cast,seval,hd,hll,hq1,h1,h2,hp3,Aaz]))
 | (refine Ajz ⟨.inr rfl,[208],[],_,by decide,rfl,?_⟩; (try simp (disch := omega) only [push_cast,seval,↓Aqz,↓Aoz,↓List.map_cons,↓List.map_nil,hd,hll,hq1,h1,h2,hp3,Aaz]))))
                    refine ⟨q + 1,by omega,by omega,?_⟩
                    rw [hN2]
                    (refine Sub.of_lists ?_ ?_ ?_ ?_ ?_<;>simp [Vw.mkS,Vw.lk,Vw.hk,AV.inn,innL,Arz,Alz,Asz,-List.map_set,-List.getD_eq_getElem?_getD,Aaz])
            · have eq:q=ls.length:=by omega
              subst eq
              have hbs:besT ls i j ls.length=besL ls i j:=rfl
              rw [hbs]
              cases hN:(decide ((k:Int) ∈ out) || decide ((k:Int) ∈ (besL ls i j).flatten)) with
              | true =>
                rw [hN,if_pos rfl] at hst
                (repeat' (first
 | (first|refine Amz ?_|refine Agz ?_)
 | ((first|refine Anz ?_|refine Afz ?_|refine Ahz ?_|refine Aiz ?_);simp (disch:=omega) only [push_cast,seval,l55r0,l55r1,l55r2,l55r3,l55r4,l55r5,l55r6,l55r7,l55r8,l55r9,l55r10,l55r11,l55r12,l55r13,hll,List.length_map,Aaz])
 | ((first|refine Acz ?_ ?_|refine Aez ?_ ?_|refine Adz ?_ ?_)<;>intro h<;>(try simp only [h])<;>(try simp only [bitvec_to_nat] at h)<;>(try simp only [h])<;>(first|(exfalso;omega)|(exfalso;simp_all;done)|(simp (disch:=omega) only [push_cast,seval,hll,List.length_map,Aaz])|skip))
 | ((first|refine Apz false ?_|refine Akz false ?_);simp (disch:=omega) only [push_cast,seval,hll,List.length_map,Aaz])
 | ((first|((first|refine call0D (BCall.ofP (Awz _ _ _ ?_ ?_)) ?_|refine qcall0D (BCall.ofP (Awz _ _ _ ?_ ?_)) ⟨_,_,rfl,rfl⟩ ?_);(iterate 2 (exact sd));rintro _ _ ⟨rfl,rfl⟩))<;>(try simp (disch:=omega) only [push_cast,seval,hll,List.length_map,Aaz]))
 | (refine Ajz ⟨.inr rfl,[208],[],_,by decide,rfl,?_⟩; (try simp (disch := omega) only [push_cast,seval,↓Aqz,↓Aoz,↓List.map_cons,↓List.map_nil,hll,List.length_map,Aaz]))))
                refine ⟨k + 1,by omega,by omega,?_⟩
                rw [hU2,hst]
                (refine Sub.of_lists ?_ ?_ ?_ ?_ ?_<;>simp [Vw.mkS,Vw.lk,Vw.hk,AV.inn,innL,Arz,Alz,Asz,-List.map_set,-List.getD_eq_getElem?_getD,Aaz])
              | false =>
                rw [hN,if_neg (by simp),List.append_nil] at hst
                (repeat' (first
 | (first|refine Amz ?_|refine Agz ?_)
 | ((first|refine Anz ?_|refine Afz ?_|refine Ahz ?_|refine Aiz ?_);simp (disch:=omega) only [push_cast,seval,l55r0,l55r1,l55r2,l55r3,l55r4,l55r5,l55r6,l55r7,l55r8,l55r9,l55r10,l55r11,l55r12,l55r13,hll,Aaz])
 | ((first|refine Acz ?_ ?_|refine Aez ?_ ?_|refine Adz ?_ ?_)<;>intro h<;>(try simp only [h])<;>(try simp only [bitvec_to_nat] at h)<;>(try simp only [h])<;>(first|(exfalso;omega)|(exfalso;simp_all;done)|(simp (disch:=omega) only [push_cast,seval,hll,Aaz])|skip))
 | ((first|refine Apz false ?_|refine Akz false ?_);simp (disch:=omega) only [push_cast,seval,hll,Aaz])
 | ((first|((first|refine call0D (BCall.ofP (Awz _ _ _ ?_ ?_)) ?_|refine qcall0D (BCall.ofP (Awz _ _ _ ?_ ?_)) ⟨_,_,rfl,rfl⟩ ?_);(iterate 2 (exact sd));rintro _ _ ⟨rfl,rfl⟩))<;>(try simp (disch:=omega) only [push_cast,seval,hll,Aaz]))
 | (refine Ajz ⟨.inr rfl,[208],[],_,by decide,rfl,?_⟩; (try simp (disch := omega) only [push_cast,seval,↓Aqz,↓Aoz,↓List.map_cons,↓List.map_nil,hll,Aaz]))))
                refine ⟨k + 1,by omega,by omega,?_⟩
                rw [hU2,hst]
                (refine Sub.of_lists ?_ ?_ ?_ ?_ ?_<;>simp [Vw.mkS,Vw.lk,Vw.hk,AV.inn,innL,Arz,Alz,Asz,-List.map_set,-List.getD_eq_getElem?_getD,Aaz])
        · have hB:(k:Int) ∈ b:=by rcases hin with h|h;exact absurd h hA;exact h
          have hpa:=(Euz hA).2
          have hpb:=(plI_in hB).2
          (repeat' (first
 | (first|refine Amz ?_|refine Agz ?_)
 | ((first|refine Anz ?_|refine Afz ?_|refine Ahz ?_|refine Aiz ?_);simp (disch:=omega) only [push_cast,seval,l55r0,l55r1,l55r2,l55r3,l55r4,l55r5,l55r6,l55r7,l55r8,l55r9,l55r10,l55r11,l55r12,l55r13,hdi,hdj,hll,hi1,hj1,hpa,hpb,hp2,Aaz])
 | ((first|refine Acz ?_ ?_|refine Aez ?_ ?_|refine Adz ?_ ?_)<;>intro h<;>(try simp only [h])<;>(try simp only [bitvec_to_nat] at h)<;>(try simp only [h])<;>(first|(exfalso;omega)|(exfalso;simp_all;done)|(simp (disch:=omega) only [push_cast,seval,hdi,hdj,hll,hi1,hj1,hpa,hpb,hp2,Aaz])|skip))
 | ((first|refine Apz false ?_|refine Akz false ?_);simp (disch:=omega) only [push_cast,seval,hdi,hdj,hll,hi1,hj1,hpa,hpb,hp2,Aaz])
 | ((first|((first|refine call0D (BCall.ofP (Awz _ _ _ ?_ ?_)) ?_|refine qcall0D (BCall.ofP (Awz _ _ _ ?_ ?_)) ⟨_,_,rfl,rfl⟩ ?_);(iterate 2 (exact sd));rintro _ _ ⟨rfl,rfl⟩))<;>(try simp (disch:=omega) only [push_cast,seval,hdi,hdj,hll,hi1,hj1,hpa,hpb,hp2,Aaz]))
 | (refine Ajz ⟨.inr rfl,[208],[],_,by decide,rfl,?_⟩; (try simp (disch := omega) only [push_cast,seval,↓Aqz,↓Aoz,↓List.map_cons,↓List.map_nil,hdi,hdj,hll,hi1,hj1,hpa,hpb,hp2,Aaz]))))
          refine Ayz (fun q:Nat=>mkS [(0,.rows false (LL false ls) ls.length),(1,RI out),(2,.int .i64 i),(3,.int .i64 j),(9,.own 208 U.length 1),(10,.int .i64 k),(11,.bool (decide ((k:Int) ∈ out) || decide ((k:Int) ∈ (besT ls i j q).flatten))),(12,.int .i64 q)] [(208,IL U)]) (fun q=>q ≤ ls.length) (fun q=>ls.length - q) 0 (Nat.zero_le _) ?_ ?_
          · (refine Sub.of_lists ?_ ?_ ?_ ?_ ?_<;>simp [Vw.mkS,Vw.lk,Vw.hk,AV.inn,innL,Arz,Alz,Asz,-List.map_set,-List.getD_eq_getElem?_getD,Aaz])
          · intro q hq
            by_cases hql:q < ls.length
            · obtain ⟨l,hl⟩:=Boz hql
              have hd:=Bnz false ls q hl
              have hq1:q + 1 ≤ ls.length:=by omega
              have hbl:=hb3 _ (List.mem_of_getElem? hl)
              cases hN:(decide ((k:Int) ∈ out) || decide ((k:Int) ∈ (besT ls i j q).flatten)) with
              | true =>
                have hN2:(decide ((k:Int) ∈ out) || decide ((k:Int) ∈ (besT ls i j (q + 1)).flatten))=true:=by
                  rw [Bool.or_eq_true,decide_eq_true_eq,decide_eq_true_eq] at hN ⊢
                  rcases hN with h|h
                  · exact .inl h
                  · exact .inr (by simp only [besT,List.flatten_append,List.mem_append];exact .inl h)
                (repeat' (first
 | (first|refine Amz ?_|refine Agz ?_)
 | ((first|refine Anz ?_|refine Afz ?_|refine Ahz ?_|refine Aiz ?_);simp (disch:=omega) only [push_cast,seval,l55r0,l55r1,l55r2,l55r3,l55r4,l55r5,l55r6,l55r7,l55r8,l55r9,l55r10,l55r11,l55r12,l55r13,hd,hll,hq1,Aaz])
 | ((first|refine Acz ?_ ?_|refine Aez ?_ ?_|refine Adz ?_ ?_)<;>intro h<;>(try simp only [h])<;>(try simp only [bitvec_to_nat] at h)<;>(try simp only [h])<;>(first|(exfalso;omega)|(exfalso;simp_all;done)|(simp (disch:=omega) only [push_cast,seval,hd,hll,hq1,Aaz])|skip))
 | ((first|refine Apz false ?_|refine Akz false ?_);simp (disch:=omega) only [push_cast,seval,hd,hll,hq1,Aaz])
 | ((first|((first|refine call0D (BCall.ofP (Awz _ _ _ ?_ ?_)) ?_|refine qcall0D (BCall.ofP (Awz _ _ _ ?_ ?_)) ⟨_,_,rfl,rfl⟩ ?_);(iterate 2 (exact sd));rintro _ _ ⟨rfl,rfl⟩))<;>(try simp (disch:=omega) only [push_cast,seval,hd,hll,hq1,Aaz]))
 | (refine Ajz ⟨.inr rfl,[208],[],_,by decide,rfl,?_⟩; (try simp (disch := omega) only [push_cast,seval,↓Aqz,↓Aoz,↓List.map_cons,↓List.map_nil,hd,hll,hq1,Aaz]))))
                refine ⟨q + 1,by omega,by omega,?_⟩
                rw [hN2]
                (refine Sub.of_lists ?_ ?_ ?_ ?_ ?_<;>simp [Vw.mkS,Vw.lk,Vw.hk,AV.inn,innL,Arz,Alz,Asz,-List.map_set,-List.getD_eq_getElem?_getD,Aaz])
              | false =>
                rw [Bool.or_eq_false_iff,decide_eq_false_iff_not,decide_eq_false_iff_not] at hN
                by_cases hqi:q=i
                · have hN2:(decide ((k:Int) ∈ out) || decide ((k:Int) ∈ (besT ls i j (q + 1)).flatten))=false:=by
                    rw [E0z (.inl hqi),Bool.or_eq_false_iff,decide_eq_false_iff_not,decide_eq_false_iff_not];exact hN
                  have h1:(q:Int)=i:=by omega
                  have h1':((q:Int)=i)=True:=eq_true h1
                  (repeat' (first
 | (first|refine Amz ?_|refine Agz ?_)
 | ((first|refine Anz ?_|refine Afz ?_|refine Ahz ?_|refine Aiz ?_);simp (disch:=omega) only [push_cast,seval,l55r0,l55r1,l55r2,l55r3,l55r4,l55r5,l55r6,l55r7,l55r8,l55r9,l55r10,l55r11,l55r12,l55r13,hd,hll,hq1,h1',ne_eq,not_true_eq_false,decide_false,Aaz])
 | ((first|refine Acz ?_ ?_|refine Aez ?_ ?_|refine Adz ?_ ?_)<;>intro h<;>(try simp only [h])<;>(try simp only [bitvec_to_nat] at h)<;>(try simp only [h])<;>(first|(exfalso;omega)|(exfalso;simp_all;done)|(simp (disch:=omega) only [push_cast,seval,hd,hll,hq1,h1',ne_eq,not_true_eq_false,decide_false,Aaz])|skip))
 | ((first|refine Apz false ?_|refine Akz false ?_);simp (disch:=omega) only [push_cast,seval,hd,hll,hq1,h1',ne_eq,not_true_eq_false,decide_false,Aaz])
 | ((first|((first|refine call0D (BCall.ofP (Awz _ _ _ ?_ ?_)) ?_|refine qcall0D (BCall.ofP (Awz _ _ _ ?_ ?_)) ⟨_,_,rfl,rfl⟩ ?_);(iterate 2 (exact sd));rintro _ _ ⟨rfl,rfl⟩))<;>(try simp (disch:=omega) only [push_cast,seval,hd,hll,hq1,h1',ne_eq,not_true_eq_false,decide_false,Aaz]))
 | (refine Ajz ⟨.inr rfl,[208],[],_,by decide,rfl,?_⟩; (try simp (disch := omega) only [push_cast,seval,↓Aqz,↓Aoz,↓List.map_cons,↓List.map_nil,hd,hll,hq1,h1',ne_eq,not_true_eq_false,decide_false,Aaz]))))
                  refine ⟨q + 1,by omega,by omega,?_⟩
                  rw [hN2]
                  (refine Sub.of_lists ?_ ?_ ?_ ?_ ?_<;>simp [Vw.mkS,Vw.lk,Vw.hk,AV.inn,innL,Arz,Alz,Asz,-List.map_set,-List.getD_eq_getElem?_getD,Aaz])
                · have h1:((q:Int)=i)=False:=eq_false (by omega)
                  by_cases hqj:q=j
                  · have hN2:(decide ((k:Int) ∈ out) || decide ((k:Int) ∈ (besT ls i j (q + 1)).flatten))=false:=by
                      rw [E0z (.inr hqj),Bool.or_eq_false_iff,decide_eq_false_iff_not,decide_eq_false_iff_not];exact hN
                    have h2:((q:Int)=j)=True:=eq_true (by omega)
                    (repeat' (first
 | (first|refine Amz ?_|refine Agz ?_)
 | ((first|refine Anz ?_|refine Afz ?_|refine Ahz ?_|refine Aiz ?_);simp (disch:=omega) only [push_cast,seval,l55r0,l55r1,l55r2,l55r3,l55r4,l55r5,l55r6,l55r7,l55r8,l55r9,l55r10,l55r11,l55r12,l55r13,hd,hll,hq1,h1,h2,Aaz])
 | ((first|refine Acz ?_ ?_|refine Aez ?_ ?_|refine Adz ?_ ?_)<;>intro h<;>(try simp only [h])<;>(try simp only [bitvec_to_nat] at h)<;>(try simp only [h])<;>(first|(exfalso;omega)|(exfalso;simp_all;done)|(simp (disch:=omega) only [push_cast,seval,hd,hll,hq1,h1,h2,Aaz])|skip))
 | ((first|refine Apz false ?_|refine Akz false ?_);simp (disch:=omega) only [push_cast,seval,hd,hll,hq1,h1,h2,Aaz])
 | ((first|((first|refine call0D (BCall.ofP (Awz _ _ _ ?_ ?_)) ?_|refine qcall0D (BCall.ofP (Awz _ _ _ ?_ ?_)) ⟨_,_,rfl,rfl⟩ ?_);(iterate 2 (exact sd));rintro _ _ ⟨rfl,rfl⟩))<;>(try simp (disch:=omega) only [push_cast,seval,hd,hll,hq1,h1,h2,Aaz]))
 | (refine Ajz ⟨.inr rfl,[208],[],_,by decide,rfl,?_⟩; (try simp (disch := omega) only [push_cast,seval,↓Aqz,↓Aoz,↓List.map_cons,↓List.map_nil,hd,hll,hq1,h1,h2,Aaz]))))
                    refine ⟨q + 1,by omega,by omega,?_⟩
                    rw [hN2]
                    (refine Sub.of_lists ?_ ?_ ?_ ?_ ?_<;>simp [Vw.mkS,Vw.lk,Vw.hk,AV.inn,innL,Arz,Alz,Asz,-List.map_set,-List.getD_eq_getElem?_getD,Aaz])
                  · have h2:((q:Int)=j)=False:=eq_false (by omega)
                    have hN2:(decide ((k:Int) ∈ out) || decide ((k:Int) ∈ (besT ls i j (q + 1)).flatten))=decide ((k:Int) ∈ l):=by
                      rw [Huz hl hqi hqj,Bool.eq_iff_iff]
                      simp only [Bool.or_eq_true,decide_eq_true_eq,List.flatten_append,List.mem_append,List.flatten_cons,List.flatten_nil,List.append_nil]
                      exact ⟨fun h=>by rcases h with h|h|h;exact absurd h hN.1;exact absurd h hN.2;exact h,fun h=>.inr (.inr h)⟩
                    have hp3:(0 ≤ placeI l (k:Int))=((k:Int) ∈ l):=by
                      by_cases h:(k:Int) ∈ l
                      · exact propext ⟨fun _=>h,fun _=>(plI_in h).1⟩
                      · exact propext ⟨fun h'=>absurd h' (Euz h).1,fun h'=>absurd h' h⟩
                    (repeat' (first
 | (first|refine Amz ?_|refine Agz ?_)
 | ((first|refine Anz ?_|refine Afz ?_|refine Ahz ?_|refine Aiz ?_);simp (disch:=omega) only [push_cast,seval,l55r0,l55r1,l55r2,l55r3,l55r4,l55r5,l55r6,l55r7,l55r8,l55r9,l55r10,l55r11,l55r12,l55r13,hd,hll,hq1,h1,h2,hp3,Aaz])
 | ((first|refine Acz ?_ ?_|refine Aez ?_ ?_|refine Adz ?_ ?_)<;>intro h<;>(try simp only [h])<;>(try simp only [bitvec_to_nat] at h)<;>(try simp only [h])<;>(first|(exfalso;omega)|(exfalso;simp_all;done)|(simp (disch:=omega) only [push_cast,seval,hd,hll,hq1,h1,h2,hp3,Aaz])|skip))
 | ((first|refine Apz false ?_|refine Akz false ?_);simp (disch:=omega) only [push_cast,seval,hd,hll,hq1,h1,h2,hp3,Aaz])
 | ((first|((first|refine call0D (BCall.ofP (Awz _ _ _ ?_ ?_)) ?_|refine qcall0D (BCall.ofP (Awz _ _ _ ?_ ?_)) ⟨_,_,rfl,rfl⟩ ?_);(iterate 2 (exact sd));rintro _ _ ⟨rfl,rfl⟩))<;>(try simp (disch:=omega) only [push_cast,seval,hd,hll,hq1,h1,h2,hp3,Aaz]))
 | (refine Ajz ⟨.inr rfl,[208],[],_,by decide,rfl,?_⟩; (try simp (disch := omega) only [push_cast,seval,↓Aqz,↓Aoz,↓List.map_cons,↓List.map_nil,hd,hll,hq1,h1,h2,hp3,Aaz]))))
                    refine ⟨q + 1,by omega,by omega,?_⟩
                    rw [hN2]
                    (refine Sub.of_lists ?_ ?_ ?_ ?_ ?_<;>simp [Vw.mkS,Vw.lk,Vw.hk,AV.inn,innL,Arz,Alz,Asz,-List.map_set,-List.getD_eq_getElem?_getD,Aaz])
            · have eq:q=ls.length:=by omega
              subst eq
              have hbs:besT ls i j ls.length=besL ls i j:=rfl
              rw [hbs]
              cases hN:(decide ((k:Int) ∈ out) || decide ((k:Int) ∈ (besL ls i j).flatten)) with
              | true =>
                rw [hN,if_pos rfl] at hst
                (repeat' (first
 | (first|refine Amz ?_|refine Agz ?_)
 | ((first|refine Anz ?_|refine Afz ?_|refine Ahz ?_|refine Aiz ?_);simp (disch:=omega) only [push_cast,seval,l55r0,l55r1,l55r2,l55r3,l55r4,l55r5,l55r6,l55r7,l55r8,l55r9,l55r10,l55r11,l55r12,l55r13,hll,List.length_map,Aaz])
 | ((first|refine Acz ?_ ?_|refine Aez ?_ ?_|refine Adz ?_ ?_)<;>intro h<;>(try simp only [h])<;>(try simp only [bitvec_to_nat] at h)<;>(try simp only [h])<;>(first|(exfalso;omega)|(exfalso;simp_all;done)|(simp (disch:=omega) only [push_cast,seval,hll,List.length_map,Aaz])|skip))
 | ((first|refine Apz false ?_|refine Akz false ?_);simp (disch:=omega) only [push_cast,seval,hll,List.length_map,Aaz])
 | ((first|((first|refine call0D (BCall.ofP (Awz _ _ _ ?_ ?_)) ?_|refine qcall0D (BCall.ofP (Awz _ _ _ ?_ ?_)) ⟨_,_,rfl,rfl⟩ ?_);(iterate 2 (exact sd));rintro _ _ ⟨rfl,rfl⟩))<;>(try simp (disch:=omega) only [push_cast,seval,hll,List.length_map,Aaz]))
 | (refine Ajz ⟨.inr rfl,[208],[],_,by decide,rfl,?_⟩; (try simp (disch := omega) only [push_cast,seval,↓Aqz,↓Aoz,↓List.map_cons,↓List.map_nil,hll,List.length_map,Aaz]))))
                refine ⟨k + 1,by omega,by omega,?_⟩
                rw [hU2,hst]
                (refine Sub.of_lists ?_ ?_ ?_ ?_ ?_<;>simp [Vw.mkS,Vw.lk,Vw.hk,AV.inn,innL,Arz,Alz,Asz,-List.map_set,-List.getD_eq_getElem?_getD,Aaz])
              | false =>
                rw [hN,if_neg (by simp),List.append_nil] at hst
                (repeat' (first
 | (first|refine Amz ?_|refine Agz ?_)
 | ((first|refine Anz ?_|refine Afz ?_|refine Ahz ?_|refine Aiz ?_);simp (disch:=omega) only [push_cast,seval,l55r0,l55r1,l55r2,l55r3,l55r4,l55r5,l55r6,l55r7,l55r8,l55r9,l55r10,l55r11,l55r12,l55r13,hll,Aaz])
 | ((first|refine Acz ?_ ?_|refine Aez ?_ ?_|refine Adz ?_ ?_)<;>intro h<;>(try simp only [h])<;>(try simp only [bitvec_to_nat] at h)<;>(try simp only [h])<;>(first|(exfalso;omega)|(exfalso;simp_all;done)|(simp (disch:=omega) only [push_cast,seval,hll,Aaz])|skip))
 | ((first|refine Apz false ?_|refine Akz false ?_);simp (disch:=omega) only [push_cast,seval,hll,Aaz])
 | ((first|((first|refine call0D (BCall.ofP (Awz _ _ _ ?_ ?_)) ?_|refine qcall0D (BCall.ofP (Awz _ _ _ ?_ ?_)) ⟨_,_,rfl,rfl⟩ ?_);(iterate 2 (exact sd));rintro _ _ ⟨rfl,rfl⟩))<;>(try simp (disch:=omega) only [push_cast,seval,hll,Aaz]))
 | (refine Ajz ⟨.inr rfl,[208],[],_,by decide,rfl,?_⟩; (try simp (disch := omega) only [push_cast,seval,↓Aqz,↓Aoz,↓List.map_cons,↓List.map_nil,hll,Aaz]))))
                refine ⟨k + 1,by omega,by omega,?_⟩
                rw [hU2,hst]
                (refine Sub.of_lists ?_ ?_ ?_ ?_ ?_<;>simp [Vw.mkS,Vw.lk,Vw.hk,AV.inn,innL,Arz,Alz,Asz,-List.map_set,-List.getD_eq_getElem?_getD,Aaz])
      · have hab:(decide ((k:Int) ∈ a) || decide ((k:Int) ∈ b))=false:=by
          rw [Bool.or_eq_false_iff,decide_eq_false_iff_not,decide_eq_false_iff_not]
          exact ⟨fun h=>hin (.inl h),fun h=>hin (.inr h)⟩
        rw [hab,Bool.false_and] at hst
        simp only [Bool.false_eq_true,if_false,List.append_nil] at hst
        have hpa:=(Euz fun h=>hin (.inl h)).2
        have hpb:=(Euz fun h=>hin (.inr h)).2
        (repeat' (first
 | (first|refine Amz ?_|refine Agz ?_)
 | ((first|refine Anz ?_|refine Afz ?_|refine Ahz ?_|refine Aiz ?_);simp (disch:=omega) only [push_cast,seval,l55r0,l55r1,l55r2,l55r3,l55r4,l55r5,l55r6,l55r7,l55r8,l55r9,l55r10,l55r11,l55r12,l55r13,hdi,hdj,hll,hi1,hj1,hpa,hpb,Aaz])
 | ((first|refine Acz ?_ ?_|refine Aez ?_ ?_|refine Adz ?_ ?_)<;>intro h<;>(try simp only [h])<;>(try simp only [bitvec_to_nat] at h)<;>(try simp only [h])<;>(first|(exfalso;omega)|(exfalso;simp_all;done)|(simp (disch:=omega) only [push_cast,seval,hdi,hdj,hll,hi1,hj1,hpa,hpb,Aaz])|skip))
 | ((first|refine Apz false ?_|refine Akz false ?_);simp (disch:=omega) only [push_cast,seval,hdi,hdj,hll,hi1,hj1,hpa,hpb,Aaz])
 | ((first|((first|refine call0D (BCall.ofP (Awz _ _ _ ?_ ?_)) ?_|refine qcall0D (BCall.ofP (Awz _ _ _ ?_ ?_)) ⟨_,_,rfl,rfl⟩ ?_);(iterate 2 (exact sd));rintro _ _ ⟨rfl,rfl⟩))<;>(try simp (disch:=omega) only [push_cast,seval,hdi,hdj,hll,hi1,hj1,hpa,hpb,Aaz]))
 | (refine Ajz ⟨.inr rfl,[208],[],_,by decide,rfl,?_⟩;(try simp (disch:=omega) only [push_cast,seval,↓Aqz,↓Aoz,↓List.map_cons,↓List.map_nil,hdi,hdj,hll,hi1,hj1,hpa,hpb,Aaz]))))
        refine ⟨k + 1,by omega,by omega,?_⟩
        rw [hU2,hst]
        (refine Sub.of_lists ?_ ?_ ?_ ?_ ?_<;>simp [Vw.mkS,Vw.lk,Vw.hk,AV.inn,innL,Arz,Alz,Asz,-List.map_set,-List.getD_eq_getElem?_getD,Aaz])
    · have ek:k=5:=by omega
      subst ek
      (repeat' (first
 | (first|refine Amz ?_|refine Agz ?_)
 | ((first|refine Anz ?_|refine Afz ?_|refine Ahz ?_|refine Aiz ?_);simp (disch:=omega) only [push_cast,seval,l55r0,l55r1,l55r2,l55r3,l55r4,l55r5,l55r6,l55r7,l55r8,l55r9,l55r10,l55r11,l55r12,l55r13,List.length_map,Aaz])
 | ((first|refine Acz ?_ ?_|refine Aez ?_ ?_|refine Adz ?_ ?_)<;>intro h<;>(try simp only [h])<;>(try simp only [bitvec_to_nat] at h)<;>(try simp only [h])<;>(first|(exfalso;omega)|(exfalso;simp_all;done)|(simp (disch:=omega) only [push_cast,seval,List.length_map,Aaz])|skip))
 | ((first|refine Apz false ?_|refine Akz false ?_);simp (disch:=omega) only [push_cast,seval,List.length_map,Aaz])
 | ((first|((first|refine call0D (BCall.ofP (Awz _ _ _ ?_ ?_)) ?_|refine qcall0D (BCall.ofP (Awz _ _ _ ?_ ?_)) ⟨_,_,rfl,rfl⟩ ?_);(iterate 2 (exact sd));rintro _ _ ⟨rfl,rfl⟩))<;>(try simp (disch:=omega) only [push_cast,seval,List.length_map,Aaz]))
 | (refine Ajz ⟨.inr rfl,[208],[],_,by decide,rfl,?_⟩;(try simp (disch:=omega) only [push_cast,seval,↓Aqz,↓Aoz,↓List.map_cons,↓List.map_nil,List.length_map,Aaz]))))
      all_goals (first|exact ⟨rfl,rfl⟩|skip)

end Go.Proofs.Ytpicoecbbiiaoaa
set_option linter.unusedSimpArgs false
set_option linter.unusedVariables false
set_option maxRecDepth 4000
set_option maxHeartbeats 4000000
namespace Go.Proofs.Ytpicoecbbiiaoaa
open VwM Vw Go

/-- What the inner loop of the cost by two has found after q lists. -/
def rcO (e:List Int) (ls:List (List Int)) (K:List Int) (i j k q:Nat):Int:=if (k:Int) ∈ (besT ls i j q).flatten ∨ (0 < q ∧ (k:Int) ∈ K) then e.getD k 0 else -1
end Go.Proofs.Ytpicoecbbiiaoaa
set_option linter.unusedSimpArgs false
set_option linter.unusedVariables false
set_option maxRecDepth 4000
set_option maxHeartbeats 4000000
namespace Go.Proofs.Ytpicoecbbiiaoaa
open VwM Vw Go

def pairB (i j:Int) (n:Nat):Bool:=!decide (i=j) && (decide (0 ≤ i) && decide (i ≤ (n:Int) - 1)) && (decide (0 ≤ j) && decide (j ≤ (n:Int) - 1))
def cbI (ts:List Tn) (ls:List (List Int)) (out:List Int) (i j:Int):Int:=match exP ts ls out with|none=>-1|some e=>if pairB i j ts.length=true then cbN e ls out i.toNat j.toNat else -1
theorem pairB_nat {i j:Int} {n:Nat} (h:pairB i j n=true):∃ p q:Nat,i=p ∧ j=q ∧ p < n ∧ q < n ∧ p ≠ q:=by
  simp only [pairB,Bool.and_eq_true,Bool.not_eq_true',decide_eq_false_iff_not,decide_eq_true_eq] at h
  exact ⟨i.toNat,j.toNat,by omega,by omega,by omega,by omega,by omega⟩
theorem exP_some {ts:List Tn} {ls:List (List Int)} {out e:List Int} (h:exP ts ls out=some e):allI out 0 4=true ∧ exO ts ls=some e:=by
  rw [exP_eq] at h
  split at h
  · rename_i hc;exact ⟨hc,h⟩
  · cases h
theorem lab_len {ts:List Tn} {ls:List (List Int)} {e:List Int} (h:exO ts ls=some e):ls.length ≤ 3 ∧ ∀ l ∈ ls,l.length ≤ 4:=by
  obtain ⟨h1,h2,h3,h4⟩:=exO_some h
  obtain ⟨_,_,_,_,_,f6,f7,f8⟩:=Gez h
  refine ⟨by omega,fun l hl=>?_⟩
  obtain ⟨i,hi⟩:=List.mem_iff_getElem?.1 hl
  have hil:=(List.getElem?_eq_some_iff.1 hi).1
  obtain ⟨t,ht⟩:=Boz (l:=ts) (i:=i) (by omega)
  have:=(f6 i t l ht hi).1
  have:=(vT_len60 (f7 t (List.mem_of_getElem? ht))).1
  omega


end Go.Proofs.Ytpicoecbbiiaoaa
set_option linter.unusedSimpArgs false
set_option linter.unusedVariables false
set_option maxRecDepth 4000
set_option maxHeartbeats 4000000
namespace Go.Proofs.Ytpicoecbbiiaoaa
open VwM Vw Go

/-- What a draw of tensors with labels is sure to be. -/
def prodF (ts:List Tn) (ls:List (List Int)) (out:List Int):Prop:=(1 ≤ ts.length ∧ ts.length ≤ 3 ∧ ls.length=ts.length) ∧ (∀ t ∈ ts,t.1.length ≤ 5 ∧ t.2.length ≤ 61 ∧ ∀ v ∈ t.2,-9 ≤ v ∧ v ≤ 9) ∧ (∀ l ∈ ls,l.length ≤ 4 ∧ ∀ x ∈ l,0 ≤ x ∧ x ≤ 4) ∧ out.length ≤ 6
structure POk (e:List Int) (many:Int) (p:Int) (ts:List Tn) (ls:List (List Int)) (all:List Int) (q:Int):Prop where
  n:(ts.length:Int) ≤ many
  t:∀ t ∈ ts,t.1.length ≤ 4 ∧ t.2.length ≤ 60 ∧ ∀ v ∈ t.2,-9 ≤ v ∧ v ≤ 9
  l:∀ l ∈ ls,l.length ≤ 3 ∧ ∀ x ∈ l,0 ≤ x ∧ x ≤ 4
  a:all.length ≤ 3 * ts.length ∧ ∀ x ∈ all,0 ≤ x ∧ x ≤ 4
  q1:p ≤ q
  q2:q ≤ p + 10 + 100 * ts.length
end Go.Proofs.Ytpicoecbbiiaoaa
set_option linter.unusedSimpArgs false
set_option linter.unusedVariables false
set_option maxRecDepth 4000
set_option maxHeartbeats 4000000
namespace Go.Proofs.Ytpicoecbbiiaoaa
open VwM Vw Go

end Go.Proofs.Ytpicoecbbiiaoaa
set_option linter.unusedSimpArgs false
set_option linter.unusedVariables false
set_option maxRecDepth 4000
set_option maxHeartbeats 4000000
namespace Go.Proofs.Ytpicoecbbiiaoaa
open VwM Vw Go

end Go.Proofs.Ytpicoecbbiiaoaa
