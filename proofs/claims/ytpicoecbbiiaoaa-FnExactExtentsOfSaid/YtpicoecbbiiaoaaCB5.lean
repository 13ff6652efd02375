/- Texts of this verifier. -/
import Derived.Test.YtpicoecbbiiaoaaCB4
import Derived.Test.YtpicoecbbiiaoaaCM1
import Derived.Test.YtpicoecbbiiaoaaCW3
set_option linter.unusedSimpArgs false
set_option linter.unusedVariables false
set_option maxRecDepth 4000
set_option maxHeartbeats 4000000
namespace Go.Proofs.Ytpicoecbbiiaoaa
open VwM Vw Go

theorem Czz {p:Nat → Bool}:∀ {L:List AV},(∀ a ∈ L,a.inn p=true) → innL p L=true
  | [],_=>rfl
  | a :: r,h=>by
    simp only [innL,Bool.and_eq_true]
    exact ⟨h a (by simp),Czz fun x hx=>h x (by simp [hx])⟩
theorem Cyz {p:Nat → Bool}:∀ {L:List AV},innL p L=true → ∀ a ∈ L,a.inn p=true
  | a :: r,h,x,hx=>by
    simp only [innL,Bool.and_eq_true] at h
    rcases List.mem_cons.1 hx with e|e
    · rw [e];exact h.1
    · exact Cyz h.2 x e
theorem zc_mem7 {zs:List AV} {n:Nat} {a:AV} (h:a ∈ zcells zs n):a ∈ zs ∨ a=.unk:=by
  simp only [zcells,List.mem_map,List.mem_range] at h
  obtain ⟨i,_,rfl⟩:=h
  by_cases hi:i % zs.length < zs.length
  · left;simp [List.getD,hi]
  · right;simp [List.getD,List.getElem?_eq_none (Nat.le_of_not_lt hi)]
theorem set2 {A D:List AV} {p:Nat} (h:A.length=p) (hD:2 ≤ D.length) (a b:AV):((A ++ D).set p a).set (p + 1) b=A ++ [a,b] ++ D.drop 2:=by
  subst h
  match D,hD with
  | d0 :: d1 :: D,_=>simp [List.set_append]
theorem set1 {A D:List AV} {p:Nat} (h:A.length=p) (hD:1 ≤ D.length) (a:AV):(A ++ D).set p a=A ++ [a] ++ D.drop 1:=by
  subst h
  match D,hD with
  | d0 :: D,_=>simp [List.set_append]
theorem TL_step {ts:List Tn} {i:Nat} {x y:List Int} (hv:ts[i]?=some (x,y)) {Z:List AV} (hZ:Z.length=ts.length * 2) :
    ((TL true (ts.take i) ++ Z.drop (i * 2)).set (i * 2) (.rows true (IL x) x.length)).set (i * 2 + 1) (.rows true (IL y) y.length)=TL true (ts.take (i + 1)) ++ Z.drop ((i + 1) * 2):=by
  have hi:i < ts.length:=(List.getElem?_eq_some_iff.1 hv).1
  rw [set2 (by rw [A9z,List.length_take];omega) (by rw [List.length_drop];omega),List.drop_drop,List.take_add_one,hv,TL_append,show i * 2 + 2=(i + 1) * 2 by omega]
  rfl
theorem LL_step {ls:List (List Int)} {i:Nat} {l:List Int} (hv:ls[i]?=some l) {Z:List AV} (hZ:Z.length=ls.length) :
    (LL true (ls.take i) ++ Z.drop i).set i (.rows true (IL l) l.length)=LL true (ls.take (i + 1)) ++ Z.drop (i + 1):=by
  have hi:i < ls.length:=(List.getElem?_eq_some_iff.1 hv).1
  rw [set1 (by rw [Bez,List.length_take];omega) (by rw [List.length_drop];omega),List.drop_drop,List.take_add_one,hv,LL_append]
  rfl
theorem Guz {ts:List Tn} {n:Nat} (h:∀ t ∈ ts,t.1.length ≤ n ∧ t.2.length ≤ n) {i:Nat} {x y:List Int} (ht:ts[i]?=some (x,y)):x.length ≤ n ∧ y.length ≤ n:=h _ (List.mem_of_getElem? ht)


set_option maxHeartbeats 8000000 in
theorem toTensorS_ok (ts:List Tn) (n:Nat) (hn:ts.length=n) (hb:n ≤ 1048576 ∧ ∀ t ∈ ts,t.1.length ≤ 1099511627776 ∧ t.2.length ≤ 1099511627776):BCall Try.prog 20 [.rows false (TL false ts) n] [] (fun r H'=>r=.own 0 n 2 ∧ H'=[TL true ts]):=by
  subst hn
  obtain ⟨hb1,hb2⟩:=hb
  refine Biz (pins:=[]) (pin:=0) l20_eq rfl rfl rfl ?_
  have htl:=A9z false ts
  have hzl:(zcells [AV.val (.slice none 0 0),.val (.slice none 0 0)] ts.length).length=ts.length * 2:=by simp [zcells,Nat.mul_comm]
  have hz0:(zcells [AV.val (.slice none 0 0),.val (.slice none 0 0)] ts.length).drop (0 * 2)=zcells [AV.val (.slice none 0 0),.val (.slice none 0 0)] ts.length:=by rw [Nat.zero_mul,List.drop_zero]
  have hzi:∀ p:Nat → Bool,innL p (zcells [AV.val (.slice none 0 0),.val (.slice none 0 0)] ts.length)=true:=fun p=>Czz fun a ha=>by
    rcases zc_mem7 ha with h|h
    · simp at h;rw [h];rfl
    · rw [h];rfl
  (repeat' (first
 | (first|refine Alz ?_|refine Agz ?_)
 | ((first|refine Amz ?_|refine Afz ?_|refine Ahz ?_|refine Aiz ?_);simp (disch:=omega) only [push_cast,seval,l20r0,l20r1,l20r2,l20r3,l20r4,l20r5,l20r6,Aaz])
 | ((first|refine Acz ?_ ?_|refine Aez ?_ ?_|refine Adz ?_ ?_)<;>intro h<;>(try simp only [h])<;>(try simp only [bitvec_to_nat] at h)<;>(try simp only [h])<;>(first|(exfalso;omega)|(exfalso;simp_all;done)|(simp (disch:=omega) only [push_cast,seval,Aaz])|skip))
 | ((first|refine Anz false ?_|refine Ajz false ?_);simp (disch:=omega) only [push_cast,seval,Aaz])
 | ((first|((first|refine call0D (BCall.ofP (Bnz _ _ _ _ ?_ ?_ ?_)) ?_|refine qcall0D (BCall.ofP (Bnz _ _ _ _ ?_ ?_ ?_)) ⟨_,_,rfl,rfl⟩ ?_);(iterate 3 (exact sd));rintro _ _ ⟨rfl,rfl⟩))<;>(try simp (disch:=omega) only [push_cast,seval,Aaz]))
 | (refine Akz ⟨.inr rfl,[112],[],_,by decide,rfl,?_⟩;(try simp (disch:=omega) only [push_cast,seval,↓Auz,↓Asz,↓List.map_cons,↓List.map_nil,Aaz]))))
  generalize hZ:zcells [AV.val (.slice none 0 0),.val (.slice none 0 0)] ts.length=Z at *
  refine A2z (fun i:Nat=>mkS [(0,.rows false (TL false ts) ts.length),(3,.own 112 ts.length 2),(4,.int .i64 i)] [(112,TL true (ts.take i) ++ Z.drop (i * 2))]) (fun i=>i ≤ ts.length) (fun i=>ts.length - i) 0 (Nat.zero_le _) ?_ ?_
  · (refine Sub.of_lists ?_ ?_ ?_ ?_ ?_<;>simp [Vw.mkS,Vw.lk,Vw.hk,AV.inn,innL,Apz,Aoz,Atz,-List.map_set,-List.getD_eq_getElem?_getD,Aaz,TL,hzi])
  · intro i hi
    by_cases hlt:i < ts.length
    · obtain ⟨⟨x,y⟩,hti⟩:=Crz hlt
      have hbb:=Guz hb2 hti
      have hd:=Cqz false ts i hti
      simp only at hd
      have hil:i * 2 + 2 ≤ ts.length * 2:=by omega
      have hst:=TL_step hti hzl
      have hwl:(TL true (ts.take i) ++ Z.drop (i * 2)).length=ts.length * 2:=by rw [List.length_append,A9z,List.length_take,List.length_drop,hzl];omega
      have hwi:∀ p:Nat → Bool,innL p (TL true (ts.take (i + 1)) ++ Z.drop ((i + 1) * 2))=true:=fun p=>Czz fun a ha=>by
        rcases List.mem_append.1 ha with h|h
        · exact Cyz (Aaz true p _) a h
        · exact Cyz (hzi p) a (List.mem_of_mem_drop h)
      generalize hW:TL true (ts.take i) ++ Z.drop (i * 2)=W at *
      generalize hW2:TL true (ts.take (i + 1)) ++ Z.drop ((i + 1) * 2)=W2 at *
      (repeat' (first
 | (first|refine Alz ?_|refine Agz ?_)
 | ((first|refine Amz ?_|refine Afz ?_|refine Ahz ?_|refine Aiz ?_);simp (disch:=omega) only [push_cast,seval,l20r0,l20r1,l20r2,l20r3,l20r4,l20r5,l20r6,hd,htl,hil,hwl,Aaz])
 | ((first|refine Acz ?_ ?_|refine Aez ?_ ?_|refine Adz ?_ ?_)<;>intro h<;>(try simp only [h])<;>(try simp only [bitvec_to_nat] at h)<;>(try simp only [h])<;>(first|(exfalso;omega)|(exfalso;simp_all;done)|(simp (disch:=omega) only [push_cast,seval,hd,htl,hil,hwl,Aaz])|skip))
 | ((first|refine Anz false ?_|refine Ajz false ?_);simp (disch:=omega) only [push_cast,seval,hd,htl,hil,hwl,Aaz])
 | ((first|((first|refine call0D (BCall.ofP (Bnz _ _ _ _ ?_ ?_ ?_)) ?_|refine qcall0D (BCall.ofP (Bnz _ _ _ _ ?_ ?_ ?_)) ⟨_,_,rfl,rfl⟩ ?_);(iterate 3 (exact sd));rintro _ _ ⟨rfl,rfl⟩))<;>(try simp (disch:=omega) only [push_cast,seval,hd,htl,hil,hwl,Aaz]))
 | (refine Akz ⟨.inr rfl,[112],[],_,by decide,rfl,?_⟩;(try simp (disch:=omega) only [push_cast,seval,↓Auz,↓Asz,↓List.map_cons,↓List.map_nil,hd,htl,hil,hwl,Aaz]))))
      refine ⟨i + 1,by omega,by omega,?_⟩
      (refine Sub.of_lists ?_ ?_ ?_ ?_ ?_<;>simp [Vw.mkS,Vw.lk,Vw.hk,AV.inn,innL,Apz,Aoz,Atz,-List.map_set,-List.getD_eq_getElem?_getD,hst,hW2,hwi,Aaz])
    · have e:i=ts.length:=by omega
      subst e
      have hfin:TL true (ts.take ts.length) ++ Z.drop (ts.length * 2)=TL true ts:=by rw [List.take_length,List.drop_eq_nil_of_le (by omega),List.append_nil]
      rw [hfin]
      (repeat' (first
 | (first|refine Alz ?_|refine Agz ?_)
 | ((first|refine Amz ?_|refine Afz ?_|refine Ahz ?_|refine Aiz ?_);simp (disch:=omega) only [push_cast,seval,l20r0,l20r1,l20r2,l20r3,l20r4,l20r5,l20r6,Aaz])
 | ((first|refine Acz ?_ ?_|refine Aez ?_ ?_|refine Adz ?_ ?_)<;>intro h<;>(try simp only [h])<;>(try simp only [bitvec_to_nat] at h)<;>(try simp only [h])<;>(first|(exfalso;omega)|(exfalso;simp_all;done)|(simp (disch:=omega) only [push_cast,seval,Aaz])|skip))
 | ((first|refine Anz false ?_|refine Ajz false ?_);simp (disch:=omega) only [push_cast,seval,Aaz])
 | ((first|((first|refine call0D (BCall.ofP (Bnz _ _ _ _ ?_ ?_ ?_)) ?_|refine qcall0D (BCall.ofP (Bnz _ _ _ _ ?_ ?_ ?_)) ⟨_,_,rfl,rfl⟩ ?_);(iterate 3 (exact sd));rintro _ _ ⟨rfl,rfl⟩))<;>(try simp (disch:=omega) only [push_cast,seval,Aaz]))
 | (refine Akz ⟨.inr rfl,[112],[],_,by decide,rfl,?_⟩;(try simp (disch:=omega) only [push_cast,seval,↓Auz,↓Asz,↓List.map_cons,↓List.map_nil,Aaz]))))
      all_goals (first|exact ⟨rfl,rfl⟩|skip)


theorem toTensorSP_ok (ts:List Tn) (n:Nat) (hn:ts.length=n) (hb:n ≤ 1048576 ∧ ∀ t ∈ ts,t.1.length ≤ 1099511627776 ∧ t.2.length ≤ 1099511627776):PCall Try.prog 20 [.rows false (TL false ts) n] (fun r=>r=.rows true (TL true ts) n):=by
  refine (BCall.plain (toTensorS_ok ts n hn hb)).mono ?_
  rintro r ⟨r0,H',⟨rfl,rfl⟩,rfl⟩
  have e:=ren_TLs (ρ:=fun _=>none) (Zh:=nthH [TL true ts]) (b0:=true) (n:=2) true ts
  simp [AV.ren,nthH,A9z,hn]
  exact e


theorem B1z (xs:List Int) (n:Nat) (hn:xs.length=n) (hb:n ≤ 1099511627776):PCall Try.prog 28 [.rows false (IL xs) n] (fun r=>r=.rows true (IL xs) xs.length):=plainI (Bqz xs n hn hb)


set_option maxHeartbeats 8000000 in
theorem toIntSS_ok (ls:List (List Int)) (n:Nat) (hn:ls.length=n) (hb:n ≤ 1048576 ∧ ∀ l ∈ ls,l.length ≤ 1099511627776):BCall Try.prog 21 [.rows false (LL false ls) n] [] (fun r H'=>r=.own 0 n 1 ∧ H'=[LL true ls]):=by
  subst hn
  obtain ⟨hb1,hb2⟩:=hb
  refine Biz (pins:=[]) (pin:=0) l21_eq rfl rfl rfl ?_
  have hll:=Bez false ls
  have hzl:(List.replicate ls.length (AV.val (.slice none 0 0))).length=ls.length:=by simp
  have hz0:(List.replicate ls.length (AV.val (.slice none 0 0))).drop 0=List.replicate ls.length (AV.val (.slice none 0 0)):=List.drop_zero ..
  have hzi:∀ p:Nat → Bool,innL p (List.replicate ls.length (AV.val (.slice none 0 0)))=true:=fun p=>Czz fun a ha=>by
    rw [(List.mem_replicate.1 ha).2];rfl
  (repeat' (first
 | (first|refine Alz ?_|refine Agz ?_)
 | ((first|refine Amz ?_|refine Afz ?_|refine Ahz ?_|refine Aiz ?_);simp (disch:=omega) only [push_cast,seval,l21r0,l21r1,l21r2,l21r3,l21r4,l21r5,l21r6,Abz])
 | ((first|refine Acz ?_ ?_|refine Aez ?_ ?_|refine Adz ?_ ?_)<;>intro h<;>(try simp only [h])<;>(try simp only [bitvec_to_nat] at h)<;>(try simp only [h])<;>(first|(exfalso;omega)|(exfalso;simp_all;done)|(simp (disch:=omega) only [push_cast,seval,Abz])|skip))
 | ((first|refine Anz false ?_|refine Ajz false ?_);simp (disch:=omega) only [push_cast,seval,Abz])
 | ((first|((first|refine call0D (BCall.ofP (B1z _ _ ?_ ?_)) ?_|refine qcall0D (BCall.ofP (B1z _ _ ?_ ?_)) ⟨_,_,rfl,rfl⟩ ?_);(iterate 2 (exact sd));rintro _ _ ⟨rfl,rfl⟩))<;>(try simp (disch:=omega) only [push_cast,seval,Abz]))
 | (refine Akz ⟨.inr rfl,[112],[],_,by decide,rfl,?_⟩;(try simp (disch:=omega) only [push_cast,seval,↓Auz,↓Asz,↓List.map_cons,↓List.map_nil,Abz]))))
  generalize hZ:List.replicate ls.length (AV.val (.slice none 0 0))=Z at *
  refine A2z (fun i:Nat=>mkS [(0,.rows false (LL false ls) ls.length),(3,.own 112 ls.length 1),(4,.int .i64 i)] [(112,LL true (ls.take i) ++ Z.drop i)]) (fun i=>i ≤ ls.length) (fun i=>ls.length - i) 0 (Nat.zero_le _) ?_ ?_
  · (refine Sub.of_lists ?_ ?_ ?_ ?_ ?_<;>simp [Vw.mkS,Vw.lk,Vw.hk,AV.inn,innL,Apz,Aoz,Atz,-List.map_set,-List.getD_eq_getElem?_getD,Abz,LL,hzi])
  · intro i hi
    by_cases hlt:i < ls.length
    · obtain ⟨l,hli⟩:=Crz hlt
      have hbb:=hb2 _ (List.mem_of_getElem? hli)
      have hd:=Dtz false ls i hli
      have hil:i + 1 ≤ ls.length:=by omega
      have hst:=LL_step hli hzl
      have hwl:(LL true (ls.take i) ++ Z.drop i).length=ls.length:=by rw [List.length_append,Bez,List.length_take,List.length_drop,hzl];omega
      have hwi:∀ p:Nat → Bool,innL p (LL true (ls.take (i + 1)) ++ Z.drop (i + 1))=true:=fun p=>Czz fun a ha=>by
        rcases List.mem_append.1 ha with h|h
        · exact Cyz (Abz true p _) a h
        · exact Cyz (hzi p) a (List.mem_of_mem_drop h)
      generalize hW:LL true (ls.take i) ++ Z.drop i=W at *
      generalize hW2:LL true (ls.take (i + 1)) ++ Z.drop (i + 1)=W2 at *
      (repeat' (first
 | (first|refine Alz ?_|refine Agz ?_)
 | ((first|refine Amz ?_|refine Afz ?_|refine Ahz ?_|refine Aiz ?_);simp (disch:=omega) only [push_cast,seval,l21r0,l21r1,l21r2,l21r3,l21r4,l21r5,l21r6,hd,hll,hil,hwl,Abz])
 | ((first|refine Acz ?_ ?_|refine Aez ?_ ?_|refine Adz ?_ ?_)<;>intro h<;>(try simp only [h])<;>(try simp only [bitvec_to_nat] at h)<;>(try simp only [h])<;>(first|(exfalso;omega)|(exfalso;simp_all;done)|(simp (disch:=omega) only [push_cast,seval,hd,hll,hil,hwl,Abz])|skip))
 | ((first|refine Anz false ?_|refine Ajz false ?_);simp (disch:=omega) only [push_cast,seval,hd,hll,hil,hwl,Abz])
 | ((first|((first|refine call0D (BCall.ofP (B1z _ _ ?_ ?_)) ?_|refine qcall0D (BCall.ofP (B1z _ _ ?_ ?_)) ⟨_,_,rfl,rfl⟩ ?_);(iterate 2 (exact sd));rintro _ _ ⟨rfl,rfl⟩))<;>(try simp (disch:=omega) only [push_cast,seval,hd,hll,hil,hwl,Abz]))
 | (refine Akz ⟨.inr rfl,[112],[],_,by decide,rfl,?_⟩;(try simp (disch:=omega) only [push_cast,seval,↓Auz,↓Asz,↓List.map_cons,↓List.map_nil,hd,hll,hil,hwl,Abz]))))
      refine ⟨i + 1,by omega,by omega,?_⟩
      (refine Sub.of_lists ?_ ?_ ?_ ?_ ?_<;>simp [Vw.mkS,Vw.lk,Vw.hk,AV.inn,innL,Apz,Aoz,Atz,-List.map_set,-List.getD_eq_getElem?_getD,hst,hW2,hwi,Abz])
    · have e:i=ls.length:=by omega
      subst e
      have hfin:LL true (ls.take ls.length) ++ Z.drop ls.length=LL true ls:=by rw [List.take_length,List.drop_eq_nil_of_le (by omega),List.append_nil]
      rw [hfin]
      (repeat' (first
 | (first|refine Alz ?_|refine Agz ?_)
 | ((first|refine Amz ?_|refine Afz ?_|refine Ahz ?_|refine Aiz ?_);simp (disch:=omega) only [push_cast,seval,l21r0,l21r1,l21r2,l21r3,l21r4,l21r5,l21r6,Abz])
 | ((first|refine Acz ?_ ?_|refine Aez ?_ ?_|refine Adz ?_ ?_)<;>intro h<;>(try simp only [h])<;>(try simp only [bitvec_to_nat] at h)<;>(try simp only [h])<;>(first|(exfalso;omega)|(exfalso;simp_all;done)|(simp (disch:=omega) only [push_cast,seval,Abz])|skip))
 | ((first|refine Anz false ?_|refine Ajz false ?_);simp (disch:=omega) only [push_cast,seval,Abz])
 | ((first|((first|refine call0D (BCall.ofP (B1z _ _ ?_ ?_)) ?_|refine qcall0D (BCall.ofP (B1z _ _ ?_ ?_)) ⟨_,_,rfl,rfl⟩ ?_);(iterate 2 (exact sd));rintro _ _ ⟨rfl,rfl⟩))<;>(try simp (disch:=omega) only [push_cast,seval,Abz]))
 | (refine Akz ⟨.inr rfl,[112],[],_,by decide,rfl,?_⟩;(try simp (disch:=omega) only [push_cast,seval,↓Auz,↓Asz,↓List.map_cons,↓List.map_nil,Abz]))))
      all_goals (first|exact ⟨rfl,rfl⟩|skip)




theorem toIntSSP_ok (ls:List (List Int)) (n:Nat) (hn:ls.length=n) (hb:n ≤ 1048576 ∧ ∀ l ∈ ls,l.length ≤ 1099511627776):PCall Try.prog 21 [.rows false (LL false ls) n] (fun r=>r=.rows true (LL true ls) n):=by
  refine (BCall.plain (toIntSS_ok ls n hn hb)).mono ?_
  rintro r ⟨r0,H',⟨rfl,rfl⟩,rfl⟩
  have e:=ren_LLs (ρ:=fun _=>none) (Zh:=nthH [LL true ls]) (b0:=true) (n:=2) true ls
  simp [AV.ren,nthH,Bez,hn]
  exact e


set_option maxHeartbeats 8000000 in
theorem Ekz (ts:List Tn) (n:Nat) (k:Int) (hn:ts.length=n) (hk:0 ≤ k ∧ k ≤ 1048576) (hb:n ≤ 9223372036854775807 ∧ ∀ t ∈ ts,t.1.length ≤ 9223372036854775807 ∧ t.2.length ≤ 9223372036854775807):PCall Try.prog 17 [.rows false (TL false ts) n,.int .i64 k] (fun r=>∃ z:Int,(0 ≤ z → z ≤ 1048576 ∧ ts.length ≤ 1048576 ∧ ∀ t ∈ ts,t.1.length ≤ 1048576 ∧ t.2.length ≤ 1048576) ∧ r=.int .i64 z):=by
  subst hn
  obtain ⟨hb1,hb2⟩:=hb
  refine A0z l17_eq rfl ?_
  have htl:=A9z false ts
  by_cases h0:k - (ts.length:Int) < 0
  · (repeat' (first
 | (first|refine Alz ?_|refine Agz ?_)
 | ((first|refine Amz ?_|refine Afz ?_|refine Ahz ?_|refine Aiz ?_);simp (disch:=omega) only [push_cast,seval,l17r0,l17r1,l17r2,l17r3,l17r4,l17r5,l17r6,l17r7,l17r8,l17r9,l17r10,h0,Aaz])
 | ((first|refine Acz ?_ ?_|refine Aez ?_ ?_|refine Adz ?_ ?_)<;>intro h<;>(try simp only [h])<;>(try simp only [bitvec_to_nat] at h)<;>(try simp only [h])<;>(first|(exfalso;omega)|(exfalso;simp_all;done)|(simp (disch:=omega) only [push_cast,seval,h0,Aaz])|skip))
 | ((first|refine Anz false ?_|refine Ajz false ?_);simp (disch:=omega) only [push_cast,seval,h0,Aaz])
 | ((first|((first|refine call0D (BCall.ofP (Baz _ _ _ _ _ ?_ ?_)) ?_|refine qcall0D (BCall.ofP (Baz _ _ _ _ _ ?_ ?_)) ⟨_,_,rfl,rfl⟩ ?_);(iterate 2 (exact sd));rintro _ _ ⟨rfl,rfl⟩))<;>(try simp (disch:=omega) only [push_cast,seval,h0,Aaz]))
 | (refine Akz ⟨.inr rfl,_,rfl,?_⟩;(try simp (disch:=omega) only [push_cast,seval,h0,Aaz]))))
    all_goals exact ⟨_,by omega,rfl⟩
  · (repeat' (first
 | (first|refine Alz ?_|refine Agz ?_)
 | ((first|refine Amz ?_|refine Afz ?_|refine Ahz ?_|refine Aiz ?_);simp (disch:=omega) only [push_cast,seval,l17r0,l17r1,l17r2,l17r3,l17r4,l17r5,l17r6,l17r7,l17r8,l17r9,l17r10,h0,Aaz])
 | ((first|refine Acz ?_ ?_|refine Aez ?_ ?_|refine Adz ?_ ?_)<;>intro h<;>(try simp only [h])<;>(try simp only [bitvec_to_nat] at h)<;>(try simp only [h])<;>(first|(exfalso;omega)|(exfalso;simp_all;done)|(simp (disch:=omega) only [push_cast,seval,h0,Aaz])|skip))
 | ((first|refine Anz false ?_|refine Ajz false ?_);simp (disch:=omega) only [push_cast,seval,h0,Aaz])
 | ((first|((first|refine call0D (BCall.ofP (Baz _ _ _ _ _ ?_ ?_)) ?_|refine qcall0D (BCall.ofP (Baz _ _ _ _ _ ?_ ?_)) ⟨_,_,rfl,rfl⟩ ?_);(iterate 2 (exact sd));rintro _ _ ⟨rfl,rfl⟩))<;>(try simp (disch:=omega) only [push_cast,seval,h0,Aaz]))
 | (refine Akz ⟨.inr rfl,_,rfl,?_⟩;(try simp (disch:=omega) only [push_cast,seval,h0,Aaz]))))
    refine A2z (fun x:Nat × Int=>mkS [(0,.rows false (TL false ts) ts.length),(1,.int .i64 x.2),(5,.int .i64 x.1)] []) (fun x=>x.1 ≤ ts.length ∧ (0 ≤ x.2 ∧ x.2 ≤ 1048576) ∧ ∀ j t,j < x.1 → ts[j]?=some t → t.1.length ≤ 1048576 ∧ t.2.length ≤ 1048576) (fun x=>ts.length - x.1) (0,k - ts.length) ⟨Nat.zero_le _,by simp only;omega,fun j v h=>absurd h (Nat.not_lt_zero _)⟩ ?_ ?_
    · (refine Sub.of_lists ?_ ?_ ?_ ?_ ?_<;>simp [Vw.mkS,Vw.lk,Vw.hk,AV.inn,innL,Apz,Aoz,Atz,-List.map_set,-List.getD_eq_getElem?_getD,Aaz])
    · rintro ⟨i,z⟩ ⟨hi,hz,hall⟩
      simp only at hi hz hall ⊢
      by_cases hlt:i < ts.length
      · obtain ⟨⟨x,y⟩,hti⟩:=Crz hlt
        have hbb:=Guz hb2 hti
        have hd:=Cqz false ts i hti
        simp only at hd
        have hil:i * 2 + 2 ≤ ts.length * 2:=by omega
        by_cases hs:z - (x.length:Int) - y.length < 0
        · (repeat' (first
 | (first|refine Alz ?_|refine Agz ?_)
 | ((first|refine Amz ?_|refine Afz ?_|refine Ahz ?_|refine Aiz ?_);simp (disch:=omega) only [push_cast,seval,l17r0,l17r1,l17r2,l17r3,l17r4,l17r5,l17r6,l17r7,l17r8,l17r9,l17r10,hd,htl,hil,hs,Aaz])
 | ((first|refine Acz ?_ ?_|refine Aez ?_ ?_|refine Adz ?_ ?_)<;>intro h<;>(try simp only [h])<;>(try simp only [bitvec_to_nat] at h)<;>(try simp only [h])<;>(first|(exfalso;omega)|(exfalso;simp_all;done)|(simp (disch:=omega) only [push_cast,seval,hd,htl,hil,hs,Aaz])|skip))
 | ((first|refine Anz false ?_|refine Ajz false ?_);simp (disch:=omega) only [push_cast,seval,hd,htl,hil,hs,Aaz])
 | ((first|((first|refine call0D (BCall.ofP (Baz _ _ _ _ _ ?_ ?_)) ?_|refine qcall0D (BCall.ofP (Baz _ _ _ _ _ ?_ ?_)) ⟨_,_,rfl,rfl⟩ ?_);(iterate 2 (exact sd));rintro _ _ ⟨rfl,rfl⟩))<;>(try simp (disch:=omega) only [push_cast,seval,hd,htl,hil,hs,Aaz]))
 | (refine Akz ⟨.inr rfl,_,rfl,?_⟩; (try simp (disch := omega) only [push_cast,seval,hd,htl,hil,hs,Aaz]))))
          all_goals exact ⟨_,by omega,rfl⟩
        · (repeat' (first
 | (first|refine Alz ?_|refine Agz ?_)
 | ((first|refine Amz ?_|refine Afz ?_|refine Ahz ?_|refine Aiz ?_);simp (disch:=omega) only [push_cast,seval,l17r0,l17r1,l17r2,l17r3,l17r4,l17r5,l17r6,l17r7,l17r8,l17r9,l17r10,hd,htl,hil,hs,Aaz])
 | ((first|refine Acz ?_ ?_|refine Aez ?_ ?_|refine Adz ?_ ?_)<;>intro h<;>(try simp only [h])<;>(try simp only [bitvec_to_nat] at h)<;>(try simp only [h])<;>(first|(exfalso;omega)|(exfalso;simp_all;done)|(simp (disch:=omega) only [push_cast,seval,hd,htl,hil,hs,Aaz])|skip))
 | ((first|refine Anz false ?_|refine Ajz false ?_);simp (disch:=omega) only [push_cast,seval,hd,htl,hil,hs,Aaz])
 | ((first|((first|refine call0D (BCall.ofP (Baz _ _ _ _ _ ?_ ?_)) ?_|refine qcall0D (BCall.ofP (Baz _ _ _ _ _ ?_ ?_)) ⟨_,_,rfl,rfl⟩ ?_);(iterate 2 (exact sd));rintro _ _ ⟨rfl,rfl⟩))<;>(try simp (disch:=omega) only [push_cast,seval,hd,htl,hil,hs,Aaz]))
 | (refine Akz ⟨.inr rfl,_,rfl,?_⟩; (try simp (disch := omega) only [push_cast,seval,hd,htl,hil,hs,Aaz]))))
          refine ⟨(i + 1,z - x.length - y.length),⟨by simp only;omega,by simp only;omega,fun j v hj hjv=>?_⟩,by simp only;omega,?_⟩
          · simp only at hj
            by_cases e:j=i
            · subst e;rw [hti] at hjv;cases hjv;simp only;omega
            · exact hall j v (by omega) hjv
          · (refine Sub.of_lists ?_ ?_ ?_ ?_ ?_<;>simp [Vw.mkS,Vw.lk,Vw.hk,AV.inn,innL,Apz,Aoz,Atz,-List.map_set,-List.getD_eq_getElem?_getD,Aaz])
      · (repeat' (first
 | (first|refine Alz ?_|refine Agz ?_)
 | ((first|refine Amz ?_|refine Afz ?_|refine Ahz ?_|refine Aiz ?_);simp (disch:=omega) only [push_cast,seval,l17r0,l17r1,l17r2,l17r3,l17r4,l17r5,l17r6,l17r7,l17r8,l17r9,l17r10,Aaz])
 | ((first|refine Acz ?_ ?_|refine Aez ?_ ?_|refine Adz ?_ ?_)<;>intro h<;>(try simp only [h])<;>(try simp only [bitvec_to_nat] at h)<;>(try simp only [h])<;>(first|(exfalso;omega)|(exfalso;simp_all;done)|(simp (disch:=omega) only [push_cast,seval,Aaz])|skip))
 | ((first|refine Anz false ?_|refine Ajz false ?_);simp (disch:=omega) only [push_cast,seval,Aaz])
 | ((first|((first|refine call0D (BCall.ofP (Baz _ _ _ _ _ ?_ ?_)) ?_|refine qcall0D (BCall.ofP (Baz _ _ _ _ _ ?_ ?_)) ⟨_,_,rfl,rfl⟩ ?_);(iterate 2 (exact sd));rintro _ _ ⟨rfl,rfl⟩))<;>(try simp (disch:=omega) only [push_cast,seval,Aaz]))
 | (refine Akz ⟨.inr rfl,_,rfl,?_⟩;(try simp (disch:=omega) only [push_cast,seval,Aaz]))))
        all_goals (refine ⟨_,fun _=>⟨by omega,by omega,fun v hv=>?_⟩,rfl⟩;obtain ⟨j,hj,e⟩:=List.mem_iff_getElem.1 hv;exact hall j v (by omega) (by rw [List.getElem?_eq_getElem hj,e]))


set_option maxHeartbeats 8000000 in
theorem szIntSS_ok (ls:List (List Int)) (n:Nat) (k:Int) (hn:ls.length=n) (hk:0 ≤ k ∧ k ≤ 1048576) (hb:n ≤ 9223372036854775807 ∧ ∀ l ∈ ls,l.length ≤ 9223372036854775807):PCall Try.prog 18 [.rows false (LL false ls) n,.int .i64 k] (fun r=>∃ z:Int,(0 ≤ z → z ≤ 1048576 ∧ ls.length ≤ 1048576 ∧ ∀ l ∈ ls,l.length ≤ 1048576) ∧ r=.int .i64 z):=by
  subst hn
  obtain ⟨hb1,hb2⟩:=hb
  refine A0z l18_eq rfl ?_
  have hll:=Bez false ls
  by_cases h0:k - (ls.length:Int) < 0
  · (repeat' (first
 | (first|refine Alz ?_|refine Agz ?_)
 | ((first|refine Amz ?_|refine Afz ?_|refine Ahz ?_|refine Aiz ?_);simp (disch:=omega) only [push_cast,seval,l18r0,l18r1,l18r2,l18r3,l18r4,l18r5,l18r6,l18r7,l18r8,l18r9,l18r10,h0,Abz])
 | ((first|refine Acz ?_ ?_|refine Aez ?_ ?_|refine Adz ?_ ?_)<;>intro h<;>(try simp only [h])<;>(try simp only [bitvec_to_nat] at h)<;>(try simp only [h])<;>(first|(exfalso;omega)|(exfalso;simp_all;done)|(simp (disch:=omega) only [push_cast,seval,h0,Abz])|skip))
 | ((first|refine Anz false ?_|refine Ajz false ?_);simp (disch:=omega) only [push_cast,seval,h0,Abz])
 | ((first|((first|refine call0D (BCall.ofP (A5z _ _ _ ?_ ?_)) ?_|refine qcall0D (BCall.ofP (A5z _ _ _ ?_ ?_)) ⟨_,_,rfl,rfl⟩ ?_);(iterate 2 (exact sd));rintro _ _ ⟨rfl,rfl⟩))<;>(try simp (disch:=omega) only [push_cast,seval,h0,Abz]))
 | (refine Akz ⟨.inr rfl,_,rfl,?_⟩;(try simp (disch:=omega) only [push_cast,seval,h0,Abz]))))
    all_goals exact ⟨_,by omega,rfl⟩
  · (repeat' (first
 | (first|refine Alz ?_|refine Agz ?_)
 | ((first|refine Amz ?_|refine Afz ?_|refine Ahz ?_|refine Aiz ?_);simp (disch:=omega) only [push_cast,seval,l18r0,l18r1,l18r2,l18r3,l18r4,l18r5,l18r6,l18r7,l18r8,l18r9,l18r10,h0,Abz])
 | ((first|refine Acz ?_ ?_|refine Aez ?_ ?_|refine Adz ?_ ?_)<;>intro h<;>(try simp only [h])<;>(try simp only [bitvec_to_nat] at h)<;>(try simp only [h])<;>(first|(exfalso;omega)|(exfalso;simp_all;done)|(simp (disch:=omega) only [push_cast,seval,h0,Abz])|skip))
 | ((first|refine Anz false ?_|refine Ajz false ?_);simp (disch:=omega) only [push_cast,seval,h0,Abz])
 | ((first|((first|refine call0D (BCall.ofP (A5z _ _ _ ?_ ?_)) ?_|refine qcall0D (BCall.ofP (A5z _ _ _ ?_ ?_)) ⟨_,_,rfl,rfl⟩ ?_);(iterate 2 (exact sd));rintro _ _ ⟨rfl,rfl⟩))<;>(try simp (disch:=omega) only [push_cast,seval,h0,Abz]))
 | (refine Akz ⟨.inr rfl,_,rfl,?_⟩;(try simp (disch:=omega) only [push_cast,seval,h0,Abz]))))
    refine A2z (fun x:Nat × Int=>mkS [(0,.rows false (LL false ls) ls.length),(1,.int .i64 x.2),(5,.int .i64 x.1)] []) (fun x=>x.1 ≤ ls.length ∧ (0 ≤ x.2 ∧ x.2 ≤ 1048576) ∧ ∀ j l,j < x.1 → ls[j]?=some l → l.length ≤ 1048576) (fun x=>ls.length - x.1) (0,k - ls.length) ⟨Nat.zero_le _,by simp only;omega,fun j v h=>absurd h (Nat.not_lt_zero _)⟩ ?_ ?_
    · (refine Sub.of_lists ?_ ?_ ?_ ?_ ?_<;>simp [Vw.mkS,Vw.lk,Vw.hk,AV.inn,innL,Apz,Aoz,Atz,-List.map_set,-List.getD_eq_getElem?_getD,Abz])
    · rintro ⟨i,z⟩ ⟨hi,hz,hall⟩
      simp only at hi hz hall ⊢
      by_cases hlt:i < ls.length
      · obtain ⟨l,hli⟩:=Crz hlt
        have hbb:=hb2 _ (List.mem_of_getElem? hli)
        have hd:=Dtz false ls i hli
        have hil:i + 1 ≤ ls.length:=by omega
        by_cases hs:z - (l.length:Int) < 0
        · (repeat' (first
 | (first|refine Alz ?_|refine Agz ?_)
 | ((first|refine Amz ?_|refine Afz ?_|refine Ahz ?_|refine Aiz ?_);simp (disch:=omega) only [push_cast,seval,l18r0,l18r1,l18r2,l18r3,l18r4,l18r5,l18r6,l18r7,l18r8,l18r9,l18r10,hd,hll,hil,hs,Abz])
 | ((first|refine Acz ?_ ?_|refine Aez ?_ ?_|refine Adz ?_ ?_)<;>intro h<;>(try simp only [h])<;>(try simp only [bitvec_to_nat] at h)<;>(try simp only [h])<;>(first|(exfalso;omega)|(exfalso;simp_all;done)|(simp (disch:=omega) only [push_cast,seval,hd,hll,hil,hs,Abz])|skip))
 | ((first|refine Anz false ?_|refine Ajz false ?_);simp (disch:=omega) only [push_cast,seval,hd,hll,hil,hs,Abz])
 | ((first|((first|refine call0D (BCall.ofP (A5z _ _ _ ?_ ?_)) ?_|refine qcall0D (BCall.ofP (A5z _ _ _ ?_ ?_)) ⟨_,_,rfl,rfl⟩ ?_);(iterate 2 (exact sd));rintro _ _ ⟨rfl,rfl⟩))<;>(try simp (disch:=omega) only [push_cast,seval,hd,hll,hil,hs,Abz]))
 | (refine Akz ⟨.inr rfl,_,rfl,?_⟩; (try simp (disch := omega) only [push_cast,seval,hd,hll,hil,hs,Abz]))))
          all_goals exact ⟨_,by omega,rfl⟩
        · (repeat' (first
 | (first|refine Alz ?_|refine Agz ?_)
 | ((first|refine Amz ?_|refine Afz ?_|refine Ahz ?_|refine Aiz ?_);simp (disch:=omega) only [push_cast,seval,l18r0,l18r1,l18r2,l18r3,l18r4,l18r5,l18r6,l18r7,l18r8,l18r9,l18r10,hd,hll,hil,hs,Abz])
 | ((first|refine Acz ?_ ?_|refine Aez ?_ ?_|refine Adz ?_ ?_)<;>intro h<;>(try simp only [h])<;>(try simp only [bitvec_to_nat] at h)<;>(try simp only [h])<;>(first|(exfalso;omega)|(exfalso;simp_all;done)|(simp (disch:=omega) only [push_cast,seval,hd,hll,hil,hs,Abz])|skip))
 | ((first|refine Anz false ?_|refine Ajz false ?_);simp (disch:=omega) only [push_cast,seval,hd,hll,hil,hs,Abz])
 | ((first|((first|refine call0D (BCall.ofP (A5z _ _ _ ?_ ?_)) ?_|refine qcall0D (BCall.ofP (A5z _ _ _ ?_ ?_)) ⟨_,_,rfl,rfl⟩ ?_);(iterate 2 (exact sd));rintro _ _ ⟨rfl,rfl⟩))<;>(try simp (disch:=omega) only [push_cast,seval,hd,hll,hil,hs,Abz]))
 | (refine Akz ⟨.inr rfl,_,rfl,?_⟩; (try simp (disch := omega) only [push_cast,seval,hd,hll,hil,hs,Abz]))))
          refine ⟨(i + 1,z - l.length),⟨by simp only;omega,by simp only;omega,fun j v hj hjv=>?_⟩,by simp only;omega,?_⟩
          · simp only at hj
            by_cases e:j=i
            · subst e;rw [hli] at hjv;cases hjv;omega
            · exact hall j v (by omega) hjv
          · (refine Sub.of_lists ?_ ?_ ?_ ?_ ?_<;>simp [Vw.mkS,Vw.lk,Vw.hk,AV.inn,innL,Apz,Aoz,Atz,-List.map_set,-List.getD_eq_getElem?_getD,Abz])
      · (repeat' (first
 | (first|refine Alz ?_|refine Agz ?_)
 | ((first|refine Amz ?_|refine Afz ?_|refine Ahz ?_|refine Aiz ?_);simp (disch:=omega) only [push_cast,seval,l18r0,l18r1,l18r2,l18r3,l18r4,l18r5,l18r6,l18r7,l18r8,l18r9,l18r10,Abz])
 | ((first|refine Acz ?_ ?_|refine Aez ?_ ?_|refine Adz ?_ ?_)<;>intro h<;>(try simp only [h])<;>(try simp only [bitvec_to_nat] at h)<;>(try simp only [h])<;>(first|(exfalso;omega)|(exfalso;simp_all;done)|(simp (disch:=omega) only [push_cast,seval,Abz])|skip))
 | ((first|refine Anz false ?_|refine Ajz false ?_);simp (disch:=omega) only [push_cast,seval,Abz])
 | ((first|((first|refine call0D (BCall.ofP (A5z _ _ _ ?_ ?_)) ?_|refine qcall0D (BCall.ofP (A5z _ _ _ ?_ ?_)) ⟨_,_,rfl,rfl⟩ ?_);(iterate 2 (exact sd));rintro _ _ ⟨rfl,rfl⟩))<;>(try simp (disch:=omega) only [push_cast,seval,Abz]))
 | (refine Akz ⟨.inr rfl,_,rfl,?_⟩;(try simp (disch:=omega) only [push_cast,seval,Abz]))))
        all_goals (refine ⟨_,fun _=>⟨by omega,by omega,fun v hv=>?_⟩,rfl⟩;obtain ⟨j,hj,e⟩:=List.mem_iff_getElem.1 hv;exact hall j v (by omega) (by rw [List.getElem?_eq_getElem hj,e]))


set_option maxHeartbeats 8000000 in
theorem eqTensorS_ok (ts:List Tn) (n:Nat) (hn:ts.length=n) (hb:n ≤ 1099511627776 ∧ ∀ t ∈ ts,t.1.length ≤ 1099511627776 ∧ t.2.length ≤ 1099511627776):PCall Try.prog 23 [.rows false (TL false ts) n,.rows false (TL false ts) n] (fun r=>r=.bool true):=by
  subst hn
  obtain ⟨hb1,hb2⟩:=hb
  refine A0z l23_eq rfl ?_
  have htl:=A9z false ts
  (repeat' (first
 | (first|refine Alz ?_|refine Agz ?_)
 | ((first|refine Amz ?_|refine Aqz (mid:=l23r5a) (post:=l23r5b) A1z (by decide) ?_|refine Afz ?_|refine Ahz ?_|refine Aiz ?_);simp (disch:=omega) only [push_cast,seval,l23r0,l23r1,l23r2,l23r3,l23r4,l23r5a,l23r5b,l23r5,l23r6,l23r7,l23r8,Aaz,decide_true])
 | ((first|refine Acz ?_ ?_|refine Aez ?_ ?_|refine Adz ?_ ?_)<;>intro h<;>(try simp only [h])<;>(try simp only [bitvec_to_nat] at h)<;>(try simp only [h])<;>(first|(exfalso;omega)|(exfalso;simp_all;done)|(simp (disch:=omega) only [push_cast,seval,Aaz,decide_true])|skip))
 | ((first|refine Anz false ?_|refine Ajz false ?_);simp (disch:=omega) only [push_cast,seval,Aaz,decide_true])
 | ((first|((first|refine call0D (BCall.ofP (Buz _ _ _ _ _ _ _ _ ?_ ?_ ?_ ?_ ?_)) ?_|refine qcall0D (BCall.ofP (Buz _ _ _ _ _ _ _ _ ?_ ?_ ?_ ?_ ?_)) ⟨_,_,rfl,rfl⟩ ?_);(iterate 5 (exact sd));rintro _ _ ⟨rfl,rfl⟩))<;>(try simp (disch:=omega) only [push_cast,seval,Aaz,decide_true]))
 | (refine Akz ⟨.inr rfl,_,rfl,?_⟩;(try simp (disch:=omega) only [push_cast,seval,Aaz,decide_true]))))
  refine A2z (fun i:Nat=>mkS [(0,.rows false (TL false ts) ts.length),(1,.rows false (TL false ts) ts.length),(5,.int .i64 i)] []) (fun i=>i ≤ ts.length) (fun i=>ts.length - i) 0 (Nat.zero_le _) ?_ ?_
  · (refine Sub.of_lists ?_ ?_ ?_ ?_ ?_<;>simp [Vw.mkS,Vw.lk,Vw.hk,AV.inn,innL,Apz,Aoz,Atz,-List.map_set,-List.getD_eq_getElem?_getD,Aaz])
  · intro i hi
    by_cases hlt:i < ts.length
    · obtain ⟨⟨x,y⟩,hti⟩:=Crz hlt
      have hbb:=Guz hb2 hti
      have hd:=Cqz false ts i hti
      simp only at hd
      have hil:i * 2 + 2 ≤ ts.length * 2:=by omega
      (repeat' (first
 | (first|refine Alz ?_|refine Agz ?_)
 | ((first|refine Amz ?_|refine Aqz (mid:=l23r5a) (post:=l23r5b) A1z (by decide) ?_|refine Afz ?_|refine Ahz ?_|refine Aiz ?_);simp (disch:=omega) only [push_cast,seval,l23r0,l23r1,l23r2,l23r3,l23r4,l23r5a,l23r5b,l23r5,l23r6,l23r7,l23r8,hd,htl,hil,Aaz,decide_true,Bool.and_self])
 | ((first|refine Acz ?_ ?_|refine Aez ?_ ?_|refine Adz ?_ ?_)<;>intro h<;>(try simp only [h])<;>(try simp only [bitvec_to_nat] at h)<;>(try simp only [h])<;>(first|(exfalso;omega)|(exfalso;simp_all;done)|(simp (disch:=omega) only [push_cast,seval,hd,htl,hil,Aaz,decide_true,Bool.and_self])|skip))
 | ((first|refine Anz false ?_|refine Ajz false ?_);simp (disch:=omega) only [push_cast,seval,hd,htl,hil,Aaz,decide_true,Bool.and_self])
 | ((first|((first|refine call0D (BCall.ofP (Buz _ _ _ _ _ _ _ _ ?_ ?_ ?_ ?_ ?_)) ?_|refine qcall0D (BCall.ofP (Buz _ _ _ _ _ _ _ _ ?_ ?_ ?_ ?_ ?_)) ⟨_,_,rfl,rfl⟩ ?_);(iterate 5 (exact sd));rintro _ _ ⟨rfl,rfl⟩))<;>(try simp (disch:=omega) only [push_cast,seval,hd,htl,hil,Aaz,decide_true,Bool.and_self]))
 | (refine Akz ⟨.inr rfl,_,rfl,?_⟩;(try simp (disch:=omega) only [push_cast,seval,hd,htl,hil,Aaz,decide_true,Bool.and_self]))))
      refine ⟨i + 1,by omega,by omega,?_⟩
      (refine Sub.of_lists ?_ ?_ ?_ ?_ ?_<;>simp [Vw.mkS,Vw.lk,Vw.hk,AV.inn,innL,Apz,Aoz,Atz,-List.map_set,-List.getD_eq_getElem?_getD,Aaz])
    · (repeat' (first
 | (first|refine Alz ?_|refine Agz ?_)
 | ((first|refine Amz ?_|refine Aqz (mid:=l23r5a) (post:=l23r5b) A1z (by decide) ?_|refine Afz ?_|refine Ahz ?_|refine Aiz ?_);simp (disch:=omega) only [push_cast,seval,l23r0,l23r1,l23r2,l23r3,l23r4,l23r5a,l23r5b,l23r5,l23r6,l23r7,l23r8,Aaz])
 | ((first|refine Acz ?_ ?_|refine Aez ?_ ?_|refine Adz ?_ ?_)<;>intro h<;>(try simp only [h])<;>(try simp only [bitvec_to_nat] at h)<;>(try simp only [h])<;>(first|(exfalso;omega)|(exfalso;simp_all;done)|(simp (disch:=omega) only [push_cast,seval,Aaz])|skip))
 | ((first|refine Anz false ?_|refine Ajz false ?_);simp (disch:=omega) only [push_cast,seval,Aaz])
 | ((first|((first|refine call0D (BCall.ofP (Buz _ _ _ _ _ _ _ _ ?_ ?_ ?_ ?_ ?_)) ?_|refine qcall0D (BCall.ofP (Buz _ _ _ _ _ _ _ _ ?_ ?_ ?_ ?_ ?_)) ⟨_,_,rfl,rfl⟩ ?_);(iterate 5 (exact sd));rintro _ _ ⟨rfl,rfl⟩))<;>(try simp (disch:=omega) only [push_cast,seval,Aaz]))
 | (refine Akz ⟨.inr rfl,_,rfl,?_⟩;(try simp (disch:=omega) only [push_cast,seval,Aaz]))))


set_option maxHeartbeats 8000000 in
theorem eqIntSS_ok (ls:List (List Int)) (n:Nat) (hn:ls.length=n) (hb:n ≤ 1099511627776 ∧ ∀ l ∈ ls,l.length ≤ 1099511627776):PCall Try.prog 24 [.rows false (LL false ls) n,.rows false (LL false ls) n] (fun r=>r=.bool true):=by
  subst hn
  obtain ⟨hb1,hb2⟩:=hb
  refine A0z l24_eq rfl ?_
  have hll:=Bez false ls
  (repeat' (first
 | (first|refine Alz ?_|refine Agz ?_)
 | ((first|refine Amz ?_|refine Aqz (mid:=l24r5a) (post:=l24r5b) A1z (by decide) ?_|refine Afz ?_|refine Ahz ?_|refine Aiz ?_);simp (disch:=omega) only [push_cast,seval,l24r0,l24r1,l24r2,l24r3,l24r4,l24r5a,l24r5b,l24r5,l24r6,l24r7,l24r8,Abz,decide_true])
 | ((first|refine Acz ?_ ?_|refine Aez ?_ ?_|refine Adz ?_ ?_)<;>intro h<;>(try simp only [h])<;>(try simp only [bitvec_to_nat] at h)<;>(try simp only [h])<;>(first|(exfalso;omega)|(exfalso;simp_all;done)|(simp (disch:=omega) only [push_cast,seval,Abz,decide_true])|skip))
 | ((first|refine Anz false ?_|refine Ajz false ?_);simp (disch:=omega) only [push_cast,seval,Abz,decide_true])
 | ((first|((first|refine call0D (BCall.ofP (eqIntS_ok _ _ _ _ ?_ ?_ ?_)) ?_|refine qcall0D (BCall.ofP (eqIntS_ok _ _ _ _ ?_ ?_ ?_)) ⟨_,_,rfl,rfl⟩ ?_);(iterate 3 (exact sd));rintro _ _ ⟨rfl,rfl⟩))<;>(try simp (disch:=omega) only [push_cast,seval,Abz,decide_true]))
 | (refine Akz ⟨.inr rfl,_,rfl,?_⟩;(try simp (disch:=omega) only [push_cast,seval,Abz,decide_true]))))
  refine A2z (fun i:Nat=>mkS [(0,.rows false (LL false ls) ls.length),(1,.rows false (LL false ls) ls.length),(5,.int .i64 i)] []) (fun i=>i ≤ ls.length) (fun i=>ls.length - i) 0 (Nat.zero_le _) ?_ ?_
  · (refine Sub.of_lists ?_ ?_ ?_ ?_ ?_<;>simp [Vw.mkS,Vw.lk,Vw.hk,AV.inn,innL,Apz,Aoz,Atz,-List.map_set,-List.getD_eq_getElem?_getD,Abz])
  · intro i hi
    by_cases hlt:i < ls.length
    · obtain ⟨l,hli⟩:=Crz hlt
      have hbb:=hb2 _ (List.mem_of_getElem? hli)
      have hd:=Dtz false ls i hli
      have hil:i + 1 ≤ ls.length:=by omega
      (repeat' (first
 | (first|refine Alz ?_|refine Agz ?_)
 | ((first|refine Amz ?_|refine Aqz (mid:=l24r5a) (post:=l24r5b) A1z (by decide) ?_|refine Afz ?_|refine Ahz ?_|refine Aiz ?_);simp (disch:=omega) only [push_cast,seval,l24r0,l24r1,l24r2,l24r3,l24r4,l24r5a,l24r5b,l24r5,l24r6,l24r7,l24r8,hd,hll,hil,Abz,decide_true,Bool.and_self])
 | ((first|refine Acz ?_ ?_|refine Aez ?_ ?_|refine Adz ?_ ?_)<;>intro h<;>(try simp only [h])<;>(try simp only [bitvec_to_nat] at h)<;>(try simp only [h])<;>(first|(exfalso;omega)|(exfalso;simp_all;done)|(simp (disch:=omega) only [push_cast,seval,hd,hll,hil,Abz,decide_true,Bool.and_self])|skip))
 | ((first|refine Anz false ?_|refine Ajz false ?_);simp (disch:=omega) only [push_cast,seval,hd,hll,hil,Abz,decide_true,Bool.and_self])
 | ((first|((first|refine call0D (BCall.ofP (eqIntS_ok _ _ _ _ ?_ ?_ ?_)) ?_|refine qcall0D (BCall.ofP (eqIntS_ok _ _ _ _ ?_ ?_ ?_)) ⟨_,_,rfl,rfl⟩ ?_);(iterate 3 (exact sd));rintro _ _ ⟨rfl,rfl⟩))<;>(try simp (disch:=omega) only [push_cast,seval,hd,hll,hil,Abz,decide_true,Bool.and_self]))
 | (refine Akz ⟨.inr rfl,_,rfl,?_⟩;(try simp (disch:=omega) only [push_cast,seval,hd,hll,hil,Abz,decide_true,Bool.and_self]))))
      refine ⟨i + 1,by omega,by omega,?_⟩
      (refine Sub.of_lists ?_ ?_ ?_ ?_ ?_<;>simp [Vw.mkS,Vw.lk,Vw.hk,AV.inn,innL,Apz,Aoz,Atz,-List.map_set,-List.getD_eq_getElem?_getD,Abz])
    · (repeat' (first
 | (first|refine Alz ?_|refine Agz ?_)
 | ((first|refine Amz ?_|refine Aqz (mid:=l24r5a) (post:=l24r5b) A1z (by decide) ?_|refine Afz ?_|refine Ahz ?_|refine Aiz ?_);simp (disch:=omega) only [push_cast,seval,l24r0,l24r1,l24r2,l24r3,l24r4,l24r5a,l24r5b,l24r5,l24r6,l24r7,l24r8,Abz])
 | ((first|refine Acz ?_ ?_|refine Aez ?_ ?_|refine Adz ?_ ?_)<;>intro h<;>(try simp only [h])<;>(try simp only [bitvec_to_nat] at h)<;>(try simp only [h])<;>(first|(exfalso;omega)|(exfalso;simp_all;done)|(simp (disch:=omega) only [push_cast,seval,Abz])|skip))
 | ((first|refine Anz false ?_|refine Ajz false ?_);simp (disch:=omega) only [push_cast,seval,Abz])
 | ((first|((first|refine call0D (BCall.ofP (eqIntS_ok _ _ _ _ ?_ ?_ ?_)) ?_|refine qcall0D (BCall.ofP (eqIntS_ok _ _ _ _ ?_ ?_ ?_)) ⟨_,_,rfl,rfl⟩ ?_);(iterate 3 (exact sd));rintro _ _ ⟨rfl,rfl⟩))<;>(try simp (disch:=omega) only [push_cast,seval,Abz]))
 | (refine Akz ⟨.inr rfl,_,rfl,?_⟩;(try simp (disch:=omega) only [push_cast,seval,Abz]))))


theorem flat_T3:∀ x0:List (List Int × List Int × Unit),(x0.flatMap fun p=>Vw.enS Vw.enI p.1 ++ (Vw.enS Vw.enI p.2.1 ++ []))=TL false (x0.map fun p=>(p.1,p.2.1))
  | []=>rfl
  | p :: r=>by
    rw [List.flatMap_cons,flat_T3 r]
    simp [Vw.enI,Vw.enS,Vw.flat_ints,TL]
theorem flat_L2:∀ x0:List (List Int),(x0.flatMap fun p=>Vw.enS Vw.enI p)=LL false x0
  | []=>rfl
  | p :: r=>by
    rw [List.flatMap_cons,flat_L2 r]
    simp [Vw.enI,Vw.enS,Vw.flat_ints,LL]

end Go.Proofs.Ytpicoecbbiiaoaa
set_option linter.unusedSimpArgs false
set_option linter.unusedVariables false
set_option maxRecDepth 4000
set_option maxHeartbeats 4000000
namespace Go.Proofs.Ytpicoecbbiiaoaa
open VwM Vw Go

def sumLen (ls:List (List Int)) (k:Nat):Nat:=(ls.take k).flatten.length
end Go.Proofs.Ytpicoecbbiiaoaa
set_option linter.unusedSimpArgs false
set_option linter.unusedVariables false
set_option maxRecDepth 4000
set_option maxHeartbeats 4000000
namespace Go.Proofs.Ytpicoecbbiiaoaa
open VwM Vw Go

end Go.Proofs.Ytpicoecbbiiaoaa
set_option linter.unusedSimpArgs false
set_option linter.unusedVariables false
set_option maxRecDepth 4000
set_option maxHeartbeats 4000000
namespace Go.Proofs.Ytpicoecbbiiaoaa
open VwM Vw Go

/-- What the inner loop of the cost by two has found after q lists. -/
def rcO (e:List Int) (ls:List (List Int)) (K:List Int) (i j k q:Nat):Int:=if (k:Int) ∈ (besT ls i j q).flatten ∨ (0 < q ∧ (k:Int) ∈ K) then e.getD k 0 else -1
end Go.Proofs.Ytpicoecbbiiaoaa
set_option linter.unusedSimpArgs false
set_option linter.unusedVariables false
set_option maxRecDepth 4000
set_option maxHeartbeats 4000000
namespace Go.Proofs.Ytpicoecbbiiaoaa
open VwM Vw Go

def pairB (i j:Int) (n:Nat):Bool:=!decide (i=j) && (decide (0 ≤ i) && decide (i ≤ (n:Int) - 1)) && (decide (0 ≤ j) && decide (j ≤ (n:Int) - 1))
def cbI (ts:List Tn) (ls:List (List Int)) (out:List Int) (i j:Int):Int:=match exP ts ls out with|none=>-1|some e=>if pairB i j ts.length=true then cbN e ls out i.toNat j.toNat else -1
end Go.Proofs.Ytpicoecbbiiaoaa
set_option linter.unusedSimpArgs false
set_option linter.unusedVariables false
set_option maxRecDepth 4000
set_option maxHeartbeats 4000000
namespace Go.Proofs.Ytpicoecbbiiaoaa
open VwM Vw Go

/-- What a draw of tensors with labels is sure to be. -/
def prodF (ts:List Tn) (ls:List (List Int)) (out:List Int):Prop:=(1 ≤ ts.length ∧ ts.length ≤ 3 ∧ ls.length=ts.length) ∧ (∀ t ∈ ts,t.1.length ≤ 5 ∧ t.2.length ≤ 61 ∧ ∀ v ∈ t.2,-9 ≤ v ∧ v ≤ 9) ∧ (∀ l ∈ ls,l.length ≤ 4 ∧ ∀ x ∈ l,0 ≤ x ∧ x ≤ 4) ∧ out.length ≤ 6
structure POk (e:List Int) (many:Int) (p:Int) (ts:List Tn) (ls:List (List Int)) (all:List Int) (q:Int):Prop where
  n:(ts.length:Int) ≤ many
  t:∀ t ∈ ts,t.1.length ≤ 4 ∧ t.2.length ≤ 60 ∧ ∀ v ∈ t.2,-9 ≤ v ∧ v ≤ 9
  l:∀ l ∈ ls,l.length ≤ 3 ∧ ∀ x ∈ l,0 ≤ x ∧ x ≤ 4
  a:all.length ≤ 3 * ts.length ∧ ∀ x ∈ all,0 ≤ x ∧ x ≤ 4
  q1:p ≤ q
  q2:q ≤ p + 10 + 100 * ts.length
end Go.Proofs.Ytpicoecbbiiaoaa
set_option linter.unusedSimpArgs false
set_option linter.unusedVariables false
set_option maxRecDepth 4000
set_option maxHeartbeats 4000000
namespace Go.Proofs.Ytpicoecbbiiaoaa
open VwM Vw Go

end Go.Proofs.Ytpicoecbbiiaoaa
set_option linter.unusedSimpArgs false
set_option linter.unusedVariables false
set_option maxRecDepth 4000
set_option maxHeartbeats 4000000
namespace Go.Proofs.Ytpicoecbbiiaoaa
open VwM Vw Go

set_option maxHeartbeats 8000000 in
theorem iExO_ok (ts:List Tn) (ls:List (List Int)) (n m:Nat) (hn:ts.length=n) (hm:ls.length=m) (hb:n ≤ 1099511627776 ∧ m ≤ 1099511627776 ∧ (∀ t ∈ ts,t.1.length ≤ 1099511627776 ∧ t.2.length ≤ 1099511627776) ∧ ∀ l ∈ ls,l.length ≤ 1099511627776) :
    BCall Try.prog 22 [.rows false (TL false ts) n,.rows false (LL false ls) m] [] (OX (exO ts ls)):=by
  subst hn hm
  have q0:=hb
  obtain ⟨hb0,hb1,hb2,hb3⟩:=hb
  refine Biz (pins:=[]) (pin:=0) l22_eq rfl rfl rfl ?_
  have hxp:=exP_nil ts ls
  cases hx:exO ts ls with
  | none =>
    rw [hx] at hxp
    (repeat' (first
 | (first|refine Alz ?_|refine Agz ?_)
 | ((first|refine Amz ?_|refine Afz ?_|refine Ahz ?_|refine Aiz ?_);simp (disch:=omega) only [push_cast,seval,l22r0,l22r1,l22r2,l22r3,l22r4,hxp,set5,tak5,Doz,Option.isSome_none,Option.getD_none,Aaz,Abz])
 | ((first|refine Acz ?_ ?_|refine Aez ?_ ?_|refine Adz ?_ ?_)<;>intro h<;>(try simp only [h])<;>(try simp only [bitvec_to_nat] at h)<;>(try simp only [h])<;>(first|(exfalso;omega)|(exfalso;simp_all;done)|(simp (disch:=omega) only [push_cast,seval,hxp,set5,tak5,Doz,Option.isSome_none,Option.getD_none,Aaz,Abz])|skip))
 | ((first|refine Anz false ?_|refine Ajz false ?_);simp (disch:=omega) only [push_cast,seval,hxp,set5,tak5,Doz,Option.isSome_none,Option.getD_none,Aaz,Abz])
 | ((first|(refine call0D (BCall.ofP (C3z _ _ _ _ _ _ ?_ ?_ ?_ ?_)) ?_;(iterate 4 (exact sd));rintro _ _ ⟨⟨g,hg5,rfl⟩,rfl⟩;(try simp only [hxp,Option.getD_none,Option.getD_some] at hg5))|(refine call0D (BCall.ofP (extentsOfN_ok _ _ _ _ ?_ ?_ ?_)) ?_;(iterate 3 (exact sd));rintro _ _ ⟨⟨g,hg5,rfl⟩,rfl⟩;(try simp only [hxp,Option.getD_none,Option.getD_some] at hg5))|((first|refine call0D (clone_ok _ _ ?_ ?_) ?_|refine qcall0D (clone_ok _ _ ?_ ?_) ⟨_,_,rfl,rfl⟩ ?_);(iterate 2 (exact sd));rintro _ _ ⟨rfl,rfl⟩))<;>(try simp (disch:=omega) only [push_cast,seval,hxp,set5,tak5,Doz,Option.isSome_none,Option.getD_none,Aaz,Abz]))
 | (refine Akz ⟨.inr rfl,[16000],[(16000,1)],_,by decide,rfl,?_⟩;(try simp (disch:=omega) only [push_cast,seval,↓Auz,↓Asz,↓List.map_cons,↓List.map_nil,hxp,set5,tak5,Doz,Option.isSome_none,Option.getD_none,Aaz,Abz]))))
    all_goals (try exact ⟨rfl,rfl⟩)
  | some e =>
    rw [hx] at hxp
    obtain ⟨h5,_⟩:=exO_facts hx
    (repeat' (first
 | (first|refine Alz ?_|refine Agz ?_)
 | ((first|refine Amz ?_|refine Afz ?_|refine Ahz ?_|refine Aiz ?_);simp (disch:=omega) only [push_cast,seval,l22r0,l22r1,l22r2,l22r3,l22r4,hxp,h5,set5,tak5,Doz,Option.isSome_some,Option.getD_some,Aaz,Abz])
 | ((first|refine Acz ?_ ?_|refine Aez ?_ ?_|refine Adz ?_ ?_)<;>intro h<;>(try simp only [h])<;>(try simp only [bitvec_to_nat] at h)<;>(try simp only [h])<;>(first|(exfalso;omega)|(exfalso;simp_all;done)|(simp (disch:=omega) only [push_cast,seval,hxp,h5,set5,tak5,Doz,Option.isSome_some,Option.getD_some,Aaz,Abz])|skip))
 | ((first|refine Anz false ?_|refine Ajz false ?_);simp (disch:=omega) only [push_cast,seval,hxp,h5,set5,tak5,Doz,Option.isSome_some,Option.getD_some,Aaz,Abz])
 | ((first|(refine call0D (BCall.ofP (C3z _ _ _ _ _ _ ?_ ?_ ?_ ?_)) ?_;(iterate 4 (exact sd));rintro _ _ ⟨⟨g,hg5,rfl⟩,rfl⟩;(try simp only [hxp,Option.getD_none,Option.getD_some] at hg5))|(refine call0D (BCall.ofP (extentsOfN_ok _ _ _ _ ?_ ?_ ?_)) ?_;(iterate 3 (exact sd));rintro _ _ ⟨⟨g,hg5,rfl⟩,rfl⟩;(try simp only [hxp,Option.getD_none,Option.getD_some] at hg5))|((first|refine call0D (clone_ok _ _ ?_ ?_) ?_|refine qcall0D (clone_ok _ _ ?_ ?_) ⟨_,_,rfl,rfl⟩ ?_);(iterate 2 (exact sd));rintro _ _ ⟨rfl,rfl⟩))<;>(try simp (disch:=omega) only [push_cast,seval,hxp,h5,set5,tak5,Doz,Option.isSome_some,Option.getD_some,Aaz,Abz]))
 | (refine Akz ⟨.inr rfl,[272],[],_,by decide,rfl,?_⟩;(try simp (disch:=omega) only [push_cast,seval,↓Auz,↓Asz,↓List.map_cons,↓List.map_nil,hxp,h5,set5,tak5,Doz,Option.isSome_some,Option.getD_some,Aaz,Abz]))))
    all_goals (try exact ⟨by simp [h5],rfl⟩)


end Go.Proofs.Ytpicoecbbiiaoaa
set_option linter.unusedSimpArgs false
set_option linter.unusedVariables false
set_option maxRecDepth 4000
set_option maxHeartbeats 4000000
namespace Go.Proofs.Ytpicoecbbiiaoaa
open VwM Vw Go

def klL (ts:List Tn) (ls:List (List Int)) (out:List Int) (i j:Int):List Int:=match exP ts ls out with|none=>[]|some e=>if pairB i j ts.length=true then keL ls out (ls.getD i.toNat []) (ls.getD j.toNat []) i.toNat j.toNat else []
end Go.Proofs.Ytpicoecbbiiaoaa
set_option linter.unusedSimpArgs false
set_option linter.unusedVariables false
set_option maxRecDepth 4000
set_option maxHeartbeats 4000000
namespace Go.Proofs.Ytpicoecbbiiaoaa
open VwM Vw Go

def ctV (ts:List Tn) (ls:List (List Int)) (out e:List Int) (n:Nat):List Int:=(List.range n).map fun p=>w64 (ctE ts ls out e p)
end Go.Proofs.Ytpicoecbbiiaoaa
set_option linter.unusedSimpArgs false
set_option linter.unusedVariables false
set_option maxRecDepth 4000
set_option maxHeartbeats 4000000
namespace Go.Proofs.Ytpicoecbbiiaoaa
open VwM Vw Go

end Go.Proofs.Ytpicoecbbiiaoaa
set_option linter.unusedSimpArgs false
set_option linter.unusedVariables false
set_option maxRecDepth 4000
set_option maxHeartbeats 4000000
namespace Go.Proofs.Ytpicoecbbiiaoaa
open VwM Vw Go

def ctC (out e:List Int):Bool:=(allI out 0 4 && decide out.Nodup) && vSh (out.map (gE e)) && decide (pr (spE e) ≤ 4000)
def ctW (ts:List Tn) (ls:List (List Int)) (out e:List Int):Tn:=(out.map (gE e),ctV ts ls out e (pr (out.map (gE e))).toNat)
def ctT (ts:List Tn) (ls:List (List Int)) (out:List Int):Option Tn:=(exO ts ls).bind fun e=>if (ctC out e && vT (ctW ts ls out e))=true then some (ctW ts ls out e) else none
def t0 (o:Option Tn):Tn:=o.getD ([],[])
/-- What a contraction yields: a tensor,whether it is possible. -/
abbrev OTn (o:Option Tn):AV → List (List AV) → Prop:=fun r H'=>r=.tup [.agg [.own 0 (t0 o).1.length 1,.own 1 (t0 o).2.length 1],.bool o.isSome] ∧ H'=[IL (t0 o).1,IL (t0 o).2]
end Go.Proofs.Ytpicoecbbiiaoaa
