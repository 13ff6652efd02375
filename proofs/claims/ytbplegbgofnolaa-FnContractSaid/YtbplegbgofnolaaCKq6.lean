import Derived.Test.YtbplegbgofnolaaCKq5
import Derived.Test.YtbplegbgofnolaaCM1
import Derived.Test.YtbplegbgofnolaaCW3
set_option linter.unusedSimpArgs false
set_option linter.unusedVariables false
set_option maxRecDepth 4000
set_option maxHeartbeats 4000000
namespace Go.Proofs.Ytbplegbgofnolaa
open VwM Vw Go

theorem Hgz {ts:List Tn} {ls:List (List Int)} {e:List Int} (h:exO ts ls=some e):CtOk ts ls e:=by
  obtain ⟨f1,f2,f3,f4,f5,f6,f7,f8⟩:=exO_facts h
  refine ⟨f1,f8,fun i t l ht hl=>?_,fun x hx=>?_,f2⟩
  · have hv:=C2z.1 (f7 t (List.mem_of_getElem? ht))
    exact ⟨⟨hv.1,hv.2.1⟩,(f6 i t l ht hl).1,fun x hx=>f5 x (List.mem_flatten.2 ⟨l,List.mem_of_getElem? hl,hx⟩),(f6 i t l ht hl).2⟩
  · have hr:=f5 x hx
    refine ⟨hr,?_⟩
    obtain ⟨c,rfl⟩:∃ c:Nat,x=c:=⟨x.toNat,by omega⟩
    have:=f3 c (by omega) hx
    unfold gE;rw [Int.toNat_natCast];exact this
theorem pos9 {xs:List Int} (hg:good9 xs) (h:0 < pr xs):∀ i,i < xs.length → 1 ≤ xs.getD i 0:=fun i hi=>by
  have:=Ciz h (fun x hx=>(hg.1 x hx).1) _ (A4z (xs:=xs) (j:=i) hi)
  omega


theorem unrank9_ok (xs:List Int) (n:Nat) (k:Int) (hn:xs.length=n) (hg:good9 xs ∧ 0 ≤ k ∧ k < pr xs):BCall Try.prog 114 [.rows false (IL xs) n,.int .i64 k] [] (OI (unr xs k)):=by
  subst hn
  obtain ⟨hg,hk0,hk1⟩:=hg
  have hl:=hg.2
  have hprb:=Csz hg
  have hp:=pos9 hg (by omega)
  refine A3z (pins:=[]) (pin:=0) l114_eq rfl rfl rfl ?_
  (repeat' (first
 | (first|refine Anz ?_|refine Agz ?_)
 | ((first|refine Aoz ?_|refine Afz ?_|refine Ahz ?_|refine Aiz ?_);simp (disch:=omega) only [push_cast,seval,l114r0,l114r1,l114r2,l114r3,l114r4,l114r5,l114r6,l114r7])
 | ((first|refine Acz ?_ ?_|refine Aez ?_ ?_|refine Adz ?_ ?_)<;>intro h<;>(try simp only [h])<;>(try simp only [bitvec_to_nat] at h)<;>(try simp only [h])<;>(first|(exfalso;omega)|(exfalso;simp_all;done)|(simp (disch:=omega) only [push_cast,seval])|skip))
 | (refine Akz ⟨.inr rfl,[144],[],_,by decide,rfl,?_⟩;(try simp (disch:=omega) only [push_cast,seval,↓Alz,↓Ajz,↓List.map_cons,↓List.map_nil]);(first|done|(show AV.own _ _ _=_ ∧ _)))))
  refine Azz (fun j:Nat=>mkS [(0,RI xs),(6,.int .i64 ((xs.length:Int) - 1 - (j:Int))),(1,.int .i64 (kS xs k j)),(5,.own 144 xs.length 1)] [(144,IL (filledD (dig xs k) xs.length j))])
    (fun j=>j ≤ xs.length) (fun j=>xs.length - j) 0 (Nat.zero_le _) ?_ ?_
  · (refine Sub.of_lists ?_ ?_ ?_ ?_ ?_<;>simp [Vw.mkS,Vw.lk,Vw.hk,AV.inn,innL,Arz,Amz,Atz,-List.map_set,-List.getD_eq_getElem?_getD,filledD_zero,kS])
  · intro j hj
    by_cases hlt:j < xs.length
    · have e1:=down_nat xs.length j hlt
      have h1:=Dlz hk0 hp j hj
      have h2:=Dlz hk0 hp (j + 1) hlt
      have h3:=hp (xs.length - 1 - j) (by omega)
      have h4:¬ xs.getD (xs.length - 1 - j) 0=0:=by omega
      simp only [kS] at h2
      have e3:=filledD_set (dig xs k) xs.length j hlt
      have e6:dig xs k (xs.length - 1 - j)=(kS xs k j).tmod (xs.getD (xs.length - 1 - j) 0):=by
        unfold dig
        rw [show xs.length - 1 - (xs.length - 1 - j)=j by omega]
      rw [e6] at e3
      (repeat' (first
 | (first|refine Anz ?_|refine Agz ?_)
 | ((first|refine Aoz ?_|refine Afz ?_|refine Ahz ?_|refine Aiz ?_);simp (disch:=omega) only [push_cast,seval,l114r0,l114r1,l114r2,l114r3,l114r4,l114r5,l114r6,l114r7,e1,h4])
 | ((first|refine Acz ?_ ?_|refine Aez ?_ ?_|refine Adz ?_ ?_)<;>intro h<;>(try simp only [h])<;>(try simp only [bitvec_to_nat] at h)<;>(try simp only [h])<;>(first|(exfalso;omega)|(exfalso;simp_all;done)|(simp (disch:=omega) only [push_cast,seval,e1,h4])|skip))
 | (refine Akz ⟨.inr rfl,[144],[],_,by decide,rfl,?_⟩;(try simp (disch:=omega) only [push_cast,seval,↓Alz,↓Ajz,↓List.map_cons,↓List.map_nil,e1,h4]);(first|done|(show AV.own _ _ _=_ ∧ _)))))
      refine ⟨j + 1,by omega,by omega,?_⟩
      have e4:(xs.length:Int) - 1 - ((j:Int) + 1)=(xs.length:Int) - 1 - (j:Int) - 1:=by omega
      (refine Sub.of_lists ?_ ?_ ?_ ?_ ?_<;>simp [Vw.mkS,Vw.lk,Vw.hk,AV.inn,innL,Arz,Amz,Atz,-List.map_set,-List.getD_eq_getElem?_getD,Bxz,e3,e4,kS])
    · (repeat' (first
 | (first|refine Anz ?_|refine Agz ?_)
 | ((first|refine Aoz ?_|refine Afz ?_|refine Ahz ?_|refine Aiz ?_);simp (disch:=omega) only [push_cast,seval,l114r0,l114r1,l114r2,l114r3,l114r4,l114r5,l114r6,l114r7])
 | ((first|refine Acz ?_ ?_|refine Aez ?_ ?_|refine Adz ?_ ?_)<;>intro h<;>(try simp only [h])<;>(try simp only [bitvec_to_nat] at h)<;>(try simp only [h])<;>(first|(exfalso;omega)|(exfalso;simp_all;done)|(simp (disch:=omega) only [push_cast,seval])|skip))
 | (refine Akz ⟨.inr rfl,[144],[],_,by decide,rfl,?_⟩;(try simp (disch:=omega) only [push_cast,seval,↓Alz,↓Ajz,↓List.map_cons,↓List.map_nil]);(first|done|(show AV.own _ _ _=_ ∧ _)))))
      have e:j=xs.length:=by omega
      rw [e,filledD_all]
      simp [OI,unr]


set_option maxHeartbeats 32000000 in
theorem scontr_ok (ts:List Tn) (ls:List (List Int)) (out e:List Int) (n m q:Nat) (hn:ts.length=n) (hm:ls.length=m) (hq:out.length=q)
    (hb:CtOk ts ls e ∧ n ≤ 1000 ∧ (∀ x ∈ out,x ∈ ls.flatten) ∧ out.Nodup ∧ vSh (out.map (gE e))=true ∧ (∀ t ∈ ts,t.1.length ≤ 1000 ∧ t.2.length ≤ 1000) ∧ (∀ l ∈ ls,l.length ≤ 1000) ∧ pr (spE e) ≤ 4000) :
    BCall Try.prog 101 [.rows false (TL false ts) n,.rows false (LL false ls) m,.rows false (IL out) q,.rows false (IL e) 5] [] (fun r H'=>r=.agg [.own 0 q 1,.own 1 (pr (out.map (gE e))).toNat 1] ∧ H'=[IL (out.map (gE e)),IL (ctV ts ls out e (pr (out.map (gE e))).toNat)]):=by
  subst hn hm hq
  obtain ⟨hC,hb1,ho,hon,hs,hb3,hb4,hb5⟩:=hb
  have h5:=hC.len
  have hlen:=hC.num
  have htl:=Caz false ts
  have hll:=Cbz false ls
  have hO:∀ x ∈ out,(0 ≤ x ∧ x ≤ 4):=fun x hx=>(hC.used x (ho x hx)).1
  have hgs:=(A7z hs)
  have hol:out.length ≤ 4:=by have:=hgs.1.2;simpa using this
  obtain ⟨N,hN⟩:∃ N:Nat,pr (out.map (gE e))=N:=⟨(pr (out.map (gE e))).toNat,by omega⟩
  have hNN:(pr (out.map (gE e))).toNat=N:=by omega
  have hNb:N ≤ 60:=by omega
  rw [hNN]
  have hsp9:good9 (spE e):=⟨fun z hz=>by
    obtain ⟨y,hy,rfl⟩:=List.mem_map.1 hz
    split
    · omega
    · obtain ⟨c,hc,rfl⟩:=C1z.1 hy
      by_cases hm:(c:Int) ∈ ls.flatten
      · have:=(hC.used _ hm).2;unfold gE at this;rw [Int.toNat_natCast] at this;omega
      · have:=hC.un c (by omega) hm;omega,by rw [Ccz,h5];omega⟩
  have hpp:=Csz hsp9
  have hspl:(spE e).length=5:=by rw [Ccz,h5]
  obtain ⟨M,hM⟩:∃ M:Nat,pr (spE e)=M:=⟨(pr (spE e)).toNat,by omega⟩
  have q1:(5:Nat) ≤ 6 ∧ ∀ x ∈ e,x ≤ 60:=⟨by omega,fun y hy=>by
      obtain ⟨c,hc,rfl⟩:=C1z.1 hy
      by_cases hm:(c:Int) ∈ ls.flatten
      · have:=(hC.used _ hm).2;unfold gE at this;rw [Int.toNat_natCast] at this;omega
      · have:=hC.un c (by omega) hm;omega⟩
  have q2:((5:Nat) ≤ 1000000 ∧ out.length ≤ 1000000) ∧ ∀ x ∈ out,0 ≤ x ∧ x < ((5:Nat):Int):=⟨⟨by omega,by omega⟩,fun x hx=>by have:=hO x hx;omega⟩
  have hOl:(out.map (gE e)).length=out.length:=List.length_map _
  refine A3z (pins:=[]) (pin:=0) l101_eq rfl rfl rfl ?_
  generalize hOS:out.map (gE e)=OS at *
  (repeat' (first
 | (first|refine Anz ?_|refine Agz ?_)
 | ((first|refine Aoz ?_|refine Asz (mid:=l101r10a) (post:=l101r10b) Awz (by decide) ?_|refine Asz (mid:=l101r12a) (post:=l101r12b) Awz (by decide) ?_|refine Asz (mid:=l101r13a) (post:=l101r13b) Awz (by decide) ?_|refine Afz ?_|refine Ahz ?_|refine Aiz ?_);simp (disch:=omega) only [push_cast,seval,l101r0,l101r1,l101r2,l101r3,l101r4,l101r5,l101r6,l101r7,l101r8,l101r9,l101r10a,l101r10b,l101r10,l101r11,l101r12a,l101r12b,l101r12,l101r13a,l101r13b,l101r13,l101r14,l101r15,h5,hspl,hN,hM,Apz,hOS])
 | ((first|refine Acz ?_ ?_|refine Aez ?_ ?_|refine Adz ?_ ?_)<;>intro h<;>(try simp only [h])<;>(try simp only [bitvec_to_nat] at h)<;>(try simp only [h])<;>(first|(exfalso;omega)|(exfalso;simp_all;done)|(simp (disch:=omega) only [push_cast,seval,h5,hspl,hN,hM,Apz,hOS])|skip))
 | ((first|refine Aqz false ?_|refine qcallD_of false ?_);simp (disch:=omega) only [push_cast,seval,h5,hspl,hN,hM,Apz,hOS])
 | ((first|((first|refine call0D (sspace_ok _ _ ?_ ?_) ?_|refine qcall0D (sspace_ok _ _ ?_ ?_) ⟨_,_,rfl,rfl⟩ ?_);(iterate 2 (exact sd));rintro _ _ ⟨rfl,rfl⟩)|((first|refine call0D (spick_ok _ _ _ _ ?_ ?_ ?_) ?_|refine qcall0D (spick_ok _ _ _ _ ?_ ?_ ?_) ⟨_,_,rfl,rfl⟩ ?_);(iterate 3 (exact sd));rintro _ _ ⟨rfl,rfl⟩)|((first|refine call0D (BCall.ofP (scount_ok _ _ ?_ ?_)) ?_|refine qcall0D (BCall.ofP (scount_ok _ _ ?_ ?_)) ⟨_,_,rfl,rfl⟩ ?_);(iterate 2 (exact sd));rintro _ _ ⟨rfl,rfl⟩)|((first|refine call0D (unrank9_ok _ _ _ ?_ ?_) ?_|refine qcall0D (unrank9_ok _ _ _ ?_ ?_) ⟨_,_,rfl,rfl⟩ ?_);(iterate 2 (exact sd));rintro _ _ ⟨rfl,rfl⟩)|((first|refine call0D (BCall.ofP (srank_ok _ _ _ _ ?_ ?_ ?_)) ?_|refine qcall0D (BCall.ofP (srank_ok _ _ _ _ ?_ ?_ ?_)) ⟨_,_,rfl,rfl⟩ ?_);(iterate 3 (exact sd));rintro _ _ ⟨rfl,rfl⟩))<;>(try simp (disch:=omega) only [push_cast,seval,h5,hspl,hN,hM,Apz,hOS]))
 | (refine Akz ⟨.inr rfl,[384,464],[],_,by decide,rfl,?_⟩;(try simp (disch:=omega) only [push_cast,seval,↓Alz,↓Ajz,↓List.map_cons,↓List.map_nil,h5,hspl,hN,hM,Apz,hOS]))))
  refine Azz (fun k:Nat=>mkS [(0,.rows false (TL false ts) ts.length),(1,.rows false (LL false ls) ls.length),(2,.rows false (IL out) out.length),(8,.ref 128 2 0),(9,.own 304 5 1),(10,.int .i64 M),(11,.ref 176 2 0),(12,.int .i64 k)] [(128,[.val (.slice none 0 0),.val (.slice none 0 0)]),(176,[.own 384 out.length 1,.own 464 N 1]),(304,IL (spE e)),(384,IL OS),(464,IL (vsT ts ls out e N k))]) (fun k=>k ≤ M) (fun k=>M - k) 0 (Nat.zero_le _) ?_ ?_
  · have e0:IL (vsT ts ls out e N 0)=List.replicate N (.int .i64 0):=by rw [vsT_zero];simp [IL]
    (refine Sub.of_lists ?_ ?_ ?_ ?_ ?_<;>simp [Vw.mkS,Vw.lk,Vw.hk,AV.inn,innL,Arz,Amz,Atz,-List.map_set,-List.getD_eq_getElem?_getD,e0,hOl,Abz,Aaz])
  · intro k hk
    have hvl:=vsT_len ts ls out e N k
    by_cases hkM:k < M
    · have hkp:(k:Int) < pr (spE e):=by omega
      have q3:good9 (spE e) ∧ 0 ≤ (k:Int) ∧ (k:Int) < pr (spE e):=⟨hsp9,by omega,hkp⟩
      have hfit:=unr_fit hC hkp
      obtain ⟨r1,r2,r3,r4⟩:=rkO_fit hC ho (hOS ▸ hs) hfit
      rw [hOS] at r1 r3 r4
      obtain ⟨p,hp⟩:∃ p:Nat,rkO e out (unr (spE e) k)=p:=⟨(rkO e out (unr (spE e) k)).toNat,by omega⟩
      have hpN:p < N:=by omega
      have hst:=vsT_step (ts:=ts) (ls:=ls) hpN hp
      have hw5:=hfit.1
      have hlabw:∀ x ∈ ls.flatten,0 ≤ x ∧ x < ((5:Nat):Int):=fun x hx=>by have:=(hC.used x hx).1;omega
      generalize hW:unr (spE e) k=w at *
      generalize hV:vsT ts ls out e N k=V at *
      rw [hp] at r4
      have r4b:dot (fun i=>(out.map (gE w)).getD i 0) (rowS OS) out.length=p:=by rw [← r4,hOl]
      have q4:good4 OS ∧ vIx OS (out.map (gE w))=true:=⟨hgs.1,r1⟩
      (repeat' (first
 | (first|refine Anz ?_|refine Agz ?_)
 | ((first|refine Aoz ?_|refine Asz (mid:=l101r10a) (post:=l101r10b) Awz (by decide) ?_|refine Asz (mid:=l101r12a) (post:=l101r12b) Awz (by decide) ?_|refine Asz (mid:=l101r13a) (post:=l101r13b) Awz (by decide) ?_|refine Afz ?_|refine Ahz ?_|refine Aiz ?_);simp (disch:=omega) only [push_cast,seval,l101r0,l101r1,l101r2,l101r3,l101r4,l101r5,l101r6,l101r7,l101r8,l101r9,l101r10a,l101r10b,l101r10,l101r11,l101r12a,l101r12b,l101r12,l101r13a,l101r13b,l101r13,l101r14,l101r15,h5,hspl,hN,hM,Apz,hW,hw5])
 | ((first|refine Acz ?_ ?_|refine Aez ?_ ?_|refine Adz ?_ ?_)<;>intro h<;>(try simp only [h])<;>(try simp only [bitvec_to_nat] at h)<;>(try simp only [h])<;>(first|(exfalso;omega)|(exfalso;simp_all;done)|(simp (disch:=omega) only [push_cast,seval,h5,hspl,hN,hM,Apz,hW,hw5])|skip))
 | ((first|refine Aqz false ?_|refine qcallD_of false ?_);simp (disch:=omega) only [push_cast,seval,h5,hspl,hN,hM,Apz,hW,hw5])
 | ((first|((first|refine call0D (sspace_ok _ _ ?_ ?_) ?_|refine qcall0D (sspace_ok _ _ ?_ ?_) ⟨_,_,rfl,rfl⟩ ?_);(iterate 2 (exact sd));rintro _ _ ⟨rfl,rfl⟩)|((first|refine call0D (spick_ok _ _ _ _ ?_ ?_ ?_) ?_|refine qcall0D (spick_ok _ _ _ _ ?_ ?_ ?_) ⟨_,_,rfl,rfl⟩ ?_);(iterate 3 (exact sd));rintro _ _ ⟨rfl,rfl⟩)|((first|refine call0D (BCall.ofP (scount_ok _ _ ?_ ?_)) ?_|refine qcall0D (BCall.ofP (scount_ok _ _ ?_ ?_)) ⟨_,_,rfl,rfl⟩ ?_);(iterate 2 (exact sd));rintro _ _ ⟨rfl,rfl⟩)|((first|refine call0D (unrank9_ok _ _ _ ?_ ?_) ?_|refine qcall0D (unrank9_ok _ _ _ ?_ ?_) ⟨_,_,rfl,rfl⟩ ?_);(iterate 2 (exact sd));rintro _ _ ⟨rfl,rfl⟩)|((first|refine call0D (BCall.ofP (srank_ok _ _ _ _ ?_ ?_ ?_)) ?_|refine qcall0D (BCall.ofP (srank_ok _ _ _ _ ?_ ?_ ?_)) ⟨_,_,rfl,rfl⟩ ?_);(iterate 3 (exact sd));rintro _ _ ⟨rfl,rfl⟩))<;>(try simp (disch:=omega) only [push_cast,seval,h5,hspl,hN,hM,Apz,hW,hw5]))
 | (refine Akz ⟨.inr rfl,[384,464],[],_,by decide,rfl,?_⟩;(try simp (disch:=omega) only [push_cast,seval,↓Alz,↓Ajz,↓List.map_cons,↓List.map_nil,h5,hspl,hN,hM,Apz,hW,hw5]))))
      refine Azz (fun j:Nat=>mkS [(0,.rows false (TL false ts) ts.length),(1,.rows false (LL false ls) ls.length),(2,.rows false (IL out) out.length),(8,.ref 128 2 0),(9,.own 304 5 1),(10,.int .i64 M),(11,.ref 176 2 0),(12,.int .i64 k),(13,.own 608 5 1),(14,.int .i64 (w64 (prodL (((ts.zip ls).take j).map fun q=>tv q.1 q.2 w)))),(15,.int .i64 j)] [(128,[.val (.slice none 0 0),.val (.slice none 0 0)]),(176,[.own 384 out.length 1,.own 464 N 1]),(304,IL (spE e)),(384,IL OS),(464,IL V),(608,IL w)]) (fun j=>j ≤ ts.length) (fun j=>ts.length - j) 0 (Nat.zero_le _) ?_ ?_
      · have e0:(1:Int)=w64 (prodL []):=by decide
        (refine Sub.of_lists ?_ ?_ ?_ ?_ ?_<;>simp [Vw.mkS,Vw.lk,Vw.hk,AV.inn,innL,Arz,Amz,Atz,-List.map_set,-List.getD_eq_getElem?_getD,e0,Abz,Aaz])
      · intro j hj
        by_cases hjl:j < ts.length
        · obtain ⟨t,ht⟩:=Dbz hjl
          obtain ⟨l,hl⟩:=Dbz (show j < ls.length by omega)
          have hdt:=TL_d1 false ts j ht
          have hdt2:=TL_d2 false ts j ht
          have hj3:j * 2 + 1 ≤ ts.length * 2:=by omega
          have hdl:=F2z false ls j hl
          have hk1:j + 1 ≤ ts.length:=by omega
          have hkl:j + 1 ≤ ls.length:=by omega
          have hj2:j * 2 + 2 ≤ ts.length * 2:=by omega
          have hbt:=hb3 t (List.mem_of_getElem? ht)
          have hbl:=hb4 l (List.mem_of_getElem? hl)
          obtain ⟨⟨c1,c2⟩,c3,c4,c5⟩:=hC.lab j t l ht hl
          obtain ⟨t1,t2,t3,t4,t5⟩:=tv_ok hC hfit ht hl
          obtain ⟨D,hD⟩:∃ D:Nat,dot (fun i=>gE w (l.getD i 0)) (rowS t.1) t.1.length=D:=⟨(dot (fun i=>gE w (l.getD i 0)) (rowS t.1) t.1.length).toNat,by omega⟩
          have hDl:D < t.2.length:=by omega
          have hD2:dot (fun i=>(l.map (gE w)).getD i 0) (rowS t.1) t.1.length=D:=by rw [(map_ix c3 (fit_lab hC hfit ht hl)).2];exact hD
          have htv:tv t l w=t.2.getD D 0:=by unfold tv;rw [hD,Int.toNat_natCast]
          have q5:((5:Nat) ≤ 1000000 ∧ l.length ≤ 1000000) ∧ ∀ x ∈ l,0 ≤ x ∧ x < ((5:Nat):Int):=⟨⟨by omega,by omega⟩,fun x hx=>hlabw x (List.mem_flatten.2 ⟨l,List.mem_of_getElem? hl,hx⟩)⟩
          have q6:good4 t.1 ∧ vIx t.1 (l.map (gE w))=true:=⟨(A7z c1).1,t5⟩
          have hzj:(ts.zip ls)[j]?=some (t,l):=List.getElem?_zip_eq_some.2 ⟨ht,hl⟩
          have hps:=prod_step (fun q:Tn × List Int=>tv q.1 q.2 w) (ts.zip ls) hzj
          simp only [htv] at hps
          generalize hP:w64 (prodL (List.map (fun q:Tn × List Int=>tv q.1 q.2 w) (List.take j (ts.zip ls))))=P at *
          rw [List.map_take] at hps
          (repeat' (first
 | (first|refine Anz ?_|refine Agz ?_)
 | ((first|refine Aoz ?_|refine Asz (mid:=l101r10a) (post:=l101r10b) Awz (by decide) ?_|refine Asz (mid:=l101r12a) (post:=l101r12b) Awz (by decide) ?_|refine Asz (mid:=l101r13a) (post:=l101r13b) Awz (by decide) ?_|refine Afz ?_|refine Ahz ?_|refine Aiz ?_);simp (disch:=omega) only [push_cast,seval,l101r0,l101r1,l101r2,l101r3,l101r4,l101r5,l101r6,l101r7,l101r8,l101r9,l101r10a,l101r10b,l101r10,l101r11,l101r12a,l101r12b,l101r12,l101r13a,l101r13b,l101r13,l101r14,l101r15,hdt,hdt2,hdl,htl,hll,hk1,hkl,hj2,hj3,h5,hw5,Apz,hD2])
 | ((first|refine Acz ?_ ?_|refine Aez ?_ ?_|refine Adz ?_ ?_)<;>intro h<;>(try simp only [h])<;>(try simp only [bitvec_to_nat] at h)<;>(try simp only [h])<;>(first|(exfalso;omega)|(exfalso;simp_all;done)|(simp (disch:=omega) only [push_cast,seval,hdt,hdt2,hdl,htl,hll,hk1,hkl,hj2,hj3,h5,hw5,Apz,hD2])|skip))
 | ((first|refine Aqz false ?_|refine qcallD_of false ?_);simp (disch:=omega) only [push_cast,seval,hdt,hdt2,hdl,htl,hll,hk1,hkl,hj2,hj3,h5,hw5,Apz,hD2])
 | ((first|((first|refine call0D (sspace_ok _ _ ?_ ?_) ?_|refine qcall0D (sspace_ok _ _ ?_ ?_) ⟨_,_,rfl,rfl⟩ ?_);(iterate 2 (exact sd));rintro _ _ ⟨rfl,rfl⟩)|((first|refine call0D (spick_ok _ _ _ _ ?_ ?_ ?_) ?_|refine qcall0D (BCall.ofP (plainI (spick_ok _ _ _ _ ?_ ?_ ?_))) ⟨_,_,rfl,rfl⟩ ?_);(iterate 3 (exact sd));rintro _ _ ⟨rfl,rfl⟩)|((first|refine call0D (BCall.ofP (scount_ok _ _ ?_ ?_)) ?_|refine qcall0D (BCall.ofP (scount_ok _ _ ?_ ?_)) ⟨_,_,rfl,rfl⟩ ?_);(iterate 2 (exact sd));rintro _ _ ⟨rfl,rfl⟩)|((first|refine call0D (unrank9_ok _ _ _ ?_ ?_) ?_|refine qcall0D (unrank9_ok _ _ _ ?_ ?_) ⟨_,_,rfl,rfl⟩ ?_);(iterate 2 (exact sd));rintro _ _ ⟨rfl,rfl⟩)|((first|refine call0D (BCall.ofP (srank_ok _ _ _ _ ?_ ?_ ?_)) ?_|refine qcall0D (BCall.ofP (srank_ok _ _ _ _ ?_ ?_ ?_)) ⟨_,_,rfl,rfl⟩ ?_);(iterate 3 (exact sd));rintro _ _ ⟨rfl,rfl⟩))<;>(try simp (disch:=omega) only [push_cast,seval,hdt,hdt2,hdl,htl,hll,hk1,hkl,hj2,hj3,h5,hw5,Apz,hD2]))
 | (refine Akz ⟨.inr rfl,[384,464],[],_,by decide,rfl,?_⟩; (try simp (disch := omega) only [push_cast,seval,↓Alz,↓Ajz,↓List.map_cons,↓List.map_nil,hdt,hdt2,hdl,htl,hll,hk1,hkl,hj2,hj3,h5,hw5,Apz,hD2]))))
          refine ⟨j + 1,by omega,by omega,?_⟩
          (refine Sub.of_lists ?_ ?_ ?_ ?_ ?_<;>simp [Vw.mkS,Vw.lk,Vw.hk,AV.inn,innL,Arz,Amz,Atz,-List.map_set,-List.getD_eq_getElem?_getD,hps,Abz,Aaz])
        · have ej:j=ts.length:=by omega
          have hall:(ts.zip ls).take j=ts.zip ls:=List.take_of_length_le (by rw [List.length_zip];omega)
          rw [hall]
          have hgp:prodL ((ts.zip ls).map fun q=>tv q.1 q.2 w)=gP ts ls w:=rfl
          rw [hgp]
          generalize hG:w64 (gP ts ls w)=G at *
          (repeat' (first
 | (first|refine Anz ?_|refine Agz ?_)
 | ((first|refine Aoz ?_|refine Asz (mid:=l101r10a) (post:=l101r10b) Awz (by decide) ?_|refine Asz (mid:=l101r12a) (post:=l101r12b) Awz (by decide) ?_|refine Asz (mid:=l101r13a) (post:=l101r13b) Awz (by decide) ?_|refine Afz ?_|refine Ahz ?_|refine Aiz ?_);simp (disch:=omega) only [push_cast,seval,l101r0,l101r1,l101r2,l101r3,l101r4,l101r5,l101r6,l101r7,l101r8,l101r9,l101r10a,l101r10b,l101r10,l101r11,l101r12a,l101r12b,l101r12,l101r13a,l101r13b,l101r13,l101r14,l101r15,h5,hw5,Apz,hOl,hOS,hvl,r4b,Bxz])
 | ((first|refine Acz ?_ ?_|refine Aez ?_ ?_|refine Adz ?_ ?_)<;>intro h<;>(try simp only [h])<;>(try simp only [bitvec_to_nat] at h)<;>(try simp only [h])<;>(first|(exfalso;omega)|(exfalso;simp_all;done)|(simp (disch:=omega) only [push_cast,seval,h5,hw5,Apz,hOl,hOS,hvl,r4b,Bxz])|skip))
 | ((first|refine Aqz false ?_|refine qcallD_of false ?_);simp (disch:=omega) only [push_cast,seval,h5,hw5,Apz,hOl,hOS,hvl,r4b,Bxz])
 | ((first|((first|refine call0D (sspace_ok _ _ ?_ ?_) ?_|refine qcall0D (sspace_ok _ _ ?_ ?_) ⟨_,_,rfl,rfl⟩ ?_);(iterate 2 (exact sd));rintro _ _ ⟨rfl,rfl⟩)|((first|refine call0D (spick_ok _ _ _ _ ?_ ?_ ?_) ?_|refine qcall0D (BCall.ofP (plainI (spick_ok _ _ _ _ ?_ ?_ ?_))) ⟨_,_,rfl,rfl⟩ ?_);(iterate 3 (exact sd));rintro _ _ ⟨rfl,rfl⟩)|((first|refine call0D (BCall.ofP (scount_ok _ _ ?_ ?_)) ?_|refine qcall0D (BCall.ofP (scount_ok _ _ ?_ ?_)) ⟨_,_,rfl,rfl⟩ ?_);(iterate 2 (exact sd));rintro _ _ ⟨rfl,rfl⟩)|((first|refine call0D (unrank9_ok _ _ _ ?_ ?_) ?_|refine qcall0D (unrank9_ok _ _ _ ?_ ?_) ⟨_,_,rfl,rfl⟩ ?_);(iterate 2 (exact sd));rintro _ _ ⟨rfl,rfl⟩)|((first|refine call0D (BCall.ofP (srank_ok _ _ _ _ ?_ ?_ ?_)) ?_|refine qcall0D (BCall.ofP (srank_ok _ _ _ _ ?_ ?_ ?_)) ⟨_,_,rfl,rfl⟩ ?_);(iterate 3 (exact sd));rintro _ _ ⟨rfl,rfl⟩))<;>(try simp (disch:=omega) only [push_cast,seval,h5,hw5,Apz,hOl,hOS,hvl,r4b,Bxz]))
 | (refine Akz ⟨.inr rfl,[384,464],[],_,by decide,rfl,?_⟩; (try simp (disch := omega) only [push_cast,seval,↓Alz,↓Ajz,↓List.map_cons,↓List.map_nil,h5,hw5,Apz,hOl,hOS,hvl,r4b,Bxz]))))
          refine ⟨k + 1,by omega,by omega,?_⟩
          (refine Sub.of_lists ?_ ?_ ?_ ?_ ?_<;>simp [Vw.mkS,Vw.lk,Vw.hk,AV.inn,innL,Arz,Amz,Atz,-List.map_set,-List.getD_eq_getElem?_getD,hst,Bxz,Abz,Aaz])
    · have ek:k=M:=by omega
      have hfin:vsT ts ls out e N k=ctV ts ls out e N:=by
        unfold vsT ctV
        refine List.map_congr_left fun p hp=>?_
        have hpN:=List.mem_range.1 hp
        have:=model_sum hC ho hon (hOS ▸ hs) (by rw [hOS];exact hN) hpN
        rw [hM,Int.toNat_natCast,← ek] at this
        rw [this]
      rw [hfin] at hvl ⊢
      generalize hV:ctV ts ls out e N=V at *
      (repeat' (first
 | (first|refine Anz ?_|refine Agz ?_)
 | ((first|refine Aoz ?_|refine Asz (mid:=l101r10a) (post:=l101r10b) Awz (by decide) ?_|refine Asz (mid:=l101r12a) (post:=l101r12b) Awz (by decide) ?_|refine Asz (mid:=l101r13a) (post:=l101r13b) Awz (by decide) ?_|refine Afz ?_|refine Ahz ?_|refine Aiz ?_);simp (disch:=omega) only [push_cast,seval,l101r0,l101r1,l101r2,l101r3,l101r4,l101r5,l101r6,l101r7,l101r8,l101r9,l101r10a,l101r10b,l101r10,l101r11,l101r12a,l101r12b,l101r12,l101r13a,l101r13b,l101r13,l101r14,l101r15,h5,Apz,hOl,hOS,hvl])
 | ((first|refine Acz ?_ ?_|refine Aez ?_ ?_|refine Adz ?_ ?_)<;>intro h<;>(try simp only [h])<;>(try simp only [bitvec_to_nat] at h)<;>(try simp only [h])<;>(first|(exfalso;omega)|(exfalso;simp_all;done)|(simp (disch:=omega) only [push_cast,seval,h5,Apz,hOl,hOS,hvl])|skip))
 | ((first|refine Aqz false ?_|refine qcallD_of false ?_);simp (disch:=omega) only [push_cast,seval,h5,Apz,hOl,hOS,hvl])
 | ((first|((first|refine call0D (sspace_ok _ _ ?_ ?_) ?_|refine qcall0D (sspace_ok _ _ ?_ ?_) ⟨_,_,rfl,rfl⟩ ?_);(iterate 2 (exact sd));rintro _ _ ⟨rfl,rfl⟩)|((first|refine call0D (spick_ok _ _ _ _ ?_ ?_ ?_) ?_|refine qcall0D (spick_ok _ _ _ _ ?_ ?_ ?_) ⟨_,_,rfl,rfl⟩ ?_);(iterate 3 (exact sd));rintro _ _ ⟨rfl,rfl⟩)|((first|refine call0D (BCall.ofP (scount_ok _ _ ?_ ?_)) ?_|refine qcall0D (BCall.ofP (scount_ok _ _ ?_ ?_)) ⟨_,_,rfl,rfl⟩ ?_);(iterate 2 (exact sd));rintro _ _ ⟨rfl,rfl⟩)|((first|refine call0D (unrank9_ok _ _ _ ?_ ?_) ?_|refine qcall0D (unrank9_ok _ _ _ ?_ ?_) ⟨_,_,rfl,rfl⟩ ?_);(iterate 2 (exact sd));rintro _ _ ⟨rfl,rfl⟩)|((first|refine call0D (BCall.ofP (srank_ok _ _ _ _ ?_ ?_ ?_)) ?_|refine qcall0D (BCall.ofP (srank_ok _ _ _ _ ?_ ?_ ?_)) ⟨_,_,rfl,rfl⟩ ?_);(iterate 3 (exact sd));rintro _ _ ⟨rfl,rfl⟩))<;>(try simp (disch:=omega) only [push_cast,seval,h5,Apz,hOl,hOS,hvl]))
 | (refine Akz ⟨.inr rfl,[384,464],[],_,by decide,rfl,?_⟩;(try simp (disch:=omega) only [push_cast,seval,↓Alz,↓Ajz,↓List.map_cons,↓List.map_nil,h5,Apz,hOl,hOS,hvl]))))

end Go.Proofs.Ytbplegbgofnolaa
