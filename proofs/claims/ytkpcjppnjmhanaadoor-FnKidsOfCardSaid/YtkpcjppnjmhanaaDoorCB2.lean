/- Texts of this verifier. -/
import Derived.Test.YtkpcjppnjmhanaaDoorCB1
import Derived.Test.YtkpcjppnjmhanaaDoorCM1
set_option maxHeartbeats 4000000
set_option linter.unusedSimpArgs false
set_option linter.unusedSectionVars false
set_option linter.unusedVariables false
set_option maxRecDepth 4000
namespace Go.Proofs.YtkpcjppnjmhanaaDoor
open VwM Vw Go
variable [SentA]

theorem Boz (st:List Int) (n:Nat) (d:Nat) (hn:st.length=n) (hb:n ≤ 1099511627776):PCall Tryd.prog 62 [.rows false (IL st) n,.int .i64 d] (fun r=>r=.bool (vSt st d)):=by
  subst hn
  refine A4z l62_eq rfl ?_
  by_cases hd:st.length=d
  · subst hd
    (repeat' (first
 | (first|refine Apz ?_|refine Aiz ?_)
 | ((first|refine Aqz ?_|refine Ahz ?_|refine Ajz ?_|refine Akz ?_);simp (disch:=omega) only [push_cast,seval,l62r0,l62r1,l62r2,l62r3,l62r4,l62r5,l62r6,l62r7,l62r8,l62r9])
 | ((first|refine Acz ?_ ?_|refine Agz ?_ ?_|refine Afz ?_ ?_)<;>intro h<;>(try simp only [h])<;>(try simp only [bitvec_to_nat] at h)<;>(try simp only [h])<;>(first|(exfalso;omega)|(exfalso;simp_all;done)|(simp (disch:=omega) only [push_cast,seval])|skip))
 | ((first|refine Arz false ?_|refine Anz false ?_);simp (disch:=omega) only [push_cast,seval])
 | ((first|((first|refine Adz (Aez (Dyz _ _ ?_ ?_)) ?_|refine Abz (Aez (Dyz _ _ ?_ ?_)) ⟨_,_,rfl,rfl⟩ ?_);(iterate 2 (exact sd));rintro _ _ ⟨rfl,rfl⟩))<;>(try simp (disch:=omega) only [push_cast,seval]))
 | (refine Amz ⟨.inr rfl,_,rfl,?_⟩;(try simp (disch:=omega) only [push_cast,seval]))))
    refine Bqz (fun k:Nat=>mkS [(11,RI st),(12,.int .i64 st.length),(13,.int .i64 k)] []) (fun k=>k ≤ st.length ∧ ∀ j:Nat,j < k → -60 ≤ st.getD j 0 ∧ st.getD j 0 ≤ 60) (fun k=>st.length - k) 0 ⟨Nat.zero_le _,fun j h=>absurd h (Nat.not_lt_zero _)⟩ ?_ ?_
    · (refine Sub.of_lists ?_ ?_ ?_ ?_ ?_<;>simp [Vw.mkS,Vw.lk,Vw.hk,AV.inn,innL,Avz,Atz,Ayz,-List.map_set,-List.getD_eq_getElem?_getD])
    · rintro k ⟨hk,hj⟩
      by_cases hlt:k < st.length
      · (repeat' (first
 | (first|refine Apz ?_|refine Aiz ?_)
 | ((first|refine Aqz ?_|refine Ahz ?_|refine Ajz ?_|refine Akz ?_);simp (disch:=omega) only [push_cast,seval,l62r0,l62r1,l62r2,l62r3,l62r4,l62r5,l62r6,l62r7,l62r8,l62r9])
 | ((first|refine Acz ?_ ?_|refine Agz ?_ ?_|refine Afz ?_ ?_)<;>intro h<;>(try simp only [h])<;>(try simp only [bitvec_to_nat] at h)<;>(try simp only [h])<;>(first|(exfalso;omega)|(exfalso;simp_all;done)|(simp (disch:=omega) only [push_cast,seval])|skip))
 | ((first|refine Arz false ?_|refine Anz false ?_);simp (disch:=omega) only [push_cast,seval])
 | ((first|((first|refine Adz (Aez (Dyz _ _ ?_ ?_)) ?_|refine Abz (Aez (Dyz _ _ ?_ ?_)) ⟨_,_,rfl,rfl⟩ ?_);(iterate 2 (exact sd));rintro _ _ ⟨rfl,rfl⟩))<;>(try simp (disch:=omega) only [push_cast,seval]))
 | (refine Amz ⟨.inr rfl,_,rfl,?_⟩;(try simp (disch:=omega) only [push_cast,seval]))))
        · have:allI st (-60) 60=false:=Ggz (j:=k) hlt (by omega)
          simp [vSt,this]
        · refine ⟨k + 1,⟨by omega,fun j h=>?_⟩,by omega,?_⟩
          · by_cases hjk:j=k
            · subst hjk;assumption
            · exact hj j (by omega)
          · (refine Sub.of_lists ?_ ?_ ?_ ?_ ?_<;>simp [Vw.mkS,Vw.lk,Vw.hk,AV.inn,innL,Avz,Atz,Ayz,-List.map_set,-List.getD_eq_getElem?_getD])
      · have ha:allI st (-60) 60=true:=Hpz fun j h=>hj j (by omega)
        (repeat' (first
 | (first|refine Apz ?_|refine Aiz ?_)
 | ((first|refine Aqz ?_|refine Ahz ?_|refine Ajz ?_|refine Akz ?_);simp (disch:=omega) only [push_cast,seval,l62r0,l62r1,l62r2,l62r3,l62r4,l62r5,l62r6,l62r7,l62r8,l62r9])
 | ((first|refine Acz ?_ ?_|refine Agz ?_ ?_|refine Afz ?_ ?_)<;>intro h<;>(try simp only [h])<;>(try simp only [bitvec_to_nat] at h)<;>(try simp only [h])<;>(first|(exfalso;omega)|(exfalso;simp_all;done)|(simp (disch:=omega) only [push_cast,seval])|skip))
 | ((first|refine Arz false ?_|refine Anz false ?_);simp (disch:=omega) only [push_cast,seval])
 | ((first|((first|refine Adz (Aez (Dyz _ _ ?_ ?_)) ?_|refine Abz (Aez (Dyz _ _ ?_ ?_)) ⟨_,_,rfl,rfl⟩ ?_);(iterate 2 (exact sd));rintro _ _ ⟨rfl,rfl⟩))<;>(try simp (disch:=omega) only [push_cast,seval]))
 | (refine Amz ⟨.inr rfl,_,rfl,?_⟩;(try simp (disch:=omega) only [push_cast,seval]))))
        simp [vSt,ha]
  · have hd':¬ (st.length:Int)=d:=by omega
    (repeat' (first
 | (first|refine Apz ?_|refine Aiz ?_)
 | ((first|refine Aqz ?_|refine Ahz ?_|refine Ajz ?_|refine Akz ?_);simp (disch:=omega) only [push_cast,seval,l62r0,l62r1,l62r2,l62r3,l62r4,l62r5,l62r6,l62r7,l62r8,l62r9,hd'])
 | ((first|refine Acz ?_ ?_|refine Agz ?_ ?_|refine Afz ?_ ?_)<;>intro h<;>(try simp only [h])<;>(try simp only [bitvec_to_nat] at h)<;>(try simp only [h])<;>(first|(exfalso;omega)|(exfalso;simp_all;done)|(simp (disch:=omega) only [push_cast,seval,hd'])|skip))
 | ((first|refine Arz false ?_|refine Anz false ?_);simp (disch:=omega) only [push_cast,seval,hd'])
 | ((first|((first|refine Adz (Aez (Dyz _ _ ?_ ?_)) ?_|refine Abz (Aez (Dyz _ _ ?_ ?_)) ⟨_,_,rfl,rfl⟩ ?_);(iterate 2 (exact sd));rintro _ _ ⟨rfl,rfl⟩))<;>(try simp (disch:=omega) only [push_cast,seval,hd']))
 | (refine Amz ⟨.inr rfl,_,rfl,?_⟩;(try simp (disch:=omega) only [push_cast,seval,hd']))))
    simp [vSt,hd]


theorem Ekz (b:Int) (cs st idx:List Int) (n m p:Nat) (hm:st.length=m) (hp:idx.length=p) (hb:(p ≤ m ∧ p ≤ 4) ∧ (-1000000 ≤ b ∧ b ≤ 1000000) ∧ ∀ i,i < p → (-60 ≤ idx.getD i 0 ∧ idx.getD i 0 ≤ 60) ∧ -12960000 ≤ st.getD i 0 ∧ st.getD i 0 ≤ 12960000):PCall Tryd.prog 83 [.agg [.int .i64 b,.rows false (IL cs) n,.rows false (IL st) m],.rows false (IL idx) p] (fun r=>r=.int .i64 (b + dot (fun i=>idx.getD i 0) st p)):=by
  subst hm hp
  obtain ⟨⟨h1,h2⟩,⟨h3,h4⟩,hb⟩:=hb
  refine A4z l83_eq rfl ?_
  (repeat' (first
 | (first|refine Apz ?_|refine Aiz ?_)
 | ((first|refine Aqz ?_|refine Asz (mid:=l83r4a) (post:=l83r4b) Axz (by decide) ?_|refine Ahz ?_|refine Ajz ?_|refine Akz ?_);simp (disch:=omega) only [push_cast,seval,l83r0,l83r1,l83r2,l83r3,l83r4a,l83r4b,l83r4,l83r5,l83r6])
 | ((first|refine Acz ?_ ?_|refine Agz ?_ ?_|refine Afz ?_ ?_)<;>intro h<;>(try simp only [h])<;>(try simp only [bitvec_to_nat] at h)<;>(try simp only [h])<;>(first|(exfalso;omega)|(exfalso;simp_all;done)|(simp (disch:=omega) only [push_cast,seval])|skip))
 | (refine Amz ⟨.inr rfl,_,rfl,?_⟩;(try simp (disch:=omega) only [push_cast,seval]))))
  refine Bqz (fun k:Nat=>mkS [(1,RI idx),(2,.ref 32 3 0),(5,.int .i64 (b + dot (fun i=>idx.getD i 0) st k)),(6,.int .i64 k)] [(32,[.int .i64 b,.rows false (IL cs) n,RI st])]) (fun k=>k ≤ idx.length) (fun k=>idx.length - k) 0 (Nat.zero_le _) ?_ ?_
  · (refine Sub.of_lists ?_ ?_ ?_ ?_ ?_<;>simp [Vw.mkS,Vw.lk,Vw.hk,AV.inn,innL,Avz,Atz,Ayz,-List.map_set,-List.getD_eq_getElem?_getD,dot])
  · intro k hk
    by_cases hlt:k < idx.length
    · have q1:=dot_bound (f:=fun i=>idx.getD i 0) (st:=st) (B:=60) (C:=12960000) k fun i hi=>hb i (by omega)
      have q2:=Hfz (hb k hlt).1 (hb k hlt).2
      have q3:k < st.length:=by omega
      (repeat' (first
 | (first|refine Apz ?_|refine Aiz ?_)
 | ((first|refine Aqz ?_|refine Asz (mid:=l83r4a) (post:=l83r4b) Axz (by decide) ?_|refine Ahz ?_|refine Ajz ?_|refine Akz ?_);simp (disch:=omega) only [push_cast,seval,l83r0,l83r1,l83r2,l83r3,l83r4a,l83r4b,l83r4,l83r5,l83r6])
 | ((first|refine Acz ?_ ?_|refine Agz ?_ ?_|refine Afz ?_ ?_)<;>intro h<;>(try simp only [h])<;>(try simp only [bitvec_to_nat] at h)<;>(try simp only [h])<;>(first|(exfalso;omega)|(exfalso;simp_all;done)|(simp (disch:=omega) only [push_cast,seval])|skip))
 | (refine Amz ⟨.inr rfl,_,rfl,?_⟩;(try simp (disch:=omega) only [push_cast,seval]))))
      refine ⟨k + 1,by omega,by omega,?_⟩
      (refine Sub.of_lists ?_ ?_ ?_ ?_ ?_<;>simp [Vw.mkS,Vw.lk,Vw.hk,AV.inn,innL,Avz,Atz,Ayz,-List.map_set,-List.getD_eq_getElem?_getD,dot,Int.add_assoc])
    · (repeat' (first
 | (first|refine Apz ?_|refine Aiz ?_)
 | ((first|refine Aqz ?_|refine Asz (mid:=l83r4a) (post:=l83r4b) Axz (by decide) ?_|refine Ahz ?_|refine Ajz ?_|refine Akz ?_);simp (disch:=omega) only [push_cast,seval,l83r0,l83r1,l83r2,l83r3,l83r4a,l83r4b,l83r4,l83r5,l83r6])
 | ((first|refine Acz ?_ ?_|refine Agz ?_ ?_|refine Afz ?_ ?_)<;>intro h<;>(try simp only [h])<;>(try simp only [bitvec_to_nat] at h)<;>(try simp only [h])<;>(first|(exfalso;omega)|(exfalso;simp_all;done)|(simp (disch:=omega) only [push_cast,seval])|skip))
 | (refine Amz ⟨.inr rfl,_,rfl,?_⟩;(try simp (disch:=omega) only [push_cast,seval]))))
      rw [show k=idx.length by omega]


/-- What keeps a view's cells from overflowing. -/
def okV (b:Int) (sh st:List Int):Prop:=(good4 sh ∧ pr sh ≤ 60) ∧ (-1000000 ≤ b ∧ b ≤ 1000000) ∧ sh.length ≤ st.length ∧ ∀ i,i < sh.length → -12960000 ≤ st.getD i 0 ∧ st.getD i 0 ≤ 12960000
theorem okV_dig {b:Int} {sh st:List Int} (h:okV b sh st) {k:Int} (hk:0 ≤ k) (hk2:k < pr sh):∀ i,i < sh.length → (-60 ≤ dig sh k i ∧ dig sh k i ≤ 60) ∧ -12960000 ≤ st.getD i 0 ∧ st.getD i 0 ≤ 12960000:=fun i hi=>by
  obtain ⟨⟨hg,_⟩,_,_,hs⟩:=h
  have h1:=dig_isIx hg hk hk2 i hi
  have h2:=Ehz hg hi
  exact ⟨by omega,hs i hi⟩
theorem unr_getD {sh:List Int} {k:Int} {i:Nat} (h:i < sh.length):(unr sh k).getD i 0=dig sh k i:=by simp [unr,List.getD,h]
theorem E2z {sh st:List Int} {k:Int}:dot (fun i=>(unr sh k).getD i 0) st sh.length=dot (dig sh k) st sh.length:=Jdz fun i hi=>unr_getD hi
def offsT (b:Int) (sh st:List Int) (j:Nat):List Int:=(List.range j).map fun k:Nat=>cellK b sh st k
theorem offsT_zero (b:Int) (sh st:List Int):offsT b sh st 0=[]:=rfl
theorem offsT_succ (b:Int) (sh st:List Int) (j:Nat):offsT b sh st (j + 1)=offsT b sh st j ++ [cellK b sh st j]:=by simp [offsT,List.range_succ]
theorem offsT_length (b:Int) (sh st:List Int) (j:Nat):(offsT b sh st j).length=j:=by simp [offsT]
theorem offsT_all (b:Int) (sh st:List Int):offsT b sh st (pr sh).toNat=offs b sh st:=rfl


theorem A0z (b:Int) (sh st:List Int) (n m:Nat) (hn:sh.length=n) (hm:st.length=m) (hb:okV b sh st):BCall Tryd.prog 76 [.agg [.int .i64 b,.rows false (IL sh) n,.rows false (IL st) m]] [] (OI (offs b sh st)):=by
  subst hn hm
  obtain ⟨⟨hg,hp60⟩,⟨hb1,hb2⟩,hls,hst⟩:=hb
  have hl:=hg.2
  have hp0:=(Fgz hg).1
  refine A5z (pins:=[]) (pin:=0) l76_eq rfl rfl rfl ?_
  (repeat' (first
 | (first|refine Apz ?_|refine Aiz ?_)
 | ((first|refine Aqz ?_|refine Asz (mid:=l76r4a) (post:=l76r4b) Axz (by decide) ?_|refine Ahz ?_|refine Ajz ?_|refine Akz ?_);simp (disch:=omega) only [push_cast,seval,l76r0,l76r1,l76r2,l76r3,l76r4a,l76r4b,l76r4,l76r5,l76r6])
 | ((first|refine Acz ?_ ?_|refine Agz ?_ ?_|refine Afz ?_ ?_)<;>intro h<;>(try simp only [h])<;>(try simp only [bitvec_to_nat] at h)<;>(try simp only [h])<;>(first|(exfalso;omega)|(exfalso;simp_all;done)|(simp (disch:=omega) only [push_cast,seval])|skip))
 | ((first|refine Arz false ?_|refine Anz false ?_);simp (disch:=omega) only [push_cast,seval])
 | ((first|((first|refine Adz (Aez (Bbz _ _ ?_ ?_)) ?_|refine Abz (Aez (Bbz _ _ ?_ ?_)) ⟨_,_,rfl,rfl⟩ ?_);(iterate 2 (exact sd));rintro _ _ ⟨rfl,rfl⟩)|((first|refine Adz (E4z _ _ _ ?_ ?_) ?_|refine Abz (E4z _ _ _ ?_ ?_) ⟨_,_,rfl,rfl⟩ ?_);(iterate 2 (exact sd));rintro _ _ ⟨rfl,rfl⟩)|((first|refine Adz (Aez (Ekz _ _ _ _ _ _ _ ?_ ?_ ?_)) ?_|refine Abz (Aez (Ekz _ _ _ _ _ _ _ ?_ ?_ ?_)) ⟨_,_,rfl,rfl⟩ ?_);(iterate 3 (exact sd));rintro _ _ ⟨rfl,rfl⟩))<;>(try simp (disch:=omega) only [push_cast,seval]))
 | (refine Amz ⟨.inr rfl,[80],[],_,by decide,rfl,?_⟩;(try simp (disch:=omega) only [push_cast,seval,↓Aoz,↓Alz,↓List.map_cons,↓List.map_nil]);(first|done|(show AV.own _ _ _=_ ∧ _)))
 | (refine Amz ⟨.inr rfl,[144],[],_,by decide,rfl,?_⟩;(try simp (disch:=omega) only [push_cast,seval,↓Aoz,↓Alz,↓List.map_cons,↓List.map_nil]);(first|done|(show AV.own _ _ _=_ ∧ _)))
 | (refine Amz ⟨.inr rfl,[288],[],_,by decide,rfl,?_⟩;(try simp (disch:=omega) only [push_cast,seval,↓Aoz,↓Alz,↓List.map_cons,↓List.map_nil]);(first|done|(show AV.own _ _ _=_ ∧ _)))
 | (refine Amz ⟨.inr rfl,[304],[],_,by decide,rfl,?_⟩;(try simp (disch:=omega) only [push_cast,seval,↓Aoz,↓Alz,↓List.map_cons,↓List.map_nil]);(first|done|(show AV.own _ _ _=_ ∧ _)))
 | (refine Amz ⟨.inr rfl,[320],[],_,by decide,rfl,?_⟩;(try simp (disch:=omega) only [push_cast,seval,↓Aoz,↓Alz,↓List.map_cons,↓List.map_nil]);(first|done|(show AV.own _ _ _=_ ∧ _)))
 | (refine Amz ⟨.inr rfl,[336],[],_,by decide,rfl,?_⟩;(try simp (disch:=omega) only [push_cast,seval,↓Aoz,↓Alz,↓List.map_cons,↓List.map_nil]);(first|done|(show AV.own _ _ _=_ ∧ _)))))
  refine Bqz (fun k:Nat=>mkS [(1,.ref 16 3 0),(3,.own 80 k 1),(4,.int .i64 k)] [(16,[.int .i64 b,RI sh,RI st]),(80,IL (offsT b sh st k))])
    (fun k=>k ≤ (pr sh).toNat) (fun k=>(pr sh).toNat - k) 0 (Nat.zero_le _) ?_ ?_
  · (refine Sub.of_lists ?_ ?_ ?_ ?_ ?_<;>simp [Vw.mkS,Vw.lk,Vw.hk,AV.inn,innL,Avz,Atz,Ayz,-List.map_set,-List.getD_eq_getElem?_getD,offsT_zero])
  · intro k hk
    have hol:=offsT_length b sh st k
    by_cases hlt:k < (pr sh).toNat
    · have hgk:good4 sh ∧ 0 ≤ (k:Int) ∧ (k:Int) < pr sh:=⟨hg,by omega,by omega⟩
      have hdg:=okV_dig (b:=b) (st:=st) ⟨⟨hg,hp60⟩,⟨hb1,hb2⟩,hls,hst⟩ hgk.2.1 hgk.2.2
      have hlu:=Hsz sh k
      have q:(sh.length ≤ st.length ∧ sh.length ≤ 4) ∧ (-1000000 ≤ b ∧ b ≤ 1000000) ∧ ∀ i,i < sh.length → (-60 ≤ (unr sh k).getD i 0 ∧ (unr sh k).getD i 0 ≤ 60) ∧ -12960000 ≤ st.getD i 0 ∧ st.getD i 0 ≤ 12960000:=⟨⟨hls,hl⟩,⟨hb1,hb2⟩,fun i hi=>by rw [unr_getD hi];exact hdg i hi⟩
      have hlt':(k:Int) < pr sh:=hgk.2.2
      (repeat' (first
 | (first|refine Apz ?_|refine Aiz ?_)
 | ((first|refine Aqz ?_|refine Asz (mid:=l76r4a) (post:=l76r4b) Axz (by decide) ?_|refine Ahz ?_|refine Ajz ?_|refine Akz ?_);simp (disch:=omega) only [push_cast,seval,l76r0,l76r1,l76r2,l76r3,l76r4a,l76r4b,l76r4,l76r5,l76r6,hlt',hlu,hol,E2z])
 | ((first|refine Acz ?_ ?_|refine Agz ?_ ?_|refine Afz ?_ ?_)<;>intro h<;>(try simp only [h])<;>(try simp only [bitvec_to_nat] at h)<;>(try simp only [h])<;>(first|(exfalso;omega)|(exfalso;simp_all;done)|(simp (disch:=omega) only [push_cast,seval,hlt',hlu,hol,E2z])|skip))
 | ((first|refine Arz false ?_|refine Anz false ?_);simp (disch:=omega) only [push_cast,seval,hlt',hlu,hol,E2z])
 | ((first|((first|refine Adz (Aez (Bbz _ _ ?_ ?_)) ?_|refine Abz (Aez (Bbz _ _ ?_ ?_)) ⟨_,_,rfl,rfl⟩ ?_);(iterate 2 (exact sd));rintro _ _ ⟨rfl,rfl⟩)|((first|refine Adz (E4z _ _ _ ?_ ?_) ?_|refine Abz (Aez (Gjz (E4z _ _ _ ?_ ?_))) ⟨_,_,rfl,rfl⟩ ?_);(iterate 2 (exact sd));rintro _ _ ⟨rfl,rfl⟩)|((first|refine Adz (Aez (Ekz _ _ _ _ _ _ _ ?_ ?_ ?_)) ?_|refine Abz (Aez (Ekz _ _ _ _ _ _ _ ?_ ?_ ?_)) ⟨_,_,rfl,rfl⟩ ?_);(iterate 3 (exact sd));rintro _ _ ⟨rfl,rfl⟩))<;>(try simp (disch:=omega) only [push_cast,seval,hlt',hlu,hol,E2z]))
 | (refine Amz ⟨.inr rfl,[80],[],_,by decide,rfl,?_⟩;(try simp (disch:=omega) only [push_cast,seval,↓Aoz,↓Alz,↓List.map_cons,↓List.map_nil,hlt',hlu,hol,E2z]);(first|done|(show AV.own _ _ _=_ ∧ _)))
 | (refine Amz ⟨.inr rfl,[144],[],_,by decide,rfl,?_⟩;(try simp (disch:=omega) only [push_cast,seval,↓Aoz,↓Alz,↓List.map_cons,↓List.map_nil,hlt',hlu,hol,E2z]);(first|done|(show AV.own _ _ _=_ ∧ _)))
 | (refine Amz ⟨.inr rfl,[288],[],_,by decide,rfl,?_⟩;(try simp (disch:=omega) only [push_cast,seval,↓Aoz,↓Alz,↓List.map_cons,↓List.map_nil,hlt',hlu,hol,E2z]);(first|done|(show AV.own _ _ _=_ ∧ _)))
 | (refine Amz ⟨.inr rfl,[304],[],_,by decide,rfl,?_⟩;(try simp (disch:=omega) only [push_cast,seval,↓Aoz,↓Alz,↓List.map_cons,↓List.map_nil,hlt',hlu,hol,E2z]);(first|done|(show AV.own _ _ _=_ ∧ _)))
 | (refine Amz ⟨.inr rfl,[320],[],_,by decide,rfl,?_⟩;(try simp (disch:=omega) only [push_cast,seval,↓Aoz,↓Alz,↓List.map_cons,↓List.map_nil,hlt',hlu,hol,E2z]);(first|done|(show AV.own _ _ _=_ ∧ _)))
 | (refine Amz ⟨.inr rfl,[336],[],_,by decide,rfl,?_⟩;(try simp (disch:=omega) only [push_cast,seval,↓Aoz,↓Alz,↓List.map_cons,↓List.map_nil,hlt',hlu,hol,E2z]);(first|done|(show AV.own _ _ _=_ ∧ _)))))
      refine ⟨k + 1,by omega,by omega,?_⟩
      have e:b + dot (dig sh k) st sh.length=cellK b sh st k:=rfl
      (refine Sub.of_lists ?_ ?_ ?_ ?_ ?_<;>simp [Vw.mkS,Vw.lk,Vw.hk,AV.inn,innL,Avz,Atz,Ayz,-List.map_set,-List.getD_eq_getElem?_getD,offsT_succ,e])
    · have hlt':¬ (k:Int) < pr sh:=by omega
      (repeat' (first
 | (first|refine Apz ?_|refine Aiz ?_)
 | ((first|refine Aqz ?_|refine Asz (mid:=l76r4a) (post:=l76r4b) Axz (by decide) ?_|refine Ahz ?_|refine Ajz ?_|refine Akz ?_);simp (disch:=omega) only [push_cast,seval,l76r0,l76r1,l76r2,l76r3,l76r4a,l76r4b,l76r4,l76r5,l76r6,hlt',hol])
 | ((first|refine Acz ?_ ?_|refine Agz ?_ ?_|refine Afz ?_ ?_)<;>intro h<;>(try simp only [h])<;>(try simp only [bitvec_to_nat] at h)<;>(try simp only [h])<;>(first|(exfalso;omega)|(exfalso;simp_all;done)|(simp (disch:=omega) only [push_cast,seval,hlt',hol])|skip))
 | ((first|refine Arz false ?_|refine Anz false ?_);simp (disch:=omega) only [push_cast,seval,hlt',hol])
 | ((first|((first|refine Adz (Aez (Bbz _ _ ?_ ?_)) ?_|refine Abz (Aez (Bbz _ _ ?_ ?_)) ⟨_,_,rfl,rfl⟩ ?_);(iterate 2 (exact sd));rintro _ _ ⟨rfl,rfl⟩)|((first|refine Adz (E4z _ _ _ ?_ ?_) ?_|refine Abz (E4z _ _ _ ?_ ?_) ⟨_,_,rfl,rfl⟩ ?_);(iterate 2 (exact sd));rintro _ _ ⟨rfl,rfl⟩)|((first|refine Adz (Aez (Ekz _ _ _ _ _ _ _ ?_ ?_ ?_)) ?_|refine Abz (Aez (Ekz _ _ _ _ _ _ _ ?_ ?_ ?_)) ⟨_,_,rfl,rfl⟩ ?_);(iterate 3 (exact sd));rintro _ _ ⟨rfl,rfl⟩))<;>(try simp (disch:=omega) only [push_cast,seval,hlt',hol]))
 | (refine Amz ⟨.inr rfl,[80],[],_,by decide,rfl,?_⟩;(try simp (disch:=omega) only [push_cast,seval,↓Aoz,↓Alz,↓List.map_cons,↓List.map_nil,hlt',hol]);(first|done|(show AV.own _ _ _=_ ∧ _)))
 | (refine Amz ⟨.inr rfl,[144],[],_,by decide,rfl,?_⟩;(try simp (disch:=omega) only [push_cast,seval,↓Aoz,↓Alz,↓List.map_cons,↓List.map_nil,hlt',hol]);(first|done|(show AV.own _ _ _=_ ∧ _)))
 | (refine Amz ⟨.inr rfl,[288],[],_,by decide,rfl,?_⟩;(try simp (disch:=omega) only [push_cast,seval,↓Aoz,↓Alz,↓List.map_cons,↓List.map_nil,hlt',hol]);(first|done|(show AV.own _ _ _=_ ∧ _)))
 | (refine Amz ⟨.inr rfl,[304],[],_,by decide,rfl,?_⟩;(try simp (disch:=omega) only [push_cast,seval,↓Aoz,↓Alz,↓List.map_cons,↓List.map_nil,hlt',hol]);(first|done|(show AV.own _ _ _=_ ∧ _)))
 | (refine Amz ⟨.inr rfl,[320],[],_,by decide,rfl,?_⟩;(try simp (disch:=omega) only [push_cast,seval,↓Aoz,↓Alz,↓List.map_cons,↓List.map_nil,hlt',hol]);(first|done|(show AV.own _ _ _=_ ∧ _)))
 | (refine Amz ⟨.inr rfl,[336],[],_,by decide,rfl,?_⟩;(try simp (disch:=omega) only [push_cast,seval,↓Aoz,↓Alz,↓List.map_cons,↓List.map_nil,hlt',hol]);(first|done|(show AV.own _ _ _=_ ∧ _)))))
      have:k=(pr sh).toNat:=by omega
      rw [this,offsT_all]
      simp [OI,B9z]


theorem B5z (b:Int) (sh st:List Int) (n m:Nat) (hn:sh.length=n) (hm:st.length=m) (hb:good4 sh ∧ vSt st sh.length=true ∧ -1000000 ≤ b ∧ b ≤ 1000000):PCall Tryd.prog 63 [.agg [.int .i64 b,.rows false (IL sh) n,.rows false (IL st) m]] (fun r=>r=.tup [.int .i64 (bdL b sh st),.int .i64 (bdH b sh st)]):=by
  subst hn hm
  obtain ⟨hg,hs,hb1,hb2⟩:=hb
  have hl:=hg.2
  have hle:=(Erz.1 hs).1
  refine A4z l63_eq rfl ?_
  unfold bdL bdH
  by_cases hz:pr sh=0
  · (repeat' (first
 | (first|refine Apz ?_|refine Aiz ?_)
 | ((first|refine Aqz ?_|refine Asz (mid:=l63r3a) (post:=l63r3b) Axz (by decide) ?_|refine Ahz ?_|refine Ajz ?_|refine Akz ?_);simp (disch:=omega) only [push_cast,seval,l63r0,l63r1,l63r2,l63r3a,l63r3b,l63r3,l63r4,l63r5,l63r6,l63r7,l63r8,l63r9,l63r10,l63r11,hz])
 | ((first|refine Acz ?_ ?_|refine Agz ?_ ?_|refine Afz ?_ ?_)<;>intro h<;>(try simp only [h])<;>(try simp only [bitvec_to_nat] at h)<;>(try simp only [h])<;>(first|(exfalso;omega)|(exfalso;simp_all;done)|(simp (disch:=omega) only [push_cast,seval,hz])|skip))
 | ((first|refine Arz false ?_|refine Anz false ?_);simp (disch:=omega) only [push_cast,seval,hz])
 | ((first|((first|refine Adz (Aez (B0z _ _ _ _ _ _ ?_ ?_)) ?_|refine Abz (Aez (B0z _ _ _ _ _ _ ?_ ?_)) ⟨_,_,rfl,rfl⟩ ?_);(iterate 2 (exact sd));rintro _ _ ⟨rfl,rfl⟩))<;>(try simp (disch:=omega) only [push_cast,seval,hz]))
 | (refine Amz ⟨.inr rfl,_,rfl,?_⟩;(try simp (disch:=omega) only [push_cast,seval,hz]))))
  · (repeat' (first
 | (first|refine Apz ?_|refine Aiz ?_)
 | ((first|refine Aqz ?_|refine Asz (mid:=l63r3a) (post:=l63r3b) Axz (by decide) ?_|refine Ahz ?_|refine Ajz ?_|refine Akz ?_);simp (disch:=omega) only [push_cast,seval,l63r0,l63r1,l63r2,l63r3a,l63r3b,l63r3,l63r4,l63r5,l63r6,l63r7,l63r8,l63r9,l63r10,l63r11,hz])
 | ((first|refine Acz ?_ ?_|refine Agz ?_ ?_|refine Afz ?_ ?_)<;>intro h<;>(try simp only [h])<;>(try simp only [bitvec_to_nat] at h)<;>(try simp only [h])<;>(first|(exfalso;omega)|(exfalso;simp_all;done)|(simp (disch:=omega) only [push_cast,seval,hz])|skip))
 | ((first|refine Arz false ?_|refine Anz false ?_);simp (disch:=omega) only [push_cast,seval,hz])
 | ((first|((first|refine Adz (Aez (B0z _ _ _ _ _ _ ?_ ?_)) ?_|refine Abz (Aez (B0z _ _ _ _ _ _ ?_ ?_)) ⟨_,_,rfl,rfl⟩ ?_);(iterate 2 (exact sd));rintro _ _ ⟨rfl,rfl⟩))<;>(try simp (disch:=omega) only [push_cast,seval,hz]))
 | (refine Amz ⟨.inr rfl,_,rfl,?_⟩;(try simp (disch:=omega) only [push_cast,seval,hz]))))
    refine Bqz (fun k:Nat=>mkS [(1,.ref 16 3 0),(4,.int .i64 (b + lowS sh st k)),(5,.int .i64 (b + highS sh st k)),(17,RI st),(18,.int .i64 st.length),(19,.int .i64 k)] [(16,[.int .i64 b,RI sh,RI st])])
      (fun k=>k ≤ st.length) (fun k=>st.length - k) 0 (Nat.zero_le _) ?_ ?_
    · (refine Sub.of_lists ?_ ?_ ?_ ?_ ?_<;>simp [Vw.mkS,Vw.lk,Vw.hk,AV.inn,innL,Avz,Atz,Ayz,-List.map_set,-List.getD_eq_getElem?_getD,lowS,highS])
    · intro k hk
      by_cases hlt:k < st.length
      · have h1:=Ehz hg (k:=k) (by omega)
        have h2:=vSt_at hs (i:=k) (by omega)
        have h3:=mul_bd (x:=sh.getD k 0 - 1) (y:=st.getD k 0) (p:=60) (q:=60) (by omega) (by omega)
        have h4:=Hhz hg hs k (by omega)
        have h5:k < sh.length:=by omega
        (repeat' (first
 | (first|refine Apz ?_|refine Aiz ?_)
 | ((first|refine Aqz ?_|refine Asz (mid:=l63r3a) (post:=l63r3b) Axz (by decide) ?_|refine Ahz ?_|refine Ajz ?_|refine Akz ?_);simp (disch:=omega) only [push_cast,seval,l63r0,l63r1,l63r2,l63r3a,l63r3b,l63r3,l63r4,l63r5,l63r6,l63r7,l63r8,l63r9,l63r10,l63r11])
 | ((first|refine Acz ?_ ?_|refine Agz ?_ ?_|refine Afz ?_ ?_)<;>intro h<;>(try simp only [h])<;>(try simp only [bitvec_to_nat] at h)<;>(try simp only [h])<;>(first|(exfalso;omega)|(exfalso;simp_all;done)|(simp (disch:=omega) only [push_cast,seval])|skip))
 | ((first|refine Arz false ?_|refine Anz false ?_);simp (disch:=omega) only [push_cast,seval])
 | ((first|((first|refine Adz (Aez (B0z _ _ _ _ _ _ ?_ ?_)) ?_|refine Abz (Aez (B0z _ _ _ _ _ _ ?_ ?_)) ⟨_,_,rfl,rfl⟩ ?_);(iterate 2 (exact sd));rintro _ _ ⟨rfl,rfl⟩))<;>(try simp (disch:=omega) only [push_cast,seval]))
 | (refine Amz ⟨.inr rfl,_,rfl,?_⟩;(try simp (disch:=omega) only [push_cast,seval]))))
        refine ⟨k + 1,by omega,by omega,?_⟩
        (refine Sub.of_lists ?_ ?_ ?_ ?_ ?_<;>simp [Vw.mkS,Vw.lk,Vw.hk,AV.inn,innL,Avz,Atz,Ayz,-List.map_set,-List.getD_eq_getElem?_getD,lowS,highS,Int.add_assoc])
      · (repeat' (first
 | (first|refine Apz ?_|refine Aiz ?_)
 | ((first|refine Aqz ?_|refine Asz (mid:=l63r3a) (post:=l63r3b) Axz (by decide) ?_|refine Ahz ?_|refine Ajz ?_|refine Akz ?_);simp (disch:=omega) only [push_cast,seval,l63r0,l63r1,l63r2,l63r3a,l63r3b,l63r3,l63r4,l63r5,l63r6,l63r7,l63r8,l63r9,l63r10,l63r11])
 | ((first|refine Acz ?_ ?_|refine Agz ?_ ?_|refine Afz ?_ ?_)<;>intro h<;>(try simp only [h])<;>(try simp only [bitvec_to_nat] at h)<;>(try simp only [h])<;>(first|(exfalso;omega)|(exfalso;simp_all;done)|(simp (disch:=omega) only [push_cast,seval])|skip))
 | ((first|refine Arz false ?_|refine Anz false ?_);simp (disch:=omega) only [push_cast,seval])
 | ((first|((first|refine Adz (Aez (B0z _ _ _ _ _ _ ?_ ?_)) ?_|refine Abz (Aez (B0z _ _ _ _ _ _ ?_ ?_)) ⟨_,_,rfl,rfl⟩ ?_);(iterate 2 (exact sd));rintro _ _ ⟨rfl,rfl⟩))<;>(try simp (disch:=omega) only [push_cast,seval]))
 | (refine Amz ⟨.inr rfl,_,rfl,?_⟩;(try simp (disch:=omega) only [push_cast,seval]))))
        rw [← hle,show k=st.length by omega]

end Go.Proofs.YtkpcjppnjmhanaaDoor
namespace Go.Proofs.YtkpcjppnjmhanaaDoor
open VwM Vw Go
variable [SentA]

theorem okV_of {b:Int} {sh st:List Int} (h1:vSh sh=true) (h2:vSt st sh.length=true) (h3:0 ≤ b ∧ b ≤ 60):okV b sh st ∧ st.length=sh.length:=by
  have hg:=Czz h1
  have hs:=(Erz.1 h2).1
  exact ⟨⟨⟨hg.1,hg.2.2⟩,by omega,by omega,fun i hi=>by have:=vSt_at h2 hi;omega⟩,hs⟩
theorem Eoz {b:Int} {sh st:List Int} (h:vV b sh st=true):okV b sh st ∧ st.length=sh.length:=by
  obtain ⟨h1,h2,h3,_⟩:=Dfz.1 h
  exact okV_of h1 h2 h3
theorem vV_shape {b:Int} {sh st:List Int} (h:vSh sh=false):vV b sh st=false:=by simp [vV,h]
theorem vV_str {b:Int} {sh st:List Int} (h:vSt st sh.length=false):vV b sh st=false:=by simp [vV,h]
theorem vV_base {b:Int} {sh st:List Int} (h:¬ (0 ≤ b ∧ b ≤ 60)):vV b sh st=false:=by
  rw [Bool.eq_false_iff];intro h';exact h (Dfz.1 h').2.2.1
theorem vV_rest {b:Int} {sh st:List Int} (h1:vSh sh=true) (h2:vSt st sh.length=true) (h3:0 ≤ b ∧ b ≤ 60):vV b sh st=(decide (pr sh=0) || allI (offs b sh st) 0 59):=by
  simp [vV,h1,h2,h3]


theorem Awz (b:Int) (sh st:List Int) (n m:Nat) (hn:sh.length=n) (hm:st.length=m) (hb:n ≤ 1099511627776 ∧ m ≤ 1099511627776):PCall Tryd.prog 65 [.agg [.int .i64 b,.rows false (IL sh) n,.rows false (IL st) m]] (fun r=>r=.bool (vV b sh st)):=by
  subst hn hm
  obtain ⟨hb1,hb2⟩:=hb
  refine A4z l65_eq rfl ?_
  cases hv:vSh sh with
  | false =>
    rw [vV_shape hv]
    (repeat' (first
 | (first|refine Apz ?_|refine Aiz ?_)
 | ((first|refine Aqz ?_|refine Ahz ?_|refine Ajz ?_|refine Akz ?_);simp (disch:=omega) only [push_cast,seval,l65r0,l65r1,hv])
 | ((first|refine Acz ?_ ?_|refine Agz ?_ ?_|refine Afz ?_ ?_)<;>intro h<;>(try simp only [h])<;>(try simp only [bitvec_to_nat] at h)<;>(try simp only [h])<;>(first|(exfalso;omega)|(exfalso;simp_all;done)|(simp (disch:=omega) only [push_cast,seval,hv])|skip))
 | ((first|refine Arz false ?_|refine Anz false ?_);simp (disch:=omega) only [push_cast,seval,hv])
 | ((first|((first|refine Adz (Aez (Blz _ _ ?_ ?_)) ?_|refine Abz (Aez (Blz _ _ ?_ ?_)) ⟨_,_,rfl,rfl⟩ ?_);(iterate 2 (exact sd));rintro _ _ ⟨rfl,rfl⟩)|((first|refine Adz (Aez (Bkz _ _ _ _ ?_ ?_)) ?_|refine Abz (Aez (Bkz _ _ _ _ ?_ ?_)) ⟨_,_,rfl,rfl⟩ ?_);(iterate 2 (exact sd));rintro _ _ ⟨rfl,rfl⟩)|((first|refine Adz (Aez (Auz _ _ _)) ?_|refine Abz (Aez (Auz _ _ _)) ⟨_,_,rfl,rfl⟩ ?_);rintro _ _ ⟨rfl,rfl⟩)|((first|refine Adz (Aez (Bbz _ _ ?_ ?_)) ?_|refine Abz (Aez (Bbz _ _ ?_ ?_)) ⟨_,_,rfl,rfl⟩ ?_);(iterate 2 (exact sd));rintro _ _ ⟨rfl,rfl⟩)|((first|refine Adz (A0z _ _ _ _ _ ?_ ?_ ?_) ?_|refine Abz (A0z _ _ _ _ _ ?_ ?_ ?_) ⟨_,_,rfl,rfl⟩ ?_);(iterate 3 (exact sd));rintro _ _ ⟨rfl,rfl⟩))<;>(try simp (disch:=omega) only [push_cast,seval,hv]))
 | (refine Amz ⟨.inr rfl,_,rfl,?_⟩;(try simp (disch:=omega) only [push_cast,seval,hv]))))
  | true =>
  have hg:=(Czz hv).1
  by_cases hl:st.length=sh.length
  · have hl':(st.length:Int)=sh.length:=by omega
    cases ha:allI st (-60) 60 with
    | false =>
      rw [vV_str (by simp [vSt,ha])]
      (repeat' (first
 | (first|refine Apz ?_|refine Aiz ?_)
 | ((first|refine Aqz ?_|refine Ahz ?_|refine Ajz ?_|refine Akz ?_);simp (disch:=omega) only [push_cast,seval,l65r0,l65r1,hv,hl',ha])
 | ((first|refine Acz ?_ ?_|refine Agz ?_ ?_|refine Afz ?_ ?_)<;>intro h<;>(try simp only [h])<;>(try simp only [bitvec_to_nat] at h)<;>(try simp only [h])<;>(first|(exfalso;omega)|(exfalso;simp_all;done)|(simp (disch:=omega) only [push_cast,seval,hv,hl',ha])|skip))
 | ((first|refine Arz false ?_|refine Anz false ?_);simp (disch:=omega) only [push_cast,seval,hv,hl',ha])
 | ((first|((first|refine Adz (Aez (Blz _ _ ?_ ?_)) ?_|refine Abz (Aez (Blz _ _ ?_ ?_)) ⟨_,_,rfl,rfl⟩ ?_);(iterate 2 (exact sd));rintro _ _ ⟨rfl,rfl⟩)|((first|refine Adz (Aez (Bkz _ _ _ _ ?_ ?_)) ?_|refine Abz (Aez (Bkz _ _ _ _ ?_ ?_)) ⟨_,_,rfl,rfl⟩ ?_);(iterate 2 (exact sd));rintro _ _ ⟨rfl,rfl⟩)|((first|refine Adz (Aez (Auz _ _ _)) ?_|refine Abz (Aez (Auz _ _ _)) ⟨_,_,rfl,rfl⟩ ?_);rintro _ _ ⟨rfl,rfl⟩)|((first|refine Adz (Aez (Bbz _ _ ?_ ?_)) ?_|refine Abz (Aez (Bbz _ _ ?_ ?_)) ⟨_,_,rfl,rfl⟩ ?_);(iterate 2 (exact sd));rintro _ _ ⟨rfl,rfl⟩)|((first|refine Adz (A0z _ _ _ _ _ ?_ ?_ ?_) ?_|refine Abz (A0z _ _ _ _ _ ?_ ?_ ?_) ⟨_,_,rfl,rfl⟩ ?_);(iterate 3 (exact sd));rintro _ _ ⟨rfl,rfl⟩))<;>(try simp (disch:=omega) only [push_cast,seval,hv,hl',ha]))
 | (refine Amz ⟨.inr rfl,_,rfl,?_⟩;(try simp (disch:=omega) only [push_cast,seval,hv,hl',ha]))))
    | true =>
      have hs:vSt st sh.length=true:=by simp [vSt,hl,ha]
      by_cases hr:0 ≤ b ∧ b ≤ 60
      · have hok:=(okV_of hv hs hr).1
        rw [vV_rest hv hs hr]
        obtain ⟨hr1,hr2⟩:=hr
        have hol:=B9z b sh st
        have hpb:=(Czz hv).2
        have hb3:(offs b sh st).length ≤ 1099511627776:=by omega
        by_cases hz:pr sh=0
        · (repeat' (first
 | (first|refine Apz ?_|refine Aiz ?_)
 | ((first|refine Aqz ?_|refine Ahz ?_|refine Ajz ?_|refine Akz ?_);simp (disch:=omega) only [push_cast,seval,l65r0,l65r1,hv,hl',ha,hr1,hr2,hz])
 | ((first|refine Acz ?_ ?_|refine Agz ?_ ?_|refine Afz ?_ ?_)<;>intro h<;>(try simp only [h])<;>(try simp only [bitvec_to_nat] at h)<;>(try simp only [h])<;>(first|(exfalso;omega)|(exfalso;simp_all;done)|(simp (disch:=omega) only [push_cast,seval,hv,hl',ha,hr1,hr2,hz])|skip))
 | ((first|refine Arz false ?_|refine Anz false ?_);simp (disch:=omega) only [push_cast,seval,hv,hl',ha,hr1,hr2,hz])
 | ((first|((first|refine Adz (Aez (Blz _ _ ?_ ?_)) ?_|refine Abz (Aez (Blz _ _ ?_ ?_)) ⟨_,_,rfl,rfl⟩ ?_);(iterate 2 (exact sd));rintro _ _ ⟨rfl,rfl⟩)|((first|refine Adz (Aez (Bkz _ _ _ _ ?_ ?_)) ?_|refine Abz (Aez (Bkz _ _ _ _ ?_ ?_)) ⟨_,_,rfl,rfl⟩ ?_);(iterate 2 (exact sd));rintro _ _ ⟨rfl,rfl⟩)|((first|refine Adz (Aez (Auz _ _ _)) ?_|refine Abz (Aez (Auz _ _ _)) ⟨_,_,rfl,rfl⟩ ?_);rintro _ _ ⟨rfl,rfl⟩)|((first|refine Adz (Aez (Bbz _ _ ?_ ?_)) ?_|refine Abz (Aez (Bbz _ _ ?_ ?_)) ⟨_,_,rfl,rfl⟩ ?_);(iterate 2 (exact sd));rintro _ _ ⟨rfl,rfl⟩)|((first|refine Adz (A0z _ _ _ _ _ ?_ ?_ ?_) ?_|refine Abz (A0z _ _ _ _ _ ?_ ?_ ?_) ⟨_,_,rfl,rfl⟩ ?_);(iterate 3 (exact sd));rintro _ _ ⟨rfl,rfl⟩))<;>(try simp (disch:=omega) only [push_cast,seval,hv,hl',ha,hr1,hr2,hz]))
 | (refine Amz ⟨.inr rfl,_,rfl,?_⟩; (try simp (disch := omega) only [push_cast,seval,hv,hl',ha,hr1,hr2,hz]))))
          all_goals simp
        · (repeat' (first
 | (first|refine Apz ?_|refine Aiz ?_)
 | ((first|refine Aqz ?_|refine Ahz ?_|refine Ajz ?_|refine Akz ?_);simp (disch:=omega) only [push_cast,seval,l65r0,l65r1,hv,hl',ha,hr1,hr2,hz])
 | ((first|refine Acz ?_ ?_|refine Agz ?_ ?_|refine Afz ?_ ?_)<;>intro h<;>(try simp only [h])<;>(try simp only [bitvec_to_nat] at h)<;>(try simp only [h])<;>(first|(exfalso;omega)|(exfalso;simp_all;done)|(simp (disch:=omega) only [push_cast,seval,hv,hl',ha,hr1,hr2,hz])|skip))
 | ((first|refine Arz false ?_|refine Anz false ?_);simp (disch:=omega) only [push_cast,seval,hv,hl',ha,hr1,hr2,hz])
 | ((first|((first|refine Adz (Aez (Blz _ _ ?_ ?_)) ?_|refine Abz (Aez (Blz _ _ ?_ ?_)) ⟨_,_,rfl,rfl⟩ ?_);(iterate 2 (exact sd));rintro _ _ ⟨rfl,rfl⟩)|((first|refine Adz (Aez (Bkz _ _ _ _ ?_ ?_)) ?_|refine Abz (Aez (Bkz _ _ _ _ ?_ ?_)) ⟨_,_,rfl,rfl⟩ ?_);(iterate 2 (exact sd));rintro _ _ ⟨rfl,rfl⟩)|((first|refine Adz (Aez (Auz _ _ _)) ?_|refine Abz (Aez (Auz _ _ _)) ⟨_,_,rfl,rfl⟩ ?_);rintro _ _ ⟨rfl,rfl⟩)|((first|refine Adz (Aez (Bbz _ _ ?_ ?_)) ?_|refine Abz (Aez (Bbz _ _ ?_ ?_)) ⟨_,_,rfl,rfl⟩ ?_);(iterate 2 (exact sd));rintro _ _ ⟨rfl,rfl⟩)|((first|refine Adz (A0z _ _ _ _ _ ?_ ?_ ?_) ?_|refine Abz (A0z _ _ _ _ _ ?_ ?_ ?_) ⟨_,_,rfl,rfl⟩ ?_);(iterate 3 (exact sd));rintro _ _ ⟨rfl,rfl⟩))<;>(try simp (disch:=omega) only [push_cast,seval,hv,hl',ha,hr1,hr2,hz]))
 | (refine Amz ⟨.inr rfl,_,rfl,?_⟩; (try simp (disch := omega) only [push_cast,seval,hv,hl',ha,hr1,hr2,hz]))))
          all_goals simp
      · rw [vV_base hr]
        have hr':(decide (0 ≤ b) && decide (b ≤ 60))=false:=by
          rw [Bool.eq_false_iff];intro h;simp at h;exact hr h
        (repeat' (first
 | (first|refine Apz ?_|refine Aiz ?_)
 | ((first|refine Aqz ?_|refine Ahz ?_|refine Ajz ?_|refine Akz ?_);simp (disch:=omega) only [push_cast,seval,l65r0,l65r1,hv,hl',ha,hr'])
 | ((first|refine Acz ?_ ?_|refine Agz ?_ ?_|refine Afz ?_ ?_)<;>intro h<;>(try simp only [h])<;>(try simp only [bitvec_to_nat] at h)<;>(try simp only [h])<;>(first|(exfalso;omega)|(exfalso;simp_all;done)|(simp (disch:=omega) only [push_cast,seval,hv,hl',ha,hr'])|skip))
 | ((first|refine Arz false ?_|refine Anz false ?_);simp (disch:=omega) only [push_cast,seval,hv,hl',ha,hr'])
 | ((first|((first|refine Adz (Aez (Blz _ _ ?_ ?_)) ?_|refine Abz (Aez (Blz _ _ ?_ ?_)) ⟨_,_,rfl,rfl⟩ ?_);(iterate 2 (exact sd));rintro _ _ ⟨rfl,rfl⟩)|((first|refine Adz (Aez (Bkz _ _ _ _ ?_ ?_)) ?_|refine Abz (Aez (Bkz _ _ _ _ ?_ ?_)) ⟨_,_,rfl,rfl⟩ ?_);(iterate 2 (exact sd));rintro _ _ ⟨rfl,rfl⟩)|((first|refine Adz (Aez (Auz _ _ _)) ?_|refine Abz (Aez (Auz _ _ _)) ⟨_,_,rfl,rfl⟩ ?_);rintro _ _ ⟨rfl,rfl⟩)|((first|refine Adz (Aez (Bbz _ _ ?_ ?_)) ?_|refine Abz (Aez (Bbz _ _ ?_ ?_)) ⟨_,_,rfl,rfl⟩ ?_);(iterate 2 (exact sd));rintro _ _ ⟨rfl,rfl⟩)|((first|refine Adz (A0z _ _ _ _ _ ?_ ?_ ?_) ?_|refine Abz (A0z _ _ _ _ _ ?_ ?_ ?_) ⟨_,_,rfl,rfl⟩ ?_);(iterate 3 (exact sd));rintro _ _ ⟨rfl,rfl⟩))<;>(try simp (disch:=omega) only [push_cast,seval,hv,hl',ha,hr']))
 | (refine Amz ⟨.inr rfl,_,rfl,?_⟩;(try simp (disch:=omega) only [push_cast,seval,hv,hl',ha,hr']))))
  · have hl':¬ (st.length:Int)=sh.length:=by omega
    rw [vV_str (by simp [vSt,hl])]
    (repeat' (first
 | (first|refine Apz ?_|refine Aiz ?_)
 | ((first|refine Aqz ?_|refine Ahz ?_|refine Ajz ?_|refine Akz ?_);simp (disch:=omega) only [push_cast,seval,l65r0,l65r1,hv,hl'])
 | ((first|refine Acz ?_ ?_|refine Agz ?_ ?_|refine Afz ?_ ?_)<;>intro h<;>(try simp only [h])<;>(try simp only [bitvec_to_nat] at h)<;>(try simp only [h])<;>(first|(exfalso;omega)|(exfalso;simp_all;done)|(simp (disch:=omega) only [push_cast,seval,hv,hl'])|skip))
 | ((first|refine Arz false ?_|refine Anz false ?_);simp (disch:=omega) only [push_cast,seval,hv,hl'])
 | ((first|((first|refine Adz (Aez (Blz _ _ ?_ ?_)) ?_|refine Abz (Aez (Blz _ _ ?_ ?_)) ⟨_,_,rfl,rfl⟩ ?_);(iterate 2 (exact sd));rintro _ _ ⟨rfl,rfl⟩)|((first|refine Adz (Aez (Bkz _ _ _ _ ?_ ?_)) ?_|refine Abz (Aez (Bkz _ _ _ _ ?_ ?_)) ⟨_,_,rfl,rfl⟩ ?_);(iterate 2 (exact sd));rintro _ _ ⟨rfl,rfl⟩)|((first|refine Adz (Aez (Auz _ _ _)) ?_|refine Abz (Aez (Auz _ _ _)) ⟨_,_,rfl,rfl⟩ ?_);rintro _ _ ⟨rfl,rfl⟩)|((first|refine Adz (Aez (Bbz _ _ ?_ ?_)) ?_|refine Abz (Aez (Bbz _ _ ?_ ?_)) ⟨_,_,rfl,rfl⟩ ?_);(iterate 2 (exact sd));rintro _ _ ⟨rfl,rfl⟩)|((first|refine Adz (A0z _ _ _ _ _ ?_ ?_ ?_) ?_|refine Abz (A0z _ _ _ _ _ ?_ ?_ ?_) ⟨_,_,rfl,rfl⟩ ?_);(iterate 3 (exact sd));rintro _ _ ⟨rfl,rfl⟩))<;>(try simp (disch:=omega) only [push_cast,seval,hv,hl']))
 | (refine Amz ⟨.inr rfl,_,rfl,?_⟩;(try simp (disch:=omega) only [push_cast,seval,hv,hl']))))


theorem Bcz (b:Int) (sh st:List Int) (n m:Nat) (hn:sh.length=n) (hm:st.length=m) (hb:n ≤ 1099511627776 ∧ m ≤ 1099511627776):PCall Tryd.prog 46 [.agg [.int .i64 b,.rows false (IL sh) n,.rows false (IL st) m]] (fun r=>r=.bool (vV b sh st)):=by
  subst hn hm
  obtain ⟨hb1,hb2⟩:=hb
  refine A4z l46_eq rfl ?_
  cases hv:vSh sh with
  | false =>
    rw [vV_shape hv]
    (repeat' (first
 | (first|refine Apz ?_|refine Aiz ?_)
 | ((first|refine Aqz ?_|refine Ahz ?_|refine Ajz ?_|refine Akz ?_);simp (disch:=omega) only [push_cast,seval,l46r0,l46r1,l46r2,l46r3,l46r4,hv])
 | ((first|refine Acz ?_ ?_|refine Agz ?_ ?_|refine Afz ?_ ?_)<;>intro h<;>(try simp only [h])<;>(try simp only [bitvec_to_nat] at h)<;>(try simp only [h])<;>(first|(exfalso;omega)|(exfalso;simp_all;done)|(simp (disch:=omega) only [push_cast,seval,hv])|skip))
 | ((first|refine Arz false ?_|refine Anz false ?_);simp (disch:=omega) only [push_cast,seval,hv])
 | ((first|((first|refine Adz (Aez (Buz _ _ ?_ ?_)) ?_|refine Abz (Aez (Buz _ _ ?_ ?_)) ⟨_,_,rfl,rfl⟩ ?_);(iterate 2 (exact sd));rintro _ _ ⟨rfl,rfl⟩)|((first|refine Adz (Aez (Boz _ _ _ ?_ ?_)) ?_|refine Abz (Aez (Boz _ _ _ ?_ ?_)) ⟨_,_,rfl,rfl⟩ ?_);(iterate 2 (exact sd));rintro _ _ ⟨rfl,rfl⟩)|((first|refine Adz (Aez (Bzz _ _)) ?_|refine Abz (Aez (Bzz _ _)) ⟨_,_,rfl,rfl⟩ ?_);rintro _ _ ⟨rfl,rfl⟩)|((first|refine Adz (Aez (B5z _ _ _ _ _ ?_ ?_ ?_)) ?_|refine Abz (Aez (B5z _ _ _ _ _ ?_ ?_ ?_)) ⟨_,_,rfl,rfl⟩ ?_);(iterate 3 (exact sd));rintro _ _ ⟨rfl,rfl⟩)|((first|refine Adz (Aez (B0z _ _ _ _ _ _ ?_ ?_)) ?_|refine Abz (Aez (B0z _ _ _ _ _ _ ?_ ?_)) ⟨_,_,rfl,rfl⟩ ?_);(iterate 2 (exact sd));rintro _ _ ⟨rfl,rfl⟩))<;>(try simp (disch:=omega) only [push_cast,seval,hv]))
 | (refine Amz ⟨.inr rfl,_,rfl,?_⟩;(try simp (disch:=omega) only [push_cast,seval,hv]))))
  | true =>
  have hg:=(Czz hv).1
  cases hs:vSt st sh.length with
  | false =>
    rw [vV_str hs]
    (repeat' (first
 | (first|refine Apz ?_|refine Aiz ?_)
 | ((first|refine Aqz ?_|refine Ahz ?_|refine Ajz ?_|refine Akz ?_);simp (disch:=omega) only [push_cast,seval,l46r0,l46r1,l46r2,l46r3,l46r4,hv,hs])
 | ((first|refine Acz ?_ ?_|refine Agz ?_ ?_|refine Afz ?_ ?_)<;>intro h<;>(try simp only [h])<;>(try simp only [bitvec_to_nat] at h)<;>(try simp only [h])<;>(first|(exfalso;omega)|(exfalso;simp_all;done)|(simp (disch:=omega) only [push_cast,seval,hv,hs])|skip))
 | ((first|refine Arz false ?_|refine Anz false ?_);simp (disch:=omega) only [push_cast,seval,hv,hs])
 | ((first|((first|refine Adz (Aez (Buz _ _ ?_ ?_)) ?_|refine Abz (Aez (Buz _ _ ?_ ?_)) ⟨_,_,rfl,rfl⟩ ?_);(iterate 2 (exact sd));rintro _ _ ⟨rfl,rfl⟩)|((first|refine Adz (Aez (Boz _ _ _ ?_ ?_)) ?_|refine Abz (Aez (Boz _ _ _ ?_ ?_)) ⟨_,_,rfl,rfl⟩ ?_);(iterate 2 (exact sd));rintro _ _ ⟨rfl,rfl⟩)|((first|refine Adz (Aez (Bzz _ _)) ?_|refine Abz (Aez (Bzz _ _)) ⟨_,_,rfl,rfl⟩ ?_);rintro _ _ ⟨rfl,rfl⟩)|((first|refine Adz (Aez (B5z _ _ _ _ _ ?_ ?_ ?_)) ?_|refine Abz (Aez (B5z _ _ _ _ _ ?_ ?_ ?_)) ⟨_,_,rfl,rfl⟩ ?_);(iterate 3 (exact sd));rintro _ _ ⟨rfl,rfl⟩)|((first|refine Adz (Aez (B0z _ _ _ _ _ _ ?_ ?_)) ?_|refine Abz (Aez (B0z _ _ _ _ _ _ ?_ ?_)) ⟨_,_,rfl,rfl⟩ ?_);(iterate 2 (exact sd));rintro _ _ ⟨rfl,rfl⟩))<;>(try simp (disch:=omega) only [push_cast,seval,hv,hs]))
 | (refine Amz ⟨.inr rfl,_,rfl,?_⟩;(try simp (disch:=omega) only [push_cast,seval,hv,hs]))))
  | true =>
    by_cases hr:0 ≤ b ∧ b ≤ 60
    · rw [vV_rest hv hs hr]
      obtain ⟨hr1,hr2⟩:=hr
      have hbb:good4 sh ∧ vSt st sh.length=true ∧ -1000000 ≤ b ∧ b ≤ 1000000:=⟨hg,hs,by omega⟩
      by_cases hz:pr sh=0
      · (repeat' (first
 | (first|refine Apz ?_|refine Aiz ?_)
 | ((first|refine Aqz ?_|refine Ahz ?_|refine Ajz ?_|refine Akz ?_);simp (disch:=omega) only [push_cast,seval,l46r0,l46r1,l46r2,l46r3,l46r4,hv,hs,hr1,hr2,hz])
 | ((first|refine Acz ?_ ?_|refine Agz ?_ ?_|refine Afz ?_ ?_)<;>intro h<;>(try simp only [h])<;>(try simp only [bitvec_to_nat] at h)<;>(try simp only [h])<;>(first|(exfalso;omega)|(exfalso;simp_all;done)|(simp (disch:=omega) only [push_cast,seval,hv,hs,hr1,hr2,hz])|skip))
 | ((first|refine Arz false ?_|refine Anz false ?_);simp (disch:=omega) only [push_cast,seval,hv,hs,hr1,hr2,hz])
 | ((first|((first|refine Adz (Aez (Buz _ _ ?_ ?_)) ?_|refine Abz (Aez (Buz _ _ ?_ ?_)) ⟨_,_,rfl,rfl⟩ ?_);(iterate 2 (exact sd));rintro _ _ ⟨rfl,rfl⟩)|((first|refine Adz (Aez (Boz _ _ _ ?_ ?_)) ?_|refine Abz (Aez (Boz _ _ _ ?_ ?_)) ⟨_,_,rfl,rfl⟩ ?_);(iterate 2 (exact sd));rintro _ _ ⟨rfl,rfl⟩)|((first|refine Adz (Aez (Bzz _ _)) ?_|refine Abz (Aez (Bzz _ _)) ⟨_,_,rfl,rfl⟩ ?_);rintro _ _ ⟨rfl,rfl⟩)|((first|refine Adz (Aez (B5z _ _ _ _ _ ?_ ?_ ?_)) ?_|refine Abz (Aez (B5z _ _ _ _ _ ?_ ?_ ?_)) ⟨_,_,rfl,rfl⟩ ?_);(iterate 3 (exact sd));rintro _ _ ⟨rfl,rfl⟩)|((first|refine Adz (Aez (B0z _ _ _ _ _ _ ?_ ?_)) ?_|refine Abz (Aez (B0z _ _ _ _ _ _ ?_ ?_)) ⟨_,_,rfl,rfl⟩ ?_);(iterate 2 (exact sd));rintro _ _ ⟨rfl,rfl⟩))<;>(try simp (disch:=omega) only [push_cast,seval,hv,hs,hr1,hr2,hz]))
 | (refine Amz ⟨.inr rfl,_,rfl,?_⟩;(try simp (disch:=omega) only [push_cast,seval,hv,hs,hr1,hr2,hz]))))
        all_goals simp
      · have hpb:=(Czz hv).2
        rw [bd_all hg (by omega)]
        have e1:bdL b sh st=b + lowS sh st sh.length:=if_neg hz
        have e2:bdH b sh st=b + highS sh st sh.length:=if_neg hz
        (repeat' (first
 | (first|refine Apz ?_|refine Aiz ?_)
 | ((first|refine Aqz ?_|refine Ahz ?_|refine Ajz ?_|refine Akz ?_);simp (disch:=omega) only [push_cast,seval,l46r0,l46r1,l46r2,l46r3,l46r4,hv,hs,hr1,hr2,hz,e1,e2])
 | ((first|refine Acz ?_ ?_|refine Agz ?_ ?_|refine Afz ?_ ?_)<;>intro h<;>(try simp only [h])<;>(try simp only [bitvec_to_nat] at h)<;>(try simp only [h])<;>(first|(exfalso;omega)|(exfalso;simp_all;done)|(simp (disch:=omega) only [push_cast,seval,hv,hs,hr1,hr2,hz,e1,e2])|skip))
 | ((first|refine Arz false ?_|refine Anz false ?_);simp (disch:=omega) only [push_cast,seval,hv,hs,hr1,hr2,hz,e1,e2])
 | ((first|((first|refine Adz (Aez (Buz _ _ ?_ ?_)) ?_|refine Abz (Aez (Buz _ _ ?_ ?_)) ⟨_,_,rfl,rfl⟩ ?_);(iterate 2 (exact sd));rintro _ _ ⟨rfl,rfl⟩)|((first|refine Adz (Aez (Boz _ _ _ ?_ ?_)) ?_|refine Abz (Aez (Boz _ _ _ ?_ ?_)) ⟨_,_,rfl,rfl⟩ ?_);(iterate 2 (exact sd));rintro _ _ ⟨rfl,rfl⟩)|((first|refine Adz (Aez (Bzz _ _)) ?_|refine Abz (Aez (Bzz _ _)) ⟨_,_,rfl,rfl⟩ ?_);rintro _ _ ⟨rfl,rfl⟩)|((first|refine Adz (Aez (B5z _ _ _ _ _ ?_ ?_ ?_)) ?_|refine Abz (Aez (B5z _ _ _ _ _ ?_ ?_ ?_)) ⟨_,_,rfl,rfl⟩ ?_);(iterate 3 (exact sd));rintro _ _ ⟨rfl,rfl⟩)|((first|refine Adz (Aez (B0z _ _ _ _ _ _ ?_ ?_)) ?_|refine Abz (Aez (B0z _ _ _ _ _ _ ?_ ?_)) ⟨_,_,rfl,rfl⟩ ?_);(iterate 2 (exact sd));rintro _ _ ⟨rfl,rfl⟩))<;>(try simp (disch:=omega) only [push_cast,seval,hv,hs,hr1,hr2,hz,e1,e2]))
 | (refine Amz ⟨.inr rfl,_,rfl,?_⟩;(try simp (disch:=omega) only [push_cast,seval,hv,hs,hr1,hr2,hz,e1,e2]))))
        all_goals (simp [hz];try omega)
    · rw [vV_base hr]
      have hr':(decide (0 ≤ b) && decide (b ≤ 60))=false:=by
        rw [Bool.eq_false_iff];intro h;simp at h;exact hr h
      (repeat' (first
 | (first|refine Apz ?_|refine Aiz ?_)
 | ((first|refine Aqz ?_|refine Ahz ?_|refine Ajz ?_|refine Akz ?_);simp (disch:=omega) only [push_cast,seval,l46r0,l46r1,l46r2,l46r3,l46r4,hv,hs,hr'])
 | ((first|refine Acz ?_ ?_|refine Agz ?_ ?_|refine Afz ?_ ?_)<;>intro h<;>(try simp only [h])<;>(try simp only [bitvec_to_nat] at h)<;>(try simp only [h])<;>(first|(exfalso;omega)|(exfalso;simp_all;done)|(simp (disch:=omega) only [push_cast,seval,hv,hs,hr'])|skip))
 | ((first|refine Arz false ?_|refine Anz false ?_);simp (disch:=omega) only [push_cast,seval,hv,hs,hr'])
 | ((first|((first|refine Adz (Aez (Buz _ _ ?_ ?_)) ?_|refine Abz (Aez (Buz _ _ ?_ ?_)) ⟨_,_,rfl,rfl⟩ ?_);(iterate 2 (exact sd));rintro _ _ ⟨rfl,rfl⟩)|((first|refine Adz (Aez (Boz _ _ _ ?_ ?_)) ?_|refine Abz (Aez (Boz _ _ _ ?_ ?_)) ⟨_,_,rfl,rfl⟩ ?_);(iterate 2 (exact sd));rintro _ _ ⟨rfl,rfl⟩)|((first|refine Adz (Aez (Bzz _ _)) ?_|refine Abz (Aez (Bzz _ _)) ⟨_,_,rfl,rfl⟩ ?_);rintro _ _ ⟨rfl,rfl⟩)|((first|refine Adz (Aez (B5z _ _ _ _ _ ?_ ?_ ?_)) ?_|refine Abz (Aez (B5z _ _ _ _ _ ?_ ?_ ?_)) ⟨_,_,rfl,rfl⟩ ?_);(iterate 3 (exact sd));rintro _ _ ⟨rfl,rfl⟩)|((first|refine Adz (Aez (B0z _ _ _ _ _ _ ?_ ?_)) ?_|refine Abz (Aez (B0z _ _ _ _ _ _ ?_ ?_)) ⟨_,_,rfl,rfl⟩ ?_);(iterate 2 (exact sd));rintro _ _ ⟨rfl,rfl⟩))<;>(try simp (disch:=omega) only [push_cast,seval,hv,hs,hr']))
 | (refine Amz ⟨.inr rfl,_,rfl,?_⟩;(try simp (disch:=omega) only [push_cast,seval,hv,hs,hr']))))


/-- What OffsetAt answers. -/
def oaV (b:Int) (sh st idx:List Int):Int:=if vV b sh st=true ∧ vIx sh idx=true then b + dot (fun i=>idx.getD i 0) st sh.length else 0
def oaB (b:Int) (sh st idx:List Int):Bool:=vV b sh st && vIx sh idx
def boL (b:Int) (sh st:List Int):Int:=if vV b sh st=true then bdL b sh st else -1
def boH (b:Int) (sh st:List Int):Int:=if vV b sh st=true then bdH b sh st else -1


def fitB (b:Int) (sh st:List Int) (s:Int):Bool:=vV b sh st && (decide (0 ≤ s) && decide (s ≤ 60)) && allI (offs b sh st) 0 (s - 1)


theorem F3z (b:Int) (sh st:List Int) (s:Int) (n m:Nat) (hn:sh.length=n) (hm:st.length=m) (hb:okV b sh st ∧ -1000000 ≤ s ∧ s ≤ 1000000):PCall Tryd.prog 66 [.agg [.int .i64 b,.rows false (IL sh) n,.rows false (IL st) m],.int .i64 s] (fun r=>r=.bool (allI (offs b sh st) 0 (s - 1))):=by
  subst hn hm
  obtain ⟨hok,hs1,hs2⟩:=hb
  have hol:=B9z b sh st
  have hpb:=hok.1.2
  have hlb:(offs b sh st).length ≤ 1099511627776:=by omega
  refine A4z l66_eq rfl ?_
  (repeat' (first
 | (first|refine Apz ?_|refine Aiz ?_)
 | ((first|refine Aqz ?_|refine Ahz ?_|refine Ajz ?_|refine Akz ?_);simp (disch:=omega) only [push_cast,seval,l66r0,l66r1])
 | ((first|refine Acz ?_ ?_|refine Agz ?_ ?_|refine Afz ?_ ?_)<;>intro h<;>(try simp only [h])<;>(try simp only [bitvec_to_nat] at h)<;>(try simp only [h])<;>(first|(exfalso;omega)|(exfalso;simp_all;done)|(simp (disch:=omega) only [push_cast,seval])|skip))
 | ((first|refine Arz false ?_|refine Anz false ?_);simp (disch:=omega) only [push_cast,seval])
 | ((first|((first|refine Adz (A0z _ _ _ _ _ ?_ ?_ ?_) ?_|refine Abz (A0z _ _ _ _ _ ?_ ?_ ?_) ⟨_,_,rfl,rfl⟩ ?_);(iterate 3 (exact sd));rintro _ _ ⟨rfl,rfl⟩)|((first|refine Adz (Aez (Bkz _ _ _ _ ?_ ?_)) ?_|refine Abz (Aez (Bkz _ _ _ _ ?_ ?_)) ⟨_,_,rfl,rfl⟩ ?_);(iterate 2 (exact sd));rintro _ _ ⟨rfl,rfl⟩))<;>(try simp (disch:=omega) only [push_cast,seval]))
 | (refine Amz ⟨.inr rfl,_,rfl,?_⟩;(try simp (disch:=omega) only [push_cast,seval]))))


theorem Cxz (b:Int) (sh st:List Int) (s:Int) (n m:Nat) (hn:sh.length=n) (hm:st.length=m) (hb:n ≤ 1099511627776 ∧ m ≤ 1099511627776):PCall Tryd.prog 47 [.agg [.int .i64 b,.rows false (IL sh) n,.rows false (IL st) m],.int .i64 s] (fun r=>r=.bool (fitB b sh st s)):=by
  subst hn hm
  obtain ⟨hb1,hb2⟩:=hb
  refine A4z l47_eq rfl ?_
  unfold fitB
  cases hv:vV b sh st with
  | false =>
    (repeat' (first
 | (first|refine Apz ?_|refine Aiz ?_)
 | ((first|refine Aqz ?_|refine Ahz ?_|refine Ajz ?_|refine Akz ?_);simp (disch:=omega) only [push_cast,seval,l47r0,l47r1,l47r2,l47r3,l47r4,hv])
 | ((first|refine Acz ?_ ?_|refine Agz ?_ ?_|refine Afz ?_ ?_)<;>intro h<;>(try simp only [h])<;>(try simp only [bitvec_to_nat] at h)<;>(try simp only [h])<;>(first|(exfalso;omega)|(exfalso;simp_all;done)|(simp (disch:=omega) only [push_cast,seval,hv])|skip))
 | ((first|refine Arz false ?_|refine Anz false ?_);simp (disch:=omega) only [push_cast,seval,hv])
 | ((first|((first|refine Adz (Aez (Bcz _ _ _ _ _ ?_ ?_ ?_)) ?_|refine Abz (Aez (Bcz _ _ _ _ _ ?_ ?_ ?_)) ⟨_,_,rfl,rfl⟩ ?_);(iterate 3 (exact sd));rintro _ _ ⟨rfl,rfl⟩)|((first|refine Adz (Aez (Bzz _ _)) ?_|refine Abz (Aez (Bzz _ _)) ⟨_,_,rfl,rfl⟩ ?_);rintro _ _ ⟨rfl,rfl⟩)|((first|refine Adz (Aez (B5z _ _ _ _ _ ?_ ?_ ?_)) ?_|refine Abz (Aez (B5z _ _ _ _ _ ?_ ?_ ?_)) ⟨_,_,rfl,rfl⟩ ?_);(iterate 3 (exact sd));rintro _ _ ⟨rfl,rfl⟩))<;>(try simp (disch:=omega) only [push_cast,seval,hv]))
 | (refine Amz ⟨.inr rfl,_,rfl,?_⟩;(try simp (disch:=omega) only [push_cast,seval,hv]))))
    all_goals simp
  | true =>
    obtain ⟨h1,h2,h3,-⟩:=Dfz.1 hv
    have hg:=(Czz h1).1
    have q:good4 sh ∧ vSt st sh.length=true ∧ -1000000 ≤ b ∧ b ≤ 1000000:=⟨hg,h2,by omega⟩
    by_cases hr:0 ≤ s ∧ s ≤ 60
    · obtain ⟨hr1,hr2⟩:=hr
      have hpb:=(Czz h1).2
      have e:allI (offs b sh st) 0 (s - 1)=decide (bdH b sh st < s):=by
        by_cases hz:pr sh=0
        · have h0:offs b sh st=[]:=by unfold offs;rw [hz];rfl
          rw [h0,bdH,if_pos hz]
          simp [allI]
          omega
        · rw [bd_all hg (by omega),bdH,if_neg hz]
          have h5:=vV_cells hv _ (low_offs (b:=b) (st:=st) hg (by omega)).1
          rw [Bool.eq_iff_iff]
          simp
          omega
      rw [e]
      (repeat' (first
 | (first|refine Apz ?_|refine Aiz ?_)
 | ((first|refine Aqz ?_|refine Ahz ?_|refine Ajz ?_|refine Akz ?_);simp (disch:=omega) only [push_cast,seval,l47r0,l47r1,l47r2,l47r3,l47r4,hv,hr1,hr2])
 | ((first|refine Acz ?_ ?_|refine Agz ?_ ?_|refine Afz ?_ ?_)<;>intro h<;>(try simp only [h])<;>(try simp only [bitvec_to_nat] at h)<;>(try simp only [h])<;>(first|(exfalso;omega)|(exfalso;simp_all;done)|(simp (disch:=omega) only [push_cast,seval,hv,hr1,hr2])|skip))
 | ((first|refine Arz false ?_|refine Anz false ?_);simp (disch:=omega) only [push_cast,seval,hv,hr1,hr2])
 | ((first|((first|refine Adz (Aez (Bcz _ _ _ _ _ ?_ ?_ ?_)) ?_|refine Abz (Aez (Bcz _ _ _ _ _ ?_ ?_ ?_)) ⟨_,_,rfl,rfl⟩ ?_);(iterate 3 (exact sd));rintro _ _ ⟨rfl,rfl⟩)|((first|refine Adz (Aez (Bzz _ _)) ?_|refine Abz (Aez (Bzz _ _)) ⟨_,_,rfl,rfl⟩ ?_);rintro _ _ ⟨rfl,rfl⟩)|((first|refine Adz (Aez (B5z _ _ _ _ _ ?_ ?_ ?_)) ?_|refine Abz (Aez (B5z _ _ _ _ _ ?_ ?_ ?_)) ⟨_,_,rfl,rfl⟩ ?_);(iterate 3 (exact sd));rintro _ _ ⟨rfl,rfl⟩))<;>(try simp (disch:=omega) only [push_cast,seval,hv,hr1,hr2]))
 | (refine Amz ⟨.inr rfl,_,rfl,?_⟩;(try simp (disch:=omega) only [push_cast,seval,hv,hr1,hr2]))))
      all_goals simp [hr1,hr2]
    · have hr':(decide (0 ≤ s) && decide (s ≤ 60))=false:=by
        rw [Bool.eq_false_iff];intro h;simp at h;exact hr h
      (repeat' (first
 | (first|refine Apz ?_|refine Aiz ?_)
 | ((first|refine Aqz ?_|refine Ahz ?_|refine Ajz ?_|refine Akz ?_);simp (disch:=omega) only [push_cast,seval,l47r0,l47r1,l47r2,l47r3,l47r4,hv,hr'])
 | ((first|refine Acz ?_ ?_|refine Agz ?_ ?_|refine Afz ?_ ?_)<;>intro h<;>(try simp only [h])<;>(try simp only [bitvec_to_nat] at h)<;>(try simp only [h])<;>(first|(exfalso;omega)|(exfalso;simp_all;done)|(simp (disch:=omega) only [push_cast,seval,hv,hr'])|skip))
 | ((first|refine Arz false ?_|refine Anz false ?_);simp (disch:=omega) only [push_cast,seval,hv,hr'])
 | ((first|((first|refine Adz (Aez (Bcz _ _ _ _ _ ?_ ?_ ?_)) ?_|refine Abz (Aez (Bcz _ _ _ _ _ ?_ ?_ ?_)) ⟨_,_,rfl,rfl⟩ ?_);(iterate 3 (exact sd));rintro _ _ ⟨rfl,rfl⟩)|((first|refine Adz (Aez (Bzz _ _)) ?_|refine Abz (Aez (Bzz _ _)) ⟨_,_,rfl,rfl⟩ ?_);rintro _ _ ⟨rfl,rfl⟩)|((first|refine Adz (Aez (B5z _ _ _ _ _ ?_ ?_ ?_)) ?_|refine Abz (Aez (B5z _ _ _ _ _ ?_ ?_ ?_)) ⟨_,_,rfl,rfl⟩ ?_);(iterate 3 (exact sd));rintro _ _ ⟨rfl,rfl⟩))<;>(try simp (disch:=omega) only [push_cast,seval,hv,hr']))
 | (refine Amz ⟨.inr rfl,_,rfl,?_⟩;(try simp (disch:=omega) only [push_cast,seval,hv,hr']))))
      all_goals simp [hr']

end Go.Proofs.YtkpcjppnjmhanaaDoor
