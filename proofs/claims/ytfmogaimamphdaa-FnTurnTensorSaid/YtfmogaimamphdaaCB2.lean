/- Texts of this verifier. -/
import Derived.Test.YtfmogaimamphdaaCB1
import Derived.Test.YtfmogaimamphdaaCM1
import Derived.Test.YtfmogaimamphdaaCW3
set_option linter.unusedSimpArgs false
set_option linter.unusedVariables false
set_option maxRecDepth 4000
set_option maxHeartbeats 4000000
namespace Go.Proofs.Ytfmogaimamphdaa
open VwM Vw Go

theorem soffset_ok (b:Int) (cs st idx:List Int) (n m p:Nat) (hm:st.length=m) (hp:idx.length=p) (hb:(p ≤ m ∧ p ≤ 4) ∧ (-1000000 ≤ b ∧ b ≤ 1000000) ∧ ∀ i,i < p → (-60 ≤ idx.getD i 0 ∧ idx.getD i 0 ≤ 60) ∧ -12960000 ≤ st.getD i 0 ∧ st.getD i 0 ≤ 12960000):PCall Try.prog 79 [.agg [.int .i64 b,.rows false (IL cs) n,.rows false (IL st) m],.rows false (IL idx) p] (fun r=>r=.int .i64 (b + dot (fun i=>idx.getD i 0) st p)):=by
  subst hm hp
  obtain ⟨⟨h1,h2⟩,⟨h3,h4⟩,hb⟩:=hb
  refine A0z l79_eq rfl ?_
  (repeat' (first
 | (first|refine Akz ?_|refine Aez ?_)
 | ((first|refine Alz ?_|refine Arz (mid:=l79r4a) (post:=l79r4b) Axz (by decide) ?_|refine Adz ?_|refine Afz ?_|refine Agz ?_);simp (disch:=omega) only [push_cast,seval,l79r0,l79r1,l79r2,l79r3,l79r4a,l79r4b,l79r4,l79r5,l79r6])
 | ((first|refine Aaz ?_ ?_|refine Acz ?_ ?_|refine Abz ?_ ?_)<;>intro h<;>(try simp only [h])<;>(try simp only [bitvec_to_nat] at h)<;>(try simp only [h])<;>(first|(exfalso;omega)|(exfalso;simp_all;done)|(simp (disch:=omega) only [push_cast,seval])|skip))
 | (refine Ahz ⟨.inr rfl,_,rfl,?_⟩;(try simp (disch:=omega) only [push_cast,seval]))))
  refine A1z (fun k:Nat=>mkS [(1,RI idx),(2,.ref 32 3 0),(5,.int .i64 (b + dot (fun i=>idx.getD i 0) st k)),(6,.int .i64 k)] [(32,[.int .i64 b,.rows false (IL cs) n,RI st])]) (fun k=>k ≤ idx.length) (fun k=>idx.length - k) 0 (Nat.zero_le _) ?_ ?_
  · (refine Sub.of_lists ?_ ?_ ?_ ?_ ?_<;>simp [Vw.mkS,Vw.lk,Vw.hk,AV.inn,innL,Aqz,Anz,Asz,-List.map_set,-List.getD_eq_getElem?_getD,dot])
  · intro k hk
    by_cases hlt:k < idx.length
    · have q1:=dot_bound (f:=fun i=>idx.getD i 0) (st:=st) (B:=60) (C:=12960000) k fun i hi=>hb i (by omega)
      have q2:=Fiz (hb k hlt).1 (hb k hlt).2
      have q3:k < st.length:=by omega
      (repeat' (first
 | (first|refine Akz ?_|refine Aez ?_)
 | ((first|refine Alz ?_|refine Arz (mid:=l79r4a) (post:=l79r4b) Axz (by decide) ?_|refine Adz ?_|refine Afz ?_|refine Agz ?_);simp (disch:=omega) only [push_cast,seval,l79r0,l79r1,l79r2,l79r3,l79r4a,l79r4b,l79r4,l79r5,l79r6])
 | ((first|refine Aaz ?_ ?_|refine Acz ?_ ?_|refine Abz ?_ ?_)<;>intro h<;>(try simp only [h])<;>(try simp only [bitvec_to_nat] at h)<;>(try simp only [h])<;>(first|(exfalso;omega)|(exfalso;simp_all;done)|(simp (disch:=omega) only [push_cast,seval])|skip))
 | (refine Ahz ⟨.inr rfl,_,rfl,?_⟩;(try simp (disch:=omega) only [push_cast,seval]))))
      refine ⟨k + 1,by omega,by omega,?_⟩
      (refine Sub.of_lists ?_ ?_ ?_ ?_ ?_<;>simp [Vw.mkS,Vw.lk,Vw.hk,AV.inn,innL,Aqz,Anz,Asz,-List.map_set,-List.getD_eq_getElem?_getD,dot,Int.add_assoc])
    · (repeat' (first
 | (first|refine Akz ?_|refine Aez ?_)
 | ((first|refine Alz ?_|refine Arz (mid:=l79r4a) (post:=l79r4b) Axz (by decide) ?_|refine Adz ?_|refine Afz ?_|refine Agz ?_);simp (disch:=omega) only [push_cast,seval,l79r0,l79r1,l79r2,l79r3,l79r4a,l79r4b,l79r4,l79r5,l79r6])
 | ((first|refine Aaz ?_ ?_|refine Acz ?_ ?_|refine Abz ?_ ?_)<;>intro h<;>(try simp only [h])<;>(try simp only [bitvec_to_nat] at h)<;>(try simp only [h])<;>(first|(exfalso;omega)|(exfalso;simp_all;done)|(simp (disch:=omega) only [push_cast,seval])|skip))
 | (refine Ahz ⟨.inr rfl,_,rfl,?_⟩;(try simp (disch:=omega) only [push_cast,seval]))))
      rw [show k=idx.length by omega]


/-- What keeps a view's cells from overflowing. -/
def okV (b:Int) (sh st:List Int):Prop:=(good4 sh ∧ pr sh ≤ 60) ∧ (-1000000 ≤ b ∧ b ≤ 1000000) ∧ sh.length ≤ st.length ∧ ∀ i,i < sh.length → -12960000 ≤ st.getD i 0 ∧ st.getD i 0 ≤ 12960000
theorem okV_dig {b:Int} {sh st:List Int} (h:okV b sh st) {k:Int} (hk:0 ≤ k) (hk2:k < pr sh):∀ i,i < sh.length → (-60 ≤ dig sh k i ∧ dig sh k i ≤ 60) ∧ -12960000 ≤ st.getD i 0 ∧ st.getD i 0 ≤ 12960000:=fun i hi=>by
  obtain ⟨⟨hg,_⟩,_,_,hs⟩:=h
  have h1:=Dkz hg hk hk2 i hi
  have h2:=Iwz hg hi
  exact ⟨by omega,hs i hi⟩
theorem unr_getD {sh:List Int} {k:Int} {i:Nat} (h:i < sh.length):(unr sh k).getD i 0=dig sh k i:=by simp [unr,List.getD,h]
theorem C0z {sh st:List Int} {k:Int}:dot (fun i=>(unr sh k).getD i 0) st sh.length=dot (dig sh k) st sh.length:=Cnz fun i hi=>unr_getD hi
def offsT (b:Int) (sh st:List Int) (j:Nat):List Int:=(List.range j).map fun k:Nat=>cellK b sh st k
theorem offsT_zero (b:Int) (sh st:List Int):offsT b sh st 0=[]:=rfl
theorem offsT_succ (b:Int) (sh st:List Int) (j:Nat):offsT b sh st (j + 1)=offsT b sh st j ++ [cellK b sh st j]:=by simp [offsT,List.range_succ]
theorem offsT_length (b:Int) (sh st:List Int) (j:Nat):(offsT b sh st j).length=j:=by simp [offsT]
theorem offsT_all (b:Int) (sh st:List Int):offsT b sh st (pr sh).toNat=offs b sh st:=rfl


theorem Cbz (b:Int) (sh st:List Int) (n m:Nat) (hn:sh.length=n) (hm:st.length=m) (hb:okV b sh st):BCall Try.prog 65 [.agg [.int .i64 b,.rows false (IL sh) n,.rows false (IL st) m]] [] (OI (offs b sh st)):=by
  subst hn hm
  obtain ⟨⟨hg,hp60⟩,⟨hb1,hb2⟩,hls,hst⟩:=hb
  have hl:=hg.2
  have hp0:=(B2z hg).1
  refine A8z (pins:=[]) (pin:=0) l65_eq rfl rfl rfl ?_
  (repeat' (first
 | (first|refine Akz ?_|refine Aez ?_)
 | ((first|refine Alz ?_|refine Arz (mid:=l65r4a) (post:=l65r4b) Axz (by decide) ?_|refine Adz ?_|refine Afz ?_|refine Agz ?_);simp (disch:=omega) only [push_cast,seval,l65r0,l65r1,l65r2,l65r3,l65r4a,l65r4b,l65r4,l65r5,l65r6])
 | ((first|refine Aaz ?_ ?_|refine Acz ?_ ?_|refine Abz ?_ ?_)<;>intro h<;>(try simp only [h])<;>(try simp only [bitvec_to_nat] at h)<;>(try simp only [h])<;>(first|(exfalso;omega)|(exfalso;simp_all;done)|(simp (disch:=omega) only [push_cast,seval])|skip))
 | ((first|refine Apz false ?_|refine qcallD_of false ?_);simp (disch:=omega) only [push_cast,seval])
 | ((first|((first|refine call0D (BCall.ofP (scount_ok _ _ ?_ ?_)) ?_|refine qcall0D (BCall.ofP (scount_ok _ _ ?_ ?_)) ⟨_,_,rfl,rfl⟩ ?_);(iterate 2 (exact sd));rintro _ _ ⟨rfl,rfl⟩)|((first|refine call0D (unrank_ok _ _ _ ?_ ?_) ?_|refine qcall0D (unrank_ok _ _ _ ?_ ?_) ⟨_,_,rfl,rfl⟩ ?_);(iterate 2 (exact sd));rintro _ _ ⟨rfl,rfl⟩)|((first|refine call0D (BCall.ofP (soffset_ok _ _ _ _ _ _ _ ?_ ?_ ?_)) ?_|refine qcall0D (BCall.ofP (soffset_ok _ _ _ _ _ _ _ ?_ ?_ ?_)) ⟨_,_,rfl,rfl⟩ ?_);(iterate 3 (exact sd));rintro _ _ ⟨rfl,rfl⟩))<;>(try simp (disch:=omega) only [push_cast,seval]))
 | (refine Ahz ⟨.inr rfl,[80],[],_,by decide,rfl,?_⟩;(try simp (disch:=omega) only [push_cast,seval,↓Amz,↓Aiz,↓List.map_cons,↓List.map_nil]);(first|done|(show AV.own _ _ _=_ ∧ _)))
 | (refine Ahz ⟨.inr rfl,[144],[],_,by decide,rfl,?_⟩;(try simp (disch:=omega) only [push_cast,seval,↓Amz,↓Aiz,↓List.map_cons,↓List.map_nil]);(first|done|(show AV.own _ _ _=_ ∧ _)))
 | (refine Ahz ⟨.inr rfl,[288],[],_,by decide,rfl,?_⟩;(try simp (disch:=omega) only [push_cast,seval,↓Amz,↓Aiz,↓List.map_cons,↓List.map_nil]);(first|done|(show AV.own _ _ _=_ ∧ _)))
 | (refine Ahz ⟨.inr rfl,[304],[],_,by decide,rfl,?_⟩;(try simp (disch:=omega) only [push_cast,seval,↓Amz,↓Aiz,↓List.map_cons,↓List.map_nil]);(first|done|(show AV.own _ _ _=_ ∧ _)))
 | (refine Ahz ⟨.inr rfl,[320],[],_,by decide,rfl,?_⟩;(try simp (disch:=omega) only [push_cast,seval,↓Amz,↓Aiz,↓List.map_cons,↓List.map_nil]);(first|done|(show AV.own _ _ _=_ ∧ _)))
 | (refine Ahz ⟨.inr rfl,[336],[],_,by decide,rfl,?_⟩;(try simp (disch:=omega) only [push_cast,seval,↓Amz,↓Aiz,↓List.map_cons,↓List.map_nil]);(first|done|(show AV.own _ _ _=_ ∧ _)))))
  refine A1z (fun k:Nat=>mkS [(1,.ref 16 3 0),(3,.own 80 k 1),(4,.int .i64 k)] [(16,[.int .i64 b,RI sh,RI st]),(80,IL (offsT b sh st k))])
    (fun k=>k ≤ (pr sh).toNat) (fun k=>(pr sh).toNat - k) 0 (Nat.zero_le _) ?_ ?_
  · (refine Sub.of_lists ?_ ?_ ?_ ?_ ?_<;>simp [Vw.mkS,Vw.lk,Vw.hk,AV.inn,innL,Aqz,Anz,Asz,-List.map_set,-List.getD_eq_getElem?_getD,offsT_zero])
  · intro k hk
    have hol:=offsT_length b sh st k
    by_cases hlt:k < (pr sh).toNat
    · have hgk:good4 sh ∧ 0 ≤ (k:Int) ∧ (k:Int) < pr sh:=⟨hg,by omega,by omega⟩
      have hdg:=okV_dig (b:=b) (st:=st) ⟨⟨hg,hp60⟩,⟨hb1,hb2⟩,hls,hst⟩ hgk.2.1 hgk.2.2
      have hlu:=D7z sh k
      have q:(sh.length ≤ st.length ∧ sh.length ≤ 4) ∧ (-1000000 ≤ b ∧ b ≤ 1000000) ∧ ∀ i,i < sh.length → (-60 ≤ (unr sh k).getD i 0 ∧ (unr sh k).getD i 0 ≤ 60) ∧ -12960000 ≤ st.getD i 0 ∧ st.getD i 0 ≤ 12960000:=⟨⟨hls,hl⟩,⟨hb1,hb2⟩,fun i hi=>by rw [unr_getD hi];exact hdg i hi⟩
      have hlt':(k:Int) < pr sh:=hgk.2.2
      (repeat' (first
 | (first|refine Akz ?_|refine Aez ?_)
 | ((first|refine Alz ?_|refine Arz (mid:=l65r4a) (post:=l65r4b) Axz (by decide) ?_|refine Adz ?_|refine Afz ?_|refine Agz ?_);simp (disch:=omega) only [push_cast,seval,l65r0,l65r1,l65r2,l65r3,l65r4a,l65r4b,l65r4,l65r5,l65r6,hlt',hlu,hol,C0z])
 | ((first|refine Aaz ?_ ?_|refine Acz ?_ ?_|refine Abz ?_ ?_)<;>intro h<;>(try simp only [h])<;>(try simp only [bitvec_to_nat] at h)<;>(try simp only [h])<;>(first|(exfalso;omega)|(exfalso;simp_all;done)|(simp (disch:=omega) only [push_cast,seval,hlt',hlu,hol,C0z])|skip))
 | ((first|refine Apz false ?_|refine qcallD_of false ?_);simp (disch:=omega) only [push_cast,seval,hlt',hlu,hol,C0z])
 | ((first|((first|refine call0D (BCall.ofP (scount_ok _ _ ?_ ?_)) ?_|refine qcall0D (BCall.ofP (scount_ok _ _ ?_ ?_)) ⟨_,_,rfl,rfl⟩ ?_);(iterate 2 (exact sd));rintro _ _ ⟨rfl,rfl⟩)|((first|refine call0D (unrank_ok _ _ _ ?_ ?_) ?_|refine qcall0D (BCall.ofP (plainI (unrank_ok _ _ _ ?_ ?_))) ⟨_,_,rfl,rfl⟩ ?_);(iterate 2 (exact sd));rintro _ _ ⟨rfl,rfl⟩)|((first|refine call0D (BCall.ofP (soffset_ok _ _ _ _ _ _ _ ?_ ?_ ?_)) ?_|refine qcall0D (BCall.ofP (soffset_ok _ _ _ _ _ _ _ ?_ ?_ ?_)) ⟨_,_,rfl,rfl⟩ ?_);(iterate 3 (exact sd));rintro _ _ ⟨rfl,rfl⟩))<;>(try simp (disch:=omega) only [push_cast,seval,hlt',hlu,hol,C0z]))
 | (refine Ahz ⟨.inr rfl,[80],[],_,by decide,rfl,?_⟩;(try simp (disch:=omega) only [push_cast,seval,↓Amz,↓Aiz,↓List.map_cons,↓List.map_nil,hlt',hlu,hol,C0z]);(first|done|(show AV.own _ _ _=_ ∧ _)))
 | (refine Ahz ⟨.inr rfl,[144],[],_,by decide,rfl,?_⟩;(try simp (disch:=omega) only [push_cast,seval,↓Amz,↓Aiz,↓List.map_cons,↓List.map_nil,hlt',hlu,hol,C0z]);(first|done|(show AV.own _ _ _=_ ∧ _)))
 | (refine Ahz ⟨.inr rfl,[288],[],_,by decide,rfl,?_⟩;(try simp (disch:=omega) only [push_cast,seval,↓Amz,↓Aiz,↓List.map_cons,↓List.map_nil,hlt',hlu,hol,C0z]);(first|done|(show AV.own _ _ _=_ ∧ _)))
 | (refine Ahz ⟨.inr rfl,[304],[],_,by decide,rfl,?_⟩;(try simp (disch:=omega) only [push_cast,seval,↓Amz,↓Aiz,↓List.map_cons,↓List.map_nil,hlt',hlu,hol,C0z]);(first|done|(show AV.own _ _ _=_ ∧ _)))
 | (refine Ahz ⟨.inr rfl,[320],[],_,by decide,rfl,?_⟩;(try simp (disch:=omega) only [push_cast,seval,↓Amz,↓Aiz,↓List.map_cons,↓List.map_nil,hlt',hlu,hol,C0z]);(first|done|(show AV.own _ _ _=_ ∧ _)))
 | (refine Ahz ⟨.inr rfl,[336],[],_,by decide,rfl,?_⟩;(try simp (disch:=omega) only [push_cast,seval,↓Amz,↓Aiz,↓List.map_cons,↓List.map_nil,hlt',hlu,hol,C0z]);(first|done|(show AV.own _ _ _=_ ∧ _)))))
      refine ⟨k + 1,by omega,by omega,?_⟩
      have e:b + dot (dig sh k) st sh.length=cellK b sh st k:=rfl
      (refine Sub.of_lists ?_ ?_ ?_ ?_ ?_<;>simp [Vw.mkS,Vw.lk,Vw.hk,AV.inn,innL,Aqz,Anz,Asz,-List.map_set,-List.getD_eq_getElem?_getD,offsT_succ,e])
    · have hlt':¬ (k:Int) < pr sh:=by omega
      (repeat' (first
 | (first|refine Akz ?_|refine Aez ?_)
 | ((first|refine Alz ?_|refine Arz (mid:=l65r4a) (post:=l65r4b) Axz (by decide) ?_|refine Adz ?_|refine Afz ?_|refine Agz ?_);simp (disch:=omega) only [push_cast,seval,l65r0,l65r1,l65r2,l65r3,l65r4a,l65r4b,l65r4,l65r5,l65r6,hlt',hol])
 | ((first|refine Aaz ?_ ?_|refine Acz ?_ ?_|refine Abz ?_ ?_)<;>intro h<;>(try simp only [h])<;>(try simp only [bitvec_to_nat] at h)<;>(try simp only [h])<;>(first|(exfalso;omega)|(exfalso;simp_all;done)|(simp (disch:=omega) only [push_cast,seval,hlt',hol])|skip))
 | ((first|refine Apz false ?_|refine qcallD_of false ?_);simp (disch:=omega) only [push_cast,seval,hlt',hol])
 | ((first|((first|refine call0D (BCall.ofP (scount_ok _ _ ?_ ?_)) ?_|refine qcall0D (BCall.ofP (scount_ok _ _ ?_ ?_)) ⟨_,_,rfl,rfl⟩ ?_);(iterate 2 (exact sd));rintro _ _ ⟨rfl,rfl⟩)|((first|refine call0D (unrank_ok _ _ _ ?_ ?_) ?_|refine qcall0D (unrank_ok _ _ _ ?_ ?_) ⟨_,_,rfl,rfl⟩ ?_);(iterate 2 (exact sd));rintro _ _ ⟨rfl,rfl⟩)|((first|refine call0D (BCall.ofP (soffset_ok _ _ _ _ _ _ _ ?_ ?_ ?_)) ?_|refine qcall0D (BCall.ofP (soffset_ok _ _ _ _ _ _ _ ?_ ?_ ?_)) ⟨_,_,rfl,rfl⟩ ?_);(iterate 3 (exact sd));rintro _ _ ⟨rfl,rfl⟩))<;>(try simp (disch:=omega) only [push_cast,seval,hlt',hol]))
 | (refine Ahz ⟨.inr rfl,[80],[],_,by decide,rfl,?_⟩;(try simp (disch:=omega) only [push_cast,seval,↓Amz,↓Aiz,↓List.map_cons,↓List.map_nil,hlt',hol]);(first|done|(show AV.own _ _ _=_ ∧ _)))
 | (refine Ahz ⟨.inr rfl,[144],[],_,by decide,rfl,?_⟩;(try simp (disch:=omega) only [push_cast,seval,↓Amz,↓Aiz,↓List.map_cons,↓List.map_nil,hlt',hol]);(first|done|(show AV.own _ _ _=_ ∧ _)))
 | (refine Ahz ⟨.inr rfl,[288],[],_,by decide,rfl,?_⟩;(try simp (disch:=omega) only [push_cast,seval,↓Amz,↓Aiz,↓List.map_cons,↓List.map_nil,hlt',hol]);(first|done|(show AV.own _ _ _=_ ∧ _)))
 | (refine Ahz ⟨.inr rfl,[304],[],_,by decide,rfl,?_⟩;(try simp (disch:=omega) only [push_cast,seval,↓Amz,↓Aiz,↓List.map_cons,↓List.map_nil,hlt',hol]);(first|done|(show AV.own _ _ _=_ ∧ _)))
 | (refine Ahz ⟨.inr rfl,[320],[],_,by decide,rfl,?_⟩;(try simp (disch:=omega) only [push_cast,seval,↓Amz,↓Aiz,↓List.map_cons,↓List.map_nil,hlt',hol]);(first|done|(show AV.own _ _ _=_ ∧ _)))
 | (refine Ahz ⟨.inr rfl,[336],[],_,by decide,rfl,?_⟩;(try simp (disch:=omega) only [push_cast,seval,↓Amz,↓Aiz,↓List.map_cons,↓List.map_nil,hlt',hol]);(first|done|(show AV.own _ _ _=_ ∧ _)))))
      have:k=(pr sh).toNat:=by omega
      rw [this,offsT_all]
      simp [OI,Buz]

end Go.Proofs.Ytfmogaimamphdaa
set_option linter.unusedSimpArgs false
set_option linter.unusedVariables false
set_option maxRecDepth 4000
set_option maxHeartbeats 4000000
namespace Go.Proofs.Ytfmogaimamphdaa
open VwM Vw Go

/-- What OffsetAt answers. -/
def oaV (b:Int) (sh st idx:List Int):Int:=if vV b sh st=true ∧ vIx sh idx=true then b + dot (fun i=>idx.getD i 0) st sh.length else 0
def oaB (b:Int) (sh st idx:List Int):Bool:=vV b sh st && vIx sh idx
def boL (b:Int) (sh st:List Int):Int:=if vV b sh st=true then bdL b sh st else -1
def boH (b:Int) (sh st:List Int):Int:=if vV b sh st=true then bdH b sh st else -1


def fitB (b:Int) (sh st:List Int) (s:Int):Bool:=vV b sh st && (decide (0 ≤ s) && decide (s ≤ 60)) && allI (offs b sh st) 0 (s - 1)

end Go.Proofs.Ytfmogaimamphdaa
set_option linter.unusedSimpArgs false
set_option linter.unusedVariables false
set_option maxRecDepth 4000
set_option maxHeartbeats 4000000
namespace Go.Proofs.Ytfmogaimamphdaa
open VwM Vw Go

theorem sdifferent_ok (xs:List Int) (n:Nat) (hn:xs.length=n) (hb:n ≤ 1099511627776):PCall Try.prog 64 [.rows false (IL xs) n] (fun r=>r=.bool (decide xs.Nodup)):=by
  subst hn
  refine A0z l64_eq rfl ?_
  (repeat' (first
 | (first|refine Akz ?_|refine Aez ?_)
 | ((first|refine Alz ?_|refine Arz (mid:=l64r3a) (post:=l64r3b) Axz (by decide) ?_|refine Adz ?_|refine Afz ?_|refine Agz ?_);simp (disch:=omega) only [push_cast,seval,l64r0,l64r1,l64r2,l64r3a,l64r3b,l64r3,l64r4,l64r5,l64r6])
 | ((first|refine Aaz ?_ ?_|refine Acz ?_ ?_|refine Abz ?_ ?_)<;>intro h<;>(try simp only [h])<;>(try simp only [bitvec_to_nat] at h)<;>(try simp only [h])<;>(first|(exfalso;omega)|(exfalso;simp_all;done)|(simp (disch:=omega) only [push_cast,seval])|skip))
 | ((first|refine Apz false ?_|refine qcallD_of false ?_);simp (disch:=omega) only [push_cast,seval])
 | ((first|((first|refine call0D (BCall.ofP (B5z _ _ _ ?_ ?_)) ?_|refine qcall0D (BCall.ofP (B5z _ _ _ ?_ ?_)) ⟨_,_,rfl,rfl⟩ ?_);(iterate 2 (exact sd));rintro _ _ ⟨rfl,rfl⟩))<;>(try simp (disch:=omega) only [push_cast,seval]))
 | (refine Ahz ⟨.inr rfl,_,rfl,?_⟩;(try simp (disch:=omega) only [push_cast,seval]))))
  refine A1z (fun k:Nat=>mkS [(0,RI xs),(3,.int .i64 k)] []) (fun k=>k ≤ xs.length ∧ ∀ j,j < k → xs.getD j 0 ∉ xs.take j) (fun k=>xs.length - k) 0 ⟨Nat.zero_le _,fun j h=>absurd h (Nat.not_lt_zero _)⟩ ?_ ?_
  · (refine Sub.of_lists ?_ ?_ ?_ ?_ ?_<;>simp [Vw.mkS,Vw.lk,Vw.hk,AV.inn,innL,Aqz,Anz,Asz,-List.map_set,-List.getD_eq_getElem?_getD])
  · rintro k ⟨hk,hj⟩
    by_cases hlt:k < xs.length
    · have hl:(xs.take k).length=k:=by simp;omega
      by_cases hm:xs.getD k 0 ∈ xs.take k
      · have hp:0 ≤ placeI (xs.take k) (xs.getD k 0):=by
          have:=mt (@Ecz (xs.take k) (xs.getD k 0)).1 (fun h=>h hm)
          omega
        have hno:¬ xs.Nodup:=not_nodup hlt hm
        (repeat' (first
 | (first|refine Akz ?_|refine Aez ?_)
 | ((first|refine Alz ?_|refine Arz (mid:=l64r3a) (post:=l64r3b) Axz (by decide) ?_|refine Adz ?_|refine Afz ?_|refine Agz ?_);simp (disch:=omega) only [push_cast,seval,l64r0,l64r1,l64r2,l64r3a,l64r3b,l64r3,l64r4,l64r5,l64r6,hp,Cgz,Nat.sub_zero])
 | ((first|refine Aaz ?_ ?_|refine Acz ?_ ?_|refine Abz ?_ ?_)<;>intro h<;>(try simp only [h])<;>(try simp only [bitvec_to_nat] at h)<;>(try simp only [h])<;>(first|(exfalso;omega)|(exfalso;simp_all;done)|(simp (disch:=omega) only [push_cast,seval,hp,Cgz,Nat.sub_zero])|skip))
 | ((first|refine Apz false ?_|refine qcallD_of false ?_);simp (disch:=omega) only [push_cast,seval,hp,Cgz,Nat.sub_zero])
 | ((first|((first|refine call0D (BCall.ofP (B5z _ _ _ ?_ ?_)) ?_|refine qcall0D (BCall.ofP (B5z _ _ _ ?_ ?_)) ⟨_,_,rfl,rfl⟩ ?_);(iterate 2 (exact sd));rintro _ _ ⟨rfl,rfl⟩))<;>(try simp (disch:=omega) only [push_cast,seval,hp,Cgz,Nat.sub_zero]))
 | (refine Ahz ⟨.inr rfl,_,rfl,?_⟩;(try simp (disch:=omega) only [push_cast,seval,hp,Cgz,Nat.sub_zero]))))
        simp [hno]
      · have hp:¬ 0 ≤ placeI (xs.take k) (xs.getD k 0):=by have:=(@Ecz (xs.take k) (xs.getD k 0)).2 hm;omega
        (repeat' (first
 | (first|refine Akz ?_|refine Aez ?_)
 | ((first|refine Alz ?_|refine Arz (mid:=l64r3a) (post:=l64r3b) Axz (by decide) ?_|refine Adz ?_|refine Afz ?_|refine Agz ?_);simp (disch:=omega) only [push_cast,seval,l64r0,l64r1,l64r2,l64r3a,l64r3b,l64r3,l64r4,l64r5,l64r6,hp,Cgz,Nat.sub_zero])
 | ((first|refine Aaz ?_ ?_|refine Acz ?_ ?_|refine Abz ?_ ?_)<;>intro h<;>(try simp only [h])<;>(try simp only [bitvec_to_nat] at h)<;>(try simp only [h])<;>(first|(exfalso;omega)|(exfalso;simp_all;done)|(simp (disch:=omega) only [push_cast,seval,hp,Cgz,Nat.sub_zero])|skip))
 | ((first|refine Apz false ?_|refine qcallD_of false ?_);simp (disch:=omega) only [push_cast,seval,hp,Cgz,Nat.sub_zero])
 | ((first|((first|refine call0D (BCall.ofP (B5z _ _ _ ?_ ?_)) ?_|refine qcall0D (BCall.ofP (B5z _ _ _ ?_ ?_)) ⟨_,_,rfl,rfl⟩ ?_);(iterate 2 (exact sd));rintro _ _ ⟨rfl,rfl⟩))<;>(try simp (disch:=omega) only [push_cast,seval,hp,Cgz,Nat.sub_zero]))
 | (refine Ahz ⟨.inr rfl,_,rfl,?_⟩;(try simp (disch:=omega) only [push_cast,seval,hp,Cgz,Nat.sub_zero]))))
        refine ⟨k + 1,⟨by omega,fun j h=>?_⟩,by omega,?_⟩
        · by_cases hjk:j=k
          · subst hjk;assumption
          · exact hj j (by omega)
        · (refine Sub.of_lists ?_ ?_ ?_ ?_ ?_<;>simp [Vw.mkS,Vw.lk,Vw.hk,AV.inn,innL,Aqz,Anz,Asz,-List.map_set,-List.getD_eq_getElem?_getD])
    · have hn:xs.Nodup:=nodup_iff.2 fun j h=>hj j (by omega)
      (repeat' (first
 | (first|refine Akz ?_|refine Aez ?_)
 | ((first|refine Alz ?_|refine Arz (mid:=l64r3a) (post:=l64r3b) Axz (by decide) ?_|refine Adz ?_|refine Afz ?_|refine Agz ?_);simp (disch:=omega) only [push_cast,seval,l64r0,l64r1,l64r2,l64r3a,l64r3b,l64r3,l64r4,l64r5,l64r6])
 | ((first|refine Aaz ?_ ?_|refine Acz ?_ ?_|refine Abz ?_ ?_)<;>intro h<;>(try simp only [h])<;>(try simp only [bitvec_to_nat] at h)<;>(try simp only [h])<;>(first|(exfalso;omega)|(exfalso;simp_all;done)|(simp (disch:=omega) only [push_cast,seval])|skip))
 | ((first|refine Apz false ?_|refine qcallD_of false ?_);simp (disch:=omega) only [push_cast,seval])
 | ((first|((first|refine call0D (BCall.ofP (B5z _ _ _ ?_ ?_)) ?_|refine qcall0D (BCall.ofP (B5z _ _ _ ?_ ?_)) ⟨_,_,rfl,rfl⟩ ?_);(iterate 2 (exact sd));rintro _ _ ⟨rfl,rfl⟩))<;>(try simp (disch:=omega) only [push_cast,seval]))
 | (refine Ahz ⟨.inr rfl,_,rfl,?_⟩;(try simp (disch:=omega) only [push_cast,seval]))))
      simp [hn]


def sameB (b:Int) (sh st:List Int) (b':Int) (sh' st':List Int):Bool:=vV b sh st && vV b' sh' st' && decide (sh=sh') && decide (offs b sh st=offs b' sh' st')

end Go.Proofs.Ytfmogaimamphdaa
set_option linter.unusedSimpArgs false
set_option linter.unusedVariables false
set_option maxRecDepth 4000
set_option maxHeartbeats 4000000
namespace Go.Proofs.Ytfmogaimamphdaa
open VwM Vw Go

theorem F8z (xs ys:List Int) (n m:Nat) (hn:xs.length=n) (hm:ys.length=m) (hb:n ≤ 1099511627776 ∧ m ≤ 1099511627776):PCall Try.prog 19 [.rows false (IL xs) n,.rows false (IL ys) m] (fun r=>r=.bool (decide (xs=ys))):=by
  subst hn hm
  refine A0z l19_eq rfl ?_
  by_cases hl:xs.length=ys.length
  · have hl':(xs.length:Int)=ys.length:=by omega
    (repeat' (first
 | (first|refine Akz ?_|refine Aez ?_)
 | ((first|refine Alz ?_|refine Arz (mid:=l19r5a) (post:=l19r5b) Axz (by decide) ?_|refine Adz ?_|refine Afz ?_|refine Agz ?_);simp (disch:=omega) only [push_cast,seval,l19r0,l19r1,l19r2,l19r3,l19r4,l19r5a,l19r5b,l19r5,l19r6,l19r7,l19r8,hl'])
 | ((first|refine Aaz ?_ ?_|refine Acz ?_ ?_|refine Abz ?_ ?_)<;>intro h<;>(try simp only [h])<;>(try simp only [bitvec_to_nat] at h)<;>(try simp only [h])<;>(first|(exfalso;omega)|(exfalso;simp_all;done)|(simp (disch:=omega) only [push_cast,seval,hl'])|skip))
 | (refine Ahz ⟨.inr rfl,_,rfl,?_⟩;(try simp (disch:=omega) only [push_cast,seval,hl']))))
    refine A1z (fun k:Nat=>mkS [(0,RI xs),(1,RI ys),(5,.int .i64 k)] []) (fun k=>k ≤ xs.length ∧ ∀ j:Nat,j < k → xs.getD j 0=ys.getD j 0) (fun k=>xs.length - k) 0 ⟨Nat.zero_le _,fun j h=>absurd h (Nat.not_lt_zero _)⟩ ?_ ?_
    · (refine Sub.of_lists ?_ ?_ ?_ ?_ ?_<;>simp [Vw.mkS,Vw.lk,Vw.hk,AV.inn,innL,Aqz,Anz,Asz,-List.map_set,-List.getD_eq_getElem?_getD,hl])
    · rintro k ⟨hk,hj⟩
      by_cases hlt:k < xs.length
      · (repeat' (first
 | (first|refine Akz ?_|refine Aez ?_)
 | ((first|refine Alz ?_|refine Arz (mid:=l19r5a) (post:=l19r5b) Axz (by decide) ?_|refine Adz ?_|refine Afz ?_|refine Agz ?_);simp (disch:=omega) only [push_cast,seval,l19r0,l19r1,l19r2,l19r3,l19r4,l19r5a,l19r5b,l19r5,l19r6,l19r7,l19r8])
 | ((first|refine Aaz ?_ ?_|refine Acz ?_ ?_|refine Abz ?_ ?_)<;>intro h<;>(try simp only [h])<;>(try simp only [bitvec_to_nat] at h)<;>(try simp only [h])<;>(first|(exfalso;omega)|(exfalso;simp_all;done)|(simp (disch:=omega) only [push_cast,seval])|skip))
 | (refine Ahz ⟨.inr rfl,_,rfl,?_⟩;(try simp (disch:=omega) only [push_cast,seval]))))
        · simp;rintro rfl;exact absurd rfl ‹_›
        · refine ⟨k + 1,⟨by omega,fun j h=>?_⟩,by omega,?_⟩
          · by_cases hjk:j=k
            · subst hjk;assumption
            · exact hj j (by omega)
          · (refine Sub.of_lists ?_ ?_ ?_ ?_ ?_<;>simp [Vw.mkS,Vw.lk,Vw.hk,AV.inn,innL,Aqz,Anz,Asz,-List.map_set,-List.getD_eq_getElem?_getD])
      · (repeat' (first
 | (first|refine Akz ?_|refine Aez ?_)
 | ((first|refine Alz ?_|refine Arz (mid:=l19r5a) (post:=l19r5b) Axz (by decide) ?_|refine Adz ?_|refine Afz ?_|refine Agz ?_);simp (disch:=omega) only [push_cast,seval,l19r0,l19r1,l19r2,l19r3,l19r4,l19r5a,l19r5b,l19r5,l19r6,l19r7,l19r8])
 | ((first|refine Aaz ?_ ?_|refine Acz ?_ ?_|refine Abz ?_ ?_)<;>intro h<;>(try simp only [h])<;>(try simp only [bitvec_to_nat] at h)<;>(try simp only [h])<;>(first|(exfalso;omega)|(exfalso;simp_all;done)|(simp (disch:=omega) only [push_cast,seval])|skip))
 | (refine Ahz ⟨.inr rfl,_,rfl,?_⟩;(try simp (disch:=omega) only [push_cast,seval]))))
        have:xs=ys:=Bgz hl fun j h=>hj j (by omega)
        simp [this]
  · have hl':¬ (xs.length:Int)=ys.length:=by omega
    have:¬ xs=ys:=by rintro rfl;exact hl rfl
    (repeat' (first
 | (first|refine Akz ?_|refine Aez ?_)
 | ((first|refine Alz ?_|refine Arz (mid:=l19r5a) (post:=l19r5b) Axz (by decide) ?_|refine Adz ?_|refine Afz ?_|refine Agz ?_);simp (disch:=omega) only [push_cast,seval,l19r0,l19r1,l19r2,l19r3,l19r4,l19r5a,l19r5b,l19r5,l19r6,l19r7,l19r8,hl'])
 | ((first|refine Aaz ?_ ?_|refine Acz ?_ ?_|refine Abz ?_ ?_)<;>intro h<;>(try simp only [h])<;>(try simp only [bitvec_to_nat] at h)<;>(try simp only [h])<;>(first|(exfalso;omega)|(exfalso;simp_all;done)|(simp (disch:=omega) only [push_cast,seval,hl'])|skip))
 | (refine Ahz ⟨.inr rfl,_,rfl,?_⟩;(try simp (disch:=omega) only [push_cast,seval,hl']))))
    simp [this]

end Go.Proofs.Ytfmogaimamphdaa
set_option linter.unusedSimpArgs false
set_option linter.unusedVariables false
set_option maxRecDepth 4000
set_option maxHeartbeats 4000000
namespace Go.Proofs.Ytfmogaimamphdaa
open VwM Vw Go

theorem Cvz (bs:List Int) (n:Nat) (hn:bs.length=n) (hb:n ≤ 1099511627776 ∧ ∀ x ∈ bs,0 ≤ x ∧ x ≤ 255):BCall Try.prog 25 [.rows false (UL bs) n] [] (fun r H'=>∃ bs',okB bs' ∧ r=.ref 0 2 0 ∧ H'=[RD bs' 0]):=by
  subst hn
  obtain ⟨hb0,hb⟩:=hb
  refine A8z (pins:=[]) (pin:=0) l25_eq rfl rfl rfl ?_
  by_cases h:bs.length > 2000
  · have h':(bs.length:Int) > 2000:=by omega
    have ht:(bs.take 2000).length=2000:=by simp;omega
    have eT:(UL bs).take 2000=UL (bs.take 2000):=List.map_take.symm
    (repeat' (first
 | (first|refine Akz ?_|refine Aez ?_)
 | ((first|refine Alz ?_|refine Adz ?_|refine Afz ?_|refine Agz ?_);simp (disch:=omega) only [push_cast,seval,l25r0,l25r1,l25r2,l25r3,h',eT])
 | ((first|refine Aaz ?_ ?_|refine Acz ?_ ?_|refine Abz ?_ ?_)<;>intro h<;>(try simp only [h])<;>(try simp only [bitvec_to_nat] at h)<;>(try simp only [h])<;>(first|(exfalso;omega)|(exfalso;simp_all;done)|(simp (disch:=omega) only [push_cast,seval,h',eT])|skip))
 | (refine Ahz ⟨.inr rfl,[160],[],_,by decide,rfl,?_⟩;(try simp (disch:=omega) only [push_cast,seval,↓Amz,↓Aiz,↓List.map_cons,↓List.map_nil,h',eT]))))
    exact ⟨bs.take 2000,⟨by omega,fun x hx=>hb x (List.mem_of_mem_take hx)⟩,by rw [RD,ht]⟩
  · have h':¬ (bs.length:Int) > 2000:=by omega
    (repeat' (first
 | (first|refine Akz ?_|refine Aez ?_)
 | ((first|refine Alz ?_|refine Adz ?_|refine Afz ?_|refine Agz ?_);simp (disch:=omega) only [push_cast,seval,l25r0,l25r1,l25r2,l25r3,h'])
 | ((first|refine Aaz ?_ ?_|refine Acz ?_ ?_|refine Abz ?_ ?_)<;>intro h<;>(try simp only [h])<;>(try simp only [bitvec_to_nat] at h)<;>(try simp only [h])<;>(first|(exfalso;omega)|(exfalso;simp_all;done)|(simp (disch:=omega) only [push_cast,seval,h'])|skip))
 | (refine Ahz ⟨.inr rfl,[160],[],_,by decide,rfl,?_⟩;(try simp (disch:=omega) only [push_cast,seval,↓Amz,↓Aiz,↓List.map_cons,↓List.map_nil,h']))))
    exact ⟨bs,⟨by omega,hb⟩,rfl⟩


theorem Bmz (bs:List Int) (p n:Int) (hb:okB bs) (hp:0 ≤ p ∧ p ≤ 1000000):BCall Try.prog 31 [.ref 0 2 0,.int .i64 n] [RD bs p] (fun r H'=>∃ x,0 ≤ x ∧ (1 ≤ n ∧ x < n ∨ n < 1 ∧ x=0 ∨ x=0) ∧ r=.int .i64 x ∧ H'=[RD bs (p + 1)]):=by
  refine A8z (pins:=[0]) (pin:=1) l31_eq rfl rfl rfl ?_
  obtain ⟨hp1,hp2⟩:=hp
  have hbl:=hb.1
  have ep:p + 1 - 1=p:=by omega
  by_cases h1:n < 1
  · (repeat' (first
 | (first|refine Akz ?_|refine Aez ?_)
 | ((first|refine Alz ?_|refine Arz (mid:=l31r7a) (post:=l31r7b) Axz (by decide) ?_|refine Adz ?_|refine Afz ?_|refine Agz ?_);simp (disch:=omega) only [push_cast,seval,l31r0,l31r1,l31r2,l31r3,l31r4,l31r5,l31r6,l31r7a,l31r7b,l31r7,l31r8,l31r9,h1])
 | ((first|refine Aaz ?_ ?_|refine Acz ?_ ?_|refine Abz ?_ ?_)<;>intro h<;>(try simp only [h])<;>(try simp only [bitvec_to_nat] at h)<;>(try simp only [h])<;>(first|(exfalso;omega)|(exfalso;simp_all;done)|(simp (disch:=omega) only [push_cast,seval,h1])|skip))
 | (refine Ahz ⟨.inr rfl,[],[],_,by decide,rfl,?_⟩;(try simp (disch:=omega) only [push_cast,seval,↓Amz,↓Aiz,↓List.map_cons,↓List.map_nil,h1]))))
    exact ⟨0,by omega,by omega,rfl⟩
  by_cases h2:bs.length=0
  · have h2':(bs.length:Int)=0:=by omega
    (repeat' (first
 | (first|refine Akz ?_|refine Aez ?_)
 | ((first|refine Alz ?_|refine Arz (mid:=l31r7a) (post:=l31r7b) Axz (by decide) ?_|refine Adz ?_|refine Afz ?_|refine Agz ?_);simp (disch:=omega) only [push_cast,seval,l31r0,l31r1,l31r2,l31r3,l31r4,l31r5,l31r6,l31r7a,l31r7b,l31r7,l31r8,l31r9,h1,h2'])
 | ((first|refine Aaz ?_ ?_|refine Acz ?_ ?_|refine Abz ?_ ?_)<;>intro h<;>(try simp only [h])<;>(try simp only [bitvec_to_nat] at h)<;>(try simp only [h])<;>(first|(exfalso;omega)|(exfalso;simp_all;done)|(simp (disch:=omega) only [push_cast,seval,h1,h2'])|skip))
 | (refine Ahz ⟨.inr rfl,[],[],_,by decide,rfl,?_⟩;(try simp (disch:=omega) only [push_cast,seval,↓Amz,↓Aiz,↓List.map_cons,↓List.map_nil,h1,h2']))))
    exact ⟨0,by omega,by omega,rfl⟩
  have h2':¬ (bs.length:Int)=0:=by omega
  have hn0:¬ n=0:=by omega
  by_cases h3:p < bs.length
  · have hb1:=okB_at hb (i:=p.toNat) (by omega)
    have hw:=Iaz hb1.1 (by omega)
    (repeat' (first
 | (first|refine Akz ?_|refine Aez ?_)
 | ((first|refine Alz ?_|refine Arz (mid:=l31r7a) (post:=l31r7b) Axz (by decide) ?_|refine Adz ?_|refine Afz ?_|refine Agz ?_);simp (disch:=omega) only [push_cast,seval,l31r0,l31r1,l31r2,l31r3,l31r4,l31r5,l31r6,l31r7a,l31r7b,l31r7,l31r8,l31r9,ep,h1,h2',h3,hn0,hw])
 | ((first|refine Aaz ?_ ?_|refine Acz ?_ ?_|refine Abz ?_ ?_)<;>intro h<;>(try simp only [h])<;>(try simp only [bitvec_to_nat] at h)<;>(try simp only [h])<;>(first|(exfalso;omega)|(exfalso;simp_all;done)|(simp (disch:=omega) only [push_cast,seval,ep,h1,h2',h3,hn0,hw])|skip))
 | (refine Ahz ⟨.inr rfl,[],[],_,by decide,rfl,?_⟩;(try simp (disch:=omega) only [push_cast,seval,↓Amz,↓Aiz,↓List.map_cons,↓List.map_nil,ep,h1,h2',h3,hn0,hw]))))
    have:=D8z hb1.1 (n:=n) (by omega)
    exact ⟨_,this.1,by omega,rfl⟩
  · have q1:=D8z hp1 (n:=(bs.length:Int)) (by omega)
    have q2:=D8z (x:=p * 7 + 3) (n:=(bs.length:Int)) (by omega) (by omega)
    have q3:=Caz (x:=p) (y:=(bs.length:Int)) (by omega) hp1
    generalize hg1:p.tmod (bs.length:Int)=k1 at *
    generalize hg2:(p * 7 + 3).tmod (bs.length:Int)=k2 at *
    generalize hg3:p.tdiv (bs.length:Int)=k3 at *
    have b1:=okB_at hb (i:=k1.toNat) (by omega)
    have b2:=okB_at hb (i:=k2.toNat) (by omega)
    have hw1:=Iaz b1.1 (by omega)
    have hw2:=Iaz b2.1 (by omega)
    generalize hd1:bs.getD k1.toNat 0=d1 at *
    generalize hd2:bs.getD k2.toNat 0=d2 at *
    have hX:0 ≤ d1 * 131 + d2 * 1117 + p * 29 + k3 * 53 ∧ d1 * 131 + d2 * 1117 + p * 29 + k3 * 53 < 1099511627776:=by omega
    have q4:=Caz (x:=d1 * 131 + d2 * 1117 + p * 29 + k3 * 53) (y:=64) (by omega) hX.1
    have q5:=xor_bound hX (b:=(d1 * 131 + d2 * 1117 + p * 29 + k3 * 53).tdiv 64) (by omega)
    have q6:=D8z q5.1 (n:=n) (by omega)
    (repeat' (first
 | (first|refine Akz ?_|refine Aez ?_)
 | ((first|refine Alz ?_|refine Arz (mid:=l31r7a) (post:=l31r7b) Axz (by decide) ?_|refine Adz ?_|refine Afz ?_|refine Agz ?_);simp (disch:=omega) only [push_cast,seval,l31r0,l31r1,l31r2,l31r3,l31r4,l31r5,l31r6,l31r7a,l31r7b,l31r7,l31r8,l31r9,ep,h1,h2',h3,hn0,hg1,hg2,hg3,hd1,hd2,hw1,hw2])
 | ((first|refine Aaz ?_ ?_|refine Acz ?_ ?_|refine Abz ?_ ?_)<;>intro h<;>(try simp only [h])<;>(try simp only [bitvec_to_nat] at h)<;>(try simp only [h])<;>(first|(exfalso;omega)|(exfalso;simp_all;done)|(simp (disch:=omega) only [push_cast,seval,ep,h1,h2',h3,hn0,hg1,hg2,hg3,hd1,hd2,hw1,hw2])|skip))
 | (refine Ahz ⟨.inr rfl,[],[],_,by decide,rfl,?_⟩;(try simp (disch:=omega) only [push_cast,seval,↓Amz,↓Aiz,↓List.map_cons,↓List.map_nil,ep,h1,h2',h3,hn0,hg1,hg2,hg3,hd1,hd2,hw1,hw2]))))
    exact ⟨_,q6.1,by omega,rfl⟩


theorem Eqz (bs:List Int) (p:Int) (cs:List AV) (n:Nat) (hn:(unI cs).length=n) (hcs:cs=IL (unI cs)) (hb:okB bs) (h1:1 ≤ n ∧ n ≤ 1000 ∧ 0 ≤ p ∧ p ≤ 1000000) (hxs:∀ y ∈ unI cs,-1000 ≤ y ∧ y ≤ 1000):BCall Try.prog 33 [.ref 0 2 0,.own 1 n 1] [RD bs p,cs] (fun r H'=>∃ x,x ∈ unI cs ∧ (-1000 ≤ x ∧ x ≤ 1000) ∧ r=.int .i64 x ∧ H'=[RD bs (p + 1),cs]):=by
  subst hn
  generalize hxs':unI cs=xs at *
  subst hcs
  obtain ⟨h1,h2,h3⟩:=h1
  refine A8z (pins:=[0,1]) (pin:=2) l33_eq rfl rfl rfl ?_
  (repeat' (first
 | (first|refine Akz ?_|refine Aez ?_)
 | ((first|refine Alz ?_|refine Adz ?_|refine Afz ?_|refine Agz ?_);simp (disch:=omega) only [push_cast,seval,l33r0,l33r1])
 | ((first|refine Aaz ?_ ?_|refine Acz ?_ ?_|refine Abz ?_ ?_)<;>intro h<;>(try simp only [h])<;>(try simp only [bitvec_to_nat] at h)<;>(try simp only [h])<;>(first|(exfalso;omega)|(exfalso;simp_all;done)|(simp (disch:=omega) only [push_cast,seval])|skip))
 | ((first|((with_reducible refine callD_ids (f:=31) [0] true ?_);simp (disch:=omega) only [push_cast,seval];(refine B0z (id:=0) (Bmz _ _ _ ?_ ?_) (by (simp (disch:=omega) only [push_cast,seval])<;>rfl) ?_;(iterate 2 (exact sd));rintro _ _ ⟨x,hx0,hx1,rfl,rfl⟩))|((with_reducible refine qcallI_of (f:=31) [0] true ?_);simp (disch:=omega) only [push_cast,seval];(refine Bsz (id:=0) (Bmz _ _ _ ?_ ?_) (by (simp (disch:=omega) only [push_cast,seval])<;>rfl) (by decide) ⟨_,_,0,by omega,Or.inr (Or.inr rfl),rfl,rfl⟩ ?_;(iterate 2 (exact sd));rintro _ _ ⟨x,hx0,hx1,rfl,rfl⟩)))<;>(try simp (disch:=omega) only [push_cast,seval]))
 | (refine Ahz ⟨.inr rfl,[],[],_,by decide,rfl,?_⟩;(try simp (disch:=omega) only [push_cast,seval,↓Amz,↓Aiz,↓List.map_cons,↓List.map_nil]))))
  have hm:=A2z (xs:=xs) (j:=x.toNat) (by omega)
  exact ⟨_,hm,hxs _ hm,rfl⟩
theorem B9z (bs:List Int) (p:Int) (cs:List AV) (n:Nat) (hn:(unI cs).length=n) (hcs:cs=IL (unI cs)) (hb:okB bs) (h1:1 ≤ n ∧ n ≤ 1000 ∧ 0 ≤ p ∧ p ≤ 1000000) (hxs:∀ y ∈ unI cs,-1000 ≤ y ∧ y ≤ 1000):BCall Try.prog 33 [.ref 0 2 0,.rows false cs n] [RD bs p] (fun r H'=>∃ x,x ∈ unI cs ∧ (-1000 ≤ x ∧ x ≤ 1000) ∧ r=.int .i64 x ∧ H'=[RD bs (p + 1)]):=by
  subst hn
  generalize hxs':unI cs=xs at *
  subst hcs
  obtain ⟨h1,h2,h3⟩:=h1
  refine A8z (pins:=[0]) (pin:=1) l33_eq rfl rfl rfl ?_
  (repeat' (first
 | (first|refine Akz ?_|refine Aez ?_)
 | ((first|refine Alz ?_|refine Adz ?_|refine Afz ?_|refine Agz ?_);simp (disch:=omega) only [push_cast,seval,l33r0,l33r1])
 | ((first|refine Aaz ?_ ?_|refine Acz ?_ ?_|refine Abz ?_ ?_)<;>intro h<;>(try simp only [h])<;>(try simp only [bitvec_to_nat] at h)<;>(try simp only [h])<;>(first|(exfalso;omega)|(exfalso;simp_all;done)|(simp (disch:=omega) only [push_cast,seval])|skip))
 | ((first|((with_reducible refine callD_ids (f:=31) [0] true ?_);simp (disch:=omega) only [push_cast,seval];(refine B0z (id:=0) (Bmz _ _ _ ?_ ?_) (by (simp (disch:=omega) only [push_cast,seval])<;>rfl) ?_;(iterate 2 (exact sd));rintro _ _ ⟨x,hx0,hx1,rfl,rfl⟩))|((with_reducible refine qcallI_of (f:=31) [0] true ?_);simp (disch:=omega) only [push_cast,seval];(refine Bsz (id:=0) (Bmz _ _ _ ?_ ?_) (by (simp (disch:=omega) only [push_cast,seval])<;>rfl) (by decide) ⟨_,_,0,by omega,Or.inr (Or.inr rfl),rfl,rfl⟩ ?_;(iterate 2 (exact sd));rintro _ _ ⟨x,hx0,hx1,rfl,rfl⟩)))<;>(try simp (disch:=omega) only [push_cast,seval]))
 | (refine Ahz ⟨.inr rfl,[],[],_,by decide,rfl,?_⟩;(try simp (disch:=omega) only [push_cast,seval,↓Amz,↓Aiz,↓List.map_cons,↓List.map_nil]))))
  have hm:=A2z (xs:=xs) (j:=x.toNat) (by omega)
  exact ⟨_,hm,hxs _ hm,rfl⟩

end Go.Proofs.Ytfmogaimamphdaa
set_option linter.unusedSimpArgs false
set_option linter.unusedVariables false
set_option maxRecDepth 4000
set_option maxHeartbeats 4000000
namespace Go.Proofs.Ytfmogaimamphdaa
open VwM Vw Go

/-- A list that is drawn as a shape. -/
def drawnSh (xs:List Int):Prop:=xs.length ≤ 5 ∧ ∀ x ∈ xs,-1 ≤ x ∧ x ≤ 61


end Go.Proofs.Ytfmogaimamphdaa
set_option linter.unusedSimpArgs false
set_option linter.unusedVariables false
set_option maxRecDepth 4000
set_option maxHeartbeats 4000000
namespace Go.Proofs.Ytfmogaimamphdaa
open VwM Vw Go

theorem takesL_length (xs at_:List Int):(takesL xs at_).length=at_.length:=by simp [takesL]

end Go.Proofs.Ytfmogaimamphdaa
set_option linter.unusedSimpArgs false
set_option linter.unusedVariables false
set_option maxRecDepth 4000
set_option maxHeartbeats 4000000
namespace Go.Proofs.Ytfmogaimamphdaa
open VwM Vw Go

theorem sinsert_ok (xs:List Int) (n:Nat) (k:Nat) (x:Int) (hn:xs.length=n) (hb:k ≤ n ∧ n ≤ 1099511000000):BCall Try.prog 41 [.rows false (IL xs) n,.int .i64 k,.int .i64 x] [] (OI (ins xs k x)):=by
  subst hn
  obtain ⟨hb1,hb2⟩:=hb
  have hl:=H2z x hb1
  refine A8z (pins:=[]) (pin:=0) l41_eq rfl rfl rfl ?_
  have hmin:min k xs.length=k:=by omega
  have hl2:(xs.take k).length=k:=by simp;omega
  have hl3:(xs.drop k).length=xs.length - k:=by simp
  have hl5:(List.map (AV.int .i64) (xs.take k) ++ [AV.int .i64 x]).length=k + 1:=by simp;omega
  have hl6:∀ ys:List Int,List.map (AV.int .i64) ys ++ [AV.int .i64 x]=List.map (AV.int .i64) (ys ++ [x]):=fun ys=>by simp
  have hl7:(xs.take k ++ [x]).length=k + 1:=by simp;omega
  (repeat' (first
 | (first|refine Akz ?_|refine Aez ?_)
 | ((first|refine Alz ?_|refine Cuz (mid:=l41r1a) (post:=l41r1b) [112] Axz (by decide) ?_|refine Adz ?_|refine Afz ?_|refine Agz ?_);simp (disch:=omega) only [push_cast,seval,l41r0,l41r1a,l41r1b,l41r1,Cgz,I4z,Nat.sub_zero,hmin,hl2,hl3,hl5,hl6,hl7,← List.map_append])
 | ((first|refine Aaz ?_ ?_|refine Acz ?_ ?_|refine Abz ?_ ?_)<;>intro h<;>(try simp only [h])<;>(try simp only [bitvec_to_nat] at h)<;>(try simp only [h])<;>(first|(exfalso;omega)|(exfalso;simp_all;done)|(simp (disch:=omega) only [push_cast,seval,Cgz,I4z,Nat.sub_zero,hmin,hl2,hl3,hl5,hl6,hl7,← List.map_append])|skip))
 | (refine Ahz ⟨.inr rfl,[112],[],_,by decide,rfl,?_⟩;(try simp (disch:=omega) only [push_cast,seval,↓Amz,↓Aiz,↓List.map_cons,↓List.map_nil,Cgz,I4z,Nat.sub_zero,hmin,hl2,hl3,hl5,hl6,hl7,← List.map_append]))))
  have hl4:xs.take k ++ [x] ++ xs.drop k=ins xs k x:=by simp [ins]
  all_goals simp only [OI,hl4,hl]
  all_goals (refine ⟨?_,trivial⟩;congr 1;omega)


theorem svalidOrder_ok (xs:List Int) (n:Nat) (k:Nat) (hn:xs.length=n) (hb:n ≤ 1099511627776 ∧ k ≤ 1000):PCall Try.prog 42 [.rows false (IL xs) n,.int .i64 k] (fun r=>r=.bool (decide (n=k) && allI xs 0 ((k:Int) - 1) && decide xs.Nodup)):=by
  subst hn
  obtain ⟨hb1,hb2⟩:=hb
  refine A0z l42_eq rfl ?_
  have e:((xs.length:Int)=k)=(xs.length=k):=by simp;omega
  (repeat' (first
 | (first|refine Akz ?_|refine Aez ?_)
 | ((first|refine Alz ?_|refine Adz ?_|refine Afz ?_|refine Agz ?_);simp (disch:=omega) only [push_cast,seval,l42r0,l42r1,e])
 | ((first|refine Aaz ?_ ?_|refine Acz ?_ ?_|refine Abz ?_ ?_)<;>intro h<;>(try simp only [h])<;>(try simp only [bitvec_to_nat] at h)<;>(try simp only [h])<;>(first|(exfalso;omega)|(exfalso;simp_all;done)|(simp (disch:=omega) only [push_cast,seval,e])|skip))
 | ((first|refine Apz false ?_|refine qcallD_of false ?_);simp (disch:=omega) only [push_cast,seval,e])
 | ((first|((first|refine call0D (BCall.ofP (allIn_ok _ _ _ _ ?_ ?_)) ?_|refine qcall0D (BCall.ofP (allIn_ok _ _ _ _ ?_ ?_)) ⟨_,_,rfl,rfl⟩ ?_);(iterate 2 (exact sd));rintro _ _ ⟨rfl,rfl⟩)|((first|refine call0D (BCall.ofP (sdifferent_ok _ _ ?_ ?_)) ?_|refine qcall0D (BCall.ofP (sdifferent_ok _ _ ?_ ?_)) ⟨_,_,rfl,rfl⟩ ?_);(iterate 2 (exact sd));rintro _ _ ⟨rfl,rfl⟩))<;>(try simp (disch:=omega) only [push_cast,seval,e]))
 | (refine Ahz ⟨.inr rfl,_,rfl,?_⟩;(try simp (disch:=omega) only [push_cast,seval,e]))))
  all_goals simp_all

end Go.Proofs.Ytfmogaimamphdaa
set_option linter.unusedSimpArgs false
set_option linter.unusedVariables false
set_option maxRecDepth 4000
set_option maxHeartbeats 4000000
namespace Go.Proofs.Ytfmogaimamphdaa
open VwM Vw Go

end Go.Proofs.Ytfmogaimamphdaa
set_option linter.unusedSimpArgs false
set_option linter.unusedVariables false
set_option maxRecDepth 4000
set_option maxHeartbeats 4000000
namespace Go.Proofs.Ytfmogaimamphdaa
open VwM Vw Go

def sdOk (b:Int) (sh st:List Int) (d:Int) (f t w:Int) (hf ht:Bool):Bool :=
  vV b sh st && (decide (0 ≤ d) && decide (d ≤ (sh.length:Int) - 1)) && vS f t w hf ht && vV (cutB b sh st d.toNat f t w hf ht) (cutSh sh d.toNat f t w hf ht) (cutSt sh st d.toNat f t w hf ht)
def winSh (sh:List Int) (j:Nat) (s:Int):List Int:=sh.set j (sh.getD j 0 - s + 1) ++ [s]
def winSt (st:List Int) (j:Nat):List Int:=st ++ [st.getD j 0]
def wnOk (b:Int) (sh st:List Int) (d s:Int):Bool :=
  vV b sh st && (decide (0 ≤ d) && decide (d ≤ (sh.length:Int) - 1)) && (decide (1 ≤ s) && decide (s ≤ sh.getD d.toNat 0)) && vV b (winSh sh d.toNat s) (winSt st d.toNat)


def adOk (b:Int) (sh st:List Int) (d:Int):Bool :=
  vV b sh st && (decide (0 ≤ d) && decide (d ≤ (sh.length:Int))) && !decide (sh.length=4) && vV b (ins sh d.toNat 1) (ins st d.toNat 0)

end Go.Proofs.Ytfmogaimamphdaa
set_option linter.unusedSimpArgs false
set_option linter.unusedVariables false
set_option maxRecDepth 4000
set_option maxHeartbeats 4000000
namespace Go.Proofs.Ytfmogaimamphdaa
open VwM Vw Go

def pmOk (b:Int) (sh st order:List Int):Bool :=
  vV b sh st && (decide (order.length=sh.length) && allI order 0 ((sh.length:Int) - 1) && decide order.Nodup) && vV b (permL sh order) (permL st order)


theorem spermuted_ok (b:Int) (sh st order:List Int) (n m p:Nat) (hn:sh.length=n) (hm:st.length=m) (hp:order.length=p) (hb:(n ≤ 4 ∧ m=n ∧ p=n) ∧ ∀ x ∈ order,0 ≤ x ∧ x ≤ (n:Int) - 1) :
    BCall Try.prog 43 [.agg [.int .i64 b,.rows false (IL sh) n,.rows false (IL st) m],.rows false (IL order) p] [] (OV b (permL sh order) (permL st order)):=by
  subst hn hm hp
  obtain ⟨⟨hb1,hb2,hb3⟩,hbo⟩:=hb
  refine A8z (pins:=[]) (pin:=0) l43_eq rfl rfl rfl ?_
  (repeat' (first
 | (first|refine Akz ?_|refine Aez ?_)
 | ((first|refine Alz ?_|refine Arz (mid:=l43r4a) (post:=l43r4b) Axz (by decide) ?_|refine Arz (mid:=l43r5a) (post:=l43r5b) Axz (by decide) ?_|refine Adz ?_|refine Afz ?_|refine Agz ?_);simp (disch:=omega) only [push_cast,seval,l43r0,l43r1,l43r2,l43r3,l43r4a,l43r4b,l43r4,l43r5a,l43r5b,l43r5,l43r6,l43r7])
 | ((first|refine Aaz ?_ ?_|refine Acz ?_ ?_|refine Abz ?_ ?_)<;>intro h<;>(try simp only [h])<;>(try simp only [bitvec_to_nat] at h)<;>(try simp only [h])<;>(first|(exfalso;omega)|(exfalso;simp_all;done)|(simp (disch:=omega) only [push_cast,seval])|skip))
 | (refine Ahz ⟨.inr rfl,[16000,16016],[(16000,1),(16016,1)],_,by decide,rfl,?_⟩;(try simp (disch:=omega) only [push_cast,seval,↓Amz,↓Aiz,↓List.map_cons,↓List.map_nil]))))
  refine A1z (fun k:Nat=>if k=0 then mkS [(2,.ref 32 3 0),(4,.ref 64 3 0),(5,.ref 80 3 0),(1,RI order),(6,.int .i64 0)] [(32,[.int .i64 b,RI sh,RI st]),(64,[.int .i64 0,.val (.slice none 0 0),.val (.slice none 0 0)]),(80,[.int .i64 b,.val (.slice none 0 0),.val (.slice none 0 0)])]
    else mkS [(2,.ref 32 3 0),(4,.ref 64 3 0),(5,.ref 80 3 0),(1,RI order),(6,.int .i64 k)] [(32,[.int .i64 b,RI sh,RI st]),(64,[.int .i64 0,.val (.slice none 0 0),.val (.slice none 0 0)]),(80,[.int .i64 b,.own 432 k 1,.own 640 k 1]),(432,IL (permL sh (order.take k))),(640,IL (permL st (order.take k)))])
    (fun k=>k ≤ order.length) (fun k=>order.length - k) 0 (Nat.zero_le _) ?_ ?_
  · rw [if_pos rfl]
    (refine Sub.of_lists ?_ ?_ ?_ ?_ ?_<;>simp [Vw.mkS,Vw.lk,Vw.hk,AV.inn,innL,Aqz,Anz,Asz,-List.map_set,-List.getD_eq_getElem?_getD])
  · intro k hk
    have e1:=Ayz sh (order.take k)
    have e2:=Ayz st (order.take k)
    by_cases hlt:k < order.length
    · have hx:=hbo _ (A2z hlt)
      obtain ⟨c,hc⟩:∃ c:Nat,order.getD k 0=c:=⟨(order.getD k 0).toNat,by omega⟩
      have s1:=Hyz sh order hlt
      have s2:=Hyz st order hlt
      rw [hc,Int.toNat_natCast] at s1 s2
      rw [hc] at hx
      have hc1:c < sh.length ∧ c < st.length:=by omega
      by_cases h0:k=0
      · subst h0
        rw [if_pos rfl]
        have hc0:order.getD 0 0=c:=hc
        (repeat' (first
 | (first|refine Akz ?_|refine Aez ?_)
 | ((first|refine Alz ?_|refine Arz (mid:=l43r4a) (post:=l43r4b) Axz (by decide) ?_|refine Arz (mid:=l43r5a) (post:=l43r5b) Axz (by decide) ?_|refine Adz ?_|refine Afz ?_|refine Agz ?_);simp (disch:=omega) only [push_cast,seval,l43r0,l43r1,l43r2,l43r3,l43r4a,l43r4b,l43r4,l43r5a,l43r5b,l43r5,l43r6,l43r7,hc0,Int.toNat_natCast,Int.natCast_zero])
 | ((first|refine Aaz ?_ ?_|refine Acz ?_ ?_|refine Abz ?_ ?_)<;>intro h<;>(try simp only [h])<;>(try simp only [bitvec_to_nat] at h)<;>(try simp only [h])<;>(first|(exfalso;omega)|(exfalso;simp_all;done)|(simp (disch:=omega) only [push_cast,seval,hc0,Int.toNat_natCast,Int.natCast_zero])|skip))
 | (refine Ahz ⟨.inr rfl,[],[],_,by decide,rfl,?_⟩;(try simp (disch:=omega) only [push_cast,seval,↓Amz,↓Aiz,↓List.map_cons,↓List.map_nil,hc0,Int.toNat_natCast,Int.natCast_zero]))))
        refine ⟨0 + 1,by omega,by omega,?_⟩
        rw [if_neg (by omega)]
        rw [s1,s2]
        simp only [List.take_zero]
        (refine Sub.of_lists ?_ ?_ ?_ ?_ ?_<;>simp [Vw.mkS,Vw.lk,Vw.hk,AV.inn,innL,Aqz,Anz,Asz,-List.map_set,-List.getD_eq_getElem?_getD,permL])
      · rw [if_neg h0]
        have e3:(permL sh (order.take k)).length=k:=by rw [e1];simp;omega
        have e4:(permL st (order.take k)).length=k:=by rw [e2];simp;omega
        generalize hq1:permL sh (order.take k)=q1 at *
        generalize hq2:permL st (order.take k)=q2 at *
        (repeat' (first
 | (first|refine Akz ?_|refine Aez ?_)
 | ((first|refine Alz ?_|refine Arz (mid:=l43r4a) (post:=l43r4b) Axz (by decide) ?_|refine Arz (mid:=l43r5a) (post:=l43r5b) Axz (by decide) ?_|refine Adz ?_|refine Afz ?_|refine Agz ?_);simp (disch:=omega) only [push_cast,seval,l43r0,l43r1,l43r2,l43r3,l43r4a,l43r4b,l43r4,l43r5a,l43r5b,l43r5,l43r6,l43r7,hc,Int.toNat_natCast,e3,e4])
 | ((first|refine Aaz ?_ ?_|refine Acz ?_ ?_|refine Abz ?_ ?_)<;>intro h<;>(try simp only [h])<;>(try simp only [bitvec_to_nat] at h)<;>(try simp only [h])<;>(first|(exfalso;omega)|(exfalso;simp_all;done)|(simp (disch:=omega) only [push_cast,seval,hc,Int.toNat_natCast,e3,e4])|skip))
 | (refine Ahz ⟨.inr rfl,[],[],_,by decide,rfl,?_⟩;(try simp (disch:=omega) only [push_cast,seval,↓Amz,↓Aiz,↓List.map_cons,↓List.map_nil,hc,Int.toNat_natCast,e3,e4]))))
        refine ⟨k + 1,by omega,by omega,?_⟩
        rw [if_neg (by omega),s1,s2]
        (refine Sub.of_lists ?_ ?_ ?_ ?_ ?_<;>simp [Vw.mkS,Vw.lk,Vw.hk,AV.inn,innL,Aqz,Anz,Asz,-List.map_set,-List.getD_eq_getElem?_getD,e3,e4])
    · have hke:k=order.length:=by omega
      have ht:order.take k=order:=List.take_of_length_le (by omega)
      by_cases h0:k=0
      · subst h0
        rw [if_pos rfl]
        have hL:(order.length:Int)=0:=by omega
        clear ht e1 e2 hk hbo hlt
        (repeat' (first
 | (first|refine Akz ?_|refine Aez ?_)
 | ((first|refine Alz ?_|refine Arz (mid:=l43r4a) (post:=l43r4b) Axz (by decide) ?_|refine Arz (mid:=l43r5a) (post:=l43r5b) Axz (by decide) ?_|refine Adz ?_|refine Afz ?_|refine Agz ?_);simp (disch:=omega) only [push_cast,seval,l43r0,l43r1,l43r2,l43r3,l43r4a,l43r4b,l43r4,l43r5a,l43r5b,l43r5,l43r6,l43r7,hL])
 | ((first|refine Aaz ?_ ?_|refine Acz ?_ ?_|refine Abz ?_ ?_)<;>intro h<;>(try simp only [h])<;>(try simp only [bitvec_to_nat] at h)<;>(try simp only [h])<;>(first|(exfalso;omega)|(exfalso;simp_all;done)|(simp (disch:=omega) only [push_cast,seval,hL])|skip))
 | (refine Ahz ⟨.inr rfl,[16000,16016],[(16000,1),(16016,1)],_,by decide,rfl,?_⟩;(try simp (disch:=omega) only [push_cast,seval,↓Amz,↓Aiz,↓List.map_cons,↓List.map_nil,hL]))))
        have ho:order=[]:=List.length_eq_zero_iff.1 hke.symm
        all_goals simp [OV,permL,ho]
      · rw [if_neg h0,ht]
        rw [ht] at e1 e2
        (repeat' (first
 | (first|refine Akz ?_|refine Aez ?_)
 | ((first|refine Alz ?_|refine Arz (mid:=l43r4a) (post:=l43r4b) Axz (by decide) ?_|refine Arz (mid:=l43r5a) (post:=l43r5b) Axz (by decide) ?_|refine Adz ?_|refine Afz ?_|refine Agz ?_);simp (disch:=omega) only [push_cast,seval,l43r0,l43r1,l43r2,l43r3,l43r4a,l43r4b,l43r4,l43r5a,l43r5b,l43r5,l43r6,l43r7,hke,e1,e2])
 | ((first|refine Aaz ?_ ?_|refine Acz ?_ ?_|refine Abz ?_ ?_)<;>intro h<;>(try simp only [h])<;>(try simp only [bitvec_to_nat] at h)<;>(try simp only [h])<;>(first|(exfalso;omega)|(exfalso;simp_all;done)|(simp (disch:=omega) only [push_cast,seval,hke,e1,e2])|skip))
 | (refine Ahz ⟨.inr rfl,[432,640],[],_,by decide,rfl,?_⟩;(try simp (disch:=omega) only [push_cast,seval,↓Amz,↓Aiz,↓List.map_cons,↓List.map_nil,hke,e1,e2]))))
        all_goals simp [OV,e1,e2]

end Go.Proofs.Ytfmogaimamphdaa
