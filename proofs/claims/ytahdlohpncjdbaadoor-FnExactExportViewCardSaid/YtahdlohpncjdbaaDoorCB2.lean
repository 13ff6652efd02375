/- Texts of this verifier. -/
import Derived.Test.YtahdlohpncjdbaaDoorCB1
import Derived.Test.YtahdlohpncjdbaaDoorCM1
set_option linter.unusedSimpArgs false
set_option linter.unusedVariables false
set_option maxRecDepth 4000
set_option maxHeartbeats 4000000
namespace Go.Proofs.YtahdlohpncjdbaaDoor
open VwM Vw Go
set_option linter.unusedSectionVars false
variable [SentA]

theorem B4z (cs:List AV) (n:Nat) (l:Int) (hl:0 ≤ l ∧ l ≤ 1048576) (hb:n ≤ 9223372036854775807):PCall Tryd.prog 27 [.rows false cs n,.int .i64 l] (fun r=>r=.int .i64 (if l - n < 0 then -1 else l - n)):=by
  refine Ayz l27_eq rfl ?_
  by_cases h:l - (n:Int) < 0
  · (repeat' (first
 | (first|refine Ajz ?_|refine Afz ?_)
 | ((first|refine Alz ?_|refine Aez ?_|refine Agz ?_|refine Ahz ?_);simp (disch:=omega) only [push_cast,seval,l27r0,l27r1,l27r2,l27r3,l27r4,h])
 | ((first|refine Abz ?_ ?_|refine Adz ?_ ?_|refine Acz ?_ ?_)<;>intro h<;>(try simp only [h])<;>(try simp only [bitvec_to_nat] at h)<;>(try simp only [h])<;>(first|(exfalso;omega)|(exfalso;simp_all;done)|(simp (disch:=omega) only [push_cast,seval,h])|skip))
 | (refine Akz ⟨.inr rfl,_,rfl,?_⟩;(try simp (disch:=omega) only [push_cast,seval,h]))))
  · (repeat' (first
 | (first|refine Ajz ?_|refine Afz ?_)
 | ((first|refine Alz ?_|refine Aez ?_|refine Agz ?_|refine Ahz ?_);simp (disch:=omega) only [push_cast,seval,l27r0,l27r1,l27r2,l27r3,l27r4,h])
 | ((first|refine Abz ?_ ?_|refine Adz ?_ ?_|refine Acz ?_ ?_)<;>intro h<;>(try simp only [h])<;>(try simp only [bitvec_to_nat] at h)<;>(try simp only [h])<;>(first|(exfalso;omega)|(exfalso;simp_all;done)|(simp (disch:=omega) only [push_cast,seval,h])|skip))
 | (refine Akz ⟨.inr rfl,_,rfl,?_⟩;(try simp (disch:=omega) only [push_cast,seval,h]))))


theorem szView_ok (b:Int) (cs ds:List AV) (n m:Nat) (l:Int) (hl:0 ≤ l ∧ l ≤ 1048576) (hb:n ≤ 9223372036854775807 ∧ m ≤ 9223372036854775807):PCall Tryd.prog 21 [.agg [.int .i64 b,.rows false cs n,.rows false ds m],.int .i64 l] (fun r=>r=.int .i64 (if l - n - m < 0 then -1 else l - n - m)):=by
  refine Ayz l21_eq rfl ?_
  by_cases h:l - (n:Int) < 0
  · have h2:l - (n:Int) - m < 0:=by omega
    (repeat' (first
 | (first|refine Ajz ?_|refine Afz ?_)
 | ((first|refine Alz ?_|refine Aez ?_|refine Agz ?_|refine Ahz ?_);simp (disch:=omega) only [push_cast,seval,l21r0,l21r1,l21r2,l21r3,l21r4,l21r5,l21r6,l21r7,h,h2])
 | ((first|refine Abz ?_ ?_|refine Adz ?_ ?_|refine Acz ?_ ?_)<;>intro h<;>(try simp only [h])<;>(try simp only [bitvec_to_nat] at h)<;>(try simp only [h])<;>(first|(exfalso;omega)|(exfalso;simp_all;done)|(simp (disch:=omega) only [push_cast,seval,h,h2])|skip))
 | ((first|refine Amz false ?_|refine Aiz false ?_);simp (disch:=omega) only [push_cast,seval,h,h2])
 | ((first|((first|refine call0D (BCall.ofP (B4z _ _ _ ?_ ?_)) ?_|refine qcall0D (BCall.ofP (B4z _ _ _ ?_ ?_)) ⟨_,_,rfl,rfl⟩ ?_);(iterate 2 (exact sd));rintro _ _ ⟨rfl,rfl⟩))<;>(try simp (disch:=omega) only [push_cast,seval,h,h2]))
 | (refine Akz ⟨.inr rfl,_,rfl,?_⟩;(try simp (disch:=omega) only [push_cast,seval,h,h2]))))
  · by_cases h2:l - (n:Int) - m < 0
    · (repeat' (first
 | (first|refine Ajz ?_|refine Afz ?_)
 | ((first|refine Alz ?_|refine Aez ?_|refine Agz ?_|refine Ahz ?_);simp (disch:=omega) only [push_cast,seval,l21r0,l21r1,l21r2,l21r3,l21r4,l21r5,l21r6,l21r7,h,h2])
 | ((first|refine Abz ?_ ?_|refine Adz ?_ ?_|refine Acz ?_ ?_)<;>intro h<;>(try simp only [h])<;>(try simp only [bitvec_to_nat] at h)<;>(try simp only [h])<;>(first|(exfalso;omega)|(exfalso;simp_all;done)|(simp (disch:=omega) only [push_cast,seval,h,h2])|skip))
 | ((first|refine Amz false ?_|refine Aiz false ?_);simp (disch:=omega) only [push_cast,seval,h,h2])
 | ((first|((first|refine call0D (BCall.ofP (B4z _ _ _ ?_ ?_)) ?_|refine qcall0D (BCall.ofP (B4z _ _ _ ?_ ?_)) ⟨_,_,rfl,rfl⟩ ?_);(iterate 2 (exact sd));rintro _ _ ⟨rfl,rfl⟩))<;>(try simp (disch:=omega) only [push_cast,seval,h,h2]))
 | (refine Akz ⟨.inr rfl,_,rfl,?_⟩;(try simp (disch:=omega) only [push_cast,seval,h,h2]))))
    · (repeat' (first
 | (first|refine Ajz ?_|refine Afz ?_)
 | ((first|refine Alz ?_|refine Aez ?_|refine Agz ?_|refine Ahz ?_);simp (disch:=omega) only [push_cast,seval,l21r0,l21r1,l21r2,l21r3,l21r4,l21r5,l21r6,l21r7,h,h2])
 | ((first|refine Abz ?_ ?_|refine Adz ?_ ?_|refine Acz ?_ ?_)<;>intro h<;>(try simp only [h])<;>(try simp only [bitvec_to_nat] at h)<;>(try simp only [h])<;>(first|(exfalso;omega)|(exfalso;simp_all;done)|(simp (disch:=omega) only [push_cast,seval,h,h2])|skip))
 | ((first|refine Amz false ?_|refine Aiz false ?_);simp (disch:=omega) only [push_cast,seval,h,h2])
 | ((first|((first|refine call0D (BCall.ofP (B4z _ _ _ ?_ ?_)) ?_|refine qcall0D (BCall.ofP (B4z _ _ _ ?_ ?_)) ⟨_,_,rfl,rfl⟩ ?_);(iterate 2 (exact sd));rintro _ _ ⟨rfl,rfl⟩))<;>(try simp (disch:=omega) only [push_cast,seval,h,h2]))
 | (refine Akz ⟨.inr rfl,_,rfl,?_⟩;(try simp (disch:=omega) only [push_cast,seval,h,h2]))))


theorem toView_ok (b:Int) (sh st:List Int) (n m:Nat) (hn:sh.length=n) (hm:st.length=m) (hb:n ≤ 1099511627776 ∧ m ≤ 1099511627776):BCall Tryd.prog 23 [.agg [.int .i64 b,.rows false (IL sh) n,.rows false (IL st) m]] [] (OV b sh st):=by
  subst hn hm
  refine Baz (pins:=[]) (pin:=0) l23_eq rfl rfl rfl ?_
  (repeat' (first
 | (first|refine Ajz ?_|refine Afz ?_)
 | ((first|refine Alz ?_|refine Aez ?_|refine Agz ?_|refine Ahz ?_);simp (disch:=omega) only [push_cast,seval,l23r0,l23r1,l23r2,l23r3,l23r4,l23r5])
 | ((first|refine Abz ?_ ?_|refine Adz ?_ ?_|refine Acz ?_ ?_)<;>intro h<;>(try simp only [h])<;>(try simp only [bitvec_to_nat] at h)<;>(try simp only [h])<;>(first|(exfalso;omega)|(exfalso;simp_all;done)|(simp (disch:=omega) only [push_cast,seval])|skip))
 | ((first|refine Amz false ?_|refine Aiz false ?_);simp (disch:=omega) only [push_cast,seval])
 | ((first|((first|refine call0D (C9z _ _ ?_ ?_) ?_|refine qcall0D (C9z _ _ ?_ ?_) ⟨_,_,rfl,rfl⟩ ?_);(iterate 2 (exact sd));rintro _ _ ⟨rfl,rfl⟩))<;>(try simp (disch:=omega) only [push_cast,seval]))
 | (refine Akz ⟨.inr rfl,[144,208],[],_,by decide,rfl,?_⟩;(try simp (disch:=omega) only [push_cast,seval,↓Aqz,↓Aoz,↓List.map_cons,↓List.map_nil]))))
  all_goals simp [OV]


theorem validStrides_ok (st:List Int) (n:Nat) (d:Nat) (hn:st.length=n) (hb:n ≤ 1099511627776):PCall Tryd.prog 102 [.rows false (IL st) n,.int .i64 d] (fun r=>r=.bool (vSt st d)):=by
  subst hn
  refine Ayz l102_eq rfl ?_
  by_cases hd:st.length=d
  · subst hd
    (repeat' (first
 | (first|refine Ajz ?_|refine Afz ?_)
 | ((first|refine Alz ?_|refine Aez ?_|refine Agz ?_|refine Ahz ?_);simp (disch:=omega) only [push_cast,seval,l102r0,l102r1,l102r2,l102r3,l102r4,l102r5,l102r6,l102r7,l102r8,l102r9])
 | ((first|refine Abz ?_ ?_|refine Adz ?_ ?_|refine Acz ?_ ?_)<;>intro h<;>(try simp only [h])<;>(try simp only [bitvec_to_nat] at h)<;>(try simp only [h])<;>(first|(exfalso;omega)|(exfalso;simp_all;done)|(simp (disch:=omega) only [push_cast,seval])|skip))
 | ((first|refine Amz false ?_|refine Aiz false ?_);simp (disch:=omega) only [push_cast,seval])
 | ((first|((first|refine call0D (BCall.ofP (Cez _ _ ?_ ?_)) ?_|refine qcall0D (BCall.ofP (Cez _ _ ?_ ?_)) ⟨_,_,rfl,rfl⟩ ?_);(iterate 2 (exact sd));rintro _ _ ⟨rfl,rfl⟩))<;>(try simp (disch:=omega) only [push_cast,seval]))
 | (refine Akz ⟨.inr rfl,_,rfl,?_⟩;(try simp (disch:=omega) only [push_cast,seval]))))
    refine Bfz (fun k:Nat=>mkS [(11,RI st),(12,.int .i64 st.length),(13,.int .i64 k)] []) (fun k=>k ≤ st.length ∧ ∀ j:Nat,j < k → -60 ≤ st.getD j 0 ∧ st.getD j 0 ≤ 60) (fun k=>st.length - k) 0 ⟨Nat.zero_le _,fun j h=>absurd h (Nat.not_lt_zero _)⟩ ?_ ?_
    · (refine Sub.of_lists ?_ ?_ ?_ ?_ ?_<;>simp [Vw.mkS,Vw.lk,Vw.hk,AV.inn,innL,Asz,Apz,Avz,-List.map_set,-List.getD_eq_getElem?_getD])
    · rintro k ⟨hk,hj⟩
      by_cases hlt:k < st.length
      · (repeat' (first
 | (first|refine Ajz ?_|refine Afz ?_)
 | ((first|refine Alz ?_|refine Aez ?_|refine Agz ?_|refine Ahz ?_);simp (disch:=omega) only [push_cast,seval,l102r0,l102r1,l102r2,l102r3,l102r4,l102r5,l102r6,l102r7,l102r8,l102r9])
 | ((first|refine Abz ?_ ?_|refine Adz ?_ ?_|refine Acz ?_ ?_)<;>intro h<;>(try simp only [h])<;>(try simp only [bitvec_to_nat] at h)<;>(try simp only [h])<;>(first|(exfalso;omega)|(exfalso;simp_all;done)|(simp (disch:=omega) only [push_cast,seval])|skip))
 | ((first|refine Amz false ?_|refine Aiz false ?_);simp (disch:=omega) only [push_cast,seval])
 | ((first|((first|refine call0D (BCall.ofP (Cez _ _ ?_ ?_)) ?_|refine qcall0D (BCall.ofP (Cez _ _ ?_ ?_)) ⟨_,_,rfl,rfl⟩ ?_);(iterate 2 (exact sd));rintro _ _ ⟨rfl,rfl⟩))<;>(try simp (disch:=omega) only [push_cast,seval]))
 | (refine Akz ⟨.inr rfl,_,rfl,?_⟩;(try simp (disch:=omega) only [push_cast,seval]))))
        · have:allI st (-60) 60=false:=Ecz (j:=k) hlt (by omega)
          simp [vSt,this]
        · refine ⟨k + 1,⟨by omega,fun j h=>?_⟩,by omega,?_⟩
          · by_cases hjk:j=k
            · subst hjk;assumption
            · exact hj j (by omega)
          · (refine Sub.of_lists ?_ ?_ ?_ ?_ ?_<;>simp [Vw.mkS,Vw.lk,Vw.hk,AV.inn,innL,Asz,Apz,Avz,-List.map_set,-List.getD_eq_getElem?_getD])
      · have ha:allI st (-60) 60=true:=Fiz fun j h=>hj j (by omega)
        (repeat' (first
 | (first|refine Ajz ?_|refine Afz ?_)
 | ((first|refine Alz ?_|refine Aez ?_|refine Agz ?_|refine Ahz ?_);simp (disch:=omega) only [push_cast,seval,l102r0,l102r1,l102r2,l102r3,l102r4,l102r5,l102r6,l102r7,l102r8,l102r9])
 | ((first|refine Abz ?_ ?_|refine Adz ?_ ?_|refine Acz ?_ ?_)<;>intro h<;>(try simp only [h])<;>(try simp only [bitvec_to_nat] at h)<;>(try simp only [h])<;>(first|(exfalso;omega)|(exfalso;simp_all;done)|(simp (disch:=omega) only [push_cast,seval])|skip))
 | ((first|refine Amz false ?_|refine Aiz false ?_);simp (disch:=omega) only [push_cast,seval])
 | ((first|((first|refine call0D (BCall.ofP (Cez _ _ ?_ ?_)) ?_|refine qcall0D (BCall.ofP (Cez _ _ ?_ ?_)) ⟨_,_,rfl,rfl⟩ ?_);(iterate 2 (exact sd));rintro _ _ ⟨rfl,rfl⟩))<;>(try simp (disch:=omega) only [push_cast,seval]))
 | (refine Akz ⟨.inr rfl,_,rfl,?_⟩;(try simp (disch:=omega) only [push_cast,seval]))))
        simp [vSt,ha]
  · have hd':¬ (st.length:Int)=d:=by omega
    (repeat' (first
 | (first|refine Ajz ?_|refine Afz ?_)
 | ((first|refine Alz ?_|refine Aez ?_|refine Agz ?_|refine Ahz ?_);simp (disch:=omega) only [push_cast,seval,l102r0,l102r1,l102r2,l102r3,l102r4,l102r5,l102r6,l102r7,l102r8,l102r9,hd'])
 | ((first|refine Abz ?_ ?_|refine Adz ?_ ?_|refine Acz ?_ ?_)<;>intro h<;>(try simp only [h])<;>(try simp only [bitvec_to_nat] at h)<;>(try simp only [h])<;>(first|(exfalso;omega)|(exfalso;simp_all;done)|(simp (disch:=omega) only [push_cast,seval,hd'])|skip))
 | ((first|refine Amz false ?_|refine Aiz false ?_);simp (disch:=omega) only [push_cast,seval,hd'])
 | ((first|((first|refine call0D (BCall.ofP (Cez _ _ ?_ ?_)) ?_|refine qcall0D (BCall.ofP (Cez _ _ ?_ ?_)) ⟨_,_,rfl,rfl⟩ ?_);(iterate 2 (exact sd));rintro _ _ ⟨rfl,rfl⟩))<;>(try simp (disch:=omega) only [push_cast,seval,hd']))
 | (refine Akz ⟨.inr rfl,_,rfl,?_⟩;(try simp (disch:=omega) only [push_cast,seval,hd']))))
    simp [vSt,hd]


theorem soffset_ok (b:Int) (cs st idx:List Int) (n m p:Nat) (hm:st.length=m) (hp:idx.length=p) (hb:(p ≤ m ∧ p ≤ 4) ∧ (-1000000 ≤ b ∧ b ≤ 1000000) ∧ ∀ i,i < p → (-60 ≤ idx.getD i 0 ∧ idx.getD i 0 ≤ 60) ∧ -12960000 ≤ st.getD i 0 ∧ st.getD i 0 ≤ 12960000):PCall Tryd.prog 92 [.agg [.int .i64 b,.rows false (IL cs) n,.rows false (IL st) m],.rows false (IL idx) p] (fun r=>r=.int .i64 (b + dot (fun i=>idx.getD i 0) st p)):=by
  subst hm hp
  obtain ⟨⟨h1,h2⟩,⟨h3,h4⟩,hb⟩:=hb
  refine Ayz l92_eq rfl ?_
  (repeat' (first
 | (first|refine Ajz ?_|refine Afz ?_)
 | ((first|refine Alz ?_|refine Azz (mid:=l92r4a) (post:=l92r4b) Brz (by decide) ?_|refine Aez ?_|refine Agz ?_|refine Ahz ?_);simp (disch:=omega) only [push_cast,seval,l92r0,l92r1,l92r2,l92r3,l92r4a,l92r4b,l92r4,l92r5,l92r6])
 | ((first|refine Abz ?_ ?_|refine Adz ?_ ?_|refine Acz ?_ ?_)<;>intro h<;>(try simp only [h])<;>(try simp only [bitvec_to_nat] at h)<;>(try simp only [h])<;>(first|(exfalso;omega)|(exfalso;simp_all;done)|(simp (disch:=omega) only [push_cast,seval])|skip))
 | (refine Akz ⟨.inr rfl,_,rfl,?_⟩;(try simp (disch:=omega) only [push_cast,seval]))))
  refine Bfz (fun k:Nat=>mkS [(1,RI idx),(2,.ref 32 3 0),(5,.int .i64 (b + dot (fun i=>idx.getD i 0) st k)),(6,.int .i64 k)] [(32,[.int .i64 b,.rows false (IL cs) n,RI st])]) (fun k=>k ≤ idx.length) (fun k=>idx.length - k) 0 (Nat.zero_le _) ?_ ?_
  · (refine Sub.of_lists ?_ ?_ ?_ ?_ ?_<;>simp [Vw.mkS,Vw.lk,Vw.hk,AV.inn,innL,Asz,Apz,Avz,-List.map_set,-List.getD_eq_getElem?_getD,dot])
  · intro k hk
    by_cases hlt:k < idx.length
    · have q1:=dot_bound (f:=fun i=>idx.getD i 0) (st:=st) (B:=60) (C:=12960000) k fun i hi=>hb i (by omega)
      have q2:=E5z (hb k hlt).1 (hb k hlt).2
      have q3:k < st.length:=by omega
      (repeat' (first
 | (first|refine Ajz ?_|refine Afz ?_)
 | ((first|refine Alz ?_|refine Azz (mid:=l92r4a) (post:=l92r4b) Brz (by decide) ?_|refine Aez ?_|refine Agz ?_|refine Ahz ?_);simp (disch:=omega) only [push_cast,seval,l92r0,l92r1,l92r2,l92r3,l92r4a,l92r4b,l92r4,l92r5,l92r6])
 | ((first|refine Abz ?_ ?_|refine Adz ?_ ?_|refine Acz ?_ ?_)<;>intro h<;>(try simp only [h])<;>(try simp only [bitvec_to_nat] at h)<;>(try simp only [h])<;>(first|(exfalso;omega)|(exfalso;simp_all;done)|(simp (disch:=omega) only [push_cast,seval])|skip))
 | (refine Akz ⟨.inr rfl,_,rfl,?_⟩;(try simp (disch:=omega) only [push_cast,seval]))))
      refine ⟨k + 1,by omega,by omega,?_⟩
      (refine Sub.of_lists ?_ ?_ ?_ ?_ ?_<;>simp [Vw.mkS,Vw.lk,Vw.hk,AV.inn,innL,Asz,Apz,Avz,-List.map_set,-List.getD_eq_getElem?_getD,dot,Int.add_assoc])
    · (repeat' (first
 | (first|refine Ajz ?_|refine Afz ?_)
 | ((first|refine Alz ?_|refine Azz (mid:=l92r4a) (post:=l92r4b) Brz (by decide) ?_|refine Aez ?_|refine Agz ?_|refine Ahz ?_);simp (disch:=omega) only [push_cast,seval,l92r0,l92r1,l92r2,l92r3,l92r4a,l92r4b,l92r4,l92r5,l92r6])
 | ((first|refine Abz ?_ ?_|refine Adz ?_ ?_|refine Acz ?_ ?_)<;>intro h<;>(try simp only [h])<;>(try simp only [bitvec_to_nat] at h)<;>(try simp only [h])<;>(first|(exfalso;omega)|(exfalso;simp_all;done)|(simp (disch:=omega) only [push_cast,seval])|skip))
 | (refine Akz ⟨.inr rfl,_,rfl,?_⟩;(try simp (disch:=omega) only [push_cast,seval]))))
      rw [show k=idx.length by omega]


/-- What keeps a view's cells from overflowing. -/
def okV (b:Int) (sh st:List Int):Prop:=(good4 sh ∧ pr sh ≤ 60) ∧ (-1000000 ≤ b ∧ b ≤ 1000000) ∧ sh.length ≤ st.length ∧ ∀ i,i < sh.length → -12960000 ≤ st.getD i 0 ∧ st.getD i 0 ≤ 12960000
theorem okV_dig {b:Int} {sh st:List Int} (h:okV b sh st) {k:Int} (hk:0 ≤ k) (hk2:k < pr sh):∀ i,i < sh.length → (-60 ≤ dig sh k i ∧ dig sh k i ≤ 60) ∧ -12960000 ≤ st.getD i 0 ∧ st.getD i 0 ≤ 12960000:=fun i hi=>by
  obtain ⟨⟨hg,_⟩,_,_,hs⟩:=h
  have h1:=dig_isIx hg hk hk2 i hi
  have h2:=Fbz hg hi
  exact ⟨by omega,hs i hi⟩
theorem unr_getD {sh:List Int} {k:Int} {i:Nat} (h:i < sh.length):(unr sh k).getD i 0=dig sh k i:=by simp [unr,List.getD,h]
theorem C5z {sh st:List Int} {k:Int}:dot (fun i=>(unr sh k).getD i 0) st sh.length=dot (dig sh k) st sh.length:=G1z fun i hi=>unr_getD hi
def offsT (b:Int) (sh st:List Int) (j:Nat):List Int:=(List.range j).map fun k:Nat=>cellK b sh st k
theorem offsT_zero (b:Int) (sh st:List Int):offsT b sh st 0=[]:=rfl
theorem offsT_succ (b:Int) (sh st:List Int) (j:Nat):offsT b sh st (j + 1)=offsT b sh st j ++ [cellK b sh st j]:=by simp [offsT,List.range_succ]
theorem offsT_length (b:Int) (sh st:List Int) (j:Nat):(offsT b sh st j).length=j:=by simp [offsT]
theorem offsT_all (b:Int) (sh st:List Int):offsT b sh st (pr sh).toNat=offs b sh st:=rfl


theorem soffsets_ok (b:Int) (sh st:List Int) (n m:Nat) (hn:sh.length=n) (hm:st.length=m) (hb:okV b sh st):BCall Tryd.prog 74 [.agg [.int .i64 b,.rows false (IL sh) n,.rows false (IL st) m]] [] (OI (offs b sh st)):=by
  subst hn hm
  obtain ⟨⟨hg,hp60⟩,⟨hb1,hb2⟩,hls,hst⟩:=hb
  have hl:=hg.2
  have hp0:=(E1z hg).1
  refine Baz (pins:=[]) (pin:=0) l74_eq rfl rfl rfl ?_
  (repeat' (first
 | (first|refine Ajz ?_|refine Afz ?_)
 | ((first|refine Alz ?_|refine Azz (mid:=l74r4a) (post:=l74r4b) Brz (by decide) ?_|refine Aez ?_|refine Agz ?_|refine Ahz ?_);simp (disch:=omega) only [push_cast,seval,l74r0,l74r1,l74r2,l74r3,l74r4a,l74r4b,l74r4,l74r5,l74r6])
 | ((first|refine Abz ?_ ?_|refine Adz ?_ ?_|refine Acz ?_ ?_)<;>intro h<;>(try simp only [h])<;>(try simp only [bitvec_to_nat] at h)<;>(try simp only [h])<;>(first|(exfalso;omega)|(exfalso;simp_all;done)|(simp (disch:=omega) only [push_cast,seval])|skip))
 | ((first|refine Amz false ?_|refine Aiz false ?_);simp (disch:=omega) only [push_cast,seval])
 | ((first|((first|refine call0D (BCall.ofP (scount_ok _ _ ?_ ?_)) ?_|refine qcall0D (BCall.ofP (scount_ok _ _ ?_ ?_)) ⟨_,_,rfl,rfl⟩ ?_);(iterate 2 (exact sd));rintro _ _ ⟨rfl,rfl⟩)|((first|refine call0D (unrank_ok _ _ _ ?_ ?_) ?_|refine qcall0D (unrank_ok _ _ _ ?_ ?_) ⟨_,_,rfl,rfl⟩ ?_);(iterate 2 (exact sd));rintro _ _ ⟨rfl,rfl⟩)|((first|refine call0D (BCall.ofP (soffset_ok _ _ _ _ _ _ _ ?_ ?_ ?_)) ?_|refine qcall0D (BCall.ofP (soffset_ok _ _ _ _ _ _ _ ?_ ?_ ?_)) ⟨_,_,rfl,rfl⟩ ?_);(iterate 3 (exact sd));rintro _ _ ⟨rfl,rfl⟩))<;>(try simp (disch:=omega) only [push_cast,seval]))
 | (refine Akz ⟨.inr rfl,[80],[],_,by decide,rfl,?_⟩;(try simp (disch:=omega) only [push_cast,seval,↓Aqz,↓Aoz,↓List.map_cons,↓List.map_nil]);(first|done|(show AV.own _ _ _=_ ∧ _)))
 | (refine Akz ⟨.inr rfl,[144],[],_,by decide,rfl,?_⟩;(try simp (disch:=omega) only [push_cast,seval,↓Aqz,↓Aoz,↓List.map_cons,↓List.map_nil]);(first|done|(show AV.own _ _ _=_ ∧ _)))
 | (refine Akz ⟨.inr rfl,[288],[],_,by decide,rfl,?_⟩;(try simp (disch:=omega) only [push_cast,seval,↓Aqz,↓Aoz,↓List.map_cons,↓List.map_nil]);(first|done|(show AV.own _ _ _=_ ∧ _)))
 | (refine Akz ⟨.inr rfl,[304],[],_,by decide,rfl,?_⟩;(try simp (disch:=omega) only [push_cast,seval,↓Aqz,↓Aoz,↓List.map_cons,↓List.map_nil]);(first|done|(show AV.own _ _ _=_ ∧ _)))
 | (refine Akz ⟨.inr rfl,[320],[],_,by decide,rfl,?_⟩;(try simp (disch:=omega) only [push_cast,seval,↓Aqz,↓Aoz,↓List.map_cons,↓List.map_nil]);(first|done|(show AV.own _ _ _=_ ∧ _)))
 | (refine Akz ⟨.inr rfl,[336],[],_,by decide,rfl,?_⟩;(try simp (disch:=omega) only [push_cast,seval,↓Aqz,↓Aoz,↓List.map_cons,↓List.map_nil]);(first|done|(show AV.own _ _ _=_ ∧ _)))))
  refine Bfz (fun k:Nat=>mkS [(1,.ref 16 3 0),(3,.own 80 k 1),(4,.int .i64 k)] [(16,[.int .i64 b,RI sh,RI st]),(80,IL (offsT b sh st k))])
    (fun k=>k ≤ (pr sh).toNat) (fun k=>(pr sh).toNat - k) 0 (Nat.zero_le _) ?_ ?_
  · (refine Sub.of_lists ?_ ?_ ?_ ?_ ?_<;>simp [Vw.mkS,Vw.lk,Vw.hk,AV.inn,innL,Asz,Apz,Avz,-List.map_set,-List.getD_eq_getElem?_getD,offsT_zero])
  · intro k hk
    have hol:=offsT_length b sh st k
    by_cases hlt:k < (pr sh).toNat
    · have hgk:good4 sh ∧ 0 ≤ (k:Int) ∧ (k:Int) < pr sh:=⟨hg,by omega,by omega⟩
      have hdg:=okV_dig (b:=b) (st:=st) ⟨⟨hg,hp60⟩,⟨hb1,hb2⟩,hls,hst⟩ hgk.2.1 hgk.2.2
      have hlu:=Fjz sh k
      have q:(sh.length ≤ st.length ∧ sh.length ≤ 4) ∧ (-1000000 ≤ b ∧ b ≤ 1000000) ∧ ∀ i,i < sh.length → (-60 ≤ (unr sh k).getD i 0 ∧ (unr sh k).getD i 0 ≤ 60) ∧ -12960000 ≤ st.getD i 0 ∧ st.getD i 0 ≤ 12960000:=⟨⟨hls,hl⟩,⟨hb1,hb2⟩,fun i hi=>by rw [unr_getD hi];exact hdg i hi⟩
      have hlt':(k:Int) < pr sh:=hgk.2.2
      (repeat' (first
 | (first|refine Ajz ?_|refine Afz ?_)
 | ((first|refine Alz ?_|refine Azz (mid:=l74r4a) (post:=l74r4b) Brz (by decide) ?_|refine Aez ?_|refine Agz ?_|refine Ahz ?_);simp (disch:=omega) only [push_cast,seval,l74r0,l74r1,l74r2,l74r3,l74r4a,l74r4b,l74r4,l74r5,l74r6,hlt',hlu,hol,C5z])
 | ((first|refine Abz ?_ ?_|refine Adz ?_ ?_|refine Acz ?_ ?_)<;>intro h<;>(try simp only [h])<;>(try simp only [bitvec_to_nat] at h)<;>(try simp only [h])<;>(first|(exfalso;omega)|(exfalso;simp_all;done)|(simp (disch:=omega) only [push_cast,seval,hlt',hlu,hol,C5z])|skip))
 | ((first|refine Amz false ?_|refine Aiz false ?_);simp (disch:=omega) only [push_cast,seval,hlt',hlu,hol,C5z])
 | ((first|((first|refine call0D (BCall.ofP (scount_ok _ _ ?_ ?_)) ?_|refine qcall0D (BCall.ofP (scount_ok _ _ ?_ ?_)) ⟨_,_,rfl,rfl⟩ ?_);(iterate 2 (exact sd));rintro _ _ ⟨rfl,rfl⟩)|((first|refine call0D (unrank_ok _ _ _ ?_ ?_) ?_|refine qcall0D (BCall.ofP (plainI (unrank_ok _ _ _ ?_ ?_))) ⟨_,_,rfl,rfl⟩ ?_);(iterate 2 (exact sd));rintro _ _ ⟨rfl,rfl⟩)|((first|refine call0D (BCall.ofP (soffset_ok _ _ _ _ _ _ _ ?_ ?_ ?_)) ?_|refine qcall0D (BCall.ofP (soffset_ok _ _ _ _ _ _ _ ?_ ?_ ?_)) ⟨_,_,rfl,rfl⟩ ?_);(iterate 3 (exact sd));rintro _ _ ⟨rfl,rfl⟩))<;>(try simp (disch:=omega) only [push_cast,seval,hlt',hlu,hol,C5z]))
 | (refine Akz ⟨.inr rfl,[80],[],_,by decide,rfl,?_⟩;(try simp (disch:=omega) only [push_cast,seval,↓Aqz,↓Aoz,↓List.map_cons,↓List.map_nil,hlt',hlu,hol,C5z]);(first|done|(show AV.own _ _ _=_ ∧ _)))
 | (refine Akz ⟨.inr rfl,[144],[],_,by decide,rfl,?_⟩;(try simp (disch:=omega) only [push_cast,seval,↓Aqz,↓Aoz,↓List.map_cons,↓List.map_nil,hlt',hlu,hol,C5z]);(first|done|(show AV.own _ _ _=_ ∧ _)))
 | (refine Akz ⟨.inr rfl,[288],[],_,by decide,rfl,?_⟩;(try simp (disch:=omega) only [push_cast,seval,↓Aqz,↓Aoz,↓List.map_cons,↓List.map_nil,hlt',hlu,hol,C5z]);(first|done|(show AV.own _ _ _=_ ∧ _)))
 | (refine Akz ⟨.inr rfl,[304],[],_,by decide,rfl,?_⟩;(try simp (disch:=omega) only [push_cast,seval,↓Aqz,↓Aoz,↓List.map_cons,↓List.map_nil,hlt',hlu,hol,C5z]);(first|done|(show AV.own _ _ _=_ ∧ _)))
 | (refine Akz ⟨.inr rfl,[320],[],_,by decide,rfl,?_⟩;(try simp (disch:=omega) only [push_cast,seval,↓Aqz,↓Aoz,↓List.map_cons,↓List.map_nil,hlt',hlu,hol,C5z]);(first|done|(show AV.own _ _ _=_ ∧ _)))
 | (refine Akz ⟨.inr rfl,[336],[],_,by decide,rfl,?_⟩;(try simp (disch:=omega) only [push_cast,seval,↓Aqz,↓Aoz,↓List.map_cons,↓List.map_nil,hlt',hlu,hol,C5z]);(first|done|(show AV.own _ _ _=_ ∧ _)))))
      refine ⟨k + 1,by omega,by omega,?_⟩
      have e:b + dot (dig sh k) st sh.length=cellK b sh st k:=rfl
      (refine Sub.of_lists ?_ ?_ ?_ ?_ ?_<;>simp [Vw.mkS,Vw.lk,Vw.hk,AV.inn,innL,Asz,Apz,Avz,-List.map_set,-List.getD_eq_getElem?_getD,offsT_succ,e])
    · have hlt':¬ (k:Int) < pr sh:=by omega
      (repeat' (first
 | (first|refine Ajz ?_|refine Afz ?_)
 | ((first|refine Alz ?_|refine Azz (mid:=l74r4a) (post:=l74r4b) Brz (by decide) ?_|refine Aez ?_|refine Agz ?_|refine Ahz ?_);simp (disch:=omega) only [push_cast,seval,l74r0,l74r1,l74r2,l74r3,l74r4a,l74r4b,l74r4,l74r5,l74r6,hlt',hol])
 | ((first|refine Abz ?_ ?_|refine Adz ?_ ?_|refine Acz ?_ ?_)<;>intro h<;>(try simp only [h])<;>(try simp only [bitvec_to_nat] at h)<;>(try simp only [h])<;>(first|(exfalso;omega)|(exfalso;simp_all;done)|(simp (disch:=omega) only [push_cast,seval,hlt',hol])|skip))
 | ((first|refine Amz false ?_|refine Aiz false ?_);simp (disch:=omega) only [push_cast,seval,hlt',hol])
 | ((first|((first|refine call0D (BCall.ofP (scount_ok _ _ ?_ ?_)) ?_|refine qcall0D (BCall.ofP (scount_ok _ _ ?_ ?_)) ⟨_,_,rfl,rfl⟩ ?_);(iterate 2 (exact sd));rintro _ _ ⟨rfl,rfl⟩)|((first|refine call0D (unrank_ok _ _ _ ?_ ?_) ?_|refine qcall0D (unrank_ok _ _ _ ?_ ?_) ⟨_,_,rfl,rfl⟩ ?_);(iterate 2 (exact sd));rintro _ _ ⟨rfl,rfl⟩)|((first|refine call0D (BCall.ofP (soffset_ok _ _ _ _ _ _ _ ?_ ?_ ?_)) ?_|refine qcall0D (BCall.ofP (soffset_ok _ _ _ _ _ _ _ ?_ ?_ ?_)) ⟨_,_,rfl,rfl⟩ ?_);(iterate 3 (exact sd));rintro _ _ ⟨rfl,rfl⟩))<;>(try simp (disch:=omega) only [push_cast,seval,hlt',hol]))
 | (refine Akz ⟨.inr rfl,[80],[],_,by decide,rfl,?_⟩;(try simp (disch:=omega) only [push_cast,seval,↓Aqz,↓Aoz,↓List.map_cons,↓List.map_nil,hlt',hol]);(first|done|(show AV.own _ _ _=_ ∧ _)))
 | (refine Akz ⟨.inr rfl,[144],[],_,by decide,rfl,?_⟩;(try simp (disch:=omega) only [push_cast,seval,↓Aqz,↓Aoz,↓List.map_cons,↓List.map_nil,hlt',hol]);(first|done|(show AV.own _ _ _=_ ∧ _)))
 | (refine Akz ⟨.inr rfl,[288],[],_,by decide,rfl,?_⟩;(try simp (disch:=omega) only [push_cast,seval,↓Aqz,↓Aoz,↓List.map_cons,↓List.map_nil,hlt',hol]);(first|done|(show AV.own _ _ _=_ ∧ _)))
 | (refine Akz ⟨.inr rfl,[304],[],_,by decide,rfl,?_⟩;(try simp (disch:=omega) only [push_cast,seval,↓Aqz,↓Aoz,↓List.map_cons,↓List.map_nil,hlt',hol]);(first|done|(show AV.own _ _ _=_ ∧ _)))
 | (refine Akz ⟨.inr rfl,[320],[],_,by decide,rfl,?_⟩;(try simp (disch:=omega) only [push_cast,seval,↓Aqz,↓Aoz,↓List.map_cons,↓List.map_nil,hlt',hol]);(first|done|(show AV.own _ _ _=_ ∧ _)))
 | (refine Akz ⟨.inr rfl,[336],[],_,by decide,rfl,?_⟩;(try simp (disch:=omega) only [push_cast,seval,↓Aqz,↓Aoz,↓List.map_cons,↓List.map_nil,hlt',hol]);(first|done|(show AV.own _ _ _=_ ∧ _)))))
      have:k=(pr sh).toNat:=by omega
      rw [this,offsT_all]
      simp [OI,Elz]


theorem bounds_ok (b:Int) (sh st:List Int) (n m:Nat) (hn:sh.length=n) (hm:st.length=m) (hb:good4 sh ∧ vSt st sh.length=true ∧ -1000000 ≤ b ∧ b ≤ 1000000):PCall Tryd.prog 91 [.agg [.int .i64 b,.rows false (IL sh) n,.rows false (IL st) m]] (fun r=>r=.tup [.int .i64 (bdL b sh st),.int .i64 (bdH b sh st)]):=by
  subst hn hm
  obtain ⟨hg,hs,hb1,hb2⟩:=hb
  have hl:=hg.2
  have hle:=(H0z.1 hs).1
  refine Ayz l91_eq rfl ?_
  unfold bdL bdH
  by_cases hz:pr sh=0
  · (repeat' (first
 | (first|refine Ajz ?_|refine Afz ?_)
 | ((first|refine Alz ?_|refine Azz (mid:=l91r3a) (post:=l91r3b) Brz (by decide) ?_|refine Aez ?_|refine Agz ?_|refine Ahz ?_);simp (disch:=omega) only [push_cast,seval,l91r0,l91r1,l91r2,l91r3a,l91r3b,l91r3,l91r4,l91r5,l91r6,l91r7,l91r8,l91r9,l91r10,l91r11,hz])
 | ((first|refine Abz ?_ ?_|refine Adz ?_ ?_|refine Acz ?_ ?_)<;>intro h<;>(try simp only [h])<;>(try simp only [bitvec_to_nat] at h)<;>(try simp only [h])<;>(first|(exfalso;omega)|(exfalso;simp_all;done)|(simp (disch:=omega) only [push_cast,seval,hz])|skip))
 | ((first|refine Amz false ?_|refine Aiz false ?_);simp (disch:=omega) only [push_cast,seval,hz])
 | ((first|((first|refine call0D (BCall.ofP (vcount_ok _ _ _ _ _ _ ?_ ?_)) ?_|refine qcall0D (BCall.ofP (vcount_ok _ _ _ _ _ _ ?_ ?_)) ⟨_,_,rfl,rfl⟩ ?_);(iterate 2 (exact sd));rintro _ _ ⟨rfl,rfl⟩))<;>(try simp (disch:=omega) only [push_cast,seval,hz]))
 | (refine Akz ⟨.inr rfl,_,rfl,?_⟩;(try simp (disch:=omega) only [push_cast,seval,hz]))))
  · (repeat' (first
 | (first|refine Ajz ?_|refine Afz ?_)
 | ((first|refine Alz ?_|refine Azz (mid:=l91r3a) (post:=l91r3b) Brz (by decide) ?_|refine Aez ?_|refine Agz ?_|refine Ahz ?_);simp (disch:=omega) only [push_cast,seval,l91r0,l91r1,l91r2,l91r3a,l91r3b,l91r3,l91r4,l91r5,l91r6,l91r7,l91r8,l91r9,l91r10,l91r11,hz])
 | ((first|refine Abz ?_ ?_|refine Adz ?_ ?_|refine Acz ?_ ?_)<;>intro h<;>(try simp only [h])<;>(try simp only [bitvec_to_nat] at h)<;>(try simp only [h])<;>(first|(exfalso;omega)|(exfalso;simp_all;done)|(simp (disch:=omega) only [push_cast,seval,hz])|skip))
 | ((first|refine Amz false ?_|refine Aiz false ?_);simp (disch:=omega) only [push_cast,seval,hz])
 | ((first|((first|refine call0D (BCall.ofP (vcount_ok _ _ _ _ _ _ ?_ ?_)) ?_|refine qcall0D (BCall.ofP (vcount_ok _ _ _ _ _ _ ?_ ?_)) ⟨_,_,rfl,rfl⟩ ?_);(iterate 2 (exact sd));rintro _ _ ⟨rfl,rfl⟩))<;>(try simp (disch:=omega) only [push_cast,seval,hz]))
 | (refine Akz ⟨.inr rfl,_,rfl,?_⟩;(try simp (disch:=omega) only [push_cast,seval,hz]))))
    refine Bfz (fun k:Nat=>mkS [(1,.ref 16 3 0),(4,.int .i64 (b + lowS sh st k)),(5,.int .i64 (b + highS sh st k)),(17,RI st),(18,.int .i64 st.length),(19,.int .i64 k)] [(16,[.int .i64 b,RI sh,RI st])])
      (fun k=>k ≤ st.length) (fun k=>st.length - k) 0 (Nat.zero_le _) ?_ ?_
    · (refine Sub.of_lists ?_ ?_ ?_ ?_ ?_<;>simp [Vw.mkS,Vw.lk,Vw.hk,AV.inn,innL,Asz,Apz,Avz,-List.map_set,-List.getD_eq_getElem?_getD,lowS,highS])
    · intro k hk
      by_cases hlt:k < st.length
      · have h1:=Fbz hg (k:=k) (by omega)
        have h2:=vSt_at hs (i:=k) (by omega)
        have h3:=mul_bd (x:=sh.getD k 0 - 1) (y:=st.getD k 0) (p:=60) (q:=60) (by omega) (by omega)
        have h4:=E7z hg hs k (by omega)
        have h5:k < sh.length:=by omega
        (repeat' (first
 | (first|refine Ajz ?_|refine Afz ?_)
 | ((first|refine Alz ?_|refine Azz (mid:=l91r3a) (post:=l91r3b) Brz (by decide) ?_|refine Aez ?_|refine Agz ?_|refine Ahz ?_);simp (disch:=omega) only [push_cast,seval,l91r0,l91r1,l91r2,l91r3a,l91r3b,l91r3,l91r4,l91r5,l91r6,l91r7,l91r8,l91r9,l91r10,l91r11])
 | ((first|refine Abz ?_ ?_|refine Adz ?_ ?_|refine Acz ?_ ?_)<;>intro h<;>(try simp only [h])<;>(try simp only [bitvec_to_nat] at h)<;>(try simp only [h])<;>(first|(exfalso;omega)|(exfalso;simp_all;done)|(simp (disch:=omega) only [push_cast,seval])|skip))
 | ((first|refine Amz false ?_|refine Aiz false ?_);simp (disch:=omega) only [push_cast,seval])
 | ((first|((first|refine call0D (BCall.ofP (vcount_ok _ _ _ _ _ _ ?_ ?_)) ?_|refine qcall0D (BCall.ofP (vcount_ok _ _ _ _ _ _ ?_ ?_)) ⟨_,_,rfl,rfl⟩ ?_);(iterate 2 (exact sd));rintro _ _ ⟨rfl,rfl⟩))<;>(try simp (disch:=omega) only [push_cast,seval]))
 | (refine Akz ⟨.inr rfl,_,rfl,?_⟩;(try simp (disch:=omega) only [push_cast,seval]))))
        refine ⟨k + 1,by omega,by omega,?_⟩
        (refine Sub.of_lists ?_ ?_ ?_ ?_ ?_<;>simp [Vw.mkS,Vw.lk,Vw.hk,AV.inn,innL,Asz,Apz,Avz,-List.map_set,-List.getD_eq_getElem?_getD,lowS,highS,Int.add_assoc])
      · (repeat' (first
 | (first|refine Ajz ?_|refine Afz ?_)
 | ((first|refine Alz ?_|refine Azz (mid:=l91r3a) (post:=l91r3b) Brz (by decide) ?_|refine Aez ?_|refine Agz ?_|refine Ahz ?_);simp (disch:=omega) only [push_cast,seval,l91r0,l91r1,l91r2,l91r3a,l91r3b,l91r3,l91r4,l91r5,l91r6,l91r7,l91r8,l91r9,l91r10,l91r11])
 | ((first|refine Abz ?_ ?_|refine Adz ?_ ?_|refine Acz ?_ ?_)<;>intro h<;>(try simp only [h])<;>(try simp only [bitvec_to_nat] at h)<;>(try simp only [h])<;>(first|(exfalso;omega)|(exfalso;simp_all;done)|(simp (disch:=omega) only [push_cast,seval])|skip))
 | ((first|refine Amz false ?_|refine Aiz false ?_);simp (disch:=omega) only [push_cast,seval])
 | ((first|((first|refine call0D (BCall.ofP (vcount_ok _ _ _ _ _ _ ?_ ?_)) ?_|refine qcall0D (BCall.ofP (vcount_ok _ _ _ _ _ _ ?_ ?_)) ⟨_,_,rfl,rfl⟩ ?_);(iterate 2 (exact sd));rintro _ _ ⟨rfl,rfl⟩))<;>(try simp (disch:=omega) only [push_cast,seval]))
 | (refine Akz ⟨.inr rfl,_,rfl,?_⟩;(try simp (disch:=omega) only [push_cast,seval]))))
        rw [← hle,show k=st.length by omega]

end Go.Proofs.YtahdlohpncjdbaaDoor
