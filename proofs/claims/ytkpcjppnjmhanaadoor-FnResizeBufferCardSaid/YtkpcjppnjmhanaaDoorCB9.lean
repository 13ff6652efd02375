/- Texts of this verifier. -/
import Derived.Test.YtkpcjppnjmhanaaDoorCB8
import Derived.Test.YtkpcjppnjmhanaaDoorCM1
import Derived.Test.YtkpcjppnjmhanaaDoorCW3
set_option maxHeartbeats 4000000
set_option linter.unusedSimpArgs false
set_option linter.unusedSectionVars false
set_option linter.unusedVariables false
set_option maxRecDepth 4000
namespace Go.Proofs.YtkpcjppnjmhanaaDoor
open VwM Vw Go
variable [SentA]

/-- The first cells,and zeros. -/
def rz (cs:List Int) (N i:Nat):List Int:=(List.range N).map fun j=>if j < i then cs.getD j 0 else 0
def zz (cs:List Int) (N:Nat):List Int:=(List.range N).map fun j=>cs.getD j 0
theorem rz_length (cs:List Int) (N i:Nat):(rz cs N i).length=N:=by simp [rz]
theorem Ftz (cs:List Int) (N:Nat):(zz cs N).length=N:=by simp [zz]
theorem rz_zero (cs:List Int) (N:Nat):rz cs N 0=List.replicate N 0:=by
  unfold rz
  apply List.ext_getElem?
  intro j
  rw [List.getElem?_map]
  by_cases h:j < N
  · rw [List.getElem?_range h,List.getElem?_replicate];simp [h]
  · rw [List.getElem?_eq_none (by simp;omega),List.getElem?_eq_none (by simp;omega)];rfl
theorem rz_set (cs:List Int) (N i:Nat):(rz cs N i).set i (cs.getD i 0)=rz cs N (i + 1):=by
  unfold rz
  apply List.ext_getElem?
  intro j
  rw [List.getElem?_set,List.getElem?_map,List.getElem?_map]
  by_cases h:j < N
  · rw [List.getElem?_range h]
    by_cases e:i=j
    · subst e;simp [h]
    · rw [if_neg e]
      simp only [Option.map_some]
      by_cases h2:j < i
      · rw [if_pos h2,if_pos (by omega)]
      · rw [if_neg h2,if_neg (by omega)]
  · rw [List.getElem?_eq_none (by simp;omega)]
    split
    · rename_i e;simp only [List.length_map,List.length_range];rw [if_neg (by omega)];first|done|rfl
    · rfl
theorem rz_done {cs:List Int} {N i:Nat} (h:N ≤ i ∨ cs.length ≤ i):rz cs N i=zz cs N:=by
  unfold rz zz
  refine List.map_congr_left fun j hj=>?_
  have hj:=List.mem_range.1 hj
  by_cases h2:j < i
  · rw [if_pos h2]
  · rw [if_neg h2,List.getD_eq_getElem?_getD,List.getElem?_eq_none (by omega)];rfl
theorem cpy_zz (cs:List Int) (N:Nat):setRange (IL (List.replicate N 0)) 0 ((IL cs).take (min cs.length N * 1))=IL (zz cs N):=by
  have e:IL (List.replicate N 0)=[] ++ (IL (List.replicate (min cs.length N) 0) ++ IL (List.replicate (N - min cs.length N) 0)):=by
    unfold IL
    rw [List.nil_append,← List.map_append,List.replicate_append_replicate]
    congr 2;omega
  have h:=Ilz ((IL cs).take (min cs.length N * 1)) [] (IL (List.replicate (min cs.length N) 0)) (IL (List.replicate (N - min cs.length N) 0)) (by unfold IL;simp)
  rw [e]
  refine h.trans ?_
  rw [List.nil_append]
  unfold IL
  rw [← List.map_take,← List.map_append]
  congr 1
  apply List.ext_getElem?
  intro j
  unfold zz
  by_cases hj:j < min cs.length N
  · rw [List.getElem?_append_left (by simp;omega),List.getElem?_take,if_pos (by omega),List.getElem?_map,List.getElem?_range (by omega),List.getElem?_eq_getElem (by omega)]
    simp only [Option.map_some,List.getD_eq_getElem?_getD]
    rw [List.getElem?_eq_getElem (by omega)];rfl
  · rw [List.getElem?_append_right (by simp;omega),List.getElem?_map,List.getElem?_replicate]
    have hl:(List.take (min cs.length N * 1) cs).length=min cs.length N:=by simp
    rw [hl]
    by_cases h2:j < N
    · rw [if_pos (by omega),List.getElem?_range h2]
      simp only [Option.map_some,List.getD_eq_getElem?_getD]
      rw [List.getElem?_eq_none (by omega)];rfl
    · rw [if_neg (by omega),List.getElem?_eq_none (by simp;omega),Option.map_none]
theorem Faz {es:List Ex}:∀ {k:Nat},opensT es k=[] ↔ ∀ i e,i < k → es[i]?=some e → ¬ e.2.2=true
  | 0=>by simp [opensT]
  | k + 1=>by
    constructor
    · intro h i e hi he
      cases hk:es[k]? with
 | none =>
        by_cases hik:i=k
        · subst hik;rw [hk] at he;cases he
        · simp only [opensT,hk] at h
          exact Faz.1 h i e (by omega) he
 | some f =>
        by_cases hf:f.2.2=true
        · rw [Iaz hk hf] at h;simp at h
        · rw [Hoz hk hf] at h
          by_cases hik:i=k
          · subst hik;rw [hk] at he;injection he with he;subst he;exact hf
          · exact Faz.1 h i e (by omega) he
    · intro h
      have ih:opensT es k=[]:=Faz.2 fun i e hi he=>h i e (by omega) he
      cases hk:es[k]? with
 | none=>simp only [opensT,hk];exact ih
 | some f=>rw [Hoz hk (h k f (by omega) hk)];exact ih
/-- With an open export one of them hangs on the buffer itself. -/
theorem open_root {cs:List Int} {es:List Ex} (h:vB cs es=true):(opensT es es.length).length=0 ↔ (kidsT es (-1) es.length).length=0:=by
  rw [List.length_eq_zero_iff,List.length_eq_zero_iff,Faz,Foz]
  constructor
  · intro h1 i e hi he hh
    exact h1 i e hi he hh.1
  · intro h1
    have hp:=(vB_8 h).2.2
    unfold vB at h
    simp only [Bool.and_eq_true,decide_eq_true_eq] at h
    have ha:=(Dqz (f:=sxV cs.length es)).1 h.2
    intro i
    induction i using Nat.strongRecOn with
    | ind i ih =>
      intro e hi he ho
      have h2:=ha i e hi he
      unfold sxV at h2
      rw [ho] at h2
      simp only [Bool.and_eq_true,Bool.not_true,Bool.false_or,Bool.or_eq_true,decide_eq_true_eq] at h2
      have hpe:=hp i e he
      rcases h2.2 with hx|hx
      · exact h1 i e hi he ⟨ho,by omega⟩
      · obtain ⟨q,hq⟩:∃ q:Nat,e.1=q ∨ e.1=-1:=⟨e.1.toNat,by omega⟩
        rcases hq with hq|hq
        · unfold opE at hx
          rw [hq,Int.toNat_natCast] at hx
          have hql:q < i:=by omega
          cases hf:es[q]? with
          | none=>rw [hf] at hx;cases hx
          | some f =>
            rw [hf] at hx
            exact ih q hql f (by omega) hf hx
        · exact h1 i e hi he ⟨ho,hq⟩
def rzG (cs:List Int) (es:List Ex) (s:Int):Bool:=(vB cs es && (decide (0 ≤ s) && decide (s ≤ 60))) && decide ((opensT es es.length).length=0)


set_option maxHeartbeats 8000000 in
theorem sRz_ok (cs:List Int) (es:List Ex) (m n:Nat) (s:Int) (hm:cs.length=m) (hn:es.length=n) (hb:m ≤ 1099511627776 ∧ n ≤ 1099511627776 ∧ exB 1099511627776 es) :
    BCall Tryd.prog 22 [.agg [.rows false (IL cs) m,.rows false (EL false es) n],.int .i64 s] [] (OBs (rzG cs es s) (ifB (rzG cs es s) (zz cs s.toNat)) (ifB (rzG cs es s) es)):=by
  subst hm hn
  have hb0:=hb
  obtain ⟨hb1,hb2,hb3⟩:=hb
  have hel:=A4z false es
  refine A3z (pins:=[]) (pin:=0) l22_eq rfl rfl rfl ?_
  unfold rzG
  cases hv:vB cs es with
  | false =>
    simp only [Bool.false_and,Bgz]
    (repeat' (first
 | (first|refine Apz ?_|refine Aiz ?_)
 | ((first|refine Aqz ?_|refine Asz (mid:=l22r7a) (post:=l22r7b) Axz (by decide) ?_|refine Ahz ?_|refine Ajz ?_|refine Akz ?_);simp (disch:=omega) only [push_cast,seval,l22r0,l22r1,l22r2,l22r3,l22r4,l22r5,l22r6,l22r7a,l22r7b,l22r7,l22r8,l22r9,hv,hel,Aaz])
 | ((first|refine Acz ?_ ?_|refine Agz ?_ ?_|refine Afz ?_ ?_)<;>intro h<;>(try simp only [h])<;>(try simp only [bitvec_to_nat] at h)<;>(try simp only [h])<;>(first|(exfalso;omega)|(exfalso;simp_all;done)|(simp (disch:=omega) only [push_cast,seval,hv,hel,Aaz])|skip))
 | ((first|refine Arz false ?_|refine Anz false ?_);simp (disch:=omega) only [push_cast,seval,hv,hel,Aaz])
 | ((first|((first|refine Adz (Aez (A7z _ _ _ _ ?_ ?_ ?_)) ?_|refine Abz (Aez (A7z _ _ _ _ ?_ ?_ ?_)) ⟨_,_,rfl,rfl⟩ ?_);(iterate 3 (exact sd));rintro _ _ ⟨rfl,rfl⟩)|((first|refine Adz (Aez (Auz _ _ _)) ?_|refine Abz (Aez (Auz _ _ _)) ⟨_,_,rfl,rfl⟩ ?_);rintro _ _ ⟨rfl,rfl⟩)|((first|refine Adz (Cyz _ _ _ _ ?_ ?_ ?_) ?_|refine Abz (Cyz _ _ _ _ ?_ ?_ ?_) ⟨_,_,rfl,rfl⟩ ?_);(iterate 3 (exact sd));rintro _ _ ⟨rfl,rfl⟩)|((first|refine Adz (Bvz _ _ _ _ ?_ ?_ ?_) ?_|refine Abz (Bvz _ _ _ _ ?_ ?_ ?_) ⟨_,_,rfl,rfl⟩ ?_);(iterate 3 (exact sd));rintro _ _ ⟨rfl,rfl⟩))<;>(try simp (disch:=omega) only [push_cast,seval,hv,hel,Aaz]))
 | (refine Amz ⟨.inr rfl,[16000,16001],[(16000,1),(16001,5)],_,by decide,rfl,?_⟩;(try simp (disch:=omega) only [push_cast,seval,↓Aoz,↓Alz,↓List.map_cons,↓List.map_nil,hv,hel,Aaz]))))
    all_goals simp [OBs,EL]
  | true =>
    obtain ⟨v1,v2,v3⟩:=vB_8 hv
    simp only [Bool.true_and]
    cases hr:(decide (0 ≤ s) && decide (s ≤ 60)) with
    | false =>
      simp only [Bool.false_and,Bgz]
      (repeat' (first
 | (first|refine Apz ?_|refine Aiz ?_)
 | ((first|refine Aqz ?_|refine Asz (mid:=l22r7a) (post:=l22r7b) Axz (by decide) ?_|refine Ahz ?_|refine Ajz ?_|refine Akz ?_);simp (disch:=omega) only [push_cast,seval,l22r0,l22r1,l22r2,l22r3,l22r4,l22r5,l22r6,l22r7a,l22r7b,l22r7,l22r8,l22r9,hv,hr,hel,Aaz])
 | ((first|refine Acz ?_ ?_|refine Agz ?_ ?_|refine Afz ?_ ?_)<;>intro h<;>(try simp only [h])<;>(try simp only [bitvec_to_nat] at h)<;>(try simp only [h])<;>(first|(exfalso;omega)|(exfalso;simp_all;done)|(simp (disch:=omega) only [push_cast,seval,hv,hr,hel,Aaz])|skip))
 | ((first|refine Arz false ?_|refine Anz false ?_);simp (disch:=omega) only [push_cast,seval,hv,hr,hel,Aaz])
 | ((first|((first|refine Adz (Aez (A7z _ _ _ _ ?_ ?_ ?_)) ?_|refine Abz (Aez (A7z _ _ _ _ ?_ ?_ ?_)) ⟨_,_,rfl,rfl⟩ ?_);(iterate 3 (exact sd));rintro _ _ ⟨rfl,rfl⟩)|((first|refine Adz (Aez (Auz _ _ _)) ?_|refine Abz (Aez (Auz _ _ _)) ⟨_,_,rfl,rfl⟩ ?_);rintro _ _ ⟨rfl,rfl⟩)|((first|refine Adz (Cyz _ _ _ _ ?_ ?_ ?_) ?_|refine Abz (Cyz _ _ _ _ ?_ ?_ ?_) ⟨_,_,rfl,rfl⟩ ?_);(iterate 3 (exact sd));rintro _ _ ⟨rfl,rfl⟩)|((first|refine Adz (Bvz _ _ _ _ ?_ ?_ ?_) ?_|refine Abz (Bvz _ _ _ _ ?_ ?_ ?_) ⟨_,_,rfl,rfl⟩ ?_);(iterate 3 (exact sd));rintro _ _ ⟨rfl,rfl⟩))<;>(try simp (disch:=omega) only [push_cast,seval,hv,hr,hel,Aaz]))
 | (refine Amz ⟨.inr rfl,[16000,16001],[(16000,1),(16001,5)],_,by decide,rfl,?_⟩;(try simp (disch:=omega) only [push_cast,seval,↓Aoz,↓Alz,↓List.map_cons,↓List.map_nil,hv,hr,hel,Aaz]))))
      all_goals simp [OBs,EL]
    | true =>
      simp only [Bool.true_and]
      have hr2:=hr
      rw [Bool.and_eq_true,decide_eq_true_eq,decide_eq_true_eq] at hr2
      have hop:opensA cs es=opensT es es.length:=by unfold opensA;rw [if_pos hv]
      generalize hK:opensT es es.length=K at *
      by_cases hk0:K.length=0
      · rw [decide_eq_true hk0]
        obtain ⟨N,rfl⟩:∃ N:Nat,s=N:=⟨s.toNat,by omega⟩
        simp only [Cbz,Int.toNat_natCast]
        (repeat' (first
 | (first|refine Apz ?_|refine Aiz ?_)
 | ((first|refine Aqz ?_|refine Asz (mid:=l22r7a) (post:=l22r7b) Axz (by decide) ?_|refine Ahz ?_|refine Ajz ?_|refine Akz ?_);simp (disch:=omega) only [push_cast,seval,l22r0,l22r1,l22r2,l22r3,l22r4,l22r5,l22r6,l22r7a,l22r7b,l22r7,l22r8,l22r9,hv,hr,hop,hk0,hel,Aaz])
 | ((first|refine Acz ?_ ?_|refine Agz ?_ ?_|refine Afz ?_ ?_)<;>intro h<;>(try simp only [h])<;>(try simp only [bitvec_to_nat] at h)<;>(try simp only [h])<;>(first|(exfalso;omega)|(exfalso;simp_all;done)|(simp (disch:=omega) only [push_cast,seval,hv,hr,hop,hk0,hel,Aaz])|skip))
 | ((first|refine Arz false ?_|refine Anz false ?_);simp (disch:=omega) only [push_cast,seval,hv,hr,hop,hk0,hel,Aaz])
 | ((first|((first|refine Adz (Aez (A7z _ _ _ _ ?_ ?_ ?_)) ?_|refine Abz (Aez (A7z _ _ _ _ ?_ ?_ ?_)) ⟨_,_,rfl,rfl⟩ ?_);(iterate 3 (exact sd));rintro _ _ ⟨rfl,rfl⟩)|((first|refine Adz (Aez (Auz _ _ _)) ?_|refine Abz (Aez (Auz _ _ _)) ⟨_,_,rfl,rfl⟩ ?_);rintro _ _ ⟨rfl,rfl⟩)|((first|refine Adz (Cyz _ _ _ _ ?_ ?_ ?_) ?_|refine Abz (Cyz _ _ _ _ ?_ ?_ ?_) ⟨_,_,rfl,rfl⟩ ?_);(iterate 3 (exact sd));rintro _ _ ⟨rfl,rfl⟩)|((first|refine Adz (Bvz _ _ _ _ ?_ ?_ ?_) ?_|refine Abz (Bvz _ _ _ _ ?_ ?_ ?_) ⟨_,_,rfl,rfl⟩ ?_);(iterate 3 (exact sd));rintro _ _ ⟨rfl,rfl⟩))<;>(try simp (disch:=omega) only [push_cast,seval,hv,hr,hop,hk0,hel,Aaz]))))
        refine D7z (fun i:Nat=>mkS [(1,.int .i64 N),(2,.ref 32 2 0),(4,.ref 64 2 0),(6,.ref 96 2 0),(7,.int .i64 i)] [(32,[.rows false (IL cs) cs.length,.rows false (EL false es) es.length]),(64,[.val (.slice none 0 0),.val (.slice none 0 0)]),(96,[.own 416 N 1,.own 385 es.length 5]),(385,EL true es),(416,IL (rz cs N i))]) (fun i=>i ≤ N ∧ i ≤ cs.length) (fun i=>N - i) 0 ⟨Nat.zero_le _,Nat.zero_le _⟩ ?_ ?_
        · refine SubW.of ?_
          rw [rz_zero]
          (refine Sub.of_lists ?_ ?_ ?_ ?_ ?_<;>simp [Vw.mkS,Vw.lk,Vw.hk,AV.inn,innL,Awz,Atz,Ayz,-List.map_set,-List.getD_eq_getElem?_getD,Aaz])
        · rintro i ⟨hi,hi2⟩
          have hrl:=rz_length cs N i
          by_cases hlt:i < N ∧ i < cs.length
          · have hrs:=rz_set cs N i
            have hrs2:(IL (rz cs N i)).set i (.int .i64 (cs.getD i 0))=IL (rz cs N (i + 1)):=by rw [← hrs];unfold IL;rw [List.map_set]
            obtain ⟨l1,l2⟩:=hlt
            (repeat' (first
 | (first|refine Apz ?_|refine Aiz ?_)
 | ((first|refine Aqz ?_|refine Asz (mid:=l22r7a) (post:=l22r7b) Axz (by decide) ?_|refine Ahz ?_|refine Ajz ?_|refine Akz ?_);simp (disch:=omega) only [push_cast,seval,l22r0,l22r1,l22r2,l22r3,l22r4,l22r5,l22r6,l22r7a,l22r7b,l22r7,l22r8,l22r9,hel,hrl,hrs2,Aaz])
 | ((first|refine Acz ?_ ?_|refine Agz ?_ ?_|refine Afz ?_ ?_)<;>intro h<;>(try simp only [h])<;>(try simp only [bitvec_to_nat] at h)<;>(try simp only [h])<;>(first|(exfalso;omega)|(exfalso;simp_all;done)|(simp (disch:=omega) only [push_cast,seval,hel,hrl,hrs2,Aaz])|skip))
 | ((first|refine Arz false ?_|refine Anz false ?_);simp (disch:=omega) only [push_cast,seval,hel,hrl,hrs2,Aaz])
 | ((first | ((first | refine Adz (Aez (A7z _ _ _ _ ?_ ?_ ?_)) ?_ | refine Abz (Aez (A7z _ _ _ _ ?_ ?_ ?_)) ⟨_,_,rfl,rfl⟩ ?_); (iterate 3 (exact sd)); rintro _ _ ⟨rfl,rfl⟩) | ((first | refine Adz (Aez (Auz _ _ _)) ?_ | refine Abz (Aez (Auz _ _ _)) ⟨_,_,rfl,rfl⟩ ?_); rintro _ _ ⟨rfl,rfl⟩) | ((first | refine Adz (Cyz _ _ _ _ ?_ ?_ ?_) ?_ | refine Abz (Cyz _ _ _ _ ?_ ?_ ?_) ⟨_,_,rfl,rfl⟩ ?_); (iterate 3 (exact sd)); rintro _ _ ⟨rfl,rfl⟩) | ((first | refine Adz (Bvz _ _ _ _ ?_ ?_ ?_) ?_ | refine Abz (Bvz _ _ _ _ ?_ ?_ ?_) ⟨_,_,rfl,rfl⟩ ?_); (iterate 3 (exact sd)); rintro _ _ ⟨rfl,rfl⟩)) <;> (try simp (disch := omega) only [push_cast,seval,hel,hrl,hrs2,Aaz]))))
            refine ⟨i + 1,⟨by omega,by omega⟩,by omega,SubW.of ?_⟩
            (refine Sub.of_lists ?_ ?_ ?_ ?_ ?_<;>simp [Vw.mkS,Vw.lk,Vw.hk,AV.inn,innL,Awz,Atz,Ayz,-List.map_set,-List.getD_eq_getElem?_getD,Aaz])
          · have hd:rz cs N i=zz cs N:=rz_done (by omega)
            (repeat' (first
 | (first|refine Apz ?_|refine Aiz ?_)
 | ((first|refine Aqz ?_|refine Asz (mid:=l22r7a) (post:=l22r7b) Axz (by decide) ?_|refine Ahz ?_|refine Ajz ?_|refine Akz ?_);simp (disch:=omega) only [push_cast,seval,l22r0,l22r1,l22r2,l22r3,l22r4,l22r5,l22r6,l22r7a,l22r7b,l22r7,l22r8,l22r9,hel,hd,Aaz])
 | ((first|refine Acz ?_ ?_|refine Agz ?_ ?_|refine Afz ?_ ?_)<;>intro h<;>(try simp only [h])<;>(try simp only [bitvec_to_nat] at h)<;>(try simp only [h])<;>(first|(exfalso;omega)|(exfalso;simp_all;done)|(simp (disch:=omega) only [push_cast,seval,hel,hd,Aaz])|skip))
 | ((first|refine Arz false ?_|refine Anz false ?_);simp (disch:=omega) only [push_cast,seval,hel,hd,Aaz])
 | ((first|((first|refine Adz (Aez (A7z _ _ _ _ ?_ ?_ ?_)) ?_|refine Abz (Aez (A7z _ _ _ _ ?_ ?_ ?_)) ⟨_,_,rfl,rfl⟩ ?_);(iterate 3 (exact sd));rintro _ _ ⟨rfl,rfl⟩)|((first|refine Adz (Aez (Auz _ _ _)) ?_|refine Abz (Aez (Auz _ _ _)) ⟨_,_,rfl,rfl⟩ ?_);rintro _ _ ⟨rfl,rfl⟩)|((first|refine Adz (Cyz _ _ _ _ ?_ ?_ ?_) ?_|refine Abz (Cyz _ _ _ _ ?_ ?_ ?_) ⟨_,_,rfl,rfl⟩ ?_);(iterate 3 (exact sd));rintro _ _ ⟨rfl,rfl⟩)|((first|refine Adz (Bvz _ _ _ _ ?_ ?_ ?_) ?_|refine Abz (Bvz _ _ _ _ ?_ ?_ ?_) ⟨_,_,rfl,rfl⟩ ?_);(iterate 3 (exact sd));rintro _ _ ⟨rfl,rfl⟩))<;>(try simp (disch:=omega) only [push_cast,seval,hel,hd,Aaz]))
 | (refine Amz ⟨.inr rfl,[416,385],[],_,by decide,rfl,?_⟩; (try simp (disch := omega) only [push_cast,seval,↓Aoz,↓Alz,↓List.map_cons,↓List.map_nil,hel,hd,Aaz]))))
            all_goals simp [OBs,Ftz]
      · rw [decide_eq_false hk0]
        simp only [Bgz]
        (repeat' (first
 | (first|refine Apz ?_|refine Aiz ?_)
 | ((first|refine Aqz ?_|refine Asz (mid:=l22r7a) (post:=l22r7b) Axz (by decide) ?_|refine Ahz ?_|refine Ajz ?_|refine Akz ?_);simp (disch:=omega) only [push_cast,seval,l22r0,l22r1,l22r2,l22r3,l22r4,l22r5,l22r6,l22r7a,l22r7b,l22r7,l22r8,l22r9,hv,hr,hop,hk0,hel,Aaz])
 | ((first|refine Acz ?_ ?_|refine Agz ?_ ?_|refine Afz ?_ ?_)<;>intro h<;>(try simp only [h])<;>(try simp only [bitvec_to_nat] at h)<;>(try simp only [h])<;>(first|(exfalso;omega)|(exfalso;simp_all;done)|(simp (disch:=omega) only [push_cast,seval,hv,hr,hop,hk0,hel,Aaz])|skip))
 | ((first|refine Arz false ?_|refine Anz false ?_);simp (disch:=omega) only [push_cast,seval,hv,hr,hop,hk0,hel,Aaz])
 | ((first|((first|refine Adz (Aez (A7z _ _ _ _ ?_ ?_ ?_)) ?_|refine Abz (Aez (A7z _ _ _ _ ?_ ?_ ?_)) ⟨_,_,rfl,rfl⟩ ?_);(iterate 3 (exact sd));rintro _ _ ⟨rfl,rfl⟩)|((first|refine Adz (Aez (Auz _ _ _)) ?_|refine Abz (Aez (Auz _ _ _)) ⟨_,_,rfl,rfl⟩ ?_);rintro _ _ ⟨rfl,rfl⟩)|((first|refine Adz (Cyz _ _ _ _ ?_ ?_ ?_) ?_|refine Abz (Cyz _ _ _ _ ?_ ?_ ?_) ⟨_,_,rfl,rfl⟩ ?_);(iterate 3 (exact sd));rintro _ _ ⟨rfl,rfl⟩)|((first|refine Adz (Bvz _ _ _ _ ?_ ?_ ?_) ?_|refine Abz (Bvz _ _ _ _ ?_ ?_ ?_) ⟨_,_,rfl,rfl⟩ ?_);(iterate 3 (exact sd));rintro _ _ ⟨rfl,rfl⟩))<;>(try simp (disch:=omega) only [push_cast,seval,hv,hr,hop,hk0,hel,Aaz]))
 | (refine Amz ⟨.inr rfl,[16000,16001],[(16000,1),(16001,5)],_,by decide,rfl,?_⟩;(try simp (disch:=omega) only [push_cast,seval,↓Aoz,↓Alz,↓List.map_cons,↓List.map_nil,hv,hr,hop,hk0,hel,Aaz]))))
        all_goals simp [OBs,EL]


set_option maxHeartbeats 8000000 in
theorem iRz_ok (cs:List Int) (es:List Ex) (m n:Nat) (s:Int) (hm:cs.length=m) (hn:es.length=n) (hb:m ≤ 1048576 ∧ n ≤ 1048576 ∧ exB 1048576 es) :
    BCall Tryd.prog 20 [.agg [.rows false (IL cs) m,.rows false (EL false es) n],.int .i64 s] [] (OBf (rzG cs es s) (ifB (rzG cs es s) (zz cs s.toNat)) (ifB (rzG cs es s) es)):=by
  subst hm hn
  have hb0:=hb
  obtain ⟨hb1,hb2,hb3⟩:=hb
  have hq8:cs.length ≤ 1099511627776 ∧ es.length ≤ 1099511627776 ∧ exB 1099511627776 es:=⟨by omega,by omega,fun e he=>by have:=hb3 e he;omega⟩
  have hel:=A4z false es
  refine A3z (pins:=[]) (pin:=0) l20_eq rfl rfl rfl ?_
  unfold rzG
  cases hv:vB cs es with
  | false =>
    simp only [Bool.false_and,Bgz]
    (repeat' (first
 | (first|refine Apz ?_|refine Aiz ?_)
 | ((first|refine Aqz ?_|refine Asz (mid:=l20r1a) (post:=l20r1b) Axz (by decide) ?_|refine Ahz ?_|refine Ajz ?_|refine Akz ?_);simp (disch:=omega) only [push_cast,seval,l20r0,l20r1a,l20r1b,l20r1,l20r2,l20r3,l20r4,l20r5,hv,hel,Aaz])
 | ((first|refine Acz ?_ ?_|refine Agz ?_ ?_|refine Afz ?_ ?_)<;>intro h<;>(try simp only [h])<;>(try simp only [bitvec_to_nat] at h)<;>(try simp only [h])<;>(first|(exfalso;omega)|(exfalso;simp_all;done)|(simp (disch:=omega) only [push_cast,seval,hv,hel,Aaz])|skip))
 | ((first|((with_reducible refine Evz (f:=39) ?_);simp (disch:=omega) only [push_cast,seval,hv,hel,Aaz];(refine Lwz (by intro _ _;first|rfl|((simp (disch:=omega) only [push_cast,seval,hv,hel,Aaz]);done)|((simp (disch:=omega) only [push_cast,seval,hv,hel,Aaz]);rfl)) (Iyz _ _ _ _ _ _ ?_ ?_ ?_ ?_) rfl (by (simp (disch:=omega) only [push_cast,seval,hv,hel,Aaz])<;>rfl) (by (simp (disch:=omega) only [push_cast,seval,hv,hel,Aaz]);done) (by omega) ?_;(iterate 4 (exact sd)))))<;>(try simp (disch:=omega) only [push_cast,seval,hv,hel,Aaz]))
 | ((first|refine Arz false ?_|refine Anz false ?_);simp (disch:=omega) only [push_cast,seval,hv,hel,Aaz])
 | ((first|((first|refine Adz (Aez (B8z _ _ _ _ ?_ ?_ ?_)) ?_|refine Abz (Aez (B8z _ _ _ _ ?_ ?_ ?_)) ⟨_,_,rfl,rfl⟩ ?_);(iterate 3 (exact sd));rintro _ _ ⟨rfl,rfl⟩)|((first|refine Adz (Aez (Btz _)) ?_|refine Abz (Aez (Btz _)) ⟨_,_,rfl,rfl⟩ ?_);rintro _ _ ⟨rfl,rfl⟩)|((first|refine Adz (Aez (Bmz _ _ _ _ _ ?_ ?_ ?_ ?_ ?_)) ?_|refine Abz (Aez (Bmz _ _ _ _ _ ?_ ?_ ?_ ?_ ?_)) ⟨_,_,rfl,rfl⟩ ?_);(iterate 5 (exact sd));rintro _ _ ⟨rfl,rfl⟩)|((first|refine Adz (Aez (B2z _ _ ?_ ?_)) ?_|refine Abz (Aez (B2z _ _ ?_ ?_)) ⟨_,_,rfl,rfl⟩ ?_);(iterate 2 (exact sd));rintro _ _ ⟨rfl,rfl⟩)|((first|refine Adz (Aez (Bcz _)) ?_|refine Abz (Aez (Bcz _)) ⟨_,_,rfl,rfl⟩ ?_);rintro _ _ ⟨rfl,rfl⟩)|((first|refine Adz (Diz _ _ _ _ ?_ ?_) ?_|refine Abz (Diz _ _ _ _ ?_ ?_) ⟨_,_,rfl,rfl⟩ ?_);(iterate 2 (exact sd));rintro _ _ ⟨rfl,rfl⟩))<;>(try simp (disch:=omega) only [push_cast,seval,hv,hel,Aaz]))
 | (refine Amz ⟨.inr rfl,[16000,16001],[(16000,1),(16001,5)],_,by decide,rfl,?_⟩;(try simp (disch:=omega) only [push_cast,seval,↓Aoz,↓Alz,↓List.map_cons,↓List.map_nil,hv,hel,Aaz]))))
    all_goals simp [OBf,mkE_nil]
  | true =>
    obtain ⟨v1,v2,v3⟩:=vB_8 hv
    simp only [Bool.true_and]
    cases hr:(decide (0 ≤ s) && decide (s ≤ 60)) with
    | false =>
      simp only [Bool.false_and,Bgz]
      (repeat' (first
 | (first|refine Apz ?_|refine Aiz ?_)
 | ((first|refine Aqz ?_|refine Asz (mid:=l20r1a) (post:=l20r1b) Axz (by decide) ?_|refine Ahz ?_|refine Ajz ?_|refine Akz ?_);simp (disch:=omega) only [push_cast,seval,l20r0,l20r1a,l20r1b,l20r1,l20r2,l20r3,l20r4,l20r5,hv,hr,hel,Aaz])
 | ((first|refine Acz ?_ ?_|refine Agz ?_ ?_|refine Afz ?_ ?_)<;>intro h<;>(try simp only [h])<;>(try simp only [bitvec_to_nat] at h)<;>(try simp only [h])<;>(first|(exfalso;omega)|(exfalso;simp_all;done)|(simp (disch:=omega) only [push_cast,seval,hv,hr,hel,Aaz])|skip))
 | ((first|((with_reducible refine Evz (f:=39) ?_);simp (disch:=omega) only [push_cast,seval,hv,hr,hel,Aaz];(refine Lwz (by intro _ _;first|rfl|((simp (disch:=omega) only [push_cast,seval,hv,hr,hel,Aaz]);done)|((simp (disch:=omega) only [push_cast,seval,hv,hr,hel,Aaz]);rfl)) (Iyz _ _ _ _ _ _ ?_ ?_ ?_ ?_) rfl (by (simp (disch:=omega) only [push_cast,seval,hv,hr,hel,Aaz])<;>rfl) (by (simp (disch:=omega) only [push_cast,seval,hv,hr,hel,Aaz]);done) (by omega) ?_;(iterate 4 (exact sd)))))<;>(try simp (disch:=omega) only [push_cast,seval,hv,hr,hel,Aaz]))
 | ((first|refine Arz false ?_|refine Anz false ?_);simp (disch:=omega) only [push_cast,seval,hv,hr,hel,Aaz])
 | ((first|((first|refine Adz (Aez (B8z _ _ _ _ ?_ ?_ ?_)) ?_|refine Abz (Aez (B8z _ _ _ _ ?_ ?_ ?_)) ⟨_,_,rfl,rfl⟩ ?_);(iterate 3 (exact sd));rintro _ _ ⟨rfl,rfl⟩)|((first|refine Adz (Aez (Btz _)) ?_|refine Abz (Aez (Btz _)) ⟨_,_,rfl,rfl⟩ ?_);rintro _ _ ⟨rfl,rfl⟩)|((first|refine Adz (Aez (Bmz _ _ _ _ _ ?_ ?_ ?_ ?_ ?_)) ?_|refine Abz (Aez (Bmz _ _ _ _ _ ?_ ?_ ?_ ?_ ?_)) ⟨_,_,rfl,rfl⟩ ?_);(iterate 5 (exact sd));rintro _ _ ⟨rfl,rfl⟩)|((first|refine Adz (Aez (B2z _ _ ?_ ?_)) ?_|refine Abz (Aez (B2z _ _ ?_ ?_)) ⟨_,_,rfl,rfl⟩ ?_);(iterate 2 (exact sd));rintro _ _ ⟨rfl,rfl⟩)|((first|refine Adz (Aez (Bcz _)) ?_|refine Abz (Aez (Bcz _)) ⟨_,_,rfl,rfl⟩ ?_);rintro _ _ ⟨rfl,rfl⟩)|((first|refine Adz (Diz _ _ _ _ ?_ ?_) ?_|refine Abz (Diz _ _ _ _ ?_ ?_) ⟨_,_,rfl,rfl⟩ ?_);(iterate 2 (exact sd));rintro _ _ ⟨rfl,rfl⟩))<;>(try simp (disch:=omega) only [push_cast,seval,hv,hr,hel,Aaz]))
 | (refine Amz ⟨.inr rfl,[16000,16001],[(16000,1),(16001,5)],_,by decide,rfl,?_⟩;(try simp (disch:=omega) only [push_cast,seval,↓Aoz,↓Alz,↓List.map_cons,↓List.map_nil,hv,hr,hel,Aaz]))))
      all_goals simp [OBf,mkE_nil]
    | true =>
      simp only [Bool.true_and]
      have hr2:=hr
      rw [Bool.and_eq_true,decide_eq_true_eq,decide_eq_true_eq] at hr2
      have hroot:=open_root hv
      have hid:-1 ≤ (-1:Int) ∧ (-1:Int) < es.length:=by omega
      have hkl:=Fcz es (-1) es.length
      generalize opensT es es.length=K at *
      generalize hK:kidsT es (-1) es.length=L at *
      by_cases hk0:K.length=0
      · have hl0:=hroot.1 hk0
        rw [decide_eq_true hk0]
        obtain ⟨N,rfl⟩:∃ N:Nat,s=N:=⟨s.toNat,by omega⟩
        simp only [Cbz,Int.toNat_natCast]
        have hcz:=cpy_zz cs N
        rw [Nat.mul_one,show IL (List.replicate N 0)=List.replicate N (AV.int .i64 0) by unfold IL;simp] at hcz
        have hzl:=Ftz cs N
        (repeat' (first
 | (first|refine Apz ?_|refine Aiz ?_)
 | ((first|refine Aqz ?_|refine Asz (mid:=l20r1a) (post:=l20r1b) Axz (by decide) ?_|refine Ahz ?_|refine Ajz ?_|refine Akz ?_);simp (disch:=omega) only [push_cast,seval,l20r0,l20r1a,l20r1b,l20r1,l20r2,l20r3,l20r4,l20r5,hv,hr,hK,hl0,hel,hcz,Aaz,Clz,Buz,Nat.lt_irrefl,decide_false])
 | ((first|refine Acz ?_ ?_|refine Agz ?_ ?_|refine Afz ?_ ?_)<;>intro h<;>(try simp only [h])<;>(try simp only [bitvec_to_nat] at h)<;>(try simp only [h])<;>(first|(exfalso;omega)|(exfalso;simp_all;done)|(simp (disch:=omega) only [push_cast,seval,hv,hr,hK,hl0,hel,hcz,Aaz,Clz,Buz,Nat.lt_irrefl,decide_false])|skip))
 | ((first|((with_reducible refine Evz (f:=39) ?_);simp (disch:=omega) only [push_cast,seval,hv,hr,hK,hl0,hel,hcz,Aaz,Clz,Buz,Nat.lt_irrefl,decide_false];(refine Lwz (by intro _ _;first|rfl|((simp (disch:=omega) only [push_cast,seval,hv,hr,hK,hl0,hel,hcz,Aaz,Clz,Buz,Nat.lt_irrefl,decide_false]);done)|((simp (disch:=omega) only [push_cast,seval,hv,hr,hK,hl0,hel,hcz,Aaz,Clz,Buz,Nat.lt_irrefl,decide_false]);rfl)) (Iyz _ _ _ _ _ _ ?_ ?_ ?_ ?_) rfl (by (simp (disch:=omega) only [push_cast,seval,hv,hr,hK,hl0,hel,hcz,Aaz,Clz,Buz,Nat.lt_irrefl,decide_false])<;>rfl) (by (simp (disch:=omega) only [push_cast,seval,hv,hr,hK,hl0,hel,hcz,Aaz,Clz,Buz,Nat.lt_irrefl,decide_false]);done) (by omega) ?_;(iterate 4 (exact sd)))))<;>(try simp (disch:=omega) only [push_cast,seval,hv,hr,hK,hl0,hel,hcz,Aaz,Clz,Buz,Nat.lt_irrefl,decide_false]))
 | ((first|refine Arz false ?_|refine Anz false ?_);simp (disch:=omega) only [push_cast,seval,hv,hr,hK,hl0,hel,hcz,Aaz,Clz,Buz,Nat.lt_irrefl,decide_false])
 | ((first|((first|refine Adz (Aez (B8z _ _ _ _ ?_ ?_ ?_)) ?_|refine Abz (Aez (B8z _ _ _ _ ?_ ?_ ?_)) ⟨_,_,rfl,rfl⟩ ?_);(iterate 3 (exact sd));rintro _ _ ⟨rfl,rfl⟩)|((first|refine Adz (Aez (Btz _)) ?_|refine Abz (Aez (Btz _)) ⟨_,_,rfl,rfl⟩ ?_);rintro _ _ ⟨rfl,rfl⟩)|((first|refine Adz (Aez (Bmz _ _ _ _ _ ?_ ?_ ?_ ?_ ?_)) ?_|refine Abz (Aez (Bmz _ _ _ _ _ ?_ ?_ ?_ ?_ ?_)) ⟨_,_,rfl,rfl⟩ ?_);(iterate 5 (exact sd));rintro _ _ ⟨rfl,rfl⟩)|((first|refine Adz (Aez (B2z _ _ ?_ ?_)) ?_|refine Abz (Aez (B2z _ _ ?_ ?_)) ⟨_,_,rfl,rfl⟩ ?_);(iterate 2 (exact sd));rintro _ _ ⟨rfl,rfl⟩)|((first|refine Adz (Aez (Bcz _)) ?_|refine Abz (Aez (Bcz _)) ⟨_,_,rfl,rfl⟩ ?_);rintro _ _ ⟨rfl,rfl⟩)|((first|refine Adz (Diz _ _ _ _ ?_ ?_) ?_|refine Abz (Diz _ _ _ _ ?_ ?_) ⟨_,_,rfl,rfl⟩ ?_);(iterate 2 (exact sd));rintro _ _ ⟨rfl,rfl⟩))<;>(try simp (disch:=omega) only [push_cast,seval,hv,hr,hK,hl0,hel,hcz,Aaz,Clz,Buz,Nat.lt_irrefl,decide_false]))))
        refine Amz ⟨.inr rfl,?_⟩
        simp only [OBf,hzl]
        refine ret_famW (id0:=384) (id1:=496) (d:=31) (F:=esF es) (cs:=zz cs N) (bufT N es.length true) rfl rfl (fun _ _ _ _ e0 e1=>ren_bufT e0 e1) rfl rfl (fun j hj=>?_) (by omega)
        simp only [hk,A2z _ _ 64 (by omega),A2z _ _ 384 (by omega),A2z _ _ 496 (by omega),if_false]
        exact D5z 31 (esF es) _ j hj
      · have hl0:0 < L.length:=by have:=mt hroot.2 hk0;omega
        rw [decide_eq_false hk0]
        simp only [Bgz]
        (repeat' (first
 | (first|refine Apz ?_|refine Aiz ?_)
 | ((first|refine Aqz ?_|refine Asz (mid:=l20r1a) (post:=l20r1b) Axz (by decide) ?_|refine Ahz ?_|refine Ajz ?_|refine Akz ?_);simp (disch:=omega) only [push_cast,seval,l20r0,l20r1a,l20r1b,l20r1,l20r2,l20r3,l20r4,l20r5,hv,hr,hK,hl0,hel,Aaz,Clz,Buz,decide_true])
 | ((first|refine Acz ?_ ?_|refine Agz ?_ ?_|refine Afz ?_ ?_)<;>intro h<;>(try simp only [h])<;>(try simp only [bitvec_to_nat] at h)<;>(try simp only [h])<;>(first|(exfalso;omega)|(exfalso;simp_all;done)|(simp (disch:=omega) only [push_cast,seval,hv,hr,hK,hl0,hel,Aaz,Clz,Buz,decide_true])|skip))
 | ((first|((with_reducible refine Evz (f:=39) ?_);simp (disch:=omega) only [push_cast,seval,hv,hr,hK,hl0,hel,Aaz,Clz,Buz,decide_true];(refine Lwz (by intro _ _;first|rfl|((simp (disch:=omega) only [push_cast,seval,hv,hr,hK,hl0,hel,Aaz,Clz,Buz,decide_true]);done)|((simp (disch:=omega) only [push_cast,seval,hv,hr,hK,hl0,hel,Aaz,Clz,Buz,decide_true]);rfl)) (Iyz _ _ _ _ _ _ ?_ ?_ ?_ ?_) rfl (by (simp (disch:=omega) only [push_cast,seval,hv,hr,hK,hl0,hel,Aaz,Clz,Buz,decide_true])<;>rfl) (by (simp (disch:=omega) only [push_cast,seval,hv,hr,hK,hl0,hel,Aaz,Clz,Buz,decide_true]);done) (by omega) ?_;(iterate 4 (exact sd)))))<;>(try simp (disch:=omega) only [push_cast,seval,hv,hr,hK,hl0,hel,Aaz,Clz,Buz,decide_true]))
 | ((first|refine Arz false ?_|refine Anz false ?_);simp (disch:=omega) only [push_cast,seval,hv,hr,hK,hl0,hel,Aaz,Clz,Buz,decide_true])
 | ((first|((first|refine Adz (Aez (B8z _ _ _ _ ?_ ?_ ?_)) ?_|refine Abz (Aez (B8z _ _ _ _ ?_ ?_ ?_)) ⟨_,_,rfl,rfl⟩ ?_);(iterate 3 (exact sd));rintro _ _ ⟨rfl,rfl⟩)|((first|refine Adz (Aez (Btz _)) ?_|refine Abz (Aez (Btz _)) ⟨_,_,rfl,rfl⟩ ?_);rintro _ _ ⟨rfl,rfl⟩)|((first|refine Adz (Aez (Bmz _ _ _ _ _ ?_ ?_ ?_ ?_ ?_)) ?_|refine Abz (Aez (Bmz _ _ _ _ _ ?_ ?_ ?_ ?_ ?_)) ⟨_,_,rfl,rfl⟩ ?_);(iterate 5 (exact sd));rintro _ _ ⟨rfl,rfl⟩)|((first|refine Adz (Aez (B2z _ _ ?_ ?_)) ?_|refine Abz (Aez (B2z _ _ ?_ ?_)) ⟨_,_,rfl,rfl⟩ ?_);(iterate 2 (exact sd));rintro _ _ ⟨rfl,rfl⟩)|((first|refine Adz (Aez (Bcz _)) ?_|refine Abz (Aez (Bcz _)) ⟨_,_,rfl,rfl⟩ ?_);rintro _ _ ⟨rfl,rfl⟩)|((first|refine Adz (Diz _ _ _ _ ?_ ?_) ?_|refine Abz (Diz _ _ _ _ ?_ ?_) ⟨_,_,rfl,rfl⟩ ?_);(iterate 2 (exact sd));rintro _ _ ⟨rfl,rfl⟩))<;>(try simp (disch:=omega) only [push_cast,seval,hv,hr,hK,hl0,hel,Aaz,Clz,Buz,decide_true]))
 | (refine Amz ⟨.inr rfl,[16000,16001],[(16000,1),(16001,5)],_,by decide,rfl,?_⟩;(try simp (disch:=omega) only [push_cast,seval,↓Aoz,↓Alz,↓List.map_cons,↓List.map_nil,hv,hr,hK,hl0,hel,Aaz,Clz,Buz,decide_true]))))
        all_goals simp [OBf,mkE_nil]

end Go.Proofs.YtkpcjppnjmhanaaDoor
namespace Go.Proofs.YtkpcjppnjmhanaaDoor
open VwM Vw Go
variable [SentA]

theorem OBf_plain {P:Program} {f:Nat} {args:List AV} {ok:Bool} {cs:List Int} {es:List Ex} (h:BCall P f args [] (OBf ok cs es)):PCall P f args (fun r=>r=.tup [.agg [.rows true (IL cs) cs.length,.rows true (EL true es) es.length],.bool ok]):=by
  refine (BCall.plain h).mono ?_
  rintro r ⟨r0,H',⟨rfl,rfl⟩,rfl⟩
  have e0:nthH (IL cs :: (esF es).cellsG (· + 2) :: (esF es).conts) 0=some (IL cs):=rfl
  have e1:nthH (IL cs :: (esF es).cellsG (· + 2) :: (esF es).conts) 1=some ((esF es).cellsG (· + 2)):=rfl
  show AV.tup [AV.agg [AV.ren _ _ true some 3 (.own 0 cs.length 1),AV.ren _ _ true some 3 (.own 1 es.length 5)],.bool ok]=_
  rw [F2z,F2z,e0,e1,Hkz,Hkz,if_pos (by unfold IL;simp),if_pos (by rw [H0z,eF_C])]
  have e2:((esF es).cellsG (· + 2)).map (AV.ren (fun _=>none) (nthH (IL cs :: (esF es).cellsG (· + 2) :: (esF es).conts)) true some 2)=EL true es:=by
    rw [← esF_plain]
    unfold Fam.cellsG Fam.plain
    rw [D8z]
    refine Dkz fun p hp=>(esF es).ren_plain fun j hj=>⟨rfl,?_⟩
    have hjR:=(esF es).ok p j hp hj
    show ((esF es).conts)[j]?=_
    unfold Fam.conts
    rw [List.getElem?_map,List.getElem?_range hjR];rfl
  have e3:(IL cs).map (AV.ren (fun _=>none) (nthH (IL cs :: (esF es).cellsG (· + 2) :: (esF es).conts)) true some 2)=IL cs:=Dsz _
  rw [e2,e3]
end Go.Proofs.YtkpcjppnjmhanaaDoor
namespace Go.Proofs.YtkpcjppnjmhanaaDoor
open VwM Vw Go
variable [SentA]

def epO (es:List Ex) (id d f t w:Int) (hf ht:Bool):Bool:=sdOk (vwA es id).1 (vwA es id).2.1 (vwA es id).2.2 d f t w hf ht
def epG (cs:List Int) (es:List Ex) (id d f t w:Int) (hf ht:Bool):Bool:=((vB cs es && opA es id) && !decide (es.length=8)) && epO es id d f t w hf ht
def epV (es:List Ex) (id d f t w:Int) (hf ht:Bool):Vw3:=(cutB (vwA es id).1 (vwA es id).2.1 (vwA es id).2.2 d.toNat f t w hf ht,cutSh (vwA es id).2.1 d.toNat f t w hf ht,cutSt (vwA es id).2.1 (vwA es id).2.2 d.toNat f t w hf ht)
def epE (es:List Ex) (id d f t w:Int) (hf ht:Bool):List Ex:=es ++ [(id,epV es id d f t w hf ht,true)]
theorem cutSt_lenE (sh st:List Int) (j:Nat) (f t w:Int) (hf ht:Bool):(cutSt sh st j f t w hf ht).length ≤ max sh.length st.length:=by
  unfold cutSt;split<;>simp<;>omega
theorem EL_tak3 {es:List Ex} {q:Nat} {p b:Int} {x y:List Int} {o:Bool} (he:es[q]?=some (p,(b,x,y),o)):((EL false es).drop (q * 5 + 1)).take 3=[.int .i64 b,.rows false (IL x) x.length,.rows false (IL y) y.length]:=by
  have hd:=C4z false es q he
  simp only at hd
  have:=congrArg (fun l=>(l.drop 1).take 3) hd
  simpa [List.drop_take,List.drop_drop,List.take_take] using this
theorem cut_lens {sh st:List Int} {d:Nat} {f t w:Int} {hf ht:Bool} {k:Nat} (h1:sh.length ≤ k) (h2:st.length ≤ k):(cutSh sh d f t w hf ht).length ≤ k ∧ (cutSt sh st d f t w hf ht).length ≤ k:=by
  refine ⟨by rw [Chz];exact h1,?_⟩
  have:=cutSt_lenE sh st d f t w hf ht
  omega


set_option maxHeartbeats 8000000 in
theorem sEP_ok (cs:List Int) (es:List Ex) (m n:Nat) (id d f t w:Int) (hf ht:Bool) (hm:cs.length=m) (hn:es.length=n) (hb:m ≤ 1099511627776 ∧ n ≤ 1099511627776 ∧ exB 1099511627776 es) :
    BCall Tryd.prog 78 [.agg [.rows false (IL cs) m,.rows false (EL false es) n],.int .i64 id,.int .i64 d,slc f t w hf ht] [] (OBs (epG cs es id d f t w hf ht) (ifB (epG cs es id d f t w hf ht) cs) (ifB (epG cs es id d f t w hf ht) (epE es id d f t w hf ht))):=by
  subst hm hn
  have hb0:=hb
  obtain ⟨hb1,hb2,hb3⟩:=hb
  have hel:=A4z false es
  refine A3z (pins:=[]) (pin:=0) l78_eq rfl rfl rfl ?_
  unfold epG
  cases hv:vB cs es with
  | false =>
    simp only [Bool.false_and,Bgz]
    (repeat' (first
 | (first|refine Apz ?_|refine Aiz ?_)
 | ((first|refine Aqz ?_|refine A6z (mid:=l78r3a) (post:=l78r3b) [160,1000000010,2000000160] Axz (by decide) ?_|refine Ahz ?_|refine Ajz ?_|refine Akz ?_);simp (disch:=omega) only [push_cast,seval,l78r0,l78r1,l78r2,l78r3a,l78r3b,l78r3,l78r4,l78r5,l78r6,hv,hel,Aaz])
 | ((first|refine Acz ?_ ?_|refine Agz ?_ ?_|refine Afz ?_ ?_)<;>intro h<;>(try simp only [h])<;>(try simp only [bitvec_to_nat] at h)<;>(try simp only [h])<;>(first|(exfalso;omega)|(exfalso;simp_all;done)|(simp (disch:=omega) only [push_cast,seval,hv,hel,Aaz])|skip))
 | ((first|refine Arz false ?_|refine Anz false ?_);simp (disch:=omega) only [push_cast,seval,hv,hel,Aaz])
 | ((first|((first|refine Adz (Aez (A7z _ _ _ _ ?_ ?_ ?_)) ?_|refine Abz (Aez (A7z _ _ _ _ ?_ ?_ ?_)) ⟨_,_,rfl,rfl⟩ ?_);(iterate 3 (exact sd));rintro _ _ ⟨rfl,rfl⟩)|((first|refine Adz (Aez (Bfz _ _ _ _ _ ?_ ?_ ?_)) ?_|refine Abz (Aez (Bfz _ _ _ _ _ ?_ ?_ ?_)) ⟨_,_,rfl,rfl⟩ ?_);(iterate 3 (exact sd));rintro _ _ ⟨rfl,rfl⟩)|((first|refine Adz (Cdz _ _ _ _ _ _ _ _ _ _ _ ?_ ?_ ?_) ?_|refine Abz (Cdz _ _ _ _ _ _ _ _ _ _ _ ?_ ?_ ?_) ⟨_,_,rfl,rfl⟩ ?_);(iterate 3 (exact sd));rintro _ _ ⟨rfl,rfl⟩)|((first|refine Adz (Cpz _ _ _ _ _ _ _ _ _ _ ?_ ?_ ?_ ?_ ?_) ?_|refine Abz (Cpz _ _ _ _ _ _ _ _ _ _ ?_ ?_ ?_ ?_ ?_) ⟨_,_,rfl,rfl⟩ ?_);(iterate 5 (exact sd));rintro _ _ ⟨rfl,rfl⟩))<;>(try simp (disch:=omega) only [push_cast,seval,hv,hel,Aaz]))
 | (refine Amz ⟨.inr rfl,[16000,16001],[(16000,1),(16001,5)],_,by decide,rfl,?_⟩;(try simp (disch:=omega) only [push_cast,seval,↓Aoz,↓Alz,↓List.map_cons,↓List.map_nil,hv,hel,Aaz]))))
    all_goals simp [OBs,EL]
  | true =>
    obtain ⟨v1,v2,v3⟩:=vB_8 hv
    cases hr:opA es id with
    | false =>
      simp only [Bool.true_and,Bool.false_and,Bgz]
      (repeat' (first
 | (first|refine Apz ?_|refine Aiz ?_)
 | ((first|refine Aqz ?_|refine A6z (mid:=l78r3a) (post:=l78r3b) [160,1000000010,2000000160] Axz (by decide) ?_|refine Ahz ?_|refine Ajz ?_|refine Akz ?_);simp (disch:=omega) only [push_cast,seval,l78r0,l78r1,l78r2,l78r3a,l78r3b,l78r3,l78r4,l78r5,l78r6,hv,hr,hel,Aaz])
 | ((first|refine Acz ?_ ?_|refine Agz ?_ ?_|refine Afz ?_ ?_)<;>intro h<;>(try simp only [h])<;>(try simp only [bitvec_to_nat] at h)<;>(try simp only [h])<;>(first|(exfalso;omega)|(exfalso;simp_all;done)|(simp (disch:=omega) only [push_cast,seval,hv,hr,hel,Aaz])|skip))
 | ((first|refine Arz false ?_|refine Anz false ?_);simp (disch:=omega) only [push_cast,seval,hv,hr,hel,Aaz])
 | ((first|((first|refine Adz (Aez (A7z _ _ _ _ ?_ ?_ ?_)) ?_|refine Abz (Aez (A7z _ _ _ _ ?_ ?_ ?_)) ⟨_,_,rfl,rfl⟩ ?_);(iterate 3 (exact sd));rintro _ _ ⟨rfl,rfl⟩)|((first|refine Adz (Aez (Bfz _ _ _ _ _ ?_ ?_ ?_)) ?_|refine Abz (Aez (Bfz _ _ _ _ _ ?_ ?_ ?_)) ⟨_,_,rfl,rfl⟩ ?_);(iterate 3 (exact sd));rintro _ _ ⟨rfl,rfl⟩)|((first|refine Adz (Cdz _ _ _ _ _ _ _ _ _ _ _ ?_ ?_ ?_) ?_|refine Abz (Cdz _ _ _ _ _ _ _ _ _ _ _ ?_ ?_ ?_) ⟨_,_,rfl,rfl⟩ ?_);(iterate 3 (exact sd));rintro _ _ ⟨rfl,rfl⟩)|((first|refine Adz (Cpz _ _ _ _ _ _ _ _ _ _ ?_ ?_ ?_ ?_ ?_) ?_|refine Abz (Cpz _ _ _ _ _ _ _ _ _ _ ?_ ?_ ?_ ?_ ?_) ⟨_,_,rfl,rfl⟩ ?_);(iterate 5 (exact sd));rintro _ _ ⟨rfl,rfl⟩))<;>(try simp (disch:=omega) only [push_cast,seval,hv,hr,hel,Aaz]))
 | (refine Amz ⟨.inr rfl,[16000,16001],[(16000,1),(16001,5)],_,by decide,rfl,?_⟩;(try simp (disch:=omega) only [push_cast,seval,↓Aoz,↓Alz,↓List.map_cons,↓List.map_nil,hv,hr,hel,Aaz]))))
      all_goals simp [OBs,EL]
    | true =>
      simp only [Bool.true_and]
      by_cases h8:es.length=8
      · have hd:(!decide (es.length=8))=false:=by simp [h8]
        have h8i:(es.length:Int)=8:=by omega
        simp only [hd,Bool.false_and,Bgz]
        (repeat' (first
 | (first|refine Apz ?_|refine Aiz ?_)
 | ((first|refine Aqz ?_|refine A6z (mid:=l78r3a) (post:=l78r3b) [160,1000000010,2000000160] Axz (by decide) ?_|refine Ahz ?_|refine Ajz ?_|refine Akz ?_);simp (disch:=omega) only [push_cast,seval,l78r0,l78r1,l78r2,l78r3a,l78r3b,l78r3,l78r4,l78r5,l78r6,hv,hr,h8i,hel,Aaz])
 | ((first|refine Acz ?_ ?_|refine Agz ?_ ?_|refine Afz ?_ ?_)<;>intro h<;>(try simp only [h])<;>(try simp only [bitvec_to_nat] at h)<;>(try simp only [h])<;>(first|(exfalso;omega)|(exfalso;simp_all;done)|(simp (disch:=omega) only [push_cast,seval,hv,hr,h8i,hel,Aaz])|skip))
 | ((first|refine Arz false ?_|refine Anz false ?_);simp (disch:=omega) only [push_cast,seval,hv,hr,h8i,hel,Aaz])
 | ((first|((first|refine Adz (Aez (A7z _ _ _ _ ?_ ?_ ?_)) ?_|refine Abz (Aez (A7z _ _ _ _ ?_ ?_ ?_)) ⟨_,_,rfl,rfl⟩ ?_);(iterate 3 (exact sd));rintro _ _ ⟨rfl,rfl⟩)|((first|refine Adz (Aez (Bfz _ _ _ _ _ ?_ ?_ ?_)) ?_|refine Abz (Aez (Bfz _ _ _ _ _ ?_ ?_ ?_)) ⟨_,_,rfl,rfl⟩ ?_);(iterate 3 (exact sd));rintro _ _ ⟨rfl,rfl⟩)|((first|refine Adz (Cdz _ _ _ _ _ _ _ _ _ _ _ ?_ ?_ ?_) ?_|refine Abz (Cdz _ _ _ _ _ _ _ _ _ _ _ ?_ ?_ ?_) ⟨_,_,rfl,rfl⟩ ?_);(iterate 3 (exact sd));rintro _ _ ⟨rfl,rfl⟩)|((first|refine Adz (Cpz _ _ _ _ _ _ _ _ _ _ ?_ ?_ ?_ ?_ ?_) ?_|refine Abz (Cpz _ _ _ _ _ _ _ _ _ _ ?_ ?_ ?_ ?_ ?_) ⟨_,_,rfl,rfl⟩ ?_);(iterate 5 (exact sd));rintro _ _ ⟨rfl,rfl⟩))<;>(try simp (disch:=omega) only [push_cast,seval,hv,hr,h8i,hel,Aaz]))
 | (refine Amz ⟨.inr rfl,[16000,16001],[(16000,1),(16001,5)],_,by decide,rfl,?_⟩;(try simp (disch:=omega) only [push_cast,seval,↓Aoz,↓Alz,↓List.map_cons,↓List.map_nil,hv,hr,h8i,hel,Aaz]))))
        all_goals simp [OBs,EL]
      · have hd:(!decide (es.length=8))=true:=by simp [h8]
        have h8i:((es.length:Int)=8)=False:=eq_false (by omega)
        simp only [hd,Bool.true_and]
        obtain ⟨q,p,b,x,y,rfl,hq,he,hvw⟩:=Ioz hr
        have hbb:=Fqz hb3 he
        have hil:q * 5 + 5 ≤ es.length * 5:=by omega
        have h3:=EL_tak3 he
        have hcl:=cut_lens (d:=d.toNat) (f:=f) (t:=t) (w:=w) (hf:=hf) (ht:=ht) hbb.1 hbb.2
        unfold epO epE epV
        simp only [hvw]
        generalize hcB:cutB b x y d.toNat f t w hf ht=cB at *
        generalize hcS:cutSh x d.toNat f t w hf ht=cS at *
        generalize hcT:cutSt x y d.toNat f t w hf ht=cT at *
        cases hx:sdOk b x y d f t w hf ht with
        | false =>
          simp only [Bgz]
          (repeat' (first
 | (first|refine Apz ?_|refine Aiz ?_)
 | ((first|refine Aqz ?_|refine A6z (mid:=l78r3a) (post:=l78r3b) [160,1000000010,2000000160] Axz (by decide) ?_|refine Ahz ?_|refine Ajz ?_|refine Akz ?_);simp (disch:=omega) only [push_cast,seval,l78r0,l78r1,l78r2,l78r3a,l78r3b,l78r3,l78r4,l78r5,l78r6,hv,hr,h8i,h3,hx,hil,hel,Aaz,Gez,MVL_false])
 | ((first|refine Acz ?_ ?_|refine Agz ?_ ?_|refine Afz ?_ ?_)<;>intro h<;>(try simp only [h])<;>(try simp only [bitvec_to_nat] at h)<;>(try simp only [h])<;>(first|(exfalso;omega)|(exfalso;simp_all;done)|(simp (disch:=omega) only [push_cast,seval,hv,hr,h8i,h3,hx,hil,hel,Aaz,Gez,MVL_false])|skip))
 | ((first|refine Arz false ?_|refine Anz false ?_);simp (disch:=omega) only [push_cast,seval,hv,hr,h8i,h3,hx,hil,hel,Aaz,Gez,MVL_false])
 | ((first|((first|refine Adz (Aez (A7z _ _ _ _ ?_ ?_ ?_)) ?_|refine Abz (Aez (A7z _ _ _ _ ?_ ?_ ?_)) ⟨_,_,rfl,rfl⟩ ?_);(iterate 3 (exact sd));rintro _ _ ⟨rfl,rfl⟩)|((first|refine Adz (Aez (Bfz _ _ _ _ _ ?_ ?_ ?_)) ?_|refine Abz (Aez (Bfz _ _ _ _ _ ?_ ?_ ?_)) ⟨_,_,rfl,rfl⟩ ?_);(iterate 3 (exact sd));rintro _ _ ⟨rfl,rfl⟩)|((first|refine Adz (Cdz _ _ _ _ _ _ _ _ _ _ _ ?_ ?_ ?_) ?_|refine Abz (Cdz _ _ _ _ _ _ _ _ _ _ _ ?_ ?_ ?_) ⟨_,_,rfl,rfl⟩ ?_);(iterate 3 (exact sd));rintro _ _ ⟨rfl,rfl⟩)|((first|refine Adz (Cpz _ _ _ _ _ _ _ _ _ _ ?_ ?_ ?_ ?_ ?_) ?_|refine Abz (Cpz _ _ _ _ _ _ _ _ _ _ ?_ ?_ ?_ ?_ ?_) ⟨_,_,rfl,rfl⟩ ?_);(iterate 5 (exact sd));rintro _ _ ⟨rfl,rfl⟩))<;>(try simp (disch:=omega) only [push_cast,seval,hv,hr,h8i,h3,hx,hil,hel,Aaz,Gez,MVL_false]))
 | (refine Amz ⟨.inr rfl,[16000,16001],[(16000,1),(16001,5)],_,by decide,rfl,?_⟩; (try simp (disch := omega) only [push_cast,seval,↓Aoz,↓Alz,↓List.map_cons,↓List.map_nil,hv,hr,h8i,h3,hx,hil,hel,Aaz,Gez,MVL_false]))))
          all_goals simp [OBs,EL]
        | true =>
          simp only [Cbz]
          have hadd:(cS.length ≤ 1099511627776 ∧ cT.length ≤ 1099511627776) ∧ cs.length ≤ 1099511627776 ∧ es.length ≤ 1000 ∧ exB 1099511627776 es:=⟨hcl,hb1,by omega,hb3⟩
          (repeat' (first
 | (first|refine Apz ?_|refine Aiz ?_)
 | ((first|refine Aqz ?_|refine A6z (mid:=l78r3a) (post:=l78r3b) [160,1000000010,2000000160] Axz (by decide) ?_|refine Ahz ?_|refine Ajz ?_|refine Akz ?_);simp (disch:=omega) only [push_cast,seval,l78r0,l78r1,l78r2,l78r3a,l78r3b,l78r3,l78r4,l78r5,l78r6,hv,hr,h8i,h3,hx,hil,hcB,hcS,hcT,hel,Aaz,H3z,MVL_true])
 | ((first|refine Acz ?_ ?_|refine Agz ?_ ?_|refine Afz ?_ ?_)<;>intro h<;>(try simp only [h])<;>(try simp only [bitvec_to_nat] at h)<;>(try simp only [h])<;>(first|(exfalso;omega)|(exfalso;simp_all;done)|(simp (disch:=omega) only [push_cast,seval,hv,hr,h8i,h3,hx,hil,hcB,hcS,hcT,hel,Aaz,H3z,MVL_true])|skip))
 | ((first|refine Arz false ?_|refine Anz false ?_);simp (disch:=omega) only [push_cast,seval,hv,hr,h8i,h3,hx,hil,hcB,hcS,hcT,hel,Aaz,H3z,MVL_true])
 | ((first|((first|refine Adz (Aez (A7z _ _ _ _ ?_ ?_ ?_)) ?_|refine Abz (Aez (A7z _ _ _ _ ?_ ?_ ?_)) ⟨_,_,rfl,rfl⟩ ?_);(iterate 3 (exact sd));rintro _ _ ⟨rfl,rfl⟩)|((first|refine Adz (Aez (Bfz _ _ _ _ _ ?_ ?_ ?_)) ?_|refine Abz (Aez (Bfz _ _ _ _ _ ?_ ?_ ?_)) ⟨_,_,rfl,rfl⟩ ?_);(iterate 3 (exact sd));rintro _ _ ⟨rfl,rfl⟩)|((first|refine Adz (Cdz _ _ _ _ _ _ _ _ _ _ _ ?_ ?_ ?_) ?_|refine Abz (Cdz _ _ _ _ _ _ _ _ _ _ _ ?_ ?_ ?_) ⟨_,_,rfl,rfl⟩ ?_);(iterate 3 (exact sd));rintro _ _ ⟨rfl,rfl⟩)|((first|refine Adz (Cpz _ _ _ _ _ _ _ _ _ _ ?_ ?_ ?_ ?_ ?_) ?_|refine Abz (Cpz _ _ _ _ _ _ _ _ _ _ ?_ ?_ ?_ ?_ ?_) ⟨_,_,rfl,rfl⟩ ?_);(iterate 5 (exact sd));rintro _ _ ⟨rfl,rfl⟩))<;>(try simp (disch:=omega) only [push_cast,seval,hv,hr,h8i,h3,hx,hil,hcB,hcS,hcT,hel,Aaz,H3z,MVL_true]))
 | (refine Amz ⟨.inr rfl,[736,737],[],_,by decide,rfl,?_⟩; (try simp (disch := omega) only [push_cast,seval,↓Aoz,↓Alz,↓List.map_cons,↓List.map_nil,hv,hr,h8i,h3,hx,hil,hcB,hcS,hcT,hel,Aaz,H3z,MVL_true]))))
          all_goals simp [OBs]

end Go.Proofs.YtkpcjppnjmhanaaDoor
namespace Go.Proofs.YtkpcjppnjmhanaaDoor
open VwM Vw Go
variable [SentA]

def nbN (s:Int):Nat:=if 0 ≤ s ∧ s ≤ 60 then s.toNat else 0
theorem nbN_le (s:Int):nbN s ≤ 60:=by unfold nbN;split<;>omega


theorem Dgz (s:Int):BCall Tryd.prog 58 [.int .i64 s] [] (fun r H'=>r=.agg [.own 0 (nbN s) 1,.own 1 0 5] ∧ H'=[IL (List.replicate (nbN s) 0),[]]):=by
  refine A3z (pins:=[]) (pin:=0) l58_eq rfl rfl rfl ?_
  by_cases h:0 ≤ s ∧ s ≤ 60
  · have hw:(decide (0 ≤ s) && decide (s ≤ 60))=true:=by rw [Bool.and_eq_true,decide_eq_true_eq,decide_eq_true_eq];exact h
    have hN:nbN s=s.toNat:=if_pos h
    rw [hN]
    obtain ⟨n,rfl⟩:∃ n:Nat,s=n:=⟨s.toNat,by omega⟩
    rw [Int.toNat_natCast]
    (repeat' (first
 | (first|refine Apz ?_|refine Aiz ?_)
 | ((first|refine Aqz ?_|refine Ahz ?_|refine Ajz ?_|refine Akz ?_);simp (disch:=omega) only [push_cast,seval,l58r0,l58r1,l58r2,l58r3,hw])
 | ((first|refine Acz ?_ ?_|refine Agz ?_ ?_|refine Afz ?_ ?_)<;>intro h<;>(try simp only [h])<;>(try simp only [bitvec_to_nat] at h)<;>(try simp only [h])<;>(first|(exfalso;omega)|(exfalso;simp_all;done)|(simp (disch:=omega) only [push_cast,seval,hw])|skip))
 | ((first|refine Arz false ?_|refine Anz false ?_);simp (disch:=omega) only [push_cast,seval,hw])
 | ((first|((first|refine Adz (Aez (Auz _ _ _)) ?_|refine Abz (Aez (Auz _ _ _)) ⟨_,_,rfl,rfl⟩ ?_);rintro _ _ ⟨rfl,rfl⟩))<;>(try simp (disch:=omega) only [push_cast,seval,hw]))
 | (refine Amz ⟨.inr rfl,[128,16000],[(16000,5)],_,by decide,rfl,?_⟩;(try simp (disch:=omega) only [push_cast,seval,↓Aoz,↓Alz,↓List.map_cons,↓List.map_nil,hw]))))
    all_goals (try simp)
  · have hw:(decide (0 ≤ s) && decide (s ≤ 60))=false:=by rw [Bool.and_eq_false_iff,decide_eq_false_iff_not,decide_eq_false_iff_not];omega
    have hN:nbN s=0:=if_neg h
    rw [hN]
    (repeat' (first
 | (first|refine Apz ?_|refine Aiz ?_)
 | ((first|refine Aqz ?_|refine Ahz ?_|refine Ajz ?_|refine Akz ?_);simp (disch:=omega) only [push_cast,seval,l58r0,l58r1,l58r2,l58r3,hw])
 | ((first|refine Acz ?_ ?_|refine Agz ?_ ?_|refine Afz ?_ ?_)<;>intro h<;>(try simp only [h])<;>(try simp only [bitvec_to_nat] at h)<;>(try simp only [h])<;>(first|(exfalso;omega)|(exfalso;simp_all;done)|(simp (disch:=omega) only [push_cast,seval,hw])|skip))
 | ((first|refine Arz false ?_|refine Anz false ?_);simp (disch:=omega) only [push_cast,seval,hw])
 | ((first|((first|refine Adz (Aez (Auz _ _ _)) ?_|refine Abz (Aez (Auz _ _ _)) ⟨_,_,rfl,rfl⟩ ?_);rintro _ _ ⟨rfl,rfl⟩))<;>(try simp (disch:=omega) only [push_cast,seval,hw]))
 | (refine Amz ⟨.inr rfl,[16000,16016],[(16000,1),(16016,5)],_,by decide,rfl,?_⟩;(try simp (disch:=omega) only [push_cast,seval,↓Aoz,↓Alz,↓List.map_cons,↓List.map_nil,hw]))))
    all_goals (try simp)

end Go.Proofs.YtkpcjppnjmhanaaDoor
