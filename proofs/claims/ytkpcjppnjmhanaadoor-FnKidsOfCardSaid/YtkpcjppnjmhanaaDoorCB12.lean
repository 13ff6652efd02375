/- Texts of this verifier. -/
import Derived.Test.YtkpcjppnjmhanaaDoorCB11
import Derived.Test.YtkpcjppnjmhanaaDoorCM1
set_option maxHeartbeats 4000000
set_option linter.unusedSimpArgs false
set_option linter.unusedSectionVars false
set_option linter.unusedVariables false
set_option maxRecDepth 4000
namespace Go.Proofs.YtkpcjppnjmhanaaDoor
open VwM Vw Go
variable [SentA]

/-- How many are kids of the buffer itself or of one of the first i. -/
def kS (es:List Ex) (k:Nat):Nat → Nat
  | 0=>(kidsT es (-1) k).length
  | i + 1=>kS es k i + (kidsT es (i:Int) k).length
theorem Hzz (es:List Ex) (k:Nat):kS es k 0=(kidsT es (-1) k).length:=rfl
theorem Gtz (es:List Ex) (k i:Nat):kS es k (i + 1)=kS es k i + (kidsT es (i:Int) k).length:=rfl
theorem kS_no {es:List Ex} {k:Nat} (h:∀ e,es[k]?=some e → ¬ e.2.2=true):∀ m,kS es (k + 1) m=kS es k m:=by
  have hk:∀ p,kidsT es p (k + 1)=kidsT es p k:=fun p=>by
    cases he:es[k]? with
    | none=>simp only [kidsT,he]
    | some e=>exact Dnz he fun h1=>h e he h1.1
  intro m
  induction m with
  | zero=>rw [Hzz,Hzz,hk]
  | succ m ih=>rw [Gtz,Gtz,hk,ih]
theorem kS_yes {es:List Ex} {k:Nat} {e:Ex} (he:es[k]?=some e) (ho:e.2.2=true):∀ m:Nat,kS es (k + 1) m=kS es k m + (if -1 ≤ e.1 ∧ e.1 < (m:Int) then 1 else 0):=by
  have hk:∀ p,(kidsT es p (k + 1)).length=(kidsT es p k).length + (if e.1=p then 1 else 0):=fun p=>by
    by_cases hp:e.1=p
    · rw [Faz he ⟨ho,hp⟩,if_pos hp,List.length_append,List.length_singleton]
    · rw [Dnz he fun h1=>hp h1.2,if_neg hp,Nat.add_zero]
  intro m
  induction m with
  | zero =>
    rw [Hzz,Hzz,hk]
    by_cases h1:e.1=-1
    · rw [if_pos h1,if_pos (by omega)]
    · rw [if_neg h1,if_neg (by omega)]
  | succ m ih =>
    rw [Gtz,Gtz,hk,ih]
    by_cases h1:e.1=(m:Int)
    · rw [if_pos h1,if_neg (by omega),if_pos (by omega)];omega
    · rw [if_neg h1]
      by_cases h2:-1 ≤ e.1 ∧ e.1 < (m:Int)
      · rw [if_pos h2,if_pos (by omega)];omega
      · rw [if_neg h2,if_neg (by omega)];omega
theorem kS_all {es:List Ex} (h:∀ (i:Nat) (e:Ex),es[i]?=some e → -1 ≤ e.1 ∧ e.1 < (es.length:Int)):∀ k,kS es k es.length=(opensT es k).length
  | 0=>by
    have:∀ m,kS es 0 m=0:=fun m=>by
      induction m with
 | zero=>rfl
 | succ m ih=>rw [Gtz,ih];rfl
    rw [this];rfl
  | k + 1=>by
    cases he:es[k]? with
    | none =>
      rw [kS_no (fun e h1=>by rw [he] at h1;cases h1),kS_all h k]
      simp only [opensT,he]
    | some e =>
      by_cases ho:e.2.2=true
      · rw [kS_yes he ho,if_pos (h k e he),kS_all h k,Drz he ho,List.length_append,List.length_singleton]
      · rw [kS_no (fun f h1=>by rw [he] at h1;injection h1 with h1;rw [← h1];exact ho),kS_all h k,D2z he ho]
theorem kS_vB {cs:List Int} {es:List Ex} (h:vB cs es=true):kS es es.length es.length=(opensT es es.length).length :=
  kS_all (fun i e he=>by
    have h1:=(D6z.1 ((Fmz.1 h).2.2 i e he)).1.1
    have h2:=(List.getElem?_eq_some_iff.1 he).1
    omega) _
theorem Hyz {es:List Ex} {p:Int}:∀ {k:Nat} {x:Int},x ∈ kidsT es p k → x < (k:Int) ∧ x ∈ opensT es k
  | 0,x,h=>by simp [kidsT] at h
  | k + 1,x,h=>by
    cases he:es[k]? with
    | none =>
      simp only [kidsT,he] at h
      have:=Hyz h
      simp only [opensT,he]
      exact ⟨by omega,this.2⟩
    | some e =>
      by_cases ho:e.2.2=true
      · rw [Drz he ho]
        by_cases hp:e.1=p
        · rw [Faz he ⟨ho,hp⟩] at h
          rcases List.mem_append.1 h with h1|h1
          · have:=Hyz h1
            exact ⟨by omega,List.mem_append_left _ this.2⟩
          · rw [List.mem_singleton] at h1
            subst h1
            exact ⟨by omega,List.mem_append_right _ (List.mem_singleton.2 rfl)⟩
        · rw [Dnz he fun h1=>hp h1.2] at h
          have:=Hyz h
          exact ⟨by omega,List.mem_append_left _ this.2⟩
      · rw [D2z he ho]
        rw [Dnz he fun h1=>ho h1.1] at h
        have:=Hyz h
        exact ⟨by omega,this.2⟩
theorem kids_asc {es:List Ex} {p:Int}:∀ k:Nat,(kidsT es p k).Pairwise (· < ·)
  | 0=>List.Pairwise.nil
  | k + 1=>by
    have ih:=kids_asc (es:=es) (p:=p) k
    cases he:es[k]? with
    | none=>simp only [kidsT,he];exact ih
    | some e =>
      by_cases hp:e.2.2=true ∧ e.1=p
      · rw [Faz he hp]
        refine List.pairwise_append.2 ⟨ih,List.pairwise_singleton _ _,fun a ha b hb=>?_⟩
        rw [List.mem_singleton] at hb
        subst hb
        exact (Hyz ha).1
      · rw [Dnz he hp];exact ih
theorem kids_asc1 (es:List Ex) (p:Int) (k:Nat):∀ i:Nat,1 ≤ i → i < (kidsT es p k).length → (kidsT es p k).getD (i - 1) 0 < (kidsT es p k).getD i 0:=fun i h1 h2=>asc_getD (kids_asc k) (by omega) h2
theorem kids_shut {cs:List Int} {es:List Ex} {q:Nat} {e:Ex} (h:vB cs es=true) (he:es[q]?=some e) (ho:¬ e.2.2=true):kidsT es (q:Int) es.length=[]:=Fiz.2 fun i f hi hf=>by
  rintro ⟨h1,h2⟩
  have h3:=(D6z.1 ((Fmz.1 h).2.2 i f hf)).2 h1
  rw [h2] at h3
  rcases h3.2 with h4|h4
  · omega
  · unfold opE at h4
    simp [he,ho] at h4
abbrev koQ (cs:List Int) (es:List Ex) (id:Int):Prop:=(-1000 ≤ id ∧ id ≤ 1000) ∧ (kidsA cs es id).length ≤ es.length ∧ (opensA cs es).length ≤ es.length
theorem Hcz {es:List Ex}:∀ {k:Nat} {x:Int},x ∈ opensT es k → 0 ≤ x ∧ x < (k:Int)
  | 0,x,h=>by simp [opensT] at h
  | k + 1,x,h=>by
    cases he:es[k]? with
    | none =>
      simp only [opensT,he] at h
      have:=Hcz h
      omega
    | some e =>
      by_cases ho:e.2.2=true
      · rw [Drz he ho] at h
        rcases List.mem_append.1 h with h1|h1
        · have:=Hcz h1
          omega
        · rw [List.mem_singleton] at h1
          omega
      · rw [D2z he ho] at h
        have:=Hcz h
        omega
theorem opens_gd {es:List Ex} (h:es.length ≤ 9) (j:Nat):-1000 ≤ (opensT es es.length).getD j 0 ∧ (opensT es es.length).getD j 0 ≤ 1000:=by
  by_cases hl:j < (opensT es es.length).length
  · have:=Hcz (C2z hl)
    omega
  · rw [List.getD,List.getElem?_eq_none (Nat.le_of_not_lt hl)];simp
theorem kS_le {es:List Ex} {k:Nat} (h:k ≤ 9):∀ i:Nat,kS es k i ≤ 9 * (i + 1)
  | 0=>by
    have:=Doz es (-1) k
    rw [Hzz];omega
  | i + 1=>by
    have:=Doz es (i:Int) k
    have:=kS_le (es:=es) h i
    rw [Gtz];omega
theorem kidsA_at {cs:List Int} {es:List Ex} (h:vB cs es=true) (j:Int) (h1:-1 ≤ j) (h2:j < (es.length:Int)):kidsA cs es j=kidsT es j es.length:=by
  unfold kidsA kidB
  rw [if_pos]
  simp only [h,Bool.true_and,Bool.and_eq_true,decide_eq_true_eq]
  omega


set_option maxHeartbeats 16000000 in
theorem idOf_ok (bs:List Int) (p:Int) (hbs:okB bs) (hp:0 ≤ p ∧ p ≤ 600000) :
    BCall Tryd.prog 32 [.ref 0 2 0] [RD bs p] (fun r H'=>∃ cs es id p',sbP cs es ∧ (-1000 ≤ id ∧ id ≤ 1000) ∧ (p ≤ p' ∧ p' ≤ p + 200) ∧ r=.tup [.agg [.own 1 cs.length 1,.own 2 es.length 5],.int .i64 id] ∧ H'=[RD bs p',IL cs,EL false es]):=by
  obtain ⟨hp1,hp2⟩:=hp
  refine A5z (pins:=[0]) (pin:=1) l32_eq rfl rfl rfl ?_
  have helc:=fun (c:Bool) (es:List Ex)=>A6z c es
  (repeat' (first
 | (first|refine Apz ?_|refine Aiz ?_)
 | ((first|refine Aqz ?_|refine A2z (mid:=l32r9a) (post:=l32r9b) [0,32] Axz (by decide) ?_|refine A2z (mid:=l32r10a) (post:=l32r10b) [0] Axz (by decide) ?_|refine Ahz ?_|refine Ajz ?_|refine Akz ?_);simp (disch:=omega) only [push_cast,seval,l32r0,l32r1,l32r2,l32r3,l32r4,l32r5,l32r6,l32r7,l32r8,l32r9a,l32r9b,l32r9,l32r10a,l32r10b,l32r10,Aaz])
 | ((first|refine Acz ?_ ?_|refine Agz ?_ ?_|refine Afz ?_ ?_)<;>intro h<;>(try simp only [h])<;>(try simp only [bitvec_to_nat] at h)<;>(try simp only [h])<;>(first|(exfalso;omega)|(exfalso;simp_all;done)|(simp (disch:=omega) only [push_cast,seval,Aaz])|skip))
 | ((first|((with_reducible refine Azz (f:=24) [0] true ?_);simp (disch:=omega) only [push_cast,seval,Aaz];(refine C8z (id:=0) (Icz _ _ ?_ ?_) (by (simp (disch:=omega) only [push_cast,seval,Aaz])<;>rfl) ?_;(iterate 2 (exact sd));rintro _ _ ⟨csG,esG,pG,hsG,hpG,rfl,rfl⟩))|((with_reducible refine Azz (f:=40) [0] true ?_);simp (disch:=omega) only [push_cast,seval,Aaz];(refine C8z (id:=0) (Dcz _ _ _ ?_ ?_) (by (simp (disch:=omega) only [push_cast,seval,Aaz])<;>rfl) ?_;(iterate 2 (exact sd));rintro _ _ ⟨x,hx0,hx1,rfl,rfl⟩))|((with_reducible refine Bpz (f:=40) [0] true ?_);simp (disch:=omega) only [push_cast,seval,Aaz];(refine C5z (id:=0) (Dcz _ _ _ ?_ ?_) (by (simp (disch:=omega) only [push_cast,seval,Aaz])<;>rfl) (by decide) ⟨_,_,0,by omega,Or.inr (Or.inr rfl),rfl,rfl⟩ ?_;(iterate 2 (exact sd));rintro _ _ ⟨x,hx0,hx1,rfl,rfl⟩))|((with_reducible refine Azz (f:=41) (args:=[Operand.tmp 44,Operand.tmp 51]) [0,816] true ?_);simp (disch:=omega) only [push_cast,seval,Aaz];(refine Cwz (id:=0) (id':=816) (by decide) (D3z _ _ _ _ ?_ ?_ ?_ ?_ ?_) (by (simp (disch:=omega) only [push_cast,seval,Aaz])<;>rfl) (by (simp (disch:=omega) only [push_cast,seval,Aaz])<;>rfl) ?_;(iterate 5 (exact sd));rintro _ _ ⟨x,hx,hx0,rfl,rfl⟩))|((with_reducible refine Azz (f:=41) [0] true ?_);simp (disch:=omega) only [push_cast,seval,Aaz];(refine C8z (id:=0) (Cyz _ _ _ _ ?_ ?_ ?_ ?_ ?_) (by (simp (disch:=omega) only [push_cast,seval,Aaz])<;>rfl) ?_;(iterate 5 (exact sd));rintro _ _ ⟨x,hx,hx0,rfl,rfl⟩))|((with_reducible refine Bpz (f:=41) [0] true ?_);simp (disch:=omega) only [push_cast,seval,Aaz];(refine C5z (id:=0) (Cyz _ _ _ _ ?_ ?_ ?_ ?_ ?_) (by (simp (disch:=omega) only [push_cast,seval,Aaz])<;>rfl) (by decide) (by simp only [Ddz,D5z];exact ⟨_,_,_,List.mem_cons_self,by omega,rfl,rfl⟩) ?_;(iterate 5 (exact sd));rintro _ _ ⟨x,hx,hx0,rfl,rfl⟩)))<;>(try simp (disch:=omega) only [push_cast,seval,Aaz]))))
  refine Epz (fun i:Nat=>mkS [(6,.int .i64 i),(5,.own 144 (opensT esG i).length 1),(4,.ref 64 2 0),(3,.int .i64 0),(2,.ref 32 2 0),(0,.ref 0 2 0)] [(144,IL (opensT esG i)),(64,[.own 128 csG.length 1,.own 129 esG.length 5]),(0,[.rows false (UL bs) bs.length,.int .i64 pG]),(128,IL csG),(129,EL false esG),(32,[.val (.slice none 0 0),.val (.slice none 0 0)])]) (fun i=>i ≤ esG.length) (fun i=>esG.length - i) 0 (Nat.zero_le _) ?_ ?_
  · have e0:opensT esG 0=[]:=rfl
    refine SubW.of ?_
    (refine Sub.of_lists ?_ ?_ ?_ ?_ ?_<;>simp [Vw.mkS,Vw.lk,Vw.hk,AV.inn,innL,Avz,Atz,Ayz,-List.map_set,-List.getD_eq_getElem?_getD,Aaz,e0])
  · intro i hi
    have hs8:=hsG.2.1
    have hel:=A6z false esG
    have hkl:=E8z esG i
    by_cases hlt:i < esG.length
    · obtain ⟨pp,b,x,y,o,he⟩:=D8z hlt
      have hd:=C9z false esG i he
      simp only at hd
      have hd4:((EL false esG).drop (i * 5 + 4)).take 1=[.bool o]:=by have:=congrArg (fun l=>(l.drop 4).take 1) hd;simpa [List.drop_take,List.take_take] using this
      have hil:i * 5 + 5 ≤ esG.length * 5:=by omega
      cases o with
 | false =>
        have e1:=D2z he (by simp)
        (repeat' (first
 | (first|refine Apz ?_|refine Aiz ?_)
 | ((first|refine Aqz ?_|refine A2z (mid:=l32r9a) (post:=l32r9b) [0,32] Axz (by decide) ?_|refine A2z (mid:=l32r10a) (post:=l32r10b) [0] Axz (by decide) ?_|refine Ahz ?_|refine Ajz ?_|refine Akz ?_);simp (disch:=omega) only [push_cast,seval,l32r0,l32r1,l32r2,l32r3,l32r4,l32r5,l32r6,l32r7,l32r8,l32r9a,l32r9b,l32r9,l32r10a,l32r10b,l32r10,Aaz,hel,hil,hd4])
 | ((first|refine Acz ?_ ?_|refine Agz ?_ ?_|refine Afz ?_ ?_)<;>intro h<;>(try simp only [h])<;>(try simp only [bitvec_to_nat] at h)<;>(try simp only [h])<;>(first|(exfalso;omega)|(exfalso;simp_all;done)|(simp (disch:=omega) only [push_cast,seval,Aaz,hel,hil,hd4])|skip))
 | ((first|((with_reducible refine Azz (f:=24) [0] true ?_);simp (disch:=omega) only [push_cast,seval,Aaz,hel,hil,hd4];(refine C8z (id:=0) (Icz _ _ ?_ ?_) (by (simp (disch:=omega) only [push_cast,seval,Aaz,hel,hil,hd4])<;>rfl) ?_;(iterate 2 (exact sd));rintro _ _ ⟨csG,esG,pG,hsG,hpG,rfl,rfl⟩))|((with_reducible refine Azz (f:=40) [0] true ?_);simp (disch:=omega) only [push_cast,seval,Aaz,hel,hil,hd4];(refine C8z (id:=0) (Dcz _ _ _ ?_ ?_) (by (simp (disch:=omega) only [push_cast,seval,Aaz,hel,hil,hd4])<;>rfl) ?_;(iterate 2 (exact sd));rintro _ _ ⟨x,hx0,hx1,rfl,rfl⟩))|((with_reducible refine Bpz (f:=40) [0] true ?_);simp (disch:=omega) only [push_cast,seval,Aaz,hel,hil,hd4];(refine C5z (id:=0) (Dcz _ _ _ ?_ ?_) (by (simp (disch:=omega) only [push_cast,seval,Aaz,hel,hil,hd4])<;>rfl) (by decide) ⟨_,_,0,by omega,Or.inr (Or.inr rfl),rfl,rfl⟩ ?_;(iterate 2 (exact sd));rintro _ _ ⟨x,hx0,hx1,rfl,rfl⟩))|((with_reducible refine Azz (f:=41) (args:=[Operand.tmp 44,Operand.tmp 51]) [0,816] true ?_);simp (disch:=omega) only [push_cast,seval,Aaz,hel,hil,hd4];(refine Cwz (id:=0) (id':=816) (by decide) (D3z _ _ _ _ ?_ ?_ ?_ ?_ ?_) (by (simp (disch:=omega) only [push_cast,seval,Aaz,hel,hil,hd4])<;>rfl) (by (simp (disch:=omega) only [push_cast,seval,Aaz,hel,hil,hd4])<;>rfl) ?_;(iterate 5 (exact sd));rintro _ _ ⟨x,hx,hx0,rfl,rfl⟩))|((with_reducible refine Azz (f:=41) [0] true ?_);simp (disch:=omega) only [push_cast,seval,Aaz,hel,hil,hd4];(refine C8z (id:=0) (Cyz _ _ _ _ ?_ ?_ ?_ ?_ ?_) (by (simp (disch:=omega) only [push_cast,seval,Aaz,hel,hil,hd4])<;>rfl) ?_;(iterate 5 (exact sd));rintro _ _ ⟨x,hx,hx0,rfl,rfl⟩))|((with_reducible refine Bpz (f:=41) [0] true ?_);simp (disch:=omega) only [push_cast,seval,Aaz,hel,hil,hd4];(refine C5z (id:=0) (Cyz _ _ _ _ ?_ ?_ ?_ ?_ ?_) (by (simp (disch:=omega) only [push_cast,seval,Aaz,hel,hil,hd4])<;>rfl) (by decide) (by simp only [Ddz,D5z];exact ⟨_,_,_,List.mem_cons_self,by omega,rfl,rfl⟩) ?_;(iterate 5 (exact sd));rintro _ _ ⟨x,hx,hx0,rfl,rfl⟩)))<;>(try simp (disch:=omega) only [push_cast,seval,Aaz,hel,hil,hd4]))))
        refine ⟨i + 1,by omega,by omega,SubW.of ?_⟩
        (refine Sub.of_lists ?_ ?_ ?_ ?_ ?_<;>simp [Vw.mkS,Vw.lk,Vw.hk,AV.inn,innL,Avz,Atz,Ayz,-List.map_set,-List.getD_eq_getElem?_getD,Aaz,e1])
 | true =>
        have e1:=Drz he rfl
        (repeat' (first
 | (first|refine Apz ?_|refine Aiz ?_)
 | ((first|refine Aqz ?_|refine A2z (mid:=l32r9a) (post:=l32r9b) [0,32] Axz (by decide) ?_|refine A2z (mid:=l32r10a) (post:=l32r10b) [0] Axz (by decide) ?_|refine Ahz ?_|refine Ajz ?_|refine Akz ?_);simp (disch:=omega) only [push_cast,seval,l32r0,l32r1,l32r2,l32r3,l32r4,l32r5,l32r6,l32r7,l32r8,l32r9a,l32r9b,l32r9,l32r10a,l32r10b,l32r10,Aaz,hel,hil,hd4,hkl])
 | ((first|refine Acz ?_ ?_|refine Agz ?_ ?_|refine Afz ?_ ?_)<;>intro h<;>(try simp only [h])<;>(try simp only [bitvec_to_nat] at h)<;>(try simp only [h])<;>(first|(exfalso;omega)|(exfalso;simp_all;done)|(simp (disch:=omega) only [push_cast,seval,Aaz,hel,hil,hd4,hkl])|skip))
 | ((first|((with_reducible refine Azz (f:=24) [0] true ?_);simp (disch:=omega) only [push_cast,seval,Aaz,hel,hil,hd4,hkl];(refine C8z (id:=0) (Icz _ _ ?_ ?_) (by (simp (disch:=omega) only [push_cast,seval,Aaz,hel,hil,hd4,hkl])<;>rfl) ?_;(iterate 2 (exact sd));rintro _ _ ⟨csG,esG,pG,hsG,hpG,rfl,rfl⟩))|((with_reducible refine Azz (f:=40) [0] true ?_);simp (disch:=omega) only [push_cast,seval,Aaz,hel,hil,hd4,hkl];(refine C8z (id:=0) (Dcz _ _ _ ?_ ?_) (by (simp (disch:=omega) only [push_cast,seval,Aaz,hel,hil,hd4,hkl])<;>rfl) ?_;(iterate 2 (exact sd));rintro _ _ ⟨x,hx0,hx1,rfl,rfl⟩))|((with_reducible refine Bpz (f:=40) [0] true ?_);simp (disch:=omega) only [push_cast,seval,Aaz,hel,hil,hd4,hkl];(refine C5z (id:=0) (Dcz _ _ _ ?_ ?_) (by (simp (disch:=omega) only [push_cast,seval,Aaz,hel,hil,hd4,hkl])<;>rfl) (by decide) ⟨_,_,0,by omega,Or.inr (Or.inr rfl),rfl,rfl⟩ ?_;(iterate 2 (exact sd));rintro _ _ ⟨x,hx0,hx1,rfl,rfl⟩))|((with_reducible refine Azz (f:=41) (args:=[Operand.tmp 44,Operand.tmp 51]) [0,816] true ?_);simp (disch:=omega) only [push_cast,seval,Aaz,hel,hil,hd4,hkl];(refine Cwz (id:=0) (id':=816) (by decide) (D3z _ _ _ _ ?_ ?_ ?_ ?_ ?_) (by (simp (disch:=omega) only [push_cast,seval,Aaz,hel,hil,hd4,hkl])<;>rfl) (by (simp (disch:=omega) only [push_cast,seval,Aaz,hel,hil,hd4,hkl])<;>rfl) ?_;(iterate 5 (exact sd));rintro _ _ ⟨x,hx,hx0,rfl,rfl⟩))|((with_reducible refine Azz (f:=41) [0] true ?_);simp (disch:=omega) only [push_cast,seval,Aaz,hel,hil,hd4,hkl];(refine C8z (id:=0) (Cyz _ _ _ _ ?_ ?_ ?_ ?_ ?_) (by (simp (disch:=omega) only [push_cast,seval,Aaz,hel,hil,hd4,hkl])<;>rfl) ?_;(iterate 5 (exact sd));rintro _ _ ⟨x,hx,hx0,rfl,rfl⟩))|((with_reducible refine Bpz (f:=41) [0] true ?_);simp (disch:=omega) only [push_cast,seval,Aaz,hel,hil,hd4,hkl];(refine C5z (id:=0) (Cyz _ _ _ _ ?_ ?_ ?_ ?_ ?_) (by (simp (disch:=omega) only [push_cast,seval,Aaz,hel,hil,hd4,hkl])<;>rfl) (by decide) (by simp only [Ddz,D5z];exact ⟨_,_,_,List.mem_cons_self,by omega,rfl,rfl⟩) ?_;(iterate 5 (exact sd));rintro _ _ ⟨x,hx,hx0,rfl,rfl⟩)))<;>(try simp (disch:=omega) only [push_cast,seval,Aaz,hel,hil,hd4,hkl]))))
        refine ⟨i + 1,by omega,by omega,SubW.of ?_⟩
        (refine Sub.of_lists ?_ ?_ ?_ ?_ ?_<;>simp [Vw.mkS,Vw.lk,Vw.hk,AV.inn,innL,Avz,Atz,Ayz,-List.map_set,-List.getD_eq_getElem?_getD,Aaz,e1,List.length_append])
    · have e:i=esG.length:=by omega
      subst e
      (repeat' (first
 | (first|refine Apz ?_|refine Aiz ?_)
 | ((first|refine Aqz ?_|refine A2z (mid:=l32r9a) (post:=l32r9b) [0,32] Axz (by decide) ?_|refine A2z (mid:=l32r10a) (post:=l32r10b) [0] Axz (by decide) ?_|refine Ahz ?_|refine Ajz ?_|refine Akz ?_);simp (disch:=omega) only [push_cast,seval,l32r0,l32r1,l32r2,l32r3,l32r4,l32r5,l32r6,l32r7,l32r8,l32r9a,l32r9b,l32r9,l32r10a,l32r10b,l32r10,Aaz,hel])
 | ((first|refine Acz ?_ ?_|refine Agz ?_ ?_|refine Afz ?_ ?_)<;>intro h<;>(try simp only [h])<;>(try simp only [bitvec_to_nat] at h)<;>(try simp only [h])<;>(first|(exfalso;omega)|(exfalso;simp_all;done)|(simp (disch:=omega) only [push_cast,seval,Aaz,hel])|skip))
 | ((first|((with_reducible refine Azz (f:=24) [0] true ?_);simp (disch:=omega) only [push_cast,seval,Aaz,hel];(refine C8z (id:=0) (Icz _ _ ?_ ?_) (by (simp (disch:=omega) only [push_cast,seval,Aaz,hel])<;>rfl) ?_;(iterate 2 (exact sd));rintro _ _ ⟨csG,esG,pG,hsG,hpG,rfl,rfl⟩))|((with_reducible refine Azz (f:=40) [0] true ?_);simp (disch:=omega) only [push_cast,seval,Aaz,hel];(refine C8z (id:=0) (Dcz _ _ _ ?_ ?_) (by (simp (disch:=omega) only [push_cast,seval,Aaz,hel])<;>rfl) ?_;(iterate 2 (exact sd));rintro _ _ ⟨x,hx0,hx1,rfl,rfl⟩))|((with_reducible refine Bpz (f:=40) [0] true ?_);simp (disch:=omega) only [push_cast,seval,Aaz,hel];(refine C5z (id:=0) (Dcz _ _ _ ?_ ?_) (by (simp (disch:=omega) only [push_cast,seval,Aaz,hel])<;>rfl) (by decide) ⟨_,_,0,by omega,Or.inr (Or.inr rfl),rfl,rfl⟩ ?_;(iterate 2 (exact sd));rintro _ _ ⟨x,hx0,hx1,rfl,rfl⟩))|((with_reducible refine Azz (f:=41) (args:=[Operand.tmp 44,Operand.tmp 51]) [0,816] true ?_);simp (disch:=omega) only [push_cast,seval,Aaz,hel];(refine Cwz (id:=0) (id':=816) (by decide) (D3z _ _ _ _ ?_ ?_ ?_ ?_ ?_) (by (simp (disch:=omega) only [push_cast,seval,Aaz,hel])<;>rfl) (by (simp (disch:=omega) only [push_cast,seval,Aaz,hel])<;>rfl) ?_;(iterate 5 (exact sd));rintro _ _ ⟨x,hx,hx0,rfl,rfl⟩))|((with_reducible refine Azz (f:=41) [0] true ?_);simp (disch:=omega) only [push_cast,seval,Aaz,hel];(refine C8z (id:=0) (Cyz _ _ _ _ ?_ ?_ ?_ ?_ ?_) (by (simp (disch:=omega) only [push_cast,seval,Aaz,hel])<;>rfl) ?_;(iterate 5 (exact sd));rintro _ _ ⟨x,hx,hx0,rfl,rfl⟩))|((with_reducible refine Bpz (f:=41) [0] true ?_);simp (disch:=omega) only [push_cast,seval,Aaz,hel];(refine C5z (id:=0) (Cyz _ _ _ _ ?_ ?_ ?_ ?_ ?_) (by (simp (disch:=omega) only [push_cast,seval,Aaz,hel])<;>rfl) (by decide) (by simp only [Ddz,D5z];exact ⟨_,_,_,List.mem_cons_self,by omega,rfl,rfl⟩) ?_;(iterate 5 (exact sd));rintro _ _ ⟨x,hx,hx0,rfl,rfl⟩)))<;>(try simp (disch:=omega) only [push_cast,seval,Aaz,hel]))))
      all_goals ((refine Amz ⟨.inr rfl,[128,129],[],_,by decide,rfl,?_⟩;(try simp (disch:=omega) only [push_cast,seval,↓Aoz,↓Alz,↓List.map_cons,↓List.map_nil,Aaz])))
      all_goals first
        | exact ⟨csG,esG,_,_,hsG,opens_gd hs8 _,by omega,rfl,rfl⟩
        | exact ⟨csG,esG,_,_,hsG,by assumption,by omega,rfl,rfl⟩


theorem drawKOB_ok (bs:List Int) (n:Nat) (hn:bs.length=n) (hb:n ≤ 1099511627776 ∧ ∀ x ∈ bs,0 ≤ x ∧ x ≤ 255):BCall Tryd.prog 11 [.rows false (UL bs) n] [] (fun r H'=>∃ cs es id,sbQ cs es ∧ (-1000 ≤ id ∧ id ≤ 1000) ∧ r=.tup [.agg [.own 0 cs.length 1,.own 1 es.length 5],.int .i64 id] ∧ H'=[IL cs,EL false es]):=by
  subst hn
  refine A5z (pins:=[]) (pin:=0) l11_eq rfl rfl rfl ?_
  (repeat' (first
 | (first|refine Apz ?_|refine Aiz ?_)
 | ((first|refine Aqz ?_|refine Ahz ?_|refine Ajz ?_|refine Akz ?_);simp (disch:=omega) only [push_cast,seval,l11r0,l11r1,Aaz])
 | ((first|refine Acz ?_ ?_|refine Agz ?_ ?_|refine Afz ?_ ?_)<;>intro h<;>(try simp only [h])<;>(try simp only [bitvec_to_nat] at h)<;>(try simp only [h])<;>(first|(exfalso;omega)|(exfalso;simp_all;done)|(simp (disch:=omega) only [push_cast,seval,Aaz])|skip))
 | ((first|((with_reducible refine Arz (f:=25) true ?_);simp (disch:=omega) only [push_cast,seval,Aaz];(refine Adz (newReader_ok _ _ ?_ ?_) ?_;(iterate 2 (exact sd));rintro _ _ ⟨bs0,hbs0,rfl,rfl⟩))|((with_reducible refine Azz (f:=32) [80] true ?_);simp (disch:=omega) only [push_cast,seval,Aaz];(refine C8z (id:=80) (idOf_ok _ _ ?_ ?_) (by (simp (disch:=omega) only [push_cast,seval,Aaz])<;>rfl) ?_;(iterate 2 (exact sd));rintro _ _ ⟨csG,esG,idG,pG,hsG,hiG,hpG,rfl,rfl⟩)))<;>(try simp (disch:=omega) only [push_cast,seval,Aaz]))))
  all_goals ((refine Amz ⟨.inr rfl,[96,97],[],_,by decide,rfl,?_⟩;(try simp (disch:=omega) only [push_cast,seval,↓Aoz,↓Alz,↓List.map_cons,↓List.map_nil,Aaz])))
  all_goals exact ⟨csG,esG,idG,sbQ_of hsG,hiG,rfl,rfl⟩
theorem Cvz (bs:List Int) (n:Nat) (hn:bs.length=n) (hb:n ≤ 1099511627776 ∧ ∀ x ∈ bs,0 ≤ x ∧ x ≤ 255):PCall Tryd.prog 11 [.rows false (UL bs) n] (fun r=>∃ cs es id,sbQ cs es ∧ koQ cs es id ∧ r=.tup [.agg [.rows true (IL cs) cs.length,.rows true (EL false es) es.length],.int .i64 id]):=by
  refine (BCall.plain (drawKOB_ok bs n hn hb)).mono ?_
  rintro r ⟨r0,H',⟨cs,es,id,h,hs,rfl,rfl⟩,rfl⟩
  refine ⟨cs,es,id,h,⟨hs,kidsA_len cs es id,Jxz cs es⟩,?_⟩
  simp [AV.ren,nthH,Juz,A6z]


theorem Cuz (cs:List Int) (es:List Ex) (m n:Nat) (id:Int) (hm:cs.length=m) (hn:es.length=n) (hb:m ≤ 1099511627776 ∧ n ≤ 1099511627776 ∧ exB 1099511627776 es) :
    PCall Tryd.prog 12 [.agg [.rows false (IL cs) m,.rows false (EL false es) n],.int .i64 id] (fun r=>r=.rows true (IL (kidsA cs es id)) (kidsA cs es id).length):=by
  refine (BCall.plain (iKids_ok cs es m n id hm hn hb)).mono ?_
  rintro r ⟨r0,H',⟨rfl,rfl⟩,rfl⟩
  simp [AV.ren,nthH,List.map_map,Function.comp_def]


theorem Csz (cs:List Int) (es:List Ex) (m n:Nat) (id:Int) (hm:cs.length=m) (hn:es.length=n) (hb:m ≤ 1099511627776 ∧ n ≤ 1099511627776 ∧ exB 1099511627776 es) :
    PCall Tryd.prog 14 [.agg [.rows false (IL cs) m,.rows false (EL false es) n],.int .i64 id] (fun r=>r=.rows true (IL (kidsA cs es id)) (kidsA cs es id).length):=by
  refine (BCall.plain (sKids_ok cs es m n id hm hn hb)).mono ?_
  rintro r ⟨r0,H',⟨rfl,rfl⟩,rfl⟩
  simp [AV.ren,nthH,List.map_map,Function.comp_def]




set_option maxHeartbeats 32000000 in
theorem lKOf_ok (bs:List Int) (hn:bs.length ≤ 9223372036854775807) (hb:∀ x ∈ bs,0 ≤ x ∧ x ≤ 255):PCall Tryd.prog 4 [.rows false (UL bs) bs.length] (fun r=>r=.bool true):=by
  refine A4z l4_eq rfl ?_
  by_cases h:bs.length ≤ 1048576
  · have q:bs.length ≤ 1099511627776 ∧ ∀ x ∈ bs,0 ≤ x ∧ x ≤ 255:=⟨by omega,hb⟩
    (repeat' (first
 | (first|refine Apz ?_|refine Aiz ?_)
 | ((first|refine Aqz ?_|refine Ahz ?_|refine Ajz ?_|refine Akz ?_);simp (disch:=omega) only [push_cast,seval,l4r0,l4r1,l4r2,l4r3,l4r4,l4r5,l4r6,l4r7,l4r8,l4r9,l4r10,l4r11,l4r12,Aaz,bne_self_eq_false,decide_true])
 | ((first|refine Acz ?_ ?_|refine Agz ?_ ?_|refine Afz ?_ ?_)<;>intro h<;>(try simp only [h])<;>(try simp only [bitvec_to_nat] at h)<;>(try simp only [h])<;>(first|(exfalso;omega)|(exfalso;simp_all;done)|(simp (disch:=omega) only [push_cast,seval,Aaz,bne_self_eq_false,decide_true])|skip))
 | ((first|((with_reducible refine Arz (f:=11) true ?_);simp (disch:=omega) only [push_cast,seval,Aaz,bne_self_eq_false,decide_true];(refine Adz (Aez (Cvz _ _ ?_ ?_)) ?_;(iterate 2 (exact sd));rintro _ _ ⟨⟨cs,es,id,⟨hs1,hs2,hs3,hs4,hs5⟩,⟨hk1,hk2,hol⟩,rfl⟩,rfl⟩))|((with_reducible refine Anz (f:=11) true ?_);simp (disch:=omega) only [push_cast,seval,Aaz,bne_self_eq_false,decide_true];(refine Abz (Aez (Cvz _ _ ?_ ?_)) ⟨_,_,rfl,rfl⟩ ?_;(iterate 2 (exact sd));rintro _ _ ⟨⟨cs,es,id,⟨hs1,hs2,hs3,hs4,hs5⟩,⟨hk1,hk2,hol⟩,rfl⟩,rfl⟩)))<;>(try simp (disch:=omega) only [push_cast,seval,Aaz,bne_self_eq_false,decide_true]))
 | ((first|refine Arz false ?_|refine Anz false ?_);simp (disch:=omega) only [push_cast,seval,Aaz,bne_self_eq_false,decide_true])
 | ((first|((first|refine Adz (Aez (Cuz _ _ _ _ _ ?_ ?_ ?_)) ?_|refine Abz (Aez (Cuz _ _ _ _ _ ?_ ?_ ?_)) ⟨_,_,rfl,rfl⟩ ?_);(iterate 3 (exact sd));rintro _ _ ⟨rfl,rfl⟩)|((first|refine Adz (Aez (Csz _ _ _ _ _ ?_ ?_ ?_)) ?_|refine Abz (Aez (Csz _ _ _ _ _ ?_ ?_ ?_)) ⟨_,_,rfl,rfl⟩ ?_);(iterate 3 (exact sd));rintro _ _ ⟨rfl,rfl⟩)|((first|refine Adz (Aez (Byz _ _ _ _ ?_ ?_ ?_)) ?_|refine Abz (Aez (Byz _ _ _ _ ?_ ?_ ?_)) ⟨_,_,rfl,rfl⟩ ?_);(iterate 3 (exact sd));rintro _ _ ⟨rfl,rfl⟩)|((first|refine Adz (Aez (Brz _ _ _ _ ?_ ?_ ?_)) ?_|refine Abz (Aez (Brz _ _ _ _ ?_ ?_ ?_)) ⟨_,_,rfl,rfl⟩ ?_);(iterate 3 (exact sd));rintro _ _ ⟨rfl,rfl⟩)|((first|refine Adz (Aez (D9z _ _ ?_ ?_)) ?_|refine Abz (Aez (D9z _ _ ?_ ?_)) ⟨_,_,rfl,rfl⟩ ?_);(iterate 2 (exact sd));rintro _ _ ⟨rfl,rfl⟩)|((first|refine Adz (Aez (Ccz _ _ ?_ ?_)) ?_|refine Abz (Aez (Ccz _ _ ?_ ?_)) ⟨_,_,rfl,rfl⟩ ?_);(iterate 2 (exact sd));rintro _ _ ⟨rfl,rfl⟩)|((first|refine Adz (Aez (Ctz _ _ _ _ ?_ ?_ ?_)) ?_|refine Abz (Aez (Ctz _ _ _ _ ?_ ?_ ?_)) ⟨_,_,rfl,rfl⟩ ?_);(iterate 3 (exact sd));rintro _ _ ⟨rfl,rfl⟩)|((first|refine Adz (Aez (Caz _ _ _ _ ?_ ?_ ?_)) ?_|refine Abz (Aez (Caz _ _ _ _ ?_ ?_ ?_)) ⟨_,_,rfl,rfl⟩ ?_);(iterate 3 (exact sd));rintro _ _ ⟨rfl,rfl⟩))<;>(try simp (disch:=omega) only [push_cast,seval,Aaz,bne_self_eq_false,decide_true]))))
    · (refine Amz ⟨.inr rfl,_,rfl,?_⟩;try simp (disch:=omega) only [push_cast,seval,decide_true])
    · have hv:vB cs es=true:=by assumption
      have hid:-1 ≤ id ∧ id < (es.length:Int):=by
        have h0:¬ id < -1:=fun e=>by rw [if_pos e] at h;cases h
        rw [if_neg h0] at h
        have:=of_decide_eq_false h
        omega
      have hkA:=fun (j:Int) (h1:-1 ≤ j) (h2:j < (es.length:Int))=>kidsA_at hv j h1 h2
      have hO:opensA cs es=opensT es es.length:=by unfold opensA;rw [if_pos hv]
      have hK:=hkA id hid.1 hid.2
      have hK0:=hkA (-1) (by omega) (by omega)
      rw [hK] at hk2
      rw [hO] at hol
      simp only [hK,hK0]
      refine Epz (fun i:Nat=>mkS [(3,.ref 48 2 0),(4,.int .i64 id),(5,.rows true (IL (kidsT es id es.length)) (kidsT es id es.length).length),(6,.int .i64 (kS es es.length i)),(7,.int .i64 i)] [(48,[.rows true (IL cs) cs.length,.rows true (EL false es) es.length])]) (fun i=>i ≤ es.length) (fun i=>es.length - i) 0 (Nat.zero_le _) ?_ ?_
      · refine SubW.of ?_
        rw [Hzz]
        (refine Sub.of_lists ?_ ?_ ?_ ?_ ?_<;>simp [Vw.mkS,Vw.lk,Vw.hk,AV.inn,innL,Avz,Atz,Ayz,-List.map_set,-List.getD_eq_getElem?_getD,Aaz])
      · intro i hi
        have b1:=kS_le (es:=es) hs4 i
        have hel:=A6z false es
        by_cases hlt:i < es.length
        · have hKi:=hkA (i:Int) (by omega) (by omega)
          have b2:=Doz es (i:Int) es.length
          (repeat' (first
 | (first|refine Apz ?_|refine Aiz ?_)
 | ((first|refine Aqz ?_|refine Ahz ?_|refine Ajz ?_|refine Akz ?_);simp (disch:=omega) only [push_cast,seval,l4r0,l4r1,l4r2,l4r3,l4r4,l4r5,l4r6,l4r7,l4r8,l4r9,l4r10,l4r11,l4r12,Aaz,hKi])
 | ((first|refine Acz ?_ ?_|refine Agz ?_ ?_|refine Afz ?_ ?_)<;>intro h<;>(try simp only [h])<;>(try simp only [bitvec_to_nat] at h)<;>(try simp only [h])<;>(first|(exfalso;omega)|(exfalso;simp_all;done)|(simp (disch:=omega) only [push_cast,seval,Aaz,hKi])|skip))
 | ((first|((with_reducible refine Arz (f:=11) true ?_);simp (disch:=omega) only [push_cast,seval,Aaz,hKi];(refine Adz (Aez (Cvz _ _ ?_ ?_)) ?_;(iterate 2 (exact sd));rintro _ _ ⟨⟨cs,es,id,⟨hs1,hs2,hs3,hs4,hs5⟩,⟨hk1,hk2,hol⟩,rfl⟩,rfl⟩))|((with_reducible refine Anz (f:=11) true ?_);simp (disch:=omega) only [push_cast,seval,Aaz,hKi];(refine Abz (Aez (Cvz _ _ ?_ ?_)) ⟨_,_,rfl,rfl⟩ ?_;(iterate 2 (exact sd));rintro _ _ ⟨⟨cs,es,id,⟨hs1,hs2,hs3,hs4,hs5⟩,⟨hk1,hk2,hol⟩,rfl⟩,rfl⟩)))<;>(try simp (disch:=omega) only [push_cast,seval,Aaz,hKi]))
 | ((first|refine Arz false ?_|refine Anz false ?_);simp (disch:=omega) only [push_cast,seval,Aaz,hKi])
 | ((first | ((first | refine Adz (Aez (Cuz _ _ _ _ _ ?_ ?_ ?_)) ?_ | refine Abz (Aez (Cuz _ _ _ _ _ ?_ ?_ ?_)) ⟨_,_,rfl,rfl⟩ ?_); (iterate 3 (exact sd)); rintro _ _ ⟨rfl,rfl⟩) | ((first | refine Adz (Aez (Csz _ _ _ _ _ ?_ ?_ ?_)) ?_ | refine Abz (Aez (Csz _ _ _ _ _ ?_ ?_ ?_)) ⟨_,_,rfl,rfl⟩ ?_); (iterate 3 (exact sd)); rintro _ _ ⟨rfl,rfl⟩) | ((first | refine Adz (Aez (Byz _ _ _ _ ?_ ?_ ?_)) ?_ | refine Abz (Aez (Byz _ _ _ _ ?_ ?_ ?_)) ⟨_,_,rfl,rfl⟩ ?_); (iterate 3 (exact sd)); rintro _ _ ⟨rfl,rfl⟩) | ((first | refine Adz (Aez (Brz _ _ _ _ ?_ ?_ ?_)) ?_ | refine Abz (Aez (Brz _ _ _ _ ?_ ?_ ?_)) ⟨_,_,rfl,rfl⟩ ?_); (iterate 3 (exact sd)); rintro _ _ ⟨rfl,rfl⟩) | ((first | refine Adz (Aez (D9z _ _ ?_ ?_)) ?_ | refine Abz (Aez (D9z _ _ ?_ ?_)) ⟨_,_,rfl,rfl⟩ ?_); (iterate 2 (exact sd)); rintro _ _ ⟨rfl,rfl⟩) | ((first | refine Adz (Aez (Ccz _ _ ?_ ?_)) ?_ | refine Abz (Aez (Ccz _ _ ?_ ?_)) ⟨_,_,rfl,rfl⟩ ?_); (iterate 2 (exact sd)); rintro _ _ ⟨rfl,rfl⟩) | ((first | refine Adz (Aez (Ctz _ _ _ _ ?_ ?_ ?_)) ?_ | refine Abz (Aez (Ctz _ _ _ _ ?_ ?_ ?_)) ⟨_,_,rfl,rfl⟩ ?_); (iterate 3 (exact sd)); rintro _ _ ⟨rfl,rfl⟩) | ((first | refine Adz (Aez (Caz _ _ _ _ ?_ ?_ ?_)) ?_ | refine Abz (Aez (Caz _ _ _ _ ?_ ?_ ?_)) ⟨_,_,rfl,rfl⟩ ?_); (iterate 3 (exact sd)); rintro _ _ ⟨rfl,rfl⟩)) <;> (try simp (disch := omega) only [push_cast,seval,Aaz,hKi]))))
          refine ⟨i + 1,by omega,by omega,SubW.of ?_⟩
          (refine Sub.of_lists ?_ ?_ ?_ ?_ ?_<;>simp [Vw.mkS,Vw.lk,Vw.hk,AV.inn,innL,Avz,Atz,Ayz,-List.map_set,-List.getD_eq_getElem?_getD,Aaz,Gtz])
        · have e:i=es.length:=by omega
          subst e
          have hSum:=kS_vB hv
          have p1:(kidsT es id es.length).length ≤ 1099511627776 ∧ ∀ i:Nat,1 ≤ i → i < (kidsT es id es.length).length → (kidsT es id es.length).getD (i - 1) 0 < (kidsT es id es.length).getD i 0:=⟨by omega,kids_asc1 es id es.length⟩
          have p2:((kidsT es id es.length).length ≤ 1099511627776 ∧ (opensT es es.length).length ≤ 1099511627776) ∧ ∀ x ∈ kidsT es id es.length,x ∈ opensT es es.length:=⟨⟨by omega,by omega⟩,fun x hx=>(Hyz hx).2⟩
          by_cases hneg:id < 0
          · (repeat' (first
 | (first|refine Apz ?_|refine Aiz ?_)
 | ((first|refine Aqz ?_|refine Ahz ?_|refine Ajz ?_|refine Akz ?_);simp (disch:=omega) only [push_cast,seval,l4r0,l4r1,l4r2,l4r3,l4r4,l4r5,l4r6,l4r7,l4r8,l4r9,l4r10,l4r11,l4r12,Aaz,hO,hSum,decide_true,hneg])
 | ((first|refine Acz ?_ ?_|refine Agz ?_ ?_|refine Afz ?_ ?_)<;>intro h<;>(try simp only [h])<;>(try simp only [bitvec_to_nat] at h)<;>(try simp only [h])<;>(first|(exfalso;omega)|(exfalso;simp_all;done)|(simp (disch:=omega) only [push_cast,seval,Aaz,hO,hSum,decide_true,hneg])|skip))
 | ((first|((with_reducible refine Arz (f:=11) true ?_);simp (disch:=omega) only [push_cast,seval,Aaz,hO,hSum,decide_true,hneg];(refine Adz (Aez (Cvz _ _ ?_ ?_)) ?_;(iterate 2 (exact sd));rintro _ _ ⟨⟨cs,es,id,⟨hs1,hs2,hs3,hs4,hs5⟩,⟨hk1,hk2,hol⟩,rfl⟩,rfl⟩))|((with_reducible refine Anz (f:=11) true ?_);simp (disch:=omega) only [push_cast,seval,Aaz,hO,hSum,decide_true,hneg];(refine Abz (Aez (Cvz _ _ ?_ ?_)) ⟨_,_,rfl,rfl⟩ ?_;(iterate 2 (exact sd));rintro _ _ ⟨⟨cs,es,id,⟨hs1,hs2,hs3,hs4,hs5⟩,⟨hk1,hk2,hol⟩,rfl⟩,rfl⟩)))<;>(try simp (disch:=omega) only [push_cast,seval,Aaz,hO,hSum,decide_true,hneg]))
 | ((first|refine Arz false ?_|refine Anz false ?_);simp (disch:=omega) only [push_cast,seval,Aaz,hO,hSum,decide_true,hneg])
 | ((first | ((first | refine Adz (Aez (Cuz _ _ _ _ _ ?_ ?_ ?_)) ?_ | refine Abz (Aez (Cuz _ _ _ _ _ ?_ ?_ ?_)) ⟨_,_,rfl,rfl⟩ ?_); (iterate 3 (exact sd)); rintro _ _ ⟨rfl,rfl⟩) | ((first | refine Adz (Aez (Csz _ _ _ _ _ ?_ ?_ ?_)) ?_ | refine Abz (Aez (Csz _ _ _ _ _ ?_ ?_ ?_)) ⟨_,_,rfl,rfl⟩ ?_); (iterate 3 (exact sd)); rintro _ _ ⟨rfl,rfl⟩) | ((first | refine Adz (Aez (Byz _ _ _ _ ?_ ?_ ?_)) ?_ | refine Abz (Aez (Byz _ _ _ _ ?_ ?_ ?_)) ⟨_,_,rfl,rfl⟩ ?_); (iterate 3 (exact sd)); rintro _ _ ⟨rfl,rfl⟩) | ((first | refine Adz (Aez (Brz _ _ _ _ ?_ ?_ ?_)) ?_ | refine Abz (Aez (Brz _ _ _ _ ?_ ?_ ?_)) ⟨_,_,rfl,rfl⟩ ?_); (iterate 3 (exact sd)); rintro _ _ ⟨rfl,rfl⟩) | ((first | refine Adz (Aez (D9z _ _ ?_ ?_)) ?_ | refine Abz (Aez (D9z _ _ ?_ ?_)) ⟨_,_,rfl,rfl⟩ ?_); (iterate 2 (exact sd)); rintro _ _ ⟨rfl,rfl⟩) | ((first | refine Adz (Aez (Ccz _ _ ?_ ?_)) ?_ | refine Abz (Aez (Ccz _ _ ?_ ?_)) ⟨_,_,rfl,rfl⟩ ?_); (iterate 2 (exact sd)); rintro _ _ ⟨rfl,rfl⟩) | ((first | refine Adz (Aez (Ctz _ _ _ _ ?_ ?_ ?_)) ?_ | refine Abz (Aez (Ctz _ _ _ _ ?_ ?_ ?_)) ⟨_,_,rfl,rfl⟩ ?_); (iterate 3 (exact sd)); rintro _ _ ⟨rfl,rfl⟩) | ((first | refine Adz (Aez (Caz _ _ _ _ ?_ ?_ ?_)) ?_ | refine Abz (Aez (Caz _ _ _ _ ?_ ?_ ?_)) ⟨_,_,rfl,rfl⟩ ?_); (iterate 3 (exact sd)); rintro _ _ ⟨rfl,rfl⟩)) <;> (try simp (disch := omega) only [push_cast,seval,Aaz,hO,hSum,decide_true,hneg]))))
            all_goals ((refine Amz ⟨.inr rfl,_,rfl,?_⟩;try simp (disch:=omega) only [push_cast,seval]))
            all_goals (try rfl)
          · obtain ⟨j,rfl⟩:∃ j:Nat,id=j:=⟨id.toNat,by omega⟩
            obtain ⟨pp,b,x,y,o,he⟩:=D8z (es:=es) (i:=j) (by omega)
            have hd:=C9z false es j he
            simp only at hd
            have hd4:((EL false es).drop (j * 5 + 4)).take 1=[.bool o]:=by have:=congrArg (fun l=>(l.drop 4).take 1) hd;simpa [List.drop_take,List.take_take] using this
            have hil:j * 5 + 5 ≤ es.length * 5:=by omega
            cases o with
            | true =>
              (repeat' (first
 | (first|refine Apz ?_|refine Aiz ?_)
 | ((first|refine Aqz ?_|refine Ahz ?_|refine Ajz ?_|refine Akz ?_);simp (disch:=omega) only [push_cast,seval,l4r0,l4r1,l4r2,l4r3,l4r4,l4r5,l4r6,l4r7,l4r8,l4r9,l4r10,l4r11,l4r12,Aaz,hO,hSum,decide_true,hel,hd4,hil])
 | ((first|refine Acz ?_ ?_|refine Agz ?_ ?_|refine Afz ?_ ?_)<;>intro h<;>(try simp only [h])<;>(try simp only [bitvec_to_nat] at h)<;>(try simp only [h])<;>(first|(exfalso;omega)|(exfalso;simp_all;done)|(simp (disch:=omega) only [push_cast,seval,Aaz,hO,hSum,decide_true,hel,hd4,hil])|skip))
 | ((first|((with_reducible refine Arz (f:=11) true ?_);simp (disch:=omega) only [push_cast,seval,Aaz,hO,hSum,decide_true,hel,hd4,hil];(refine Adz (Aez (Cvz _ _ ?_ ?_)) ?_;(iterate 2 (exact sd));rintro _ _ ⟨⟨cs,es,id,⟨hs1,hs2,hs3,hs4,hs5⟩,⟨hk1,hk2,hol⟩,rfl⟩,rfl⟩))|((with_reducible refine Anz (f:=11) true ?_);simp (disch:=omega) only [push_cast,seval,Aaz,hO,hSum,decide_true,hel,hd4,hil];(refine Abz (Aez (Cvz _ _ ?_ ?_)) ⟨_,_,rfl,rfl⟩ ?_;(iterate 2 (exact sd));rintro _ _ ⟨⟨cs,es,id,⟨hs1,hs2,hs3,hs4,hs5⟩,⟨hk1,hk2,hol⟩,rfl⟩,rfl⟩)))<;>(try simp (disch:=omega) only [push_cast,seval,Aaz,hO,hSum,decide_true,hel,hd4,hil]))
 | ((first|refine Arz false ?_|refine Anz false ?_);simp (disch:=omega) only [push_cast,seval,Aaz,hO,hSum,decide_true,hel,hd4,hil])
 | ((first | ((first | refine Adz (Aez (Cuz _ _ _ _ _ ?_ ?_ ?_)) ?_ | refine Abz (Aez (Cuz _ _ _ _ _ ?_ ?_ ?_)) ⟨_,_,rfl,rfl⟩ ?_); (iterate 3 (exact sd)); rintro _ _ ⟨rfl,rfl⟩) | ((first | refine Adz (Aez (Csz _ _ _ _ _ ?_ ?_ ?_)) ?_ | refine Abz (Aez (Csz _ _ _ _ _ ?_ ?_ ?_)) ⟨_,_,rfl,rfl⟩ ?_); (iterate 3 (exact sd)); rintro _ _ ⟨rfl,rfl⟩) | ((first | refine Adz (Aez (Byz _ _ _ _ ?_ ?_ ?_)) ?_ | refine Abz (Aez (Byz _ _ _ _ ?_ ?_ ?_)) ⟨_,_,rfl,rfl⟩ ?_); (iterate 3 (exact sd)); rintro _ _ ⟨rfl,rfl⟩) | ((first | refine Adz (Aez (Brz _ _ _ _ ?_ ?_ ?_)) ?_ | refine Abz (Aez (Brz _ _ _ _ ?_ ?_ ?_)) ⟨_,_,rfl,rfl⟩ ?_); (iterate 3 (exact sd)); rintro _ _ ⟨rfl,rfl⟩) | ((first | refine Adz (Aez (D9z _ _ ?_ ?_)) ?_ | refine Abz (Aez (D9z _ _ ?_ ?_)) ⟨_,_,rfl,rfl⟩ ?_); (iterate 2 (exact sd)); rintro _ _ ⟨rfl,rfl⟩) | ((first | refine Adz (Aez (Ccz _ _ ?_ ?_)) ?_ | refine Abz (Aez (Ccz _ _ ?_ ?_)) ⟨_,_,rfl,rfl⟩ ?_); (iterate 2 (exact sd)); rintro _ _ ⟨rfl,rfl⟩) | ((first | refine Adz (Aez (Ctz _ _ _ _ ?_ ?_ ?_)) ?_ | refine Abz (Aez (Ctz _ _ _ _ ?_ ?_ ?_)) ⟨_,_,rfl,rfl⟩ ?_); (iterate 3 (exact sd)); rintro _ _ ⟨rfl,rfl⟩) | ((first | refine Adz (Aez (Caz _ _ _ _ ?_ ?_ ?_)) ?_ | refine Abz (Aez (Caz _ _ _ _ ?_ ?_ ?_)) ⟨_,_,rfl,rfl⟩ ?_); (iterate 3 (exact sd)); rintro _ _ ⟨rfl,rfl⟩)) <;> (try simp (disch := omega) only [push_cast,seval,Aaz,hO,hSum,decide_true,hel,hd4,hil]))))
              all_goals ((refine Amz ⟨.inr rfl,_,rfl,?_⟩;try simp (disch:=omega) only [push_cast,seval]))
              all_goals (try rfl)
            | false =>
              have hz:(kidsT es (j:Int) es.length).length=0:=by rw [kids_shut hv he (by simp)];rfl
              (repeat' (first
 | (first|refine Apz ?_|refine Aiz ?_)
 | ((first|refine Aqz ?_|refine Ahz ?_|refine Ajz ?_|refine Akz ?_);simp (disch:=omega) only [push_cast,seval,l4r0,l4r1,l4r2,l4r3,l4r4,l4r5,l4r6,l4r7,l4r8,l4r9,l4r10,l4r11,l4r12,Aaz,hO,hSum,decide_true,hel,hd4,hil,hz])
 | ((first|refine Acz ?_ ?_|refine Agz ?_ ?_|refine Afz ?_ ?_)<;>intro h<;>(try simp only [h])<;>(try simp only [bitvec_to_nat] at h)<;>(try simp only [h])<;>(first|(exfalso;omega)|(exfalso;simp_all;done)|(simp (disch:=omega) only [push_cast,seval,Aaz,hO,hSum,decide_true,hel,hd4,hil,hz])|skip))
 | ((first|((with_reducible refine Arz (f:=11) true ?_);simp (disch:=omega) only [push_cast,seval,Aaz,hO,hSum,decide_true,hel,hd4,hil,hz];(refine Adz (Aez (Cvz _ _ ?_ ?_)) ?_;(iterate 2 (exact sd));rintro _ _ ⟨⟨cs,es,id,⟨hs1,hs2,hs3,hs4,hs5⟩,⟨hk1,hk2,hol⟩,rfl⟩,rfl⟩))|((with_reducible refine Anz (f:=11) true ?_);simp (disch:=omega) only [push_cast,seval,Aaz,hO,hSum,decide_true,hel,hd4,hil,hz];(refine Abz (Aez (Cvz _ _ ?_ ?_)) ⟨_,_,rfl,rfl⟩ ?_;(iterate 2 (exact sd));rintro _ _ ⟨⟨cs,es,id,⟨hs1,hs2,hs3,hs4,hs5⟩,⟨hk1,hk2,hol⟩,rfl⟩,rfl⟩)))<;>(try simp (disch:=omega) only [push_cast,seval,Aaz,hO,hSum,decide_true,hel,hd4,hil,hz]))
 | ((first|refine Arz false ?_|refine Anz false ?_);simp (disch:=omega) only [push_cast,seval,Aaz,hO,hSum,decide_true,hel,hd4,hil,hz])
 | ((first | ((first | refine Adz (Aez (Cuz _ _ _ _ _ ?_ ?_ ?_)) ?_ | refine Abz (Aez (Cuz _ _ _ _ _ ?_ ?_ ?_)) ⟨_,_,rfl,rfl⟩ ?_); (iterate 3 (exact sd)); rintro _ _ ⟨rfl,rfl⟩) | ((first | refine Adz (Aez (Csz _ _ _ _ _ ?_ ?_ ?_)) ?_ | refine Abz (Aez (Csz _ _ _ _ _ ?_ ?_ ?_)) ⟨_,_,rfl,rfl⟩ ?_); (iterate 3 (exact sd)); rintro _ _ ⟨rfl,rfl⟩) | ((first | refine Adz (Aez (Byz _ _ _ _ ?_ ?_ ?_)) ?_ | refine Abz (Aez (Byz _ _ _ _ ?_ ?_ ?_)) ⟨_,_,rfl,rfl⟩ ?_); (iterate 3 (exact sd)); rintro _ _ ⟨rfl,rfl⟩) | ((first | refine Adz (Aez (Brz _ _ _ _ ?_ ?_ ?_)) ?_ | refine Abz (Aez (Brz _ _ _ _ ?_ ?_ ?_)) ⟨_,_,rfl,rfl⟩ ?_); (iterate 3 (exact sd)); rintro _ _ ⟨rfl,rfl⟩) | ((first | refine Adz (Aez (D9z _ _ ?_ ?_)) ?_ | refine Abz (Aez (D9z _ _ ?_ ?_)) ⟨_,_,rfl,rfl⟩ ?_); (iterate 2 (exact sd)); rintro _ _ ⟨rfl,rfl⟩) | ((first | refine Adz (Aez (Ccz _ _ ?_ ?_)) ?_ | refine Abz (Aez (Ccz _ _ ?_ ?_)) ⟨_,_,rfl,rfl⟩ ?_); (iterate 2 (exact sd)); rintro _ _ ⟨rfl,rfl⟩) | ((first | refine Adz (Aez (Ctz _ _ _ _ ?_ ?_ ?_)) ?_ | refine Abz (Aez (Ctz _ _ _ _ ?_ ?_ ?_)) ⟨_,_,rfl,rfl⟩ ?_); (iterate 3 (exact sd)); rintro _ _ ⟨rfl,rfl⟩) | ((first | refine Adz (Aez (Caz _ _ _ _ ?_ ?_ ?_)) ?_ | refine Abz (Aez (Caz _ _ _ _ ?_ ?_ ?_)) ⟨_,_,rfl,rfl⟩ ?_); (iterate 3 (exact sd)); rintro _ _ ⟨rfl,rfl⟩)) <;> (try simp (disch := omega) only [push_cast,seval,Aaz,hO,hSum,decide_true,hel,hd4,hil,hz]))))
              all_goals ((refine Amz ⟨.inr rfl,_,rfl,?_⟩;try simp (disch:=omega) only [push_cast,seval]))
              all_goals (try rfl)
    all_goals ((refine Amz ⟨.inr rfl,_,rfl,?_⟩;try simp (disch:=omega) only [push_cast,seval,decide_true]))
  · (repeat' (first
 | (first|refine Apz ?_|refine Aiz ?_)
 | ((first|refine Aqz ?_|refine Ahz ?_|refine Ajz ?_|refine Akz ?_);simp (disch:=omega) only [push_cast,seval,l4r0,l4r1,l4r2,l4r3,l4r4,l4r5,l4r6,l4r7,l4r8,l4r9,l4r10,l4r11,l4r12,Aaz])
 | ((first|refine Acz ?_ ?_|refine Agz ?_ ?_|refine Afz ?_ ?_)<;>intro h<;>(try simp only [h])<;>(try simp only [bitvec_to_nat] at h)<;>(try simp only [h])<;>(first|(exfalso;omega)|(exfalso;simp_all;done)|(simp (disch:=omega) only [push_cast,seval,Aaz])|skip))
 | ((first|((with_reducible refine Arz (f:=11) true ?_);simp (disch:=omega) only [push_cast,seval,Aaz];(refine Adz (Aez (Cvz _ _ ?_ ?_)) ?_;(iterate 2 (exact sd));rintro _ _ ⟨⟨cs,es,id,⟨hs1,hs2,hs3,hs4,hs5⟩,⟨hk1,hk2,hol⟩,rfl⟩,rfl⟩))|((with_reducible refine Anz (f:=11) true ?_);simp (disch:=omega) only [push_cast,seval,Aaz];(refine Abz (Aez (Cvz _ _ ?_ ?_)) ⟨_,_,rfl,rfl⟩ ?_;(iterate 2 (exact sd));rintro _ _ ⟨⟨cs,es,id,⟨hs1,hs2,hs3,hs4,hs5⟩,⟨hk1,hk2,hol⟩,rfl⟩,rfl⟩)))<;>(try simp (disch:=omega) only [push_cast,seval,Aaz]))
 | ((first|refine Arz false ?_|refine Anz false ?_);simp (disch:=omega) only [push_cast,seval,Aaz])
 | ((first|((first|refine Adz (Aez (Cuz _ _ _ _ _ ?_ ?_ ?_)) ?_|refine Abz (Aez (Cuz _ _ _ _ _ ?_ ?_ ?_)) ⟨_,_,rfl,rfl⟩ ?_);(iterate 3 (exact sd));rintro _ _ ⟨rfl,rfl⟩)|((first|refine Adz (Aez (Csz _ _ _ _ _ ?_ ?_ ?_)) ?_|refine Abz (Aez (Csz _ _ _ _ _ ?_ ?_ ?_)) ⟨_,_,rfl,rfl⟩ ?_);(iterate 3 (exact sd));rintro _ _ ⟨rfl,rfl⟩)|((first|refine Adz (Aez (Byz _ _ _ _ ?_ ?_ ?_)) ?_|refine Abz (Aez (Byz _ _ _ _ ?_ ?_ ?_)) ⟨_,_,rfl,rfl⟩ ?_);(iterate 3 (exact sd));rintro _ _ ⟨rfl,rfl⟩)|((first|refine Adz (Aez (Brz _ _ _ _ ?_ ?_ ?_)) ?_|refine Abz (Aez (Brz _ _ _ _ ?_ ?_ ?_)) ⟨_,_,rfl,rfl⟩ ?_);(iterate 3 (exact sd));rintro _ _ ⟨rfl,rfl⟩)|((first|refine Adz (Aez (D9z _ _ ?_ ?_)) ?_|refine Abz (Aez (D9z _ _ ?_ ?_)) ⟨_,_,rfl,rfl⟩ ?_);(iterate 2 (exact sd));rintro _ _ ⟨rfl,rfl⟩)|((first|refine Adz (Aez (Ccz _ _ ?_ ?_)) ?_|refine Abz (Aez (Ccz _ _ ?_ ?_)) ⟨_,_,rfl,rfl⟩ ?_);(iterate 2 (exact sd));rintro _ _ ⟨rfl,rfl⟩)|((first|refine Adz (Aez (Ctz _ _ _ _ ?_ ?_ ?_)) ?_|refine Abz (Aez (Ctz _ _ _ _ ?_ ?_ ?_)) ⟨_,_,rfl,rfl⟩ ?_);(iterate 3 (exact sd));rintro _ _ ⟨rfl,rfl⟩)|((first|refine Adz (Aez (Caz _ _ _ _ ?_ ?_ ?_)) ?_|refine Abz (Aez (Caz _ _ _ _ ?_ ?_ ?_)) ⟨_,_,rfl,rfl⟩ ?_);(iterate 3 (exact sd));rintro _ _ ⟨rfl,rfl⟩))<;>(try simp (disch:=omega) only [push_cast,seval,Aaz]))
 | (refine Amz ⟨.inr rfl,_,rfl,?_⟩;(try simp (disch:=omega) only [push_cast,seval,Aaz]))))

end Go.Proofs.YtkpcjppnjmhanaaDoor
