/- Texts of this verifier. -/
import Derived.Test.YtkpcjppnjmhanaaGreatDoorCB6
import Derived.Test.YtkpcjppnjmhanaaGreatDoorCM1
import Derived.Test.YtkpcjppnjmhanaaGreatDoorCW3
set_option maxHeartbeats 4000000
set_option linter.unusedSimpArgs false
set_option linter.unusedSectionVars false
set_option linter.unusedVariables false
set_option maxRecDepth 4000
namespace Go.Proofs.YtkpcjppnjmhanaaGreatDoor
open VwM Vw Go
variable [SentA]

theorem G4z (n:Nat):PCall Tryz.prog 43 [.val (heldV n),.val (.iface 200 (.pointer (some SentA.a)))] (fun r=>r=.bool (decide (0 < n))):=by
  intro w B vs hB hG hl hd
  obtain ⟨u,v,rfl⟩:∃ u v,vs=[u,v]:=by
    match vs,hl with
    | [u,v],_=>exact ⟨u,v,rfl⟩
  simp only [DenP,Den] at hd
  obtain ⟨rfl,rfl,_⟩:=hd
  unfold heldV
  by_cases h:0 < n
  · rw [if_pos h]
    refine (is_same SentA.a w).mono fun e w' ⟨he,hw⟩=>?_
    subst he hw
    exact ⟨.bool true,_,by simp [h],rfl,by simp [Den],Go.RowKit.Below.refl _ _⟩
  · rw [if_neg h]
    refine (is_nil SentA.a w).mono fun e w' ⟨he,hw⟩=>?_
    subst he hw
    exact ⟨.bool false,_,by simp [h],rfl,by simp [Den],Go.RowKit.Below.refl _ _⟩


set_option maxHeartbeats 8000000 in
theorem A5z (cs:List Int) (es:List Ex) (m n:Nat) (hm:cs.length=m) (hn:es.length=n) (hb:m ≤ 1099511627776 ∧ n ≤ 1099511627776 ∧ exB 1099511627776 es) :
    PCall Tryz.prog 47 [.agg [.rows false (IL cs) m,.rows false (EL false es) n]] (fun r=>r=.bool (vB cs es)):=by
  subst hm hn
  have hb0:=hb
  obtain ⟨hb1,hb2,hb3⟩:=hb
  have hel:=A1z false es
  refine Awz l47_eq rfl ?_
  unfold vB
  (repeat' (first
 | (first|refine Ahz ?_|refine Abz ?_)
 | ((first|refine Aiz ?_);simp (disch:=omega) only [push_cast,seval,l47r0,l47r1,l47r2,l47r3,l47r4,l47r5,l47r6,Aaz])
 | (refine Aez ⟨.inr rfl,_,rfl,?_⟩;(try simp (disch:=omega) only [push_cast,seval,Aaz]))))
  refine A6z (fun i:Nat=>mkS [(1,.ref 16 2 0),(2,.bool false),(3,.int .i64 i)] [(16,[.rows false (IL cs) cs.length,.rows false (EL false es) es.length])]) (fun i=>i ≤ es.length ∧ allX (sxV cs.length es) es i=true) (fun i=>es.length - i) 0 ⟨Nat.zero_le _,rfl⟩ ?_ ?_
  · (refine Sub.of_lists ?_ ?_ ?_ ?_ ?_<;>simp [Vw.mkS,Vw.lk,Vw.hk,AV.inn,innL,Aoz,Alz,Arz,-List.map_set,-List.getD_eq_getElem?_getD,Aaz])
  · rintro i ⟨hi,hal⟩
    by_cases hlt:i < es.length
    · obtain ⟨p,b,x,y,o,he⟩:=C3z hlt
      cases hs:sxV cs.length es i (p,(b,x,y),o) with
 | false =>
        have hno:=allX_no (f:=sxV cs.length es) he hs hlt
        (repeat' (first
 | (first|refine Ahz ?_|refine Abz ?_)
 | ((first|refine Aiz ?_|refine Afz ?_|refine Apz ?_);simp (disch:=omega) only [push_cast,seval,l47r0,l47r1,l47r2,l47r3,l47r4,l47r5,l47r6,hel,hs,Aaz])
 | ((first|refine Anz (fun h=>?_) (fun h=>?_))<;>(try simp only [h])<;>(try simp only [bitvec_to_nat] at h)<;>(try simp only [h])<;>(first|(exfalso;omega)|(exfalso;simp_all;done)|(simp (disch:=omega) only [push_cast,seval,hel,hs,Aaz])|skip))
 | ((first|refine Amz false ?_);simp (disch:=omega) only [push_cast,seval,hel,hs,Aaz])
 | ((first|((first|refine Akz (Ajz (K1z _ _ _ _ _ _ _ _ _ _ ?_ ?_ (by assumption) ?_)) ?_|refine Agz (Ajz (K1z _ _ _ _ _ _ _ _ _ _ ?_ ?_ (by assumption) ?_)) ⟨_,_,rfl,rfl⟩ ?_);(iterate 3 (exact sd));rintro _ _ ⟨rfl,rfl⟩))<;>(try simp (disch:=omega) only [push_cast,seval,hel,hs,Aaz]))
 | (refine Aez ⟨.inr rfl,_,rfl,?_⟩;(try simp (disch:=omega) only [push_cast,seval,hel,hs,Aaz]))))
        all_goals (try simp [hno])
 | true =>
        have hyes:allX (sxV cs.length es) es (i + 1)=true:=by rw [Hcz he,hal,hs];rfl
        (repeat' (first
 | (first|refine Ahz ?_|refine Abz ?_)
 | ((first|refine Aiz ?_|refine Afz ?_|refine Apz ?_);simp (disch:=omega) only [push_cast,seval,l47r0,l47r1,l47r2,l47r3,l47r4,l47r5,l47r6,hel,hs,Aaz])
 | ((first|refine Anz (fun h=>?_) (fun h=>?_))<;>(try simp only [h])<;>(try simp only [bitvec_to_nat] at h)<;>(try simp only [h])<;>(first|(exfalso;omega)|(exfalso;simp_all;done)|(simp (disch:=omega) only [push_cast,seval,hel,hs,Aaz])|skip))
 | ((first|refine Amz false ?_);simp (disch:=omega) only [push_cast,seval,hel,hs,Aaz])
 | ((first|((first|refine Akz (Ajz (K1z _ _ _ _ _ _ _ _ _ _ ?_ ?_ (by assumption) ?_)) ?_|refine Agz (Ajz (K1z _ _ _ _ _ _ _ _ _ _ ?_ ?_ (by assumption) ?_)) ⟨_,_,rfl,rfl⟩ ?_);(iterate 3 (exact sd));rintro _ _ ⟨rfl,rfl⟩))<;>(try simp (disch:=omega) only [push_cast,seval,hel,hs,Aaz]))
 | (refine Aez ⟨.inr rfl,_,rfl,?_⟩;(try simp (disch:=omega) only [push_cast,seval,hel,hs,Aaz]))))
        refine ⟨i + 1,⟨by omega,hyes⟩,by omega,?_⟩
        (refine Sub.of_lists ?_ ?_ ?_ ?_ ?_<;>simp [Vw.mkS,Vw.lk,Vw.hk,AV.inn,innL,Aoz,Alz,Arz,-List.map_set,-List.getD_eq_getElem?_getD,Aaz])
    · have e:i=es.length:=by omega
      subst e
      cases hv:vMem cs with
 | false =>
        (repeat' (first
 | (first|refine Ahz ?_|refine Abz ?_)
 | ((first|refine Aiz ?_|refine Afz ?_|refine Ayz ?_);simp (disch:=omega) only [push_cast,seval,l47r0,l47r1,l47r2,l47r3,l47r4,l47r5,l47r6,hel,hv,hal,Aaz])
 | ((first|refine Anz (fun h=>?_) (fun h=>?_))<;>(try simp only [h])<;>(try simp only [bitvec_to_nat] at h)<;>(try simp only [h])<;>(first|(exfalso;omega)|(exfalso;simp_all;done)|(simp (disch:=omega) only [push_cast,seval,hel,hv,hal,Aaz])|skip))
 | ((first|refine Amz false ?_);simp (disch:=omega) only [push_cast,seval,hel,hv,hal,Aaz])
 | ((first|((first|refine Akz (Ajz (C9z _ _ ?_ ?_)) ?_|refine Agz (Ajz (C9z _ _ ?_ ?_)) ⟨_,_,rfl,rfl⟩ ?_);(iterate 2 (exact sd));rintro _ _ ⟨rfl,rfl⟩))<;>(try simp (disch:=omega) only [push_cast,seval,hel,hv,hal,Aaz]))
 | (refine Aez ⟨.inr rfl,_,rfl,?_⟩;(try simp (disch:=omega) only [push_cast,seval,hel,hv,hal,Aaz]))))
        all_goals (try simp)
 | true =>
        (repeat' (first
 | (first|refine Ahz ?_|refine Abz ?_)
 | ((first|refine Aiz ?_|refine Afz ?_|refine Ayz ?_);simp (disch:=omega) only [push_cast,seval,l47r0,l47r1,l47r2,l47r3,l47r4,l47r5,l47r6,hel,hv,hal,Aaz])
 | ((first|refine Anz (fun h=>?_) (fun h=>?_))<;>(try simp only [h])<;>(try simp only [bitvec_to_nat] at h)<;>(try simp only [h])<;>(first|(exfalso;omega)|(exfalso;simp_all;done)|(simp (disch:=omega) only [push_cast,seval,hel,hv,hal,Aaz])|skip))
 | ((first|refine Amz false ?_);simp (disch:=omega) only [push_cast,seval,hel,hv,hal,Aaz])
 | ((first|((first|refine Akz (Ajz (C9z _ _ ?_ ?_)) ?_|refine Agz (Ajz (C9z _ _ ?_ ?_)) ⟨_,_,rfl,rfl⟩ ?_);(iterate 2 (exact sd));rintro _ _ ⟨rfl,rfl⟩))<;>(try simp (disch:=omega) only [push_cast,seval,hel,hv,hal,Aaz]))
 | (refine Aez ⟨.inr rfl,_,rfl,?_⟩;(try simp (disch:=omega) only [push_cast,seval,hel,hv,hal,Aaz]))))
        all_goals (try simp)
        all_goals (try omega)


set_option maxHeartbeats 8000000 in
theorem Lmz (p b:Int) (x y:List Int) (o:Bool) (n m:Nat) (i k:Nat) (hn:x.length=n) (hm:y.length=m) (hb:(n ≤ 1099511627776 ∧ m ≤ 1099511627776) ∧ (i ≤ 1000000 ∧ k ≤ 60)) :
    PCall Tryz.prog 54 [.agg [.int .i64 p,.int .i64 b,.rows false (IL x) n,.rows false (IL y) m,.bool o],.int .i64 i,.int .i64 k] (fun r=>r=.bool (exV k i (p,(b,x,y),o))):=by
  subst hn hm
  obtain ⟨⟨hbx,hby⟩,hi,hk⟩:=hb
  refine Awz l54_eq rfl ?_
  unfold exV
  simp only
  cases hv:vV b x y with
  | false =>
    (repeat' (first
 | (first|refine Ahz ?_|refine Abz ?_)
 | ((first|refine Aiz ?_|refine Afz ?_);simp (disch:=omega) only [push_cast,seval,l54r0,l54r1,l54r2,l54r3,hv])
 | ((first|refine Amz false ?_);simp (disch:=omega) only [push_cast,seval,hv])
 | ((first|((first|refine Akz (Ajz (A8z _ _ _ _ _ ?_ ?_ ?_)) ?_|refine Agz (Ajz (A8z _ _ _ _ _ ?_ ?_ ?_)) ⟨_,_,rfl,rfl⟩ ?_);(iterate 3 (exact sd));rintro _ _ ⟨rfl,rfl⟩))<;>(try simp (disch:=omega) only [push_cast,seval,hv]))
 | (refine Aez ⟨.inr rfl,_,rfl,?_⟩;(try simp (disch:=omega) only [push_cast,seval,hv]))))
    all_goals (try simp)
  | true =>
    by_cases hp:-1 ≤ p ∧ p ≤ (i:Int) - 1
    · have hpd:(decide (-1 ≤ p) && decide (p ≤ (i:Int) - 1))=true:=by rw [Bool.and_eq_true,decide_eq_true_eq,decide_eq_true_eq];exact hp
      rw [hpd]
      have hf:fitB b x y k=allI (offs b x y) 0 ((k:Int) - 1):=by
        unfold fitB
        rw [hv]
        have:(decide ((0:Int) ≤ k) && decide ((k:Int) ≤ 60))=true:=by rw [Bool.and_eq_true,decide_eq_true_eq,decide_eq_true_eq];omega
        rw [this];rfl
      have hp3:(p < -1)=False:=eq_false (by omega)
      have hp4:((i:Int) ≤ p)=False:=eq_false (by omega)
      cases o with
 | false =>
        (repeat' (first
 | (first|refine Ahz ?_|refine Abz ?_)
 | ((first|refine Aiz ?_|refine Afz ?_|refine Apz ?_);simp (disch:=omega) only [push_cast,seval,l54r0,l54r1,l54r2,l54r3,hv,hp3,hp4,decide_false])
 | ((first|refine Amz false ?_);simp (disch:=omega) only [push_cast,seval,hv,hp3,hp4,decide_false])
 | ((first|((first|refine Akz (Ajz (A8z _ _ _ _ _ ?_ ?_ ?_)) ?_|refine Agz (Ajz (A8z _ _ _ _ _ ?_ ?_ ?_)) ⟨_,_,rfl,rfl⟩ ?_);(iterate 3 (exact sd));rintro _ _ ⟨rfl,rfl⟩))<;>(try simp (disch:=omega) only [push_cast,seval,hv,hp3,hp4,decide_false]))
 | (refine Aez ⟨.inr rfl,_,rfl,?_⟩;(try simp (disch:=omega) only [push_cast,seval,hv,hp3,hp4,decide_false]))))
        all_goals (try simp)
 | true =>
        (repeat' (first
 | (first|refine Ahz ?_|refine Abz ?_)
 | ((first|refine Aiz ?_|refine Afz ?_|refine Apz ?_);simp (disch:=omega) only [push_cast,seval,l54r0,l54r1,l54r2,l54r3,hv,hf,hp3,hp4,decide_false])
 | ((first|refine Amz false ?_);simp (disch:=omega) only [push_cast,seval,hv,hf,hp3,hp4,decide_false])
 | ((first|((first|refine Akz (Ajz (A8z _ _ _ _ _ ?_ ?_ ?_)) ?_|refine Agz (Ajz (A8z _ _ _ _ _ ?_ ?_ ?_)) ⟨_,_,rfl,rfl⟩ ?_);(iterate 3 (exact sd));rintro _ _ ⟨rfl,rfl⟩)|((first|refine Akz (Ajz (Cwz _ _ _ _ _ _ ?_ ?_ ?_)) ?_|refine Agz (Ajz (Cwz _ _ _ _ _ _ ?_ ?_ ?_)) ⟨_,_,rfl,rfl⟩ ?_);(iterate 3 (exact sd));rintro _ _ ⟨rfl,rfl⟩))<;>(try simp (disch:=omega) only [push_cast,seval,hv,hf,hp3,hp4,decide_false]))
 | (refine Aez ⟨.inr rfl,_,rfl,?_⟩;(try simp (disch:=omega) only [push_cast,seval,hv,hf,hp3,hp4,decide_false]))))
        all_goals (try simp)
    · have hpd:(decide (-1 ≤ p) && decide (p ≤ (i:Int) - 1))=false:=by rw [Bool.eq_false_iff];intro h;simp at h;omega
      rw [hpd]
      by_cases hp1:p < -1
      · have hp3:(p < -1)=True:=eq_true hp1
        (repeat' (first
 | (first|refine Ahz ?_|refine Abz ?_)
 | ((first|refine Aiz ?_|refine Afz ?_);simp (disch:=omega) only [push_cast,seval,l54r0,l54r1,l54r2,l54r3,hv,hp3,decide_true])
 | ((first|refine Amz false ?_);simp (disch:=omega) only [push_cast,seval,hv,hp3,decide_true])
 | ((first|((first|refine Akz (Ajz (A8z _ _ _ _ _ ?_ ?_ ?_)) ?_|refine Agz (Ajz (A8z _ _ _ _ _ ?_ ?_ ?_)) ⟨_,_,rfl,rfl⟩ ?_);(iterate 3 (exact sd));rintro _ _ ⟨rfl,rfl⟩))<;>(try simp (disch:=omega) only [push_cast,seval,hv,hp3,decide_true]))
 | (refine Aez ⟨.inr rfl,_,rfl,?_⟩;(try simp (disch:=omega) only [push_cast,seval,hv,hp3,decide_true]))))
        all_goals (try simp)
      · have hp3:(p < -1)=False:=eq_false hp1
        have hp4:((i:Int) ≤ p)=True:=eq_true (by omega)
        (repeat' (first
 | (first|refine Ahz ?_|refine Abz ?_)
 | ((first|refine Aiz ?_|refine Afz ?_);simp (disch:=omega) only [push_cast,seval,l54r0,l54r1,l54r2,l54r3,hv,hp3,hp4,decide_false,decide_true])
 | ((first|refine Amz false ?_);simp (disch:=omega) only [push_cast,seval,hv,hp3,hp4,decide_false,decide_true])
 | ((first|((first|refine Akz (Ajz (A8z _ _ _ _ _ ?_ ?_ ?_)) ?_|refine Agz (Ajz (A8z _ _ _ _ _ ?_ ?_ ?_)) ⟨_,_,rfl,rfl⟩ ?_);(iterate 3 (exact sd));rintro _ _ ⟨rfl,rfl⟩))<;>(try simp (disch:=omega) only [push_cast,seval,hv,hp3,hp4,decide_false,decide_true]))
 | (refine Aez ⟨.inr rfl,_,rfl,?_⟩;(try simp (disch:=omega) only [push_cast,seval,hv,hp3,hp4,decide_false,decide_true]))))
        all_goals (try simp)


theorem Fsz {es:List Ex} {p:Int}:∀ {k:Nat},kidsT es p k=[] ↔ ∀ i e,i < k → es[i]?=some e → ¬ (e.2.2=true ∧ e.1=p)
  | 0=>by simp [kidsT]
  | k + 1=>by
    constructor
    · intro h i e hi he
      cases hk:es[k]? with
 | none =>
        by_cases hik:i=k
        · subst hik;rw [hk] at he;cases he
        · simp only [kidsT,hk] at h
          exact Fsz.1 h i e (by omega) he
 | some f =>
        by_cases hf:f.2.2=true ∧ f.1=p
        · rw [Jaz hk hf] at h;simp at h
        · rw [Frz hk hf] at h
          by_cases hik:i=k
          · subst hik;rw [hk] at he;injection he with he;subst he;exact hf
          · exact Fsz.1 h i e (by omega) he
    · intro h
      have ih:kidsT es p k=[]:=Fsz.2 fun i e hi he=>h i e (by omega) he
      cases hk:es[k]? with
 | none=>simp only [kidsT,hk];exact ih
 | some f=>rw [Frz hk (h k f (by omega) hk)];exact ih
/-- No closed export has open ones of its own. -/
def closB (es:List Ex) (n:Nat) (j:Nat) (e:Ex):Bool:=e.2.2 || decide ((kidsT es (j:Int) n).length=0)
theorem vB_clos {cs:List Int} {es:List Ex} (h1:vMem cs=true) (h2:es.length ≤ 8) (h3:allX (exV cs.length) es es.length=true):vB cs es=allX (closB es es.length) es es.length:=by
  unfold vB
  rw [h1,decide_eq_true h2]
  simp only [Bool.true_and]
  rw [Bool.eq_iff_iff,Dez,Dez]
  have hp:=parOk_of h3
  constructor
  · intro h j e hj he
    unfold closB
    cases ho:e.2.2 with
    | true=>rfl
    | false =>
      simp only [Bool.false_or,decide_eq_true_eq,List.length_eq_zero_iff]
      refine Fsz.2 fun i f hi hf ⟨hfo,hfp⟩=>?_
      have:=h i f hi hf
      unfold sxV at this
      rw [hfo,hfp] at this
      simp only [Bool.and_eq_true,Bool.not_true,Bool.false_or,Bool.or_eq_true,decide_eq_true_eq] at this
      rcases this.2 with hx|hx
      · omega
      · simp only [opE,Int.toNat_natCast,he] at hx
        rw [ho] at hx;cases hx
  · intro h i f hi hf
    unfold sxV
    rw [Dez.1 h3 i f hi hf]
    simp only [Bool.true_and]
    cases hfo:f.2.2 with
    | false=>rfl
    | true =>
      simp only [Bool.not_true,Bool.false_or,Bool.or_eq_true,decide_eq_true_eq]
      have hpp:=hp i f hf
      by_cases hneg:f.1 < 0
      · exact .inl hneg
      · right
        obtain ⟨q,hq⟩:∃ q:Nat,f.1=q:=⟨f.1.toNat,by omega⟩
        have hql:q < es.length:=by omega
        have hqe:=List.getElem?_eq_getElem hql
        have:=h q _ hql hqe
        unfold closB at this
        simp only [opE,hq,Int.toNat_natCast,hqe]
        cases ho:es[q].2.2 with
        | true=>rfl
        | false =>
          rw [ho] at this
          simp only [Bool.false_or,decide_eq_true_eq,List.length_eq_zero_iff] at this
          exact absurd ⟨hfo,hq⟩ (Fsz.1 this i f hi hf)
theorem vB_no {cs:List Int} {es:List Ex} {i:Nat} {e:Ex} (he:es[i]?=some e) (h:exV cs.length i e=false):vB cs es=false:=by
  unfold vB
  rw [allX_no (f:=sxV cs.length es) he (by unfold sxV;rw [h];rfl) (List.getElem?_eq_some_iff.1 he).1]
  simp


set_option maxHeartbeats 16000000 in
theorem Cez (cs:List Int) (es:List Ex) (m n:Nat) (hm:cs.length=m) (hn:es.length=n) (hb:m ≤ 1099511627776 ∧ n ≤ 1099511627776 ∧ exB 1099511627776 es) :
    PCall Tryz.prog 19 [.agg [.rows false (IL cs) m,.rows false (EL false es) n]] (fun r=>r=.bool (vB cs es)):=by
  subst hm hn
  obtain ⟨hb1,hb2,hb3⟩:=hb
  have hel:=A1z false es
  refine Awz l19_eq rfl ?_
  cases hv:vMem cs with
  | false =>
    have hvb:vB cs es=false:=by unfold vB;rw [hv];rfl
    rw [hvb]
    (repeat' (first
 | (first|refine Ahz ?_|refine Abz ?_)
 | ((first|refine Aiz ?_|refine Afz ?_);simp (disch:=omega) only [push_cast,seval,l19r0,l19r1,l19r2,l19r3,l19r4,l19r5,l19r6,l19r7,l19r8,l19r9,l19r10,l19r11,l19r12a,l19r12b,l19r12,l19r13,l19r14,l19r15,hv,hel,Aaz])
 | ((first|refine Amz false ?_);simp (disch:=omega) only [push_cast,seval,hv,hel,Aaz])
 | ((first|((first|refine Akz (Ajz (Dbz _ _ ?_ ?_)) ?_|refine Agz (Ajz (Dbz _ _ ?_ ?_)) ⟨_,_,rfl,rfl⟩ ?_);(iterate 2 (exact sd));rintro _ _ ⟨rfl,rfl⟩))<;>(try simp (disch:=omega) only [push_cast,seval,hv,hel,Aaz]))
 | (refine Aez ⟨.inr rfl,_,rfl,?_⟩;(try simp (disch:=omega) only [push_cast,seval,hv,hel,Aaz]))))
  | true =>
    have hm60:cs.length ≤ 60:=by unfold vMem at hv;simp at hv;omega
    by_cases h8:es.length ≤ 8
    · (repeat' (first
 | (first|refine Ahz ?_|refine Abz ?_)
 | ((first|refine Aiz ?_|refine Afz ?_|refine Apz ?_);simp (disch:=omega) only [push_cast,seval,l19r0,l19r1,l19r2,l19r3,l19r4,l19r5,l19r6,l19r7,l19r8,l19r9,l19r10,l19r11,l19r12a,l19r12b,l19r12,l19r13,l19r14,l19r15,hv,hel,Aaz])
 | ((first|refine Anz (fun h=>?_) (fun h=>?_))<;>(try simp only [h])<;>(try simp only [bitvec_to_nat] at h)<;>(try simp only [h])<;>(first|(exfalso;omega)|(exfalso;simp_all;done)|(simp (disch:=omega) only [push_cast,seval,hv,hel,Aaz])|skip))
 | ((first|refine Amz false ?_);simp (disch:=omega) only [push_cast,seval,hv,hel,Aaz])
 | ((first|((first|refine Akz (Ajz (Dbz _ _ ?_ ?_)) ?_|refine Agz (Ajz (Dbz _ _ ?_ ?_)) ⟨_,_,rfl,rfl⟩ ?_);(iterate 2 (exact sd));rintro _ _ ⟨rfl,rfl⟩))<;>(try simp (disch:=omega) only [push_cast,seval,hv,hel,Aaz]))
 | (refine Aez ⟨.inr rfl,_,rfl,?_⟩;(try simp (disch:=omega) only [push_cast,seval,hv,hel,Aaz]))))
      refine A6z (fun i:Nat=>mkS [(1,.ref 16 2 0),(2,.bool false),(18,.rows false (EL false es) es.length),(19,.int .i64 es.length),(20,.int .i64 i)] [(16,[.rows false (IL cs) cs.length,.rows false (EL false es) es.length])]) (fun i=>i ≤ es.length ∧ allX (exV cs.length) es i=true) (fun i=>es.length - i) 0 ⟨Nat.zero_le _,rfl⟩ ?_ ?_
      · (refine Sub.of_lists ?_ ?_ ?_ ?_ ?_<;>simp [Vw.mkS,Vw.lk,Vw.hk,AV.inn,innL,Aoz,Alz,Arz,-List.map_set,-List.getD_eq_getElem?_getD,Aaz])
      · rintro i ⟨hi,hal⟩
        by_cases hlt:i < es.length
        · obtain ⟨p,b,x,y,o,he⟩:=C3z hlt
          obtain ⟨hbx,hby⟩:=D9z hb3 he
          have hd:=B9z false es i he
          simp only at hd
          have hil:i * 5 + 5 ≤ es.length * 5:=by omega
          cases hs:exV cs.length i (p,(b,x,y),o) with
          | false =>
            have hno:=vB_no he hs
            rw [hno]
            (repeat' (first
 | (first|refine Ahz ?_|refine Abz ?_)
 | ((first|refine Aiz ?_|refine Afz ?_|refine Apz ?_);simp (disch:=omega) only [push_cast,seval,l19r0,l19r1,l19r2,l19r3,l19r4,l19r5,l19r6,l19r7,l19r8,l19r9,l19r10,l19r11,l19r12a,l19r12b,l19r12,l19r13,l19r14,l19r15,hd,hil,hel,hs,Aaz])
 | ((first|refine Anz (fun h=>?_) (fun h=>?_))<;>(try simp only [h])<;>(try simp only [bitvec_to_nat] at h)<;>(try simp only [h])<;>(first|(exfalso;omega)|(exfalso;simp_all;done)|(simp (disch:=omega) only [push_cast,seval,hd,hil,hel,hs,Aaz])|skip))
 | ((first|refine Amz false ?_);simp (disch:=omega) only [push_cast,seval,hd,hil,hel,hs,Aaz])
 | ((first|((first|refine Akz (Ajz (Lmz _ _ _ _ _ _ _ _ _ ?_ ?_ ?_)) ?_|refine Agz (Ajz (Lmz _ _ _ _ _ _ _ _ _ ?_ ?_ ?_)) ⟨_,_,rfl,rfl⟩ ?_);(iterate 3 (exact sd));rintro _ _ ⟨rfl,rfl⟩))<;>(try simp (disch:=omega) only [push_cast,seval,hd,hil,hel,hs,Aaz]))
 | (refine Aez ⟨.inr rfl,_,rfl,?_⟩; (try simp (disch := omega) only [push_cast,seval,hd,hil,hel,hs,Aaz]))))
          | true =>
            have hyes:allX (exV cs.length) es (i + 1)=true:=by rw [Hcz he,hal,hs];rfl
            (repeat' (first
 | (first|refine Ahz ?_|refine Abz ?_)
 | ((first|refine Aiz ?_|refine Afz ?_|refine Apz ?_);simp (disch:=omega) only [push_cast,seval,l19r0,l19r1,l19r2,l19r3,l19r4,l19r5,l19r6,l19r7,l19r8,l19r9,l19r10,l19r11,l19r12a,l19r12b,l19r12,l19r13,l19r14,l19r15,hd,hil,hel,hs,Aaz])
 | ((first|refine Anz (fun h=>?_) (fun h=>?_))<;>(try simp only [h])<;>(try simp only [bitvec_to_nat] at h)<;>(try simp only [h])<;>(first|(exfalso;omega)|(exfalso;simp_all;done)|(simp (disch:=omega) only [push_cast,seval,hd,hil,hel,hs,Aaz])|skip))
 | ((first|refine Amz false ?_);simp (disch:=omega) only [push_cast,seval,hd,hil,hel,hs,Aaz])
 | ((first|((first|refine Akz (Ajz (Lmz _ _ _ _ _ _ _ _ _ ?_ ?_ ?_)) ?_|refine Agz (Ajz (Lmz _ _ _ _ _ _ _ _ _ ?_ ?_ ?_)) ⟨_,_,rfl,rfl⟩ ?_);(iterate 3 (exact sd));rintro _ _ ⟨rfl,rfl⟩))<;>(try simp (disch:=omega) only [push_cast,seval,hd,hil,hel,hs,Aaz]))
 | (refine Aez ⟨.inr rfl,_,rfl,?_⟩; (try simp (disch := omega) only [push_cast,seval,hd,hil,hel,hs,Aaz]))))
            refine ⟨i + 1,⟨by omega,hyes⟩,by omega,?_⟩
            (refine Sub.of_lists ?_ ?_ ?_ ?_ ?_<;>simp [Vw.mkS,Vw.lk,Vw.hk,AV.inn,innL,Aoz,Alz,Arz,-List.map_set,-List.getD_eq_getElem?_getD,Aaz])
        · have e:i=es.length:=by omega
          subst e
          have hpo:=parOk_of hal
          have hvc:=vB_clos hv h8 hal
          rw [hvc]
          have hq:cs.length ≤ 1000 ∧ es.length ≤ 1000:=⟨by omega,by omega⟩
          (repeat' (first
 | (first|refine Ahz ?_|refine Abz ?_)
 | ((first|refine Aiz ?_|refine Afz ?_|refine Ayz ?_);simp (disch:=omega) only [push_cast,seval,l19r0,l19r1,l19r2,l19r3,l19r4,l19r5,l19r6,l19r7,l19r8,l19r9,l19r10,l19r11,l19r12a,l19r12b,l19r12,l19r13,l19r14,l19r15,hel,Aaz])
 | ((first|refine Anz (fun h=>?_) (fun h=>?_))<;>(try simp only [h])<;>(try simp only [bitvec_to_nat] at h)<;>(try simp only [h])<;>(first|(exfalso;omega)|(exfalso;simp_all;done)|(simp (disch:=omega) only [push_cast,seval,hel,Aaz])|skip))
 | (refine Aez ⟨.inr rfl,_,rfl,?_⟩; (try simp (disch := omega) only [push_cast,seval,hel,Aaz]))))
          refine A6z (fun i:Nat=>mkS [(1,.ref 16 2 0),(2,.bool false),(34,.rows false (EL false es) es.length),(35,.int .i64 es.length),(36,.int .i64 i)] [(16,[.rows false (IL cs) cs.length,.rows false (EL false es) es.length])]) (fun i=>i ≤ es.length ∧ allX (closB es es.length) es i=true) (fun i=>es.length - i) 0 ⟨Nat.zero_le _,rfl⟩ ?_ ?_
          · (refine Sub.of_lists ?_ ?_ ?_ ?_ ?_<;>simp [Vw.mkS,Vw.lk,Vw.hk,AV.inn,innL,Aoz,Alz,Arz,-List.map_set,-List.getD_eq_getElem?_getD,Aaz])
          · rintro i ⟨hi,hal2⟩
            by_cases hlt2:i < es.length
            · obtain ⟨p,b,x,y,o,he⟩:=C3z hlt2
              have hd:=B9z false es i he
              simp only at hd
              have hil:i * 5 + 5 ≤ es.length * 5:=by omega
              have hkl:=E9z es i es.length
              cases o with
              | true =>
                have hyes:allX (closB es es.length) es (i + 1)=true:=by rw [Hcz he,hal2];rfl
                (repeat' (first
 | (first|refine Ahz ?_|refine Abz ?_)
 | ((first|refine Aiz ?_|refine Auz (mid:=l19r12a) (post:=l19r12b) Bcz (by decide) ?_|refine Afz ?_|refine Apz ?_);simp (disch:=omega) only [push_cast,seval,l19r0,l19r1,l19r2,l19r3,l19r4,l19r5,l19r6,l19r7,l19r8,l19r9,l19r10,l19r11,l19r12a,l19r12b,l19r12,l19r13,l19r14,l19r15,hd,hil,hel,Eqz,Aaz])
 | ((first|refine Anz (fun h=>?_) (fun h=>?_))<;>(try simp only [h])<;>(try simp only [bitvec_to_nat] at h)<;>(try simp only [h])<;>(first|(exfalso;omega)|(exfalso;simp_all;done)|(simp (disch:=omega) only [push_cast,seval,hd,hil,hel,Eqz,Aaz])|skip))
 | (refine Aez ⟨.inr rfl,_,rfl,?_⟩; (try simp (disch := omega) only [push_cast,seval,hd,hil,hel,Eqz,Aaz]))))
                refine ⟨i + 1,⟨by omega,hyes⟩,by omega,?_⟩
                (refine Sub.of_lists ?_ ?_ ?_ ?_ ?_<;>simp [Vw.mkS,Vw.lk,Vw.hk,AV.inn,innL,Aoz,Alz,Arz,-List.map_set,-List.getD_eq_getElem?_getD,Aaz])
              | false =>
                by_cases hk:0 < (kidsT es i es.length).length
                · have hno:allX (closB es es.length) es es.length=false:=allX_no (f:=closB es es.length) he (by unfold closB;simp;intro h;rw [h] at hk;simp at hk) hlt2
                  rw [hno]
                  have hk2:=decide_eq_true hk
                  generalize hK:kidsT es i es.length=ks at *
                  generalize hKn:ks.length=kn at *
                  (repeat' (first
 | (first|refine Ahz ?_|refine Abz ?_)
 | ((first|refine Aiz ?_|refine Auz (mid:=l19r12a) (post:=l19r12b) Bcz (by decide) ?_|refine Afz ?_|refine Apz ?_);simp (disch:=omega) only [push_cast,seval,l19r0,l19r1,l19r2,l19r3,l19r4,l19r5,l19r6,l19r7,l19r8,l19r9,l19r10,l19r11,l19r12a,l19r12b,l19r12,l19r13,l19r14,l19r15,hd,hil,hel,Eqz,D4z,hK,hKn,hk2,Aaz])
 | ((first|refine Anz (fun h=>?_) (fun h=>?_))<;>(try simp only [h])<;>(try simp only [bitvec_to_nat] at h)<;>(try simp only [h])<;>(first|(exfalso;omega)|(exfalso;simp_all;done)|(simp (disch:=omega) only [push_cast,seval,hd,hil,hel,Eqz,D4z,hK,hKn,hk2,Aaz])|skip))
 | ((first|refine Amz false ?_|refine Azz false ?_);simp (disch:=omega) only [push_cast,seval,hd,hil,hel,Eqz,D4z,hK,hKn,hk2,Aaz])
 | ((first|((first|refine Akz (Ajz (Ibz _ _ _ _ _ ?_ ?_ ?_ ?_ ?_)) ?_|refine Agz (Ajz (Ibz _ _ _ _ _ ?_ ?_ ?_ ?_ ?_)) ⟨_,_,rfl,rfl⟩ ?_);(iterate 5 (exact sd));rintro _ _ ⟨rfl,rfl⟩)|((first|refine Akz (Ajz (Loz _ _ ?_ ?_)) ?_|refine Agz (Ajz (Loz _ _ ?_ ?_)) ⟨_,_,rfl,rfl⟩ ?_);(iterate 2 (exact sd));rintro _ _ ⟨rfl,rfl⟩)|((first|refine Akz (Ajz (G4z _)) ?_|refine Agz (Ajz (G4z _)) ⟨_,_,rfl,rfl⟩ ?_);rintro _ _ ⟨rfl,rfl⟩))<;>(try simp (disch:=omega) only [push_cast,seval,hd,hil,hel,Eqz,D4z,hK,hKn,hk2,Aaz]))
 | (refine Aez ⟨.inr rfl,_,rfl,?_⟩; (try simp (disch := omega) only [push_cast,seval,hd,hil,hel,Eqz,D4z,hK,hKn,hk2,Aaz]))))
                · have hyes:allX (closB es es.length) es (i + 1)=true:=by rw [Hcz he,hal2];simp [closB];exact List.length_eq_zero_iff.1 (by omega)
                  have hk2:=decide_eq_false hk
                  generalize hK:kidsT es i es.length=ks at *
                  generalize hKn:ks.length=kn at *
                  (repeat' (first
 | (first|refine Ahz ?_|refine Abz ?_)
 | ((first|refine Aiz ?_|refine Auz (mid:=l19r12a) (post:=l19r12b) Bcz (by decide) ?_|refine Afz ?_|refine Apz ?_);simp (disch:=omega) only [push_cast,seval,l19r0,l19r1,l19r2,l19r3,l19r4,l19r5,l19r6,l19r7,l19r8,l19r9,l19r10,l19r11,l19r12a,l19r12b,l19r12,l19r13,l19r14,l19r15,hd,hil,hel,Eqz,D4z,hK,hKn,hk2,Aaz])
 | ((first|refine Anz (fun h=>?_) (fun h=>?_))<;>(try simp only [h])<;>(try simp only [bitvec_to_nat] at h)<;>(try simp only [h])<;>(first|(exfalso;omega)|(exfalso;simp_all;done)|(simp (disch:=omega) only [push_cast,seval,hd,hil,hel,Eqz,D4z,hK,hKn,hk2,Aaz])|skip))
 | ((first|refine Amz false ?_|refine Azz false ?_);simp (disch:=omega) only [push_cast,seval,hd,hil,hel,Eqz,D4z,hK,hKn,hk2,Aaz])
 | ((first|((first|refine Akz (Ajz (Ibz _ _ _ _ _ ?_ ?_ ?_ ?_ ?_)) ?_|refine Agz (Ajz (Ibz _ _ _ _ _ ?_ ?_ ?_ ?_ ?_)) ⟨_,_,rfl,rfl⟩ ?_);(iterate 5 (exact sd));rintro _ _ ⟨rfl,rfl⟩)|((first|refine Akz (Ajz (Loz _ _ ?_ ?_)) ?_|refine Agz (Ajz (Loz _ _ ?_ ?_)) ⟨_,_,rfl,rfl⟩ ?_);(iterate 2 (exact sd));rintro _ _ ⟨rfl,rfl⟩)|((first|refine Akz (Ajz (G4z _)) ?_|refine Agz (Ajz (G4z _)) ⟨_,_,rfl,rfl⟩ ?_);rintro _ _ ⟨rfl,rfl⟩))<;>(try simp (disch:=omega) only [push_cast,seval,hd,hil,hel,Eqz,D4z,hK,hKn,hk2,Aaz]))
 | (refine Aez ⟨.inr rfl,_,rfl,?_⟩; (try simp (disch := omega) only [push_cast,seval,hd,hil,hel,Eqz,D4z,hK,hKn,hk2,Aaz]))))
                  refine ⟨i + 1,⟨by omega,hyes⟩,by omega,?_⟩
                  (refine Sub.of_lists ?_ ?_ ?_ ?_ ?_<;>simp [Vw.mkS,Vw.lk,Vw.hk,AV.inn,innL,Aoz,Alz,Arz,-List.map_set,-List.getD_eq_getElem?_getD,Aaz])
            · have e2:i=es.length:=by omega
              subst e2
              (repeat' (first
 | (first|refine Ahz ?_|refine Abz ?_)
 | ((first|refine Aiz ?_|refine Afz ?_|refine Ayz ?_);simp (disch:=omega) only [push_cast,seval,l19r0,l19r1,l19r2,l19r3,l19r4,l19r5,l19r6,l19r7,l19r8,l19r9,l19r10,l19r11,l19r12a,l19r12b,l19r12,l19r13,l19r14,l19r15,hel,Aaz])
 | ((first|refine Anz (fun h=>?_) (fun h=>?_))<;>(try simp only [h])<;>(try simp only [bitvec_to_nat] at h)<;>(try simp only [h])<;>(first|(exfalso;omega)|(exfalso;simp_all;done)|(simp (disch:=omega) only [push_cast,seval,hel,Aaz])|skip))
 | (refine Aez ⟨.inr rfl,_,rfl,?_⟩; (try simp (disch := omega) only [push_cast,seval,hel,Aaz]))))
              all_goals (try simp [hal2])
    · have hvb:vB cs es=false:=by unfold vB;rw [decide_eq_false h8];simp
      rw [hvb]
      (repeat' (first
 | (first|refine Ahz ?_|refine Abz ?_)
 | ((first|refine Aiz ?_|refine Afz ?_);simp (disch:=omega) only [push_cast,seval,l19r0,l19r1,l19r2,l19r3,l19r4,l19r5,l19r6,l19r7,l19r8,l19r9,l19r10,l19r11,l19r12a,l19r12b,l19r12,l19r13,l19r14,l19r15,hv,hel,Aaz])
 | ((first|refine Anz (fun h=>?_) (fun h=>?_))<;>(try simp only [h])<;>(try simp only [bitvec_to_nat] at h)<;>(try simp only [h])<;>(first|(exfalso;omega)|(exfalso;simp_all;done)|(simp (disch:=omega) only [push_cast,seval,hv,hel,Aaz])|skip))
 | ((first|refine Amz false ?_);simp (disch:=omega) only [push_cast,seval,hv,hel,Aaz])
 | ((first|((first|refine Akz (Ajz (Dbz _ _ ?_ ?_)) ?_|refine Agz (Ajz (Dbz _ _ ?_ ?_)) ⟨_,_,rfl,rfl⟩ ?_);(iterate 2 (exact sd));rintro _ _ ⟨rfl,rfl⟩))<;>(try simp (disch:=omega) only [push_cast,seval,hv,hel,Aaz]))
 | (refine Aez ⟨.inr rfl,_,rfl,?_⟩;(try simp (disch:=omega) only [push_cast,seval,hv,hel,Aaz]))))

end Go.Proofs.YtkpcjppnjmhanaaGreatDoor
namespace Go.Proofs.YtkpcjppnjmhanaaGreatDoor
open VwM Vw Go
variable [SentA]

end Go.Proofs.YtkpcjppnjmhanaaGreatDoor
namespace Go.Proofs.YtkpcjppnjmhanaaGreatDoor
open VwM Vw Go
variable [SentA]

end Go.Proofs.YtkpcjppnjmhanaaGreatDoor
namespace Go.Proofs.YtkpcjppnjmhanaaGreatDoor
open VwM Vw Go
variable [SentA]

end Go.Proofs.YtkpcjppnjmhanaaGreatDoor
namespace Go.Proofs.YtkpcjppnjmhanaaGreatDoor
open VwM Vw Go
variable [SentA]

def opensT (es:List Ex):Nat → List Int
  | 0=>[]
  | k + 1=>match es[k]? with
    | some e=>if e.2.2=true then opensT es k ++ [(k:Int)] else opensT es k
    | none=>opensT es k
theorem Eez {es:List Ex} {k:Nat} {e:Ex} (h:es[k]?=some e) (h1:e.2.2=true):opensT es (k + 1)=opensT es k ++ [(k:Int)]:=by
  simp only [opensT,h,if_pos h1]
theorem E5z {es:List Ex} {k:Nat} {e:Ex} (h:es[k]?=some e) (h1:¬ e.2.2=true):opensT es (k + 1)=opensT es k:=by
  simp only [opensT,h,if_neg h1]
theorem Fmz (es:List Ex):∀ k,(opensT es k).length ≤ k
  | 0=>Nat.le_refl _
  | k + 1=>by
    have:=Fmz es k
    simp only [opensT]
    split
    · split
      · simp;omega
      · omega
    · omega
def opensA (cs:List Int) (es:List Ex):List Int:=if vB cs es=true then opensT es es.length else []
theorem Kez (cs:List Int) (es:List Ex):(opensA cs es).length ≤ es.length:=by
  unfold opensA
  split
  · exact Fmz _ _
  · exact Nat.zero_le _
theorem vB_8 {cs:List Int} {es:List Ex} (h:vB cs es=true):es.length ≤ 8 ∧ cs.length ≤ 60 ∧ parOk es:=by
  unfold vB at h
  simp only [Bool.and_eq_true,decide_eq_true_eq] at h
  obtain ⟨⟨h1,h2⟩,h3⟩:=h
  refine ⟨h2,by unfold vMem at h1;simp at h1;omega,fun i e he=>?_⟩
  have hi:i < es.length:=(List.getElem?_eq_some_iff.1 he).1
  have:=(Dez (f:=sxV cs.length es)).1 h3 i e hi he
  unfold sxV exV at this
  simp only [Bool.and_eq_true,decide_eq_true_eq] at this
  omega


set_option maxHeartbeats 8000000 in
theorem H9z (cs:List Int) (es:List Ex) (m n:Nat) (id:Int) (hm:cs.length=m) (hn:es.length=n) (hb:m ≤ 1000 ∧ n ≤ 1000) :
    BCall Tryz.prog 49 [.agg [.rows false (IL cs) m,.rows false (EL false es) n],.int .i64 id] [] (OI (kidsT es id n)):=by
  subst hm hn
  obtain ⟨hb1,hb2⟩:=hb
  refine Atz (pins:=[]) (pin:=0) l49_eq rfl rfl rfl ?_
  have hel:=A1z false es
  (repeat' (first
 | (first|refine Ahz ?_|refine Abz ?_)
 | ((first|refine Aiz ?_);simp (disch:=omega) only [push_cast,seval,l49r0,l49r1,l49r2,l49r3,l49r4,l49r5,l49r6,l49r7,Aaz])
 | (refine Aez ⟨.inr rfl,[112],[],_,by decide,rfl,?_⟩;(try simp (disch:=omega) only [push_cast,seval,↓Adz,↓Acz,↓List.map_cons,↓List.map_nil,Aaz]))))
  refine A6z (fun i:Nat=>mkS [(1,.int .i64 id),(2,.ref 32 2 0),(5,.own 112 (kidsT es id i).length 1),(6,.int .i64 i)] [(32,[.rows false (IL cs) cs.length,.rows false (EL false es) es.length]),(112,IL (kidsT es id i))]) (fun i=>i ≤ es.length) (fun i=>es.length - i) 0 (Nat.zero_le _) ?_ ?_
  · have e0:kidsT es id 0=[]:=rfl
    (refine Sub.of_lists ?_ ?_ ?_ ?_ ?_<;>simp [Vw.mkS,Vw.lk,Vw.hk,AV.inn,innL,Aoz,Alz,Arz,-List.map_set,-List.getD_eq_getElem?_getD,Aaz,e0])
  · intro i hi
    by_cases hlt:i < es.length
    · obtain ⟨p,b,x,y,o,he⟩:=C3z hlt
      have hd:=B9z false es i he
      simp only at hd
      have hd0:((EL false es).drop (i * 5)).take 1=[.int .i64 p]:=by have:=congrArg (fun l=>l.take 1) hd;simpa [List.take_take] using this
      have hd4:((EL false es).drop (i * 5 + 4)).take 1=[.bool o]:=by have:=congrArg (fun l=>(l.drop 4).take 1) hd;simpa [List.drop_take,List.take_take] using this
      have hil:i * 5 + 5 ≤ es.length * 5:=by omega
      have hkl:=E9z es id i
      cases o with
 | false =>
        have e1:=Frz (p:=id) he (by simp)
        (repeat' (first
 | (first|refine Ahz ?_|refine Abz ?_)
 | ((first|refine Aiz ?_|refine Afz ?_|refine Apz ?_);simp (disch:=omega) only [push_cast,seval,l49r0,l49r1,l49r2,l49r3,l49r4,l49r5,l49r6,l49r7,hd0,hd4,hel,hil,Aaz])
 | ((first|refine Anz (fun h=>?_) (fun h=>?_))<;>(try simp only [h])<;>(try simp only [bitvec_to_nat] at h)<;>(try simp only [h])<;>(first|(exfalso;omega)|(exfalso;simp_all;done)|(simp (disch:=omega) only [push_cast,seval,hd0,hd4,hel,hil,Aaz])|skip))
 | (refine Aez ⟨.inr rfl,[112],[],_,by decide,rfl,?_⟩;(try simp (disch:=omega) only [push_cast,seval,↓Adz,↓Acz,↓List.map_cons,↓List.map_nil,hd0,hd4,hel,hil,Aaz]))))
        all_goals (refine ⟨i + 1,by omega,by omega,?_⟩;(refine Sub.of_lists ?_ ?_ ?_ ?_ ?_<;>simp [Vw.mkS,Vw.lk,Vw.hk,AV.inn,innL,Aoz,Alz,Arz,-List.map_set,-List.getD_eq_getElem?_getD,Aaz,e1]))
 | true =>
        by_cases hpe:p=id
        · have e1:=Jaz (p:=id) he ⟨rfl,hpe⟩
          (repeat' (first
 | (first|refine Ahz ?_|refine Abz ?_)
 | ((first|refine Aiz ?_|refine Afz ?_|refine Apz ?_);simp (disch:=omega) only [push_cast,seval,l49r0,l49r1,l49r2,l49r3,l49r4,l49r5,l49r6,l49r7,hd0,hd4,hel,hil,hpe,hkl,Aaz])
 | ((first|refine Anz (fun h=>?_) (fun h=>?_))<;>(try simp only [h])<;>(try simp only [bitvec_to_nat] at h)<;>(try simp only [h])<;>(first|(exfalso;omega)|(exfalso;simp_all;done)|(simp (disch:=omega) only [push_cast,seval,hd0,hd4,hel,hil,hpe,hkl,Aaz])|skip))
 | (refine Aez ⟨.inr rfl,[112],[],_,by decide,rfl,?_⟩; (try simp (disch := omega) only [push_cast,seval,↓Adz,↓Acz,↓List.map_cons,↓List.map_nil,hd0,hd4,hel,hil,hpe,hkl,Aaz]))))
          all_goals (refine ⟨i + 1,by omega,by omega,?_⟩;(refine Sub.of_lists ?_ ?_ ?_ ?_ ?_<;>simp [Vw.mkS,Vw.lk,Vw.hk,AV.inn,innL,Aoz,Alz,Arz,-List.map_set,-List.getD_eq_getElem?_getD,Aaz,e1,List.length_append]))
        · have e1:=Frz (p:=id) he (by simp [hpe])
          (repeat' (first
 | (first|refine Ahz ?_|refine Abz ?_)
 | ((first|refine Aiz ?_|refine Afz ?_|refine Apz ?_);simp (disch:=omega) only [push_cast,seval,l49r0,l49r1,l49r2,l49r3,l49r4,l49r5,l49r6,l49r7,hd0,hd4,hel,hil,hpe,hkl,Aaz])
 | ((first|refine Anz (fun h=>?_) (fun h=>?_))<;>(try simp only [h])<;>(try simp only [bitvec_to_nat] at h)<;>(try simp only [h])<;>(first|(exfalso;omega)|(exfalso;simp_all;done)|(simp (disch:=omega) only [push_cast,seval,hd0,hd4,hel,hil,hpe,hkl,Aaz])|skip))
 | (refine Aez ⟨.inr rfl,[112],[],_,by decide,rfl,?_⟩; (try simp (disch := omega) only [push_cast,seval,↓Adz,↓Acz,↓List.map_cons,↓List.map_nil,hd0,hd4,hel,hil,hpe,hkl,Aaz]))))
          all_goals (refine ⟨i + 1,by omega,by omega,?_⟩;(refine Sub.of_lists ?_ ?_ ?_ ?_ ?_<;>simp [Vw.mkS,Vw.lk,Vw.hk,AV.inn,innL,Aoz,Alz,Arz,-List.map_set,-List.getD_eq_getElem?_getD,Aaz,e1]))
    · have e:i=es.length:=by omega
      subst e
      (repeat' (first
 | (first|refine Ahz ?_|refine Abz ?_)
 | ((first|refine Aiz ?_|refine Afz ?_|refine Ayz ?_);simp (disch:=omega) only [push_cast,seval,l49r0,l49r1,l49r2,l49r3,l49r4,l49r5,l49r6,l49r7,hel,Aaz])
 | ((first|refine Anz (fun h=>?_) (fun h=>?_))<;>(try simp only [h])<;>(try simp only [bitvec_to_nat] at h)<;>(try simp only [h])<;>(first|(exfalso;omega)|(exfalso;simp_all;done)|(simp (disch:=omega) only [push_cast,seval,hel,Aaz])|skip))
 | (refine Aez ⟨.inr rfl,[112],[],_,by decide,rfl,?_⟩;(try simp (disch:=omega) only [push_cast,seval,↓Adz,↓Acz,↓List.map_cons,↓List.map_nil,hel,Aaz]))))
      all_goals simp [OI]

end Go.Proofs.YtkpcjppnjmhanaaGreatDoor
namespace Go.Proofs.YtkpcjppnjmhanaaGreatDoor
open VwM Vw Go
variable [SentA]





set_option maxHeartbeats 8000000 in
theorem Fgz (cs:List Int) (es:List Ex) (m n:Nat) (hm:cs.length=m) (hn:es.length=n) (hb:m ≤ 1099511627776 ∧ n ≤ 1099511627776 ∧ exB 1099511627776 es) :
    BCall Tryz.prog 160 [.agg [.rows false (IL cs) m,.rows false (EL false es) n]] [] (OI (opensA cs es)):=by
  subst hm hn
  have hb0:=hb
  obtain ⟨hb1,hb2,hb3⟩:=hb
  have hel:=A1z false es
  refine Atz (pins:=[]) (pin:=0) l160_eq rfl rfl rfl ?_
  unfold opensA
  cases hv:vB cs es with
  | false =>
    (repeat' (first
 | (first|refine Ahz ?_|refine Abz ?_)
 | ((first|refine Aiz ?_|refine Afz ?_);simp (disch:=omega) only [push_cast,seval,l160r0,l160r1,l160r2,l160r3,l160r4,l160r5,l160r6,l160r7,l160r8,l160r9,hv,hel,Aaz])
 | ((first|refine Amz false ?_);simp (disch:=omega) only [push_cast,seval,hv,hel,Aaz])
 | ((first|((first|refine Akz (Ajz (A5z _ _ _ _ ?_ ?_ ?_)) ?_|refine Agz (Ajz (A5z _ _ _ _ ?_ ?_ ?_)) ⟨_,_,rfl,rfl⟩ ?_);(iterate 3 (exact sd));rintro _ _ ⟨rfl,rfl⟩))<;>(try simp (disch:=omega) only [push_cast,seval,hv,hel,Aaz]))
 | (refine Aez ⟨.inr rfl,[16000],[(16000,1)],_,by decide,rfl,?_⟩;(try simp (disch:=omega) only [push_cast,seval,↓Adz,↓Acz,↓List.map_cons,↓List.map_nil,hv,hel,Aaz]))))
    all_goals simp [OI]
  | true =>
    obtain ⟨v1,v2,v3⟩:=vB_8 hv
    (repeat' (first
 | (first|refine Ahz ?_|refine Abz ?_)
 | ((first|refine Aiz ?_|refine Afz ?_|refine Apz ?_);simp (disch:=omega) only [push_cast,seval,l160r0,l160r1,l160r2,l160r3,l160r4,l160r5,l160r6,l160r7,l160r8,l160r9,hv,hel,Aaz])
 | ((first|refine Amz false ?_);simp (disch:=omega) only [push_cast,seval,hv,hel,Aaz])
 | ((first|((first|refine Akz (Ajz (A5z _ _ _ _ ?_ ?_ ?_)) ?_|refine Agz (Ajz (A5z _ _ _ _ ?_ ?_ ?_)) ⟨_,_,rfl,rfl⟩ ?_);(iterate 3 (exact sd));rintro _ _ ⟨rfl,rfl⟩))<;>(try simp (disch:=omega) only [push_cast,seval,hv,hel,Aaz]))
 | (refine Aez ⟨.inr rfl,[128],[],_,by decide,rfl,?_⟩;(try simp (disch:=omega) only [push_cast,seval,↓Adz,↓Acz,↓List.map_cons,↓List.map_nil,hv,hel,Aaz]))))
    refine A6z (fun i:Nat=>mkS [(1,.ref 16 2 0),(3,.own 128 (opensT es i).length 1),(4,.int .i64 i)] [(16,[.rows false (IL cs) cs.length,.rows false (EL false es) es.length]),(128,IL (opensT es i))]) (fun i=>i ≤ es.length) (fun i=>es.length - i) 0 (Nat.zero_le _) ?_ ?_
    · have e0:opensT es 0=[]:=rfl
      (refine Sub.of_lists ?_ ?_ ?_ ?_ ?_<;>simp [Vw.mkS,Vw.lk,Vw.hk,AV.inn,innL,Aoz,Alz,Arz,-List.map_set,-List.getD_eq_getElem?_getD,Aaz,e0])
    · intro i hi
      by_cases hlt:i < es.length
      · obtain ⟨p,b,x,y,o,he⟩:=C3z hlt
        have hd:=B9z false es i he
        simp only at hd
        have hd4:((EL false es).drop (i * 5 + 4)).take 1=[.bool o]:=by have:=congrArg (fun l=>(l.drop 4).take 1) hd;simpa [List.drop_take,List.take_take] using this
        have hil:i * 5 + 5 ≤ es.length * 5:=by omega
        have hkl:=Fmz es i
        cases o with
        | false =>
          have e1:=E5z he (by simp)
          (repeat' (first
 | (first|refine Ahz ?_|refine Abz ?_)
 | ((first|refine Aiz ?_|refine Afz ?_|refine Apz ?_);simp (disch:=omega) only [push_cast,seval,l160r0,l160r1,l160r2,l160r3,l160r4,l160r5,l160r6,l160r7,l160r8,l160r9,hd4,hel,hil,Aaz])
 | ((first|refine Anz (fun h=>?_) (fun h=>?_))<;>(try simp only [h])<;>(try simp only [bitvec_to_nat] at h)<;>(try simp only [h])<;>(first|(exfalso;omega)|(exfalso;simp_all;done)|(simp (disch:=omega) only [push_cast,seval,hd4,hel,hil,Aaz])|skip))
 | (refine Aez ⟨.inr rfl,[128],[],_,by decide,rfl,?_⟩; (try simp (disch := omega) only [push_cast,seval,↓Adz,↓Acz,↓List.map_cons,↓List.map_nil,hd4,hel,hil,Aaz]))))
          all_goals (refine ⟨i + 1,by omega,by omega,?_⟩;(refine Sub.of_lists ?_ ?_ ?_ ?_ ?_<;>simp [Vw.mkS,Vw.lk,Vw.hk,AV.inn,innL,Aoz,Alz,Arz,-List.map_set,-List.getD_eq_getElem?_getD,Aaz,e1]))
        | true =>
          have e1:=Eez he rfl
          (repeat' (first
 | (first|refine Ahz ?_|refine Abz ?_)
 | ((first|refine Aiz ?_|refine Afz ?_|refine Apz ?_);simp (disch:=omega) only [push_cast,seval,l160r0,l160r1,l160r2,l160r3,l160r4,l160r5,l160r6,l160r7,l160r8,l160r9,hd4,hel,hil,hkl,Aaz])
 | ((first|refine Anz (fun h=>?_) (fun h=>?_))<;>(try simp only [h])<;>(try simp only [bitvec_to_nat] at h)<;>(try simp only [h])<;>(first|(exfalso;omega)|(exfalso;simp_all;done)|(simp (disch:=omega) only [push_cast,seval,hd4,hel,hil,hkl,Aaz])|skip))
 | (refine Aez ⟨.inr rfl,[128],[],_,by decide,rfl,?_⟩; (try simp (disch := omega) only [push_cast,seval,↓Adz,↓Acz,↓List.map_cons,↓List.map_nil,hd4,hel,hil,hkl,Aaz]))))
          all_goals (refine ⟨i + 1,by omega,by omega,?_⟩;(refine Sub.of_lists ?_ ?_ ?_ ?_ ?_<;>simp [Vw.mkS,Vw.lk,Vw.hk,AV.inn,innL,Aoz,Alz,Arz,-List.map_set,-List.getD_eq_getElem?_getD,Aaz,e1,List.length_append]))
      · have e:i=es.length:=by omega
        subst e
        (repeat' (first
 | (first|refine Ahz ?_|refine Abz ?_)
 | ((first|refine Aiz ?_|refine Afz ?_|refine Ayz ?_);simp (disch:=omega) only [push_cast,seval,l160r0,l160r1,l160r2,l160r3,l160r4,l160r5,l160r6,l160r7,l160r8,l160r9,hel,Aaz])
 | ((first|refine Anz (fun h=>?_) (fun h=>?_))<;>(try simp only [h])<;>(try simp only [bitvec_to_nat] at h)<;>(try simp only [h])<;>(first|(exfalso;omega)|(exfalso;simp_all;done)|(simp (disch:=omega) only [push_cast,seval,hel,Aaz])|skip))
 | (refine Aez ⟨.inr rfl,[128],[],_,by decide,rfl,?_⟩;(try simp (disch:=omega) only [push_cast,seval,↓Adz,↓Acz,↓List.map_cons,↓List.map_nil,hel,Aaz]))))
        all_goals simp [OI]


set_option maxHeartbeats 8000000 in
theorem iOpen_ok (cs:List Int) (es:List Ex) (m n:Nat) (hm:cs.length=m) (hn:es.length=n) (hb:m ≤ 1099511627776 ∧ n ≤ 1099511627776 ∧ exB 1099511627776 es) :
    BCall Tryz.prog 14 [.agg [.rows false (IL cs) m,.rows false (EL false es) n]] [] (OI (opensA cs es)):=by
  subst hm hn
  have hb0:=hb
  obtain ⟨hb1,hb2,hb3⟩:=hb
  have hel:=A1z false es
  refine Atz (pins:=[]) (pin:=0) l14_eq rfl rfl rfl ?_
  unfold opensA
  cases hv:vB cs es with
  | false =>
    (repeat' (first
 | (first|refine Ahz ?_|refine Abz ?_)
 | ((first|refine Aiz ?_|refine Afz ?_);simp (disch:=omega) only [push_cast,seval,l14r0,l14r1,l14r2,l14r3,l14r4,l14r5,l14r6,l14r7,l14r8,l14r9,l14r10,hv,hel,Aaz])
 | ((first|refine Amz false ?_);simp (disch:=omega) only [push_cast,seval,hv,hel,Aaz])
 | ((first|((first|refine Akz (Ajz (Cez _ _ _ _ ?_ ?_ ?_)) ?_|refine Agz (Ajz (Cez _ _ _ _ ?_ ?_ ?_)) ⟨_,_,rfl,rfl⟩ ?_);(iterate 3 (exact sd));rintro _ _ ⟨rfl,rfl⟩))<;>(try simp (disch:=omega) only [push_cast,seval,hv,hel,Aaz]))
 | (refine Aez ⟨.inr rfl,[16000],[(16000,1)],_,by decide,rfl,?_⟩;(try simp (disch:=omega) only [push_cast,seval,↓Adz,↓Acz,↓List.map_cons,↓List.map_nil,hv,hel,Aaz]))))
    all_goals simp [OI]
  | true =>
    obtain ⟨v1,v2,v3⟩:=vB_8 hv
    (repeat' (first
 | (first|refine Ahz ?_|refine Abz ?_)
 | ((first|refine Aiz ?_|refine Afz ?_|refine Apz ?_);simp (disch:=omega) only [push_cast,seval,l14r0,l14r1,l14r2,l14r3,l14r4,l14r5,l14r6,l14r7,l14r8,l14r9,l14r10,hv,hel,Aaz])
 | ((first|refine Amz false ?_);simp (disch:=omega) only [push_cast,seval,hv,hel,Aaz])
 | ((first|((first|refine Akz (Ajz (Cez _ _ _ _ ?_ ?_ ?_)) ?_|refine Agz (Ajz (Cez _ _ _ _ ?_ ?_ ?_)) ⟨_,_,rfl,rfl⟩ ?_);(iterate 3 (exact sd));rintro _ _ ⟨rfl,rfl⟩))<;>(try simp (disch:=omega) only [push_cast,seval,hv,hel,Aaz]))
 | (refine Aez ⟨.inr rfl,[16000],[(16000,1)],_,by decide,rfl,?_⟩;(try simp (disch:=omega) only [push_cast,seval,↓Adz,↓Acz,↓List.map_cons,↓List.map_nil,hv,hel,Aaz]))))
    refine Djz (fun i:Nat=>mkS [(3,.own 16000 (opensT es i).length 1),(10,.rows false (EL false es) es.length),(11,.int .i64 es.length),(12,.int .i64 i)] [(16000,IL (opensT es i))]) (fun i=>i ≤ es.length) (fun i=>es.length - i) 0 (Nat.zero_le _) ?_ ?_
    · refine SubW.adopt [3] 16000 1 (by simp [Vw.hk]) (SubW.of ?_)
      simp only [adL,List.map_cons,List.map_nil,adA,List.contains_cons,List.contains_nil]
      have e0:opensT es 0=[]:=rfl
      (refine Sub.of_lists ?_ ?_ ?_ ?_ ?_<;>simp [Vw.mkS,Vw.lk,Vw.hk,AV.inn,innL,Aoz,Alz,Arz,-List.map_set,-List.getD_eq_getElem?_getD,Aaz,e0])
    · intro i hi
      by_cases hlt:i < es.length
      · obtain ⟨p,b,x,y,o,he⟩:=C3z hlt
        have hd:=B9z false es i he
        simp only at hd
        have hil:i * 5 + 5 ≤ es.length * 5:=by omega
        have hkl:=Fmz es i
        cases o with
        | false =>
          have e1:=E5z he (by simp)
          (repeat' (first
 | (first|refine Ahz ?_|refine Abz ?_)
 | ((first|refine Aiz ?_|refine Afz ?_|refine Apz ?_);simp (disch:=omega) only [push_cast,seval,l14r0,l14r1,l14r2,l14r3,l14r4,l14r5,l14r6,l14r7,l14r8,l14r9,l14r10,hd,hel,hil,Aaz])
 | ((first|refine Anz (fun h=>?_) (fun h=>?_))<;>(try simp only [h])<;>(try simp only [bitvec_to_nat] at h)<;>(try simp only [h])<;>(first|(exfalso;omega)|(exfalso;simp_all;done)|(simp (disch:=omega) only [push_cast,seval,hd,hel,hil,Aaz])|skip))
 | (refine Aez ⟨.inr rfl,[16000],[],_,by decide,rfl,?_⟩; (try simp (disch := omega) only [push_cast,seval,↓Adz,↓Acz,↓List.map_cons,↓List.map_nil,hd,hel,hil,Aaz]))))
          all_goals (refine ⟨i + 1,by omega,by omega,SubW.of ?_⟩;(refine Sub.of_lists ?_ ?_ ?_ ?_ ?_<;>simp [Vw.mkS,Vw.lk,Vw.hk,AV.inn,innL,Aoz,Alz,Arz,-List.map_set,-List.getD_eq_getElem?_getD,Aaz,e1]))
        | true =>
          have e1:=Eez he rfl
          (repeat' (first
 | (first|refine Ahz ?_|refine Abz ?_)
 | ((first|refine Aiz ?_|refine Afz ?_|refine Apz ?_);simp (disch:=omega) only [push_cast,seval,l14r0,l14r1,l14r2,l14r3,l14r4,l14r5,l14r6,l14r7,l14r8,l14r9,l14r10,hd,hel,hil,hkl,Aaz])
 | ((first|refine Anz (fun h=>?_) (fun h=>?_))<;>(try simp only [h])<;>(try simp only [bitvec_to_nat] at h)<;>(try simp only [h])<;>(first|(exfalso;omega)|(exfalso;simp_all;done)|(simp (disch:=omega) only [push_cast,seval,hd,hel,hil,hkl,Aaz])|skip))
 | (refine Aez ⟨.inr rfl,[16000],[],_,by decide,rfl,?_⟩; (try simp (disch := omega) only [push_cast,seval,↓Adz,↓Acz,↓List.map_cons,↓List.map_nil,hd,hel,hil,hkl,Aaz]))))
          all_goals (refine ⟨i + 1,by omega,by omega,SubW.of ?_⟩;(refine Sub.of_lists ?_ ?_ ?_ ?_ ?_<;>simp [Vw.mkS,Vw.lk,Vw.hk,AV.inn,innL,Aoz,Alz,Arz,-List.map_set,-List.getD_eq_getElem?_getD,Aaz,e1,List.length_append]))
      · have e:i=es.length:=by omega
        subst e
        (repeat' (first
 | (first|refine Ahz ?_|refine Abz ?_)
 | ((first|refine Aiz ?_|refine Afz ?_|refine Ayz ?_);simp (disch:=omega) only [push_cast,seval,l14r0,l14r1,l14r2,l14r3,l14r4,l14r5,l14r6,l14r7,l14r8,l14r9,l14r10,hel,Aaz])
 | ((first|refine Anz (fun h=>?_) (fun h=>?_))<;>(try simp only [h])<;>(try simp only [bitvec_to_nat] at h)<;>(try simp only [h])<;>(first|(exfalso;omega)|(exfalso;simp_all;done)|(simp (disch:=omega) only [push_cast,seval,hel,Aaz])|skip))
 | (refine Aez ⟨.inr rfl,[16000],[],_,by decide,rfl,?_⟩;(try simp (disch:=omega) only [push_cast,seval,↓Adz,↓Acz,↓List.map_cons,↓List.map_nil,hel,Aaz]))))
        all_goals simp [OI]

end Go.Proofs.YtkpcjppnjmhanaaGreatDoor
namespace Go.Proofs.YtkpcjppnjmhanaaGreatDoor
open VwM Vw Go
variable [SentA]

end Go.Proofs.YtkpcjppnjmhanaaGreatDoor
