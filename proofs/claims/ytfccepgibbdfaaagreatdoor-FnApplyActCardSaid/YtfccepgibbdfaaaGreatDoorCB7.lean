/- Texts of this verifier. -/
import Derived.Test.YtfccepgibbdfaaaGreatDoorCB6
import Derived.Test.YtfccepgibbdfaaaGreatDoorCM1
import Derived.Test.YtfccepgibbdfaaaGreatDoorCW3
set_option maxHeartbeats 4000000
set_option linter.unusedSimpArgs false
set_option linter.unusedSectionVars false
set_option linter.unusedVariables false
set_option maxRecDepth 4000
namespace Go.Proofs.YtfccepgibbdfaaaGreatDoor
open VwM Vw Go
variable [SentA]
variable [PowA]

theorem Ciz (n:Nat):PCall Tryz.prog 47 [.val (heldV n),.val (.iface 202 (.pointer (some SentA.a)))] (fun r=>r=.bool (decide (0<n))):=by
 intro w B vs hB hG hl hd
 obtain ⟨u,v,rfl⟩:∃ u v,vs=[u,v]:=by
  match vs,hl with
  | [u,v],_=>exact ⟨u,v,rfl⟩
 simp only [DenP,Den] at hd
 obtain ⟨rfl,rfl,_⟩:=hd
 unfold heldV
 by_cases h:0<n
 ·rw [if_pos h]
  refine (is_same SentA.a w).mono fun e w' ⟨he,hw⟩=>?_
  subst he hw
  exact ⟨.bool true,_,by simp [h],rfl,by simp [Den],Go.RowKit.Below.refl _ _⟩
 ·rw [if_neg h]
  refine (is_nil SentA.a w).mono fun e w' ⟨he,hw⟩=>?_
  subst he hw
  exact ⟨.bool false,_,by simp [h],rfl,by simp [Den],Go.RowKit.Below.refl _ _⟩


set_option maxHeartbeats 8000000 in
theorem Biz (cs:List Int)(es:List Ex)(m n:Nat)(hm:cs.length=m)(hn:es.length=n)(hb:m≤1099511627776∧n≤1099511627776∧exB 1099511627776 es) :
  PCall Tryz.prog 24 [.agg [.rows false (IL cs) m,.rows false (EL false es) n]] (fun r=>r=.bool (vB cs es)):=by
 subst hm hn
 have hb0:=hb
 obtain ⟨hb1,hb2,hb3⟩:=hb
 have hel:=Auz false es
 refine Atz l24_eq rfl ?_
 unfold vB
 (repeat' (first
 | (first|refine Afz ?_|refine Abz ?_)
 | ((first|refine Agz ?_);simp (disch:=omega) only [push_cast,seval,Aaz])
 | (refine Adz ⟨.inr rfl,_,rfl,?_⟩;(try simp (disch:=omega) only [push_cast,seval,Aaz]))))
 refine A5z (fun i:Nat=>mkS [(1,.ref 16 2 0),(2,.bool false),(3,.int .i64 i)] [(16,[.rows false (IL cs) cs.length,.rows false (EL false es) es.length])]) (fun i=>i≤es.length∧allX (sxV cs.length es) es i=true) (fun i=>es.length-i) 0 ⟨Nat.zero_le _,rfl⟩ ?_ ?_
 ·(refine Sub.of_lists ?_ ?_ ?_ ?_ ?_<;>simp [Vw.mkS,Vw.lk,Vw.hk,AV.inn,innL,Apz,Anz,Asz,-List.map_set,-List.getD_eq_getElem?_getD,Aaz])
 ·rintro i ⟨hi,hal⟩
  by_cases hlt:i<es.length
  ·obtain ⟨p,b,x,y,o,he⟩:=Djz hlt
   cases hs:sxV cs.length es i (p,(b,x,y),o) with
 | false =>
    have hno:=allX_no (f:=sxV cs.length es) he hs hlt
    (repeat' ((first
 | (first|refine Afz ?_|refine Abz ?_)
 | (first|refine Agz ?_|refine Acz ?_|refine Amz ?_)
 | ((first|refine Alz (fun h=>?_) (fun h=>?_))<;>(try simp only [h])<;>(try simp only [bitvec_to_nat] at h)<;>(try simp only [h])<;>(first|(exfalso;omega)|(exfalso;simp_all;done)|skip))
 | (first|refine Ajz false ?_)
 | (first|(refine Aiz (Akz (svEx_ok _ _ _ _ _ _ _ _ _ _ ?_ ?_ (by assumption) ?_)) ?_;(iterate 3 (exact sd));rintro _ _ ⟨rfl,rfl⟩))
 | (refine Adz ⟨.inr rfl,_,rfl,?_⟩))<;>(try simp (disch:=omega) only [push_cast,seval,hel,hs,Aaz])))
    all_goals (try simp [hno])
 | true =>
    have hyes:allX (sxV cs.length es) es (i+1)=true:=by rw [H8z he,hal,hs];rfl
    (repeat' ((first
 | (first|refine Afz ?_|refine Abz ?_)
 | (first|refine Agz ?_|refine Acz ?_|refine Amz ?_)
 | ((first|refine Alz (fun h=>?_) (fun h=>?_))<;>(try simp only [h])<;>(try simp only [bitvec_to_nat] at h)<;>(try simp only [h])<;>(first|(exfalso;omega)|(exfalso;simp_all;done)|skip))
 | (first|refine Ajz false ?_)
 | (first|(refine Aiz (Akz (svEx_ok _ _ _ _ _ _ _ _ _ _ ?_ ?_ (by assumption) ?_)) ?_;(iterate 3 (exact sd));rintro _ _ ⟨rfl,rfl⟩))
 | (refine Adz ⟨.inr rfl,_,rfl,?_⟩))<;>(try simp (disch:=omega) only [push_cast,seval,hel,hs,Aaz])))
    refine ⟨i+1,⟨by omega,hyes⟩,by omega,?_⟩
    (refine Sub.of_lists ?_ ?_ ?_ ?_ ?_<;>simp [Vw.mkS,Vw.lk,Vw.hk,AV.inn,innL,Apz,Anz,Asz,-List.map_set,-List.getD_eq_getElem?_getD,Aaz])
  ·have e:i=es.length:=by omega
   subst e
   cases hv:vMem cs with
 | false =>
    (repeat' ((first
 | (first|refine Afz ?_|refine Abz ?_)
 | (first|refine Agz ?_|refine Acz ?_|refine Azz ?_)
 | ((first|refine Alz (fun h=>?_) (fun h=>?_))<;>(try simp only [h])<;>(try simp only [bitvec_to_nat] at h)<;>(try simp only [h])<;>(first|(exfalso;omega)|(exfalso;simp_all;done)|skip))
 | (first|refine Ajz false ?_)
 | (first|(refine Aiz (Akz (Hnz _ _ ?_ ?_)) ?_;(iterate 2 (exact sd));rintro _ _ ⟨rfl,rfl⟩))
 | (refine Adz ⟨.inr rfl,_,rfl,?_⟩))<;>(try simp (disch:=omega) only [push_cast,seval,hel,hv,hal,Aaz])))
    all_goals (try simp)
 | true =>
    (repeat' ((first
 | (first|refine Afz ?_|refine Abz ?_)
 | (first|refine Agz ?_|refine Acz ?_|refine Azz ?_)
 | ((first|refine Alz (fun h=>?_) (fun h=>?_))<;>(try simp only [h])<;>(try simp only [bitvec_to_nat] at h)<;>(try simp only [h])<;>(first|(exfalso;omega)|(exfalso;simp_all;done)|skip))
 | (first|refine Ajz false ?_)
 | (first|(refine Aiz (Akz (Hnz _ _ ?_ ?_)) ?_;(iterate 2 (exact sd));rintro _ _ ⟨rfl,rfl⟩))
 | (refine Adz ⟨.inr rfl,_,rfl,?_⟩))<;>(try simp (disch:=omega) only [push_cast,seval,hel,hv,hal,Aaz])))
    all_goals (try simp)
    all_goals (try omega)


set_option maxHeartbeats 8000000 in
theorem ivEx_ok (p b:Int)(x y:List Int)(o:Bool)(n m:Nat)(i k:Nat)(hn:x.length=n)(hm:y.length=m)(hb:(n≤1099511627776∧m≤1099511627776)∧(i≤1000000∧k≤60)) :
  PCall Tryz.prog 46 [.agg [.int .i64 p,.int .i64 b,.rows false (IL x) n,.rows false (IL y) m,.bool o],.int .i64 i,.int .i64 k] (fun r=>r=.bool (exV k i (p,(b,x,y),o))):=by
 subst hn hm
 obtain ⟨⟨hbx,hby⟩,hi,hk⟩:=hb
 refine Atz l46_eq rfl ?_
 unfold exV
 simp only
 cases hv:vV b x y with
 | false =>
  (repeat' ((first
 | (first|refine Afz ?_|refine Abz ?_)
 | (first|refine Agz ?_|refine Acz ?_)
 | (first|refine Ajz false ?_)
 | (first|(refine Aiz (Akz (Blz _ _ _ _ _ ?_ ?_ ?_)) ?_;(iterate 3 (exact sd));rintro _ _ ⟨rfl,rfl⟩))
 | (refine Adz ⟨.inr rfl,_,rfl,?_⟩))<;>(try simp (disch:=omega) only [push_cast,seval,hv])))
  all_goals (try simp)
 | true =>
  by_cases hp:-1≤p∧p≤(i:Int)-1
  ·have hpd:(decide (-1≤p)&&decide (p≤(i:Int)-1))=true:=by rw [Bool.and_eq_true,decide_eq_true_eq,decide_eq_true_eq];exact hp
   rw [hpd]
   have hf:fitB b x y k=allI (offs b x y) 0 ((k:Int)-1):=by
    unfold fitB
    rw [hv]
    have:(decide ((0:Int)≤k)&&decide ((k:Int)≤60))=true:=by rw [Bool.and_eq_true,decide_eq_true_eq,decide_eq_true_eq];omega
    rw [this];rfl
   have hp3:(p < -1)=False:=eq_false (by omega)
   have hp4:((i:Int)≤p)=False:=eq_false (by omega)
   cases o with
 | false =>
    (repeat' ((first
 | (first|refine Afz ?_|refine Abz ?_)
 | (first|refine Agz ?_|refine Acz ?_|refine Amz ?_)
 | (first|refine Ajz false ?_)
 | (first|(refine Aiz (Akz (Blz _ _ _ _ _ ?_ ?_ ?_)) ?_;(iterate 3 (exact sd));rintro _ _ ⟨rfl,rfl⟩))
 | (refine Adz ⟨.inr rfl,_,rfl,?_⟩))<;>(try simp (disch:=omega) only [push_cast,seval,hv,hp3,hp4,decide_false])))
    all_goals (try simp)
 | true =>
    (repeat' ((first
 | (first|refine Afz ?_|refine Abz ?_)
 | (first|refine Agz ?_|refine Acz ?_|refine Amz ?_)
 | (first|refine Ajz false ?_)
 | (first|(refine Aiz (Akz (Blz _ _ _ _ _ ?_ ?_ ?_)) ?_;(iterate 3 (exact sd));rintro _ _ ⟨rfl,rfl⟩)|(refine Aiz (Akz (D0z _ _ _ _ _ _ ?_ ?_ ?_)) ?_;(iterate 3 (exact sd));rintro _ _ ⟨rfl,rfl⟩))
 | (refine Adz ⟨.inr rfl,_,rfl,?_⟩))<;>(try simp (disch:=omega) only [push_cast,seval,hv,hf,hp3,hp4,decide_false])))
    all_goals (try simp)
  ·have hpd:(decide (-1≤p)&&decide (p≤(i:Int)-1))=false:=by rw [Bool.eq_false_iff];intro h;simp at h;omega
   rw [hpd]
   by_cases hp1:p < -1
   ·have hp3:(p < -1)=True:=eq_true hp1
    (repeat' ((first
 | (first|refine Afz ?_|refine Abz ?_)
 | (first|refine Agz ?_|refine Acz ?_)
 | (first|refine Ajz false ?_)
 | (first|(refine Aiz (Akz (Blz _ _ _ _ _ ?_ ?_ ?_)) ?_;(iterate 3 (exact sd));rintro _ _ ⟨rfl,rfl⟩))
 | (refine Adz ⟨.inr rfl,_,rfl,?_⟩))<;>(try simp (disch:=omega) only [push_cast,seval,hv,hp3,decide_true])))
    all_goals (try simp)
   ·have hp3:(p < -1)=False:=eq_false hp1
    have hp4:((i:Int)≤p)=True:=eq_true (by omega)
    (repeat' ((first
 | (first|refine Afz ?_|refine Abz ?_)
 | (first|refine Agz ?_|refine Acz ?_)
 | (first|refine Ajz false ?_)
 | (first|(refine Aiz (Akz (Blz _ _ _ _ _ ?_ ?_ ?_)) ?_;(iterate 3 (exact sd));rintro _ _ ⟨rfl,rfl⟩))
 | (refine Adz ⟨.inr rfl,_,rfl,?_⟩))<;>(try simp (disch:=omega) only [push_cast,seval,hv,hp3,hp4,decide_false,decide_true])))
    all_goals (try simp)


theorem Ffz {es:List Ex}{p:Int}:∀ {k:Nat},kidsT es p k=[]↔∀ i e,i<k→es[i]?=some e→¬ (e.2.2=true∧e.1=p)
 | 0=>by simp [kidsT]
 | k+1=>by
  constructor
  ·intro h i e hi he
   cases hk:es[k]? with
 | none =>
    by_cases hik:i=k
    ·subst hik;rw [hk] at he;cases he
    ·simp only [kidsT,hk] at h
     exact Ffz.1 h i e (by omega) he
 | some f =>
    by_cases hf:f.2.2=true∧f.1=p
    ·rw [J6z hk hf] at h;simp at h
    ·rw [Gpz hk hf] at h
     by_cases hik:i=k
     ·subst hik;rw [hk] at he;injection he with he;subst he;exact hf
     ·exact Ffz.1 h i e (by omega) he
  ·intro h
   have ih:kidsT es p k=[]:=Ffz.2 fun i e hi he=>h i e (by omega) he
   cases hk:es[k]? with
 | none=>simp only [kidsT,hk];exact ih
 | some f=>rw [Gpz hk (h k f (by omega) hk)];exact ih
/-- No closed export has open ones of its own. -/
def closB (es:List Ex)(n:Nat)(j:Nat)(e:Ex):Bool:=e.2.2 || decide ((kidsT es (j:Int) n).length=0)
theorem vB_clos {cs:List Int}{es:List Ex}(h1:vMem cs=true)(h2:es.length≤8)(h3:allX (exV cs.length) es es.length=true):vB cs es=allX (closB es es.length) es es.length:=by
 unfold vB
 rw [h1,decide_eq_true h2]
 simp only [Bool.true_and]
 rw [Bool.eq_iff_iff,Dfz,Dfz]
 have hp:=parOk_of h3
 constructor
 ·intro h j e hj he
  unfold closB
  cases ho:e.2.2 with
  | true=>rfl
  | false =>
   simp only [Bool.false_or,decide_eq_true_eq,List.length_eq_zero_iff]
   refine Ffz.2 fun i f hi hf ⟨hfo,hfp⟩=>?_
   have:=h i f hi hf
   unfold sxV at this
   rw [hfo,hfp] at this
   simp only [Bool.and_eq_true,Bool.not_true,Bool.false_or,Bool.or_eq_true,decide_eq_true_eq] at this
   rcases this.2 with hx|hx
   ·omega
   ·simp only [opE,Int.toNat_natCast,he] at hx
    rw [ho] at hx;cases hx
 ·intro h i f hi hf
  unfold sxV
  rw [Dfz.1 h3 i f hi hf]
  simp only [Bool.true_and]
  cases hfo:f.2.2 with
  | false=>rfl
  | true =>
   simp only [Bool.not_true,Bool.false_or,Bool.or_eq_true,decide_eq_true_eq]
   have hpp:=hp i f hf
   by_cases hneg:f.1<0
   ·exact .inl hneg
   ·right
    obtain ⟨q,hq⟩:∃ q:Nat,f.1=q:=⟨f.1.toNat,by omega⟩
    have hql:q<es.length:=by omega
    have hqe:=List.getElem?_eq_getElem hql
    have:=h q _ hql hqe
    unfold closB at this
    simp only [opE,hq,Int.toNat_natCast,hqe]
    cases ho:es[q].2.2 with
    | true=>rfl
    | false =>
     rw [ho] at this
     simp only [Bool.false_or,decide_eq_true_eq,List.length_eq_zero_iff] at this
     exact absurd ⟨hfo,hq⟩ (Ffz.1 this i f hi hf)
theorem vB_no {cs:List Int}{es:List Ex}{i:Nat}{e:Ex}(he:es[i]?=some e)(h:exV cs.length i e=false):vB cs es=false:=by
 unfold vB
 rw [allX_no (f:=sxV cs.length es) he (by unfold sxV;rw [h];rfl) (List.getElem?_eq_some_iff.1 he).1]
 simp


set_option maxHeartbeats 16000000 in
theorem Buz (cs:List Int)(es:List Ex)(m n:Nat)(hm:cs.length=m)(hn:es.length=n)(hb:m≤1099511627776∧n≤1099511627776∧exB 1099511627776 es) :
  PCall Tryz.prog 19 [.agg [.rows false (IL cs) m,.rows false (EL false es) n]] (fun r=>r=.bool (vB cs es)):=by
 subst hm hn
 obtain ⟨hb1,hb2,hb3⟩:=hb
 have hel:=Auz false es
 refine Atz l19_eq rfl ?_
 cases hv:vMem cs with
 | false =>
  have hvb:vB cs es=false:=by unfold vB;rw [hv];rfl
  rw [hvb]
  (repeat' ((first
 | (first|refine Afz ?_|refine Abz ?_)
 | (first|refine Agz ?_|refine Acz ?_)
 | (first|refine Ajz false ?_)
 | (first|(refine Aiz (Akz (H1z _ _ ?_ ?_)) ?_;(iterate 2 (exact sd));rintro _ _ ⟨rfl,rfl⟩))
 | (refine Adz ⟨.inr rfl,_,rfl,?_⟩))<;>(try simp (disch:=omega) only [push_cast,seval,hv,hel,Aaz])))
 | true =>
  have hm60:cs.length≤60:=by unfold vMem at hv;simp at hv;omega
  by_cases h8:es.length≤8
  ·(repeat' ((first
 | (first|refine Afz ?_|refine Abz ?_)
 | (first|refine Agz ?_|refine Acz ?_|refine Amz ?_)
 | ((first|refine Alz (fun h=>?_) (fun h=>?_))<;>(try simp only [h])<;>(try simp only [bitvec_to_nat] at h)<;>(try simp only [h])<;>(first|(exfalso;omega)|(exfalso;simp_all;done)|skip))
 | (first|refine Ajz false ?_)
 | (first|(refine Aiz (Akz (H1z _ _ ?_ ?_)) ?_;(iterate 2 (exact sd));rintro _ _ ⟨rfl,rfl⟩))
 | (refine Adz ⟨.inr rfl,_,rfl,?_⟩))<;>(try simp (disch:=omega) only [push_cast,seval,hv,hel,Aaz])))
   refine A5z (fun i:Nat=>mkS [(1,.ref 16 2 0),(2,.bool false),(18,.rows false (EL false es) es.length),(19,.int .i64 es.length),(20,.int .i64 i)] [(16,[.rows false (IL cs) cs.length,.rows false (EL false es) es.length])]) (fun i=>i≤es.length∧allX (exV cs.length) es i=true) (fun i=>es.length-i) 0 ⟨Nat.zero_le _,rfl⟩ ?_ ?_
   ·(refine Sub.of_lists ?_ ?_ ?_ ?_ ?_<;>simp [Vw.mkS,Vw.lk,Vw.hk,AV.inn,innL,Apz,Anz,Asz,-List.map_set,-List.getD_eq_getElem?_getD,Aaz])
   ·rintro i ⟨hi,hal⟩
    by_cases hlt:i<es.length
    ·obtain ⟨p,b,x,y,o,he⟩:=Djz hlt
     obtain ⟨hbx,hby⟩:=Cgz hb3 he
     have hd:=Btz false es i he
     simp only at hd
     have hil:i*5+5≤es.length*5:=by omega
     cases hs:exV cs.length i (p,(b,x,y),o) with
     | false =>
      have hno:=vB_no he hs
      rw [hno]
      (repeat' ((first
 | (first|refine Afz ?_|refine Abz ?_)
 | (first|refine Agz ?_|refine Acz ?_|refine Amz ?_)
 | ((first|refine Alz (fun h=>?_) (fun h=>?_))<;>(try simp only [h])<;>(try simp only [bitvec_to_nat] at h)<;>(try simp only [h])<;>(first|(exfalso;omega)|(exfalso;simp_all;done)|skip))
 | (first|refine Ajz false ?_)
 | (first|(refine Aiz (Akz (ivEx_ok _ _ _ _ _ _ _ _ _ ?_ ?_ ?_)) ?_;(iterate 3 (exact sd));rintro _ _ ⟨rfl,rfl⟩))
 | (refine Adz ⟨.inr rfl,_,rfl,?_⟩; (try simp (disch := omega) only [push_cast,seval,hd,hil,hel,hs,Aaz])))<;>(try simp (disch:=omega) only [push_cast,seval,hd,hil,hel,hs,Aaz])))
     | true =>
      have hyes:allX (exV cs.length) es (i+1)=true:=by rw [H8z he,hal,hs];rfl
      (repeat' ((first
 | (first|refine Afz ?_|refine Abz ?_)
 | (first|refine Agz ?_|refine Acz ?_|refine Amz ?_)
 | ((first|refine Alz (fun h=>?_) (fun h=>?_))<;>(try simp only [h])<;>(try simp only [bitvec_to_nat] at h)<;>(try simp only [h])<;>(first|(exfalso;omega)|(exfalso;simp_all;done)|skip))
 | (first|refine Ajz false ?_)
 | (first|(refine Aiz (Akz (ivEx_ok _ _ _ _ _ _ _ _ _ ?_ ?_ ?_)) ?_;(iterate 3 (exact sd));rintro _ _ ⟨rfl,rfl⟩))
 | (refine Adz ⟨.inr rfl,_,rfl,?_⟩; (try simp (disch := omega) only [push_cast,seval,hd,hil,hel,hs,Aaz])))<;>(try simp (disch:=omega) only [push_cast,seval,hd,hil,hel,hs,Aaz])))
      refine ⟨i+1,⟨by omega,hyes⟩,by omega,?_⟩
      (refine Sub.of_lists ?_ ?_ ?_ ?_ ?_<;>simp [Vw.mkS,Vw.lk,Vw.hk,AV.inn,innL,Apz,Anz,Asz,-List.map_set,-List.getD_eq_getElem?_getD,Aaz])
    ·have e:i=es.length:=by omega
     subst e
     have hpo:=parOk_of hal
     have hvc:=vB_clos hv h8 hal
     rw [hvc]
     have hq:cs.length≤1000∧es.length≤1000:=⟨by omega,by omega⟩
     (repeat' (first
 | (first|refine Afz ?_|refine Abz ?_)
 | ((first|refine Agz ?_|refine Acz ?_|refine Azz ?_);simp (disch:=omega) only [push_cast,seval,hel,Aaz])
 | ((first|refine Alz (fun h=>?_) (fun h=>?_))<;>(try simp only [h])<;>(try simp only [bitvec_to_nat] at h)<;>(try simp only [h])<;>(first|(exfalso;omega)|(exfalso;simp_all;done)|(simp (disch:=omega) only [push_cast,seval,hel,Aaz])|skip))
 | (refine Adz ⟨.inr rfl,_,rfl,?_⟩; (try simp (disch := omega) only [push_cast,seval,hel,Aaz]))))
     refine A5z (fun i:Nat=>mkS [(1,.ref 16 2 0),(2,.bool false),(34,.rows false (EL false es) es.length),(35,.int .i64 es.length),(36,.int .i64 i)] [(16,[.rows false (IL cs) cs.length,.rows false (EL false es) es.length])]) (fun i=>i≤es.length∧allX (closB es es.length) es i=true) (fun i=>es.length-i) 0 ⟨Nat.zero_le _,rfl⟩ ?_ ?_
     ·(refine Sub.of_lists ?_ ?_ ?_ ?_ ?_<;>simp [Vw.mkS,Vw.lk,Vw.hk,AV.inn,innL,Apz,Anz,Asz,-List.map_set,-List.getD_eq_getElem?_getD,Aaz])
     ·rintro i ⟨hi,hal2⟩
      by_cases hlt2:i<es.length
      ·obtain ⟨p,b,x,y,o,he⟩:=Djz hlt2
       have hd:=Btz false es i he
       simp only at hd
       have hil:i*5+5≤es.length*5:=by omega
       have hkl:=D9z es i es.length
       cases o with
       | true =>
        have hyes:allX (closB es es.length) es (i+1)=true:=by rw [H8z he,hal2];rfl
        (repeat' (first
 | (first|refine Afz ?_|refine Abz ?_)
 | ((first|refine Agz ?_|refine Arz (mid:=l19r12a) (post:=l19r12b) mixed (by decide) ?_|refine Acz ?_|refine Amz ?_);simp (disch:=omega) only [push_cast,seval,hd,hil,hel,B5z,Aaz])
 | ((first|refine Alz (fun h=>?_) (fun h=>?_))<;>(try simp only [h])<;>(try simp only [bitvec_to_nat] at h)<;>(try simp only [h])<;>(first|(exfalso;omega)|(exfalso;simp_all;done)|(simp (disch:=omega) only [push_cast,seval,hd,hil,hel,B5z,Aaz])|skip))
 | (refine Adz ⟨.inr rfl,_,rfl,?_⟩; (try simp (disch := omega) only [push_cast,seval,hd,hil,hel,B5z,Aaz]))))
        refine ⟨i+1,⟨by omega,hyes⟩,by omega,?_⟩
        (refine Sub.of_lists ?_ ?_ ?_ ?_ ?_<;>simp [Vw.mkS,Vw.lk,Vw.hk,AV.inn,innL,Apz,Anz,Asz,-List.map_set,-List.getD_eq_getElem?_getD,Aaz])
       | false =>
        by_cases hk:0<(kidsT es i es.length).length
        ·have hno:allX (closB es es.length) es es.length=false:=allX_no (f:=closB es es.length) he (by unfold closB;simp;intro h;rw [h] at hk;simp at hk) hlt2
         rw [hno]
         have hk2:=decide_eq_true hk
         generalize hK:kidsT es i es.length=ks at *
         generalize hKn:ks.length=kn at *
         (repeat' ((first
 | (first|refine Afz ?_|refine Abz ?_)
 | (first|refine Agz ?_|refine Arz (mid:=l19r12a) (post:=l19r12b) mixed (by decide) ?_|refine Acz ?_|refine Amz ?_)
 | ((first|refine Alz (fun h=>?_) (fun h=>?_))<;>(try simp only [h])<;>(try simp only [bitvec_to_nat] at h)<;>(try simp only [h])<;>(first|(exfalso;omega)|(exfalso;simp_all;done)|skip))
 | (first|refine Ajz false ?_|refine Aqz false ?_)
 | (first|((first|refine Aiz (Akz (C0z _ _ _ _ _ ?_ ?_ ?_ ?_ ?_)) ?_|refine Aoz (Akz (C0z _ _ _ _ _ ?_ ?_ ?_ ?_ ?_)) ⟨_,_,rfl,rfl⟩ ?_);(iterate 5 (exact sd));rintro _ _ ⟨rfl,rfl⟩)|((first|refine Aiz (Akz (Dxz _ _ ?_ ?_)) ?_|refine Aoz (Akz (Dxz _ _ ?_ ?_)) ⟨_,_,rfl,rfl⟩ ?_);(iterate 2 (exact sd));rintro _ _ ⟨rfl,rfl⟩)|((first|refine Aiz (Akz (Ciz _)) ?_|refine Aoz (Akz (Ciz _)) ⟨_,_,rfl,rfl⟩ ?_);rintro _ _ ⟨rfl,rfl⟩))
 | (refine Adz ⟨.inr rfl,_,rfl,?_⟩; (try simp (disch := omega) only [push_cast,seval,hd,hil,hel,B5z,Bcz,hK,hKn,hk2,Aaz])))<;>(try simp (disch:=omega) only [push_cast,seval,hd,hil,hel,B5z,Bcz,hK,hKn,hk2,Aaz])))
        ·have hyes:allX (closB es es.length) es (i+1)=true:=by rw [H8z he,hal2];simp [closB];exact List.length_eq_zero_iff.1 (by omega)
         have hk2:=decide_eq_false hk
         generalize hK:kidsT es i es.length=ks at *
         generalize hKn:ks.length=kn at *
         (repeat' ((first
 | (first|refine Afz ?_|refine Abz ?_)
 | (first|refine Agz ?_|refine Arz (mid:=l19r12a) (post:=l19r12b) mixed (by decide) ?_|refine Acz ?_|refine Amz ?_)
 | ((first|refine Alz (fun h=>?_) (fun h=>?_))<;>(try simp only [h])<;>(try simp only [bitvec_to_nat] at h)<;>(try simp only [h])<;>(first|(exfalso;omega)|(exfalso;simp_all;done)|skip))
 | (first|refine Ajz false ?_|refine Aqz false ?_)
 | (first|((first|refine Aiz (Akz (C0z _ _ _ _ _ ?_ ?_ ?_ ?_ ?_)) ?_|refine Aoz (Akz (C0z _ _ _ _ _ ?_ ?_ ?_ ?_ ?_)) ⟨_,_,rfl,rfl⟩ ?_);(iterate 5 (exact sd));rintro _ _ ⟨rfl,rfl⟩)|((first|refine Aiz (Akz (Dxz _ _ ?_ ?_)) ?_|refine Aoz (Akz (Dxz _ _ ?_ ?_)) ⟨_,_,rfl,rfl⟩ ?_);(iterate 2 (exact sd));rintro _ _ ⟨rfl,rfl⟩)|((first|refine Aiz (Akz (Ciz _)) ?_|refine Aoz (Akz (Ciz _)) ⟨_,_,rfl,rfl⟩ ?_);rintro _ _ ⟨rfl,rfl⟩))
 | (refine Adz ⟨.inr rfl,_,rfl,?_⟩; (try simp (disch := omega) only [push_cast,seval,hd,hil,hel,B5z,Bcz,hK,hKn,hk2,Aaz])))<;>(try simp (disch:=omega) only [push_cast,seval,hd,hil,hel,B5z,Bcz,hK,hKn,hk2,Aaz])))
         refine ⟨i+1,⟨by omega,hyes⟩,by omega,?_⟩
         (refine Sub.of_lists ?_ ?_ ?_ ?_ ?_<;>simp [Vw.mkS,Vw.lk,Vw.hk,AV.inn,innL,Apz,Anz,Asz,-List.map_set,-List.getD_eq_getElem?_getD,Aaz])
      ·have e2:i=es.length:=by omega
       subst e2
       (repeat' (first
 | (first|refine Afz ?_|refine Abz ?_)
 | ((first|refine Agz ?_|refine Acz ?_|refine Azz ?_);simp (disch:=omega) only [push_cast,seval,hel,Aaz])
 | ((first|refine Alz (fun h=>?_) (fun h=>?_))<;>(try simp only [h])<;>(try simp only [bitvec_to_nat] at h)<;>(try simp only [h])<;>(first|(exfalso;omega)|(exfalso;simp_all;done)|(simp (disch:=omega) only [push_cast,seval,hel,Aaz])|skip))
 | (refine Adz ⟨.inr rfl,_,rfl,?_⟩; (try simp (disch := omega) only [push_cast,seval,hel,Aaz]))))
       all_goals (try simp [hal2])
  ·have hvb:vB cs es=false:=by unfold vB;rw [decide_eq_false h8];simp
   rw [hvb]
   (repeat' ((first
 | (first|refine Afz ?_|refine Abz ?_)
 | (first|refine Agz ?_|refine Acz ?_)
 | ((first|refine Alz (fun h=>?_) (fun h=>?_))<;>(try simp only [h])<;>(try simp only [bitvec_to_nat] at h)<;>(try simp only [h])<;>(first|(exfalso;omega)|(exfalso;simp_all;done)|skip))
 | (first|refine Ajz false ?_)
 | (first|(refine Aiz (Akz (H1z _ _ ?_ ?_)) ?_;(iterate 2 (exact sd));rintro _ _ ⟨rfl,rfl⟩))
 | (refine Adz ⟨.inr rfl,_,rfl,?_⟩))<;>(try simp (disch:=omega) only [push_cast,seval,hv,hel,Aaz])))

end Go.Proofs.YtfccepgibbdfaaaGreatDoor
namespace Go.Proofs.YtfccepgibbdfaaaGreatDoor
open VwM Vw Go
variable [SentA]
variable [PowA]

end Go.Proofs.YtfccepgibbdfaaaGreatDoor
namespace Go.Proofs.YtfccepgibbdfaaaGreatDoor
open VwM Vw Go
variable [SentA]
variable [PowA]

end Go.Proofs.YtfccepgibbdfaaaGreatDoor
namespace Go.Proofs.YtfccepgibbdfaaaGreatDoor
open VwM Vw Go
variable [SentA]
variable [PowA]

end Go.Proofs.YtfccepgibbdfaaaGreatDoor
namespace Go.Proofs.YtfccepgibbdfaaaGreatDoor
open VwM Vw Go
variable [SentA]
variable [PowA]

def opensT (es:List Ex):Nat→List Int
 | 0=>[]
 | k+1=>match es[k]? with
  | some e=>if e.2.2=true then opensT es k++[(k:Int)] else opensT es k
  | none=>opensT es k
theorem Eyz {es:List Ex}{k:Nat}{e:Ex}(h:es[k]?=some e)(h1:e.2.2=true):opensT es (k+1)=opensT es k++[(k:Int)]:=by
 simp only [opensT,h,if_pos h1]
theorem Ezz {es:List Ex}{k:Nat}{e:Ex}(h:es[k]?=some e)(h1:¬ e.2.2=true):opensT es (k+1)=opensT es k:=by
 simp only [opensT,h,if_neg h1]
theorem Gjz (es:List Ex):∀ k,(opensT es k).length≤k
 | 0=>Nat.le_refl _
 | k+1=>by
  have:=Gjz es k
  simp only [opensT]
  split
  ·split
   ·simp;omega
   ·omega
  ·omega
def opensA (cs:List Int)(es:List Ex):List Int:=if vB cs es=true then opensT es es.length else []
theorem K6z (cs:List Int)(es:List Ex):(opensA cs es).length≤es.length:=by
 unfold opensA
 split
 ·exact Gjz _ _
 ·exact Nat.zero_le _
theorem vB_8 {cs:List Int}{es:List Ex}(h:vB cs es=true):es.length≤8∧cs.length≤60∧parOk es:=by
 unfold vB at h
 simp only [Bool.and_eq_true,decide_eq_true_eq] at h
 obtain ⟨⟨h1,h2⟩,h3⟩:=h
 refine ⟨h2,by unfold vMem at h1;simp at h1;omega,fun i e he=>?_⟩
 have hi:i<es.length:=(List.getElem?_eq_some_iff.1 he).1
 have:=(Dfz (f:=sxV cs.length es)).1 h3 i e hi he
 unfold sxV exV at this
 simp only [Bool.and_eq_true,decide_eq_true_eq] at this
 omega


set_option maxHeartbeats 8000000 in
theorem skids_ok (cs:List Int)(es:List Ex)(m n:Nat)(id:Int)(hm:cs.length=m)(hn:es.length=n)(hb:m≤1000∧n≤1000) :
  BCall Tryz.prog 120 [.agg [.rows false (IL cs) m,.rows false (EL false es) n],.int .i64 id] [] (OI (kidsT es id n)):=by
 subst hm hn
 obtain ⟨hb1,hb2⟩:=hb
 refine Avz (pins:=[]) (pin:=0) l120_eq rfl rfl rfl ?_
 have hel:=Auz false es
 (repeat' (first
 | (first|refine Afz ?_|refine Abz ?_)
 | ((first|refine Agz ?_);simp (disch:=omega) only [push_cast,seval,Aaz])
 | (refine Adz ⟨.inr rfl,[112],[],_,by decide,rfl,?_⟩;(try simp (disch:=omega) only [push_cast,seval,↓Ahz,↓Aez,↓List.map_cons,↓List.map_nil,Aaz]))))
 refine A5z (fun i:Nat=>mkS [(1,.int .i64 id),(2,.ref 32 2 0),(5,.own 112 (kidsT es id i).length 1),(6,.int .i64 i)] [(32,[.rows false (IL cs) cs.length,.rows false (EL false es) es.length]),(112,IL (kidsT es id i))]) (fun i=>i≤es.length) (fun i=>es.length-i) 0 (Nat.zero_le _) ?_ ?_
 ·have e0:kidsT es id 0=[]:=rfl
  (refine Sub.of_lists ?_ ?_ ?_ ?_ ?_<;>simp [Vw.mkS,Vw.lk,Vw.hk,AV.inn,innL,Apz,Anz,Asz,-List.map_set,-List.getD_eq_getElem?_getD,Aaz,e0])
 ·intro i hi
  by_cases hlt:i<es.length
  ·obtain ⟨p,b,x,y,o,he⟩:=Djz hlt
   have hd:=Btz false es i he
   simp only at hd
   have hd0:((EL false es).drop (i*5)).take 1=[.int .i64 p]:=by have:=congrArg (fun l=>l.take 1) hd;simpa [List.take_take] using this
   have hd4:((EL false es).drop (i*5+4)).take 1=[.bool o]:=by have:=congrArg (fun l=>(l.drop 4).take 1) hd;simpa [List.drop_take,List.take_take] using this
   have hil:i*5+5≤es.length*5:=by omega
   have hkl:=D9z es id i
   cases o with
 | false =>
    have e1:=Gpz (p:=id) he (by simp)
    (repeat' (first
 | (first|refine Afz ?_|refine Abz ?_)
 | ((first|refine Agz ?_|refine Acz ?_|refine Amz ?_);simp (disch:=omega) only [push_cast,seval,hd0,hd4,hel,hil,Aaz])
 | ((first|refine Alz (fun h=>?_) (fun h=>?_))<;>(try simp only [h])<;>(try simp only [bitvec_to_nat] at h)<;>(try simp only [h])<;>(first|(exfalso;omega)|(exfalso;simp_all;done)|(simp (disch:=omega) only [push_cast,seval,hd0,hd4,hel,hil,Aaz])|skip))
 | (refine Adz ⟨.inr rfl,[112],[],_,by decide,rfl,?_⟩;(try simp (disch:=omega) only [push_cast,seval,↓Ahz,↓Aez,↓List.map_cons,↓List.map_nil,hd0,hd4,hel,hil,Aaz]))))
    all_goals (refine ⟨i+1,by omega,by omega,?_⟩;(refine Sub.of_lists ?_ ?_ ?_ ?_ ?_<;>simp [Vw.mkS,Vw.lk,Vw.hk,AV.inn,innL,Apz,Anz,Asz,-List.map_set,-List.getD_eq_getElem?_getD,Aaz,e1]))
 | true =>
    by_cases hpe:p=id
    ·have e1:=J6z (p:=id) he ⟨rfl,hpe⟩
     (repeat' (first
 | (first|refine Afz ?_|refine Abz ?_)
 | ((first|refine Agz ?_|refine Acz ?_|refine Amz ?_);simp (disch:=omega) only [push_cast,seval,hd0,hd4,hel,hil,hpe,hkl,Aaz])
 | ((first|refine Alz (fun h=>?_) (fun h=>?_))<;>(try simp only [h])<;>(try simp only [bitvec_to_nat] at h)<;>(try simp only [h])<;>(first|(exfalso;omega)|(exfalso;simp_all;done)|(simp (disch:=omega) only [push_cast,seval,hd0,hd4,hel,hil,hpe,hkl,Aaz])|skip))
 | (refine Adz ⟨.inr rfl,[112],[],_,by decide,rfl,?_⟩; (try simp (disch := omega) only [push_cast,seval,↓Ahz,↓Aez,↓List.map_cons,↓List.map_nil,hd0,hd4,hel,hil,hpe,hkl,Aaz]))))
     all_goals (refine ⟨i+1,by omega,by omega,?_⟩;(refine Sub.of_lists ?_ ?_ ?_ ?_ ?_<;>simp [Vw.mkS,Vw.lk,Vw.hk,AV.inn,innL,Apz,Anz,Asz,-List.map_set,-List.getD_eq_getElem?_getD,Aaz,e1,List.length_append]))
    ·have e1:=Gpz (p:=id) he (by simp [hpe])
     (repeat' (first
 | (first|refine Afz ?_|refine Abz ?_)
 | ((first|refine Agz ?_|refine Acz ?_|refine Amz ?_);simp (disch:=omega) only [push_cast,seval,hd0,hd4,hel,hil,hpe,hkl,Aaz])
 | ((first|refine Alz (fun h=>?_) (fun h=>?_))<;>(try simp only [h])<;>(try simp only [bitvec_to_nat] at h)<;>(try simp only [h])<;>(first|(exfalso;omega)|(exfalso;simp_all;done)|(simp (disch:=omega) only [push_cast,seval,hd0,hd4,hel,hil,hpe,hkl,Aaz])|skip))
 | (refine Adz ⟨.inr rfl,[112],[],_,by decide,rfl,?_⟩; (try simp (disch := omega) only [push_cast,seval,↓Ahz,↓Aez,↓List.map_cons,↓List.map_nil,hd0,hd4,hel,hil,hpe,hkl,Aaz]))))
     all_goals (refine ⟨i+1,by omega,by omega,?_⟩;(refine Sub.of_lists ?_ ?_ ?_ ?_ ?_<;>simp [Vw.mkS,Vw.lk,Vw.hk,AV.inn,innL,Apz,Anz,Asz,-List.map_set,-List.getD_eq_getElem?_getD,Aaz,e1]))
  ·have e:i=es.length:=by omega
   subst e
   (repeat' (first
 | (first|refine Afz ?_|refine Abz ?_)
 | ((first|refine Agz ?_|refine Acz ?_|refine Azz ?_);simp (disch:=omega) only [push_cast,seval,hel,Aaz])
 | ((first|refine Alz (fun h=>?_) (fun h=>?_))<;>(try simp only [h])<;>(try simp only [bitvec_to_nat] at h)<;>(try simp only [h])<;>(first|(exfalso;omega)|(exfalso;simp_all;done)|(simp (disch:=omega) only [push_cast,seval,hel,Aaz])|skip))
 | (refine Adz ⟨.inr rfl,[112],[],_,by decide,rfl,?_⟩;(try simp (disch:=omega) only [push_cast,seval,↓Ahz,↓Aez,↓List.map_cons,↓List.map_nil,hel,Aaz]))))
   all_goals simp [OI]

end Go.Proofs.YtfccepgibbdfaaaGreatDoor
namespace Go.Proofs.YtfccepgibbdfaaaGreatDoor
open VwM Vw Go
variable [SentA]
variable [PowA]





set_option maxHeartbeats 8000000 in
theorem L0z (cs:List Int)(es:List Ex)(m n:Nat)(hm:cs.length=m)(hn:es.length=n)(hb:m≤1099511627776∧n≤1099511627776∧exB 1099511627776 es) :
  BCall Tryz.prog 112 [.agg [.rows false (IL cs) m,.rows false (EL false es) n]] [] (OI (opensA cs es)):=by
 subst hm hn
 have hb0:=hb
 obtain ⟨hb1,hb2,hb3⟩:=hb
 have hel:=Auz false es
 refine Avz (pins:=[]) (pin:=0) l112_eq rfl rfl rfl ?_
 unfold opensA
 cases hv:vB cs es with
 | false =>
  (repeat' ((first
 | (first|refine Afz ?_|refine Abz ?_)
 | (first|refine Agz ?_|refine Acz ?_)
 | (first|refine Ajz false ?_)
 | (first|(refine Aiz (Akz (Biz _ _ _ _ ?_ ?_ ?_)) ?_;(iterate 3 (exact sd));rintro _ _ ⟨rfl,rfl⟩))
 | (refine Adz ⟨.inr rfl,[16000],[(16000,1)],_,by decide,rfl,?_⟩;(try simp (disch:=omega) only [push_cast,seval,↓Ahz,↓Aez,↓List.map_cons,↓List.map_nil,hv,hel,Aaz])))<;>(try simp (disch:=omega) only [push_cast,seval,hv,hel,Aaz])))
  all_goals simp [OI]
 | true =>
  obtain ⟨v1,v2,v3⟩:=vB_8 hv
  (repeat' ((first
 | (first|refine Afz ?_|refine Abz ?_)
 | (first|refine Agz ?_|refine Acz ?_|refine Amz ?_)
 | (first|refine Ajz false ?_)
 | (first|(refine Aiz (Akz (Biz _ _ _ _ ?_ ?_ ?_)) ?_;(iterate 3 (exact sd));rintro _ _ ⟨rfl,rfl⟩))
 | (refine Adz ⟨.inr rfl,[128],[],_,by decide,rfl,?_⟩;(try simp (disch:=omega) only [push_cast,seval,↓Ahz,↓Aez,↓List.map_cons,↓List.map_nil,hv,hel,Aaz])))<;>(try simp (disch:=omega) only [push_cast,seval,hv,hel,Aaz])))
  refine A5z (fun i:Nat=>mkS [(1,.ref 16 2 0),(3,.own 128 (opensT es i).length 1),(4,.int .i64 i)] [(16,[.rows false (IL cs) cs.length,.rows false (EL false es) es.length]),(128,IL (opensT es i))]) (fun i=>i≤es.length) (fun i=>es.length-i) 0 (Nat.zero_le _) ?_ ?_
  ·have e0:opensT es 0=[]:=rfl
   (refine Sub.of_lists ?_ ?_ ?_ ?_ ?_<;>simp [Vw.mkS,Vw.lk,Vw.hk,AV.inn,innL,Apz,Anz,Asz,-List.map_set,-List.getD_eq_getElem?_getD,Aaz,e0])
  ·intro i hi
   by_cases hlt:i<es.length
   ·obtain ⟨p,b,x,y,o,he⟩:=Djz hlt
    have hd:=Btz false es i he
    simp only at hd
    have hd4:((EL false es).drop (i*5+4)).take 1=[.bool o]:=by have:=congrArg (fun l=>(l.drop 4).take 1) hd;simpa [List.drop_take,List.take_take] using this
    have hil:i*5+5≤es.length*5:=by omega
    have hkl:=Gjz es i
    cases o with
    | false =>
     have e1:=Ezz he (by simp)
     (repeat' (first
 | (first|refine Afz ?_|refine Abz ?_)
 | ((first|refine Agz ?_|refine Acz ?_|refine Amz ?_);simp (disch:=omega) only [push_cast,seval,hd4,hel,hil,Aaz])
 | ((first|refine Alz (fun h=>?_) (fun h=>?_))<;>(try simp only [h])<;>(try simp only [bitvec_to_nat] at h)<;>(try simp only [h])<;>(first|(exfalso;omega)|(exfalso;simp_all;done)|(simp (disch:=omega) only [push_cast,seval,hd4,hel,hil,Aaz])|skip))
 | (refine Adz ⟨.inr rfl,[128],[],_,by decide,rfl,?_⟩; (try simp (disch := omega) only [push_cast,seval,↓Ahz,↓Aez,↓List.map_cons,↓List.map_nil,hd4,hel,hil,Aaz]))))
     all_goals (refine ⟨i+1,by omega,by omega,?_⟩;(refine Sub.of_lists ?_ ?_ ?_ ?_ ?_<;>simp [Vw.mkS,Vw.lk,Vw.hk,AV.inn,innL,Apz,Anz,Asz,-List.map_set,-List.getD_eq_getElem?_getD,Aaz,e1]))
    | true =>
     have e1:=Eyz he rfl
     (repeat' (first
 | (first|refine Afz ?_|refine Abz ?_)
 | ((first|refine Agz ?_|refine Acz ?_|refine Amz ?_);simp (disch:=omega) only [push_cast,seval,hd4,hel,hil,hkl,Aaz])
 | ((first|refine Alz (fun h=>?_) (fun h=>?_))<;>(try simp only [h])<;>(try simp only [bitvec_to_nat] at h)<;>(try simp only [h])<;>(first|(exfalso;omega)|(exfalso;simp_all;done)|(simp (disch:=omega) only [push_cast,seval,hd4,hel,hil,hkl,Aaz])|skip))
 | (refine Adz ⟨.inr rfl,[128],[],_,by decide,rfl,?_⟩; (try simp (disch := omega) only [push_cast,seval,↓Ahz,↓Aez,↓List.map_cons,↓List.map_nil,hd4,hel,hil,hkl,Aaz]))))
     all_goals (refine ⟨i+1,by omega,by omega,?_⟩;(refine Sub.of_lists ?_ ?_ ?_ ?_ ?_<;>simp [Vw.mkS,Vw.lk,Vw.hk,AV.inn,innL,Apz,Anz,Asz,-List.map_set,-List.getD_eq_getElem?_getD,Aaz,e1,List.length_append]))
   ·have e:i=es.length:=by omega
    subst e
    (repeat' (first
 | (first|refine Afz ?_|refine Abz ?_)
 | ((first|refine Agz ?_|refine Acz ?_|refine Azz ?_);simp (disch:=omega) only [push_cast,seval,hel,Aaz])
 | ((first|refine Alz (fun h=>?_) (fun h=>?_))<;>(try simp only [h])<;>(try simp only [bitvec_to_nat] at h)<;>(try simp only [h])<;>(first|(exfalso;omega)|(exfalso;simp_all;done)|(simp (disch:=omega) only [push_cast,seval,hel,Aaz])|skip))
 | (refine Adz ⟨.inr rfl,[128],[],_,by decide,rfl,?_⟩;(try simp (disch:=omega) only [push_cast,seval,↓Ahz,↓Aez,↓List.map_cons,↓List.map_nil,hel,Aaz]))))
    all_goals simp [OI]


set_option maxHeartbeats 8000000 in
theorem iOpen_ok (cs:List Int)(es:List Ex)(m n:Nat)(hm:cs.length=m)(hn:es.length=n)(hb:m≤1099511627776∧n≤1099511627776∧exB 1099511627776 es) :
  BCall Tryz.prog 20 [.agg [.rows false (IL cs) m,.rows false (EL false es) n]] [] (OI (opensA cs es)):=by
 subst hm hn
 have hb0:=hb
 obtain ⟨hb1,hb2,hb3⟩:=hb
 have hel:=Auz false es
 refine Avz (pins:=[]) (pin:=0) l20_eq rfl rfl rfl ?_
 unfold opensA
 cases hv:vB cs es with
 | false =>
  (repeat' ((first
 | (first|refine Afz ?_|refine Abz ?_)
 | (first|refine Agz ?_|refine Acz ?_)
 | (first|refine Ajz false ?_)
 | (first|(refine Aiz (Akz (Buz _ _ _ _ ?_ ?_ ?_)) ?_;(iterate 3 (exact sd));rintro _ _ ⟨rfl,rfl⟩))
 | (refine Adz ⟨.inr rfl,[16000],[(16000,1)],_,by decide,rfl,?_⟩;(try simp (disch:=omega) only [push_cast,seval,↓Ahz,↓Aez,↓List.map_cons,↓List.map_nil,hv,hel,Aaz])))<;>(try simp (disch:=omega) only [push_cast,seval,hv,hel,Aaz])))
  all_goals simp [OI]
 | true =>
  obtain ⟨v1,v2,v3⟩:=vB_8 hv
  (repeat' ((first
 | (first|refine Afz ?_|refine Abz ?_)
 | (first|refine Agz ?_|refine Acz ?_|refine Amz ?_)
 | (first|refine Ajz false ?_)
 | (first|(refine Aiz (Akz (Buz _ _ _ _ ?_ ?_ ?_)) ?_;(iterate 3 (exact sd));rintro _ _ ⟨rfl,rfl⟩))
 | (refine Adz ⟨.inr rfl,[16000],[(16000,1)],_,by decide,rfl,?_⟩;(try simp (disch:=omega) only [push_cast,seval,↓Ahz,↓Aez,↓List.map_cons,↓List.map_nil,hv,hel,Aaz])))<;>(try simp (disch:=omega) only [push_cast,seval,hv,hel,Aaz])))
  refine Duz (fun i:Nat=>mkS [(3,.own 16000 (opensT es i).length 1),(10,.rows false (EL false es) es.length),(11,.int .i64 es.length),(12,.int .i64 i)] [(16000,IL (opensT es i))]) (fun i=>i≤es.length) (fun i=>es.length-i) 0 (Nat.zero_le _) ?_ ?_
  ·refine SubW.adopt [3] 16000 1 (by simp [Vw.hk]) (SubW.of ?_)
   simp only [adL,List.map_cons,List.map_nil,adA,List.contains_cons,List.contains_nil]
   have e0:opensT es 0=[]:=rfl
   (refine Sub.of_lists ?_ ?_ ?_ ?_ ?_<;>simp [Vw.mkS,Vw.lk,Vw.hk,AV.inn,innL,Apz,Anz,Asz,-List.map_set,-List.getD_eq_getElem?_getD,Aaz,e0])
  ·intro i hi
   by_cases hlt:i<es.length
   ·obtain ⟨p,b,x,y,o,he⟩:=Djz hlt
    have hd:=Btz false es i he
    simp only at hd
    have hil:i*5+5≤es.length*5:=by omega
    have hkl:=Gjz es i
    cases o with
    | false =>
     have e1:=Ezz he (by simp)
     (repeat' (first
 | (first|refine Afz ?_|refine Abz ?_)
 | ((first|refine Agz ?_|refine Acz ?_|refine Amz ?_);simp (disch:=omega) only [push_cast,seval,hd,hel,hil,Aaz])
 | ((first|refine Alz (fun h=>?_) (fun h=>?_))<;>(try simp only [h])<;>(try simp only [bitvec_to_nat] at h)<;>(try simp only [h])<;>(first|(exfalso;omega)|(exfalso;simp_all;done)|(simp (disch:=omega) only [push_cast,seval,hd,hel,hil,Aaz])|skip))
 | (refine Adz ⟨.inr rfl,[16000],[],_,by decide,rfl,?_⟩; (try simp (disch := omega) only [push_cast,seval,↓Ahz,↓Aez,↓List.map_cons,↓List.map_nil,hd,hel,hil,Aaz]))))
     all_goals (refine ⟨i+1,by omega,by omega,SubW.of ?_⟩;(refine Sub.of_lists ?_ ?_ ?_ ?_ ?_<;>simp [Vw.mkS,Vw.lk,Vw.hk,AV.inn,innL,Apz,Anz,Asz,-List.map_set,-List.getD_eq_getElem?_getD,Aaz,e1]))
    | true =>
     have e1:=Eyz he rfl
     (repeat' (first
 | (first|refine Afz ?_|refine Abz ?_)
 | ((first|refine Agz ?_|refine Acz ?_|refine Amz ?_);simp (disch:=omega) only [push_cast,seval,hd,hel,hil,hkl,Aaz])
 | ((first|refine Alz (fun h=>?_) (fun h=>?_))<;>(try simp only [h])<;>(try simp only [bitvec_to_nat] at h)<;>(try simp only [h])<;>(first|(exfalso;omega)|(exfalso;simp_all;done)|(simp (disch:=omega) only [push_cast,seval,hd,hel,hil,hkl,Aaz])|skip))
 | (refine Adz ⟨.inr rfl,[16000],[],_,by decide,rfl,?_⟩; (try simp (disch := omega) only [push_cast,seval,↓Ahz,↓Aez,↓List.map_cons,↓List.map_nil,hd,hel,hil,hkl,Aaz]))))
     all_goals (refine ⟨i+1,by omega,by omega,SubW.of ?_⟩;(refine Sub.of_lists ?_ ?_ ?_ ?_ ?_<;>simp [Vw.mkS,Vw.lk,Vw.hk,AV.inn,innL,Apz,Anz,Asz,-List.map_set,-List.getD_eq_getElem?_getD,Aaz,e1,List.length_append]))
   ·have e:i=es.length:=by omega
    subst e
    (repeat' (first
 | (first|refine Afz ?_|refine Abz ?_)
 | ((first|refine Agz ?_|refine Acz ?_|refine Azz ?_);simp (disch:=omega) only [push_cast,seval,hel,Aaz])
 | ((first|refine Alz (fun h=>?_) (fun h=>?_))<;>(try simp only [h])<;>(try simp only [bitvec_to_nat] at h)<;>(try simp only [h])<;>(first|(exfalso;omega)|(exfalso;simp_all;done)|(simp (disch:=omega) only [push_cast,seval,hel,Aaz])|skip))
 | (refine Adz ⟨.inr rfl,[16000],[],_,by decide,rfl,?_⟩;(try simp (disch:=omega) only [push_cast,seval,↓Ahz,↓Aez,↓List.map_cons,↓List.map_nil,hel,Aaz]))))
    all_goals simp [OI]

end Go.Proofs.YtfccepgibbdfaaaGreatDoor
namespace Go.Proofs.YtfccepgibbdfaaaGreatDoor
open VwM Vw Go
variable [SentA]
variable [PowA]

end Go.Proofs.YtfccepgibbdfaaaGreatDoor
