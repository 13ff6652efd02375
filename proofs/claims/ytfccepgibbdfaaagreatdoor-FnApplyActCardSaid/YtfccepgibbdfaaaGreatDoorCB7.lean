/- Texts of this verifier. -/
import Derived.Test.YtfccepgibbdfaaaGreatDoorCB6
import Derived.Test.YtfccepgibbdfaaaGreatDoorCM1
import Derived.Test.YtfccepgibbdfaaaGreatDoorCW3
set_option maxHeartbeats 4000000
set_option linter.unusedSimpArgs false
set_option linter.unusedSectionVars false
set_option linter.unusedVariables false
set_option maxRecDepth 4000
namespace Go.Proofs.YtfccepgibbdfaaaGreatDoor
open VwM Vw Go
variable [SentA]
variable [PowA]

theorem Cfz (n:Nat):PCall Tryz.prog 47 [.val (heldV n),.val (.iface 202 (.pointer (some SentA.a)))] (fun r=>r=.bool (decide (0<n))):=by
 intro w B vs hB hG hl hd
 obtain ⟨u,v,rfl⟩:∃ u v,vs=[u,v]:=by
  match vs,hl with
  | [u,v],_=>exact ⟨u,v,rfl⟩
 simp only [DenP,Den] at hd
 obtain ⟨rfl,rfl,_⟩:=hd
 unfold heldV
 by_cases h:0<n
 ·rw [if_pos h]
  refine (is_same SentA.a w).mono fun e w' ⟨he,hw⟩=>?_
  subst he hw
  exact ⟨.bool true,_,by simp [h],rfl,by simp [Den],Go.RowKit.Below.refl _ _⟩
 ·rw [if_neg h]
  refine (is_nil SentA.a w).mono fun e w' ⟨he,hw⟩=>?_
  subst he hw
  exact ⟨.bool false,_,by simp [h],rfl,by simp [Den],Go.RowKit.Below.refl _ _⟩


set_option maxHeartbeats 8000000 in
theorem Biz (cs:List Int)(es:List Ex)(m n:Nat)(hm:cs.length=m)(hn:es.length=n)(hb:m≤1099511627776∧n≤1099511627776∧exB 1099511627776 es) :
  PCall Tryz.prog 24 [.agg [.rows false (IL cs) m,.rows false (EL false es) n]] (fun r=>r=.bool (vB cs es)):=by
 subst hm hn
 have hb0:=hb
 obtain ⟨hb1,hb2,hb3⟩:=hb
 have hel:=Auz false es
 refine Atz l24_eq rfl ?_
 unfold vB
 (repeat' (first
 | (first|refine Afz ?_|refine Aaz ?_)
 | ((first|refine Agz ?_);simp (disch:=omega) only [push_cast,seval,Abz])
 | (refine Adz ⟨.inr rfl,_,rfl,?_⟩;(try simp (disch:=omega) only [push_cast,seval,Abz]))))
 refine A4z (fun i:Nat=>mkS [(1,.ref 16 2 0),(2,.bool false),(3,.int .i64 i)] [(16,[.rows false (IL cs) cs.length,.rows false (EL false es) es.length])]) (fun i=>i≤es.length∧allX (sxV cs.length es) es i=true) (fun i=>es.length-i) 0 ⟨Nat.zero_le _,rfl⟩ ?_ ?_
 ·(refine Sub.of_lists ?_ ?_ ?_ ?_ ?_<;>simp [Vw.mkS,Vw.lk,Vw.hk,AV.inn,innL,Apz,Aoz,Asz,-List.map_set,-List.getD_eq_getElem?_getD,Abz])
 ·rintro i ⟨hi,hal⟩
  by_cases hlt:i<es.length
  ·obtain ⟨p,b,x,y,o,he⟩:=Duz hlt
   cases hs:sxV cs.length es i (p,(b,x,y),o) with
 | false =>
    have hno:=allX_no (f:=sxV cs.length es) he hs hlt
    (repeat' ((first
 | (first|refine Afz ?_|refine Aaz ?_)
 | (first|refine Agz ?_|refine Acz ?_|refine Amz ?_)
 | ((first|refine Alz (fun h=>?_) (fun h=>?_))<;>(try simp only [h])<;>(try simp only [bitvec_to_nat] at h)<;>(try simp only [h])<;>(first|(exfalso;omega)|(exfalso;simp_all;done)|skip))
 | (first|refine Ajz false ?_)
 | (first|(refine Aiz (Akz (svEx_ok _ _ _ _ _ _ _ _ _ _ ?_ ?_ (by assumption) ?_)) ?_;(iterate 3 (exact sd));rintro _ _ ⟨rfl,rfl⟩))
 | (refine Adz ⟨.inr rfl,_,rfl,?_⟩))<;>(try simp (disch:=omega) only [push_cast,seval,hel,hs,Abz])))
    all_goals (try simp [hno])
 | true =>
    have hyes:allX (sxV cs.length es) es (i+1)=true:=by rw [H2z he,hal,hs];rfl
    (repeat' ((first
 | (first|refine Afz ?_|refine Aaz ?_)
 | (first|refine Agz ?_|refine Acz ?_|refine Amz ?_)
 | ((first|refine Alz (fun h=>?_) (fun h=>?_))<;>(try simp only [h])<;>(try simp only [bitvec_to_nat] at h)<;>(try simp only [h])<;>(first|(exfalso;omega)|(exfalso;simp_all;done)|skip))
 | (first|refine Ajz false ?_)
 | (first|(refine Aiz (Akz (svEx_ok _ _ _ _ _ _ _ _ _ _ ?_ ?_ (by assumption) ?_)) ?_;(iterate 3 (exact sd));rintro _ _ ⟨rfl,rfl⟩))
 | (refine Adz ⟨.inr rfl,_,rfl,?_⟩))<;>(try simp (disch:=omega) only [push_cast,seval,hel,hs,Abz])))
    refine ⟨i+1,⟨by omega,hyes⟩,by omega,?_⟩
    (refine Sub.of_lists ?_ ?_ ?_ ?_ ?_<;>simp [Vw.mkS,Vw.lk,Vw.hk,AV.inn,innL,Apz,Aoz,Asz,-List.map_set,-List.getD_eq_getElem?_getD,Abz])
  ·have e:i=es.length:=by omega
   subst e
   cases hv:vMem cs with
 | false =>
    (repeat' ((first
 | (first|refine Afz ?_|refine Aaz ?_)
 | (first|refine Agz ?_|refine Acz ?_|refine Azz ?_)
 | ((first|refine Alz (fun h=>?_) (fun h=>?_))<;>(try simp only [h])<;>(try simp only [bitvec_to_nat] at h)<;>(try simp only [h])<;>(first|(exfalso;omega)|(exfalso;simp_all;done)|skip))
 | (first|refine Ajz false ?_)
 | (first|(refine Aiz (Akz (Hiz _ _ ?_ ?_)) ?_;(iterate 2 (exact sd));rintro _ _ ⟨rfl,rfl⟩))
 | (refine Adz ⟨.inr rfl,_,rfl,?_⟩))<;>(try simp (disch:=omega) only [push_cast,seval,hel,hv,hal,Abz])))
    all_goals (try simp)
 | true =>
    (repeat' ((first
 | (first|refine Afz ?_|refine Aaz ?_)
 | (first|refine Agz ?_|refine Acz ?_|refine Azz ?_)
 | ((first|refine Alz (fun h=>?_) (fun h=>?_))<;>(try simp only [h])<;>(try simp only [bitvec_to_nat] at h)<;>(try simp only [h])<;>(first|(exfalso;omega)|(exfalso;simp_all;done)|skip))
 | (first|refine Ajz false ?_)
 | (first|(refine Aiz (Akz (Hiz _ _ ?_ ?_)) ?_;(iterate 2 (exact sd));rintro _ _ ⟨rfl,rfl⟩))
 | (refine Adz ⟨.inr rfl,_,rfl,?_⟩))<;>(try simp (disch:=omega) only [push_cast,seval,hel,hv,hal,Abz])))
    all_goals (try simp)
    all_goals (try omega)


set_option maxHeartbeats 8000000 in
theorem ivEx_ok (p b:Int)(x y:List Int)(o:Bool)(n m:Nat)(i k:Nat)(hn:x.length=n)(hm:y.length=m)(hb:(n≤1099511627776∧m≤1099511627776)∧(i≤1000000∧k≤60)) :
  PCall Tryz.prog 46 [.agg [.int .i64 p,.int .i64 b,.rows false (IL x) n,.rows false (IL y) m,.bool o],.int .i64 i,.int .i64 k] (fun r=>r=.bool (exV k i (p,(b,x,y),o))):=by
 subst hn hm
 obtain ⟨⟨hbx,hby⟩,hi,hk⟩:=hb
 refine Atz l46_eq rfl ?_
 unfold exV
 simp only
 cases hv:vV b x y with
 | false =>
  (repeat' ((first
 | (first|refine Afz ?_|refine Aaz ?_)
 | (first|refine Agz ?_|refine Acz ?_)
 | (first|refine Ajz false ?_)
 | (first|(refine Aiz (Akz (Blz _ _ _ _ _ ?_ ?_ ?_)) ?_;(iterate 3 (exact sd));rintro _ _ ⟨rfl,rfl⟩))
 | (refine Adz ⟨.inr rfl,_,rfl,?_⟩))<;>(try simp (disch:=omega) only [push_cast,seval,hv])))
  all_goals (try simp)
 | true =>
  by_cases hp:-1≤p∧p≤(i:Int)-1
  ·have hpd:(decide (-1≤p)&&decide (p≤(i:Int)-1))=true:=by rw [Bool.and_eq_true,decide_eq_true_eq,decide_eq_true_eq];exact hp
   rw [hpd]
   have hf:fitB b x y k=allI (offs b x y) 0 ((k:Int)-1):=by
    unfold fitB
    rw [hv]
    have:(decide ((0:Int)≤k)&&decide ((k:Int)≤60))=true:=by rw [Bool.and_eq_true,decide_eq_true_eq,decide_eq_true_eq];omega
    rw [this];rfl
   have hp3:(p < -1)=False:=eq_false (by omega)
   have hp4:((i:Int)≤p)=False:=eq_false (by omega)
   cases o with
 | false =>
    (repeat' ((first
 | (first|refine Afz ?_|refine Aaz ?_)
 | (first|refine Agz ?_|refine Acz ?_|refine Amz ?_)
 | (first|refine Ajz false ?_)
 | (first|(refine Aiz (Akz (Blz _ _ _ _ _ ?_ ?_ ?_)) ?_;(iterate 3 (exact sd));rintro _ _ ⟨rfl,rfl⟩))
 | (refine Adz ⟨.inr rfl,_,rfl,?_⟩))<;>(try simp (disch:=omega) only [push_cast,seval,hv,hp3,hp4,decide_false])))
    all_goals (try simp)
 | true =>
    (repeat' ((first
 | (first|refine Afz ?_|refine Aaz ?_)
 | (first|refine Agz ?_|refine Acz ?_|refine Amz ?_)
 | (first|refine Ajz false ?_)
 | (first|(refine Aiz (Akz (Blz _ _ _ _ _ ?_ ?_ ?_)) ?_;(iterate 3 (exact sd));rintro _ _ ⟨rfl,rfl⟩)|(refine Aiz (Akz (Gnz _ _ _ _ _ _ ?_ ?_ ?_)) ?_;(iterate 3 (exact sd));rintro _ _ ⟨rfl,rfl⟩))
 | (refine Adz ⟨.inr rfl,_,rfl,?_⟩))<;>(try simp (disch:=omega) only [push_cast,seval,hv,hf,hp3,hp4,decide_false])))
    all_goals (try simp)
  ·have hpd:(decide (-1≤p)&&decide (p≤(i:Int)-1))=false:=by rw [Bool.eq_false_iff];intro h;simp at h;omega
   rw [hpd]
   by_cases hp1:p < -1
   ·have hp3:(p < -1)=True:=eq_true hp1
    (repeat' ((first
 | (first|refine Afz ?_|refine Aaz ?_)
 | (first|refine Agz ?_|refine Acz ?_)
 | (first|refine Ajz false ?_)
 | (first|(refine Aiz (Akz (Blz _ _ _ _ _ ?_ ?_ ?_)) ?_;(iterate 3 (exact sd));rintro _ _ ⟨rfl,rfl⟩))
 | (refine Adz ⟨.inr rfl,_,rfl,?_⟩))<;>(try simp (disch:=omega) only [push_cast,seval,hv,hp3,decide_true])))
    all_goals (try simp)
   ·have hp3:(p < -1)=False:=eq_false hp1
    have hp4:((i:Int)≤p)=True:=eq_true (by omega)
    (repeat' ((first
 | (first|refine Afz ?_|refine Aaz ?_)
 | (first|refine Agz ?_|refine Acz ?_)
 | (first|refine Ajz false ?_)
 | (first|(refine Aiz (Akz (Blz _ _ _ _ _ ?_ ?_ ?_)) ?_;(iterate 3 (exact sd));rintro _ _ ⟨rfl,rfl⟩))
 | (refine Adz ⟨.inr rfl,_,rfl,?_⟩))<;>(try simp (disch:=omega) only [push_cast,seval,hv,hp3,hp4,decide_false,decide_true])))
    all_goals (try simp)


theorem Fcz {es:List Ex}{p:Int}:∀ {k:Nat},kidsT es p k=[]↔∀ i e,i<k→es[i]?=some e→¬ (e.2.2=true∧e.1=p)
 | 0=>by simp [kidsT]
 | k+1=>by
  constructor
  ·intro h i e hi he
   cases hk:es[k]? with
 | none =>
    by_cases hik:i=k
    ·subst hik;rw [hk] at he;cases he
    ·simp only [kidsT,hk] at h
     exact Fcz.1 h i e (by omega) he
 | some f =>
    by_cases hf:f.2.2=true∧f.1=p
    ·rw [J3z hk hf] at h;simp at h
    ·rw [Gkz hk hf] at h
     by_cases hik:i=k
     ·subst hik;rw [hk] at he;injection he with he;subst he;exact hf
     ·exact Fcz.1 h i e (by omega) he
  ·intro h
   have ih:kidsT es p k=[]:=Fcz.2 fun i e hi he=>h i e (by omega) he
   cases hk:es[k]? with
 | none=>simp only [kidsT,hk];exact ih
 | some f=>rw [Gkz hk (h k f (by omega) hk)];exact ih
/-- No closed export has open ones of its own. -/
def closB (es:List Ex)(n:Nat)(j:Nat)(e:Ex):Bool:=e.2.2 || decide ((kidsT es (j:Int) n).length=0)
theorem vB_clos {cs:List Int}{es:List Ex}(h1:vMem cs=true)(h2:es.length≤8)(h3:allX (exV cs.length) es es.length=true):vB cs es=allX (closB es es.length) es es.length:=by
 unfold vB
 rw [h1,decide_eq_true h2]
 simp only [Bool.true_and]
 rw [Bool.eq_iff_iff,Ddz,Ddz]
 have hp:=parOk_of h3
 constructor
 ·intro h j e hj he
  unfold closB
  cases ho:e.2.2 with
  | true=>rfl
  | false =>
   simp only [Bool.false_or,decide_eq_true_eq,List.length_eq_zero_iff]
   refine Fcz.2 fun i f hi hf ⟨hfo,hfp⟩=>?_
   have:=h i f hi hf
   unfold sxV at this
   rw [hfo,hfp] at this
   simp only [Bool.and_eq_true,Bool.not_true,Bool.false_or,Bool.or_eq_true,decide_eq_true_eq] at this
   rcases this.2 with hx|hx
   ·omega
   ·simp only [opE,Int.toNat_natCast,he] at hx
    rw [ho] at hx;cases hx
 ·intro h i f hi hf
  unfold sxV
  rw [Ddz.1 h3 i f hi hf]
  simp only [Bool.true_and]
  cases hfo:f.2.2 with
  | false=>rfl
  | true =>
   simp only [Bool.not_true,Bool.false_or,Bool.or_eq_true,decide_eq_true_eq]
   have hpp:=hp i f hf
   by_cases hneg:f.1<0
   ·exact .inl hneg
   ·right
    obtain ⟨q,hq⟩:∃ q:Nat,f.1=q:=⟨f.1.toNat,by omega⟩
    have hql:q<es.length:=by omega
    have hqe:=List.getElem?_eq_getElem hql
    have:=h q _ hql hqe
    unfold closB at this
    simp only [opE,hq,Int.toNat_natCast,hqe]
    cases ho:es[q].2.2 with
    | true=>rfl
    | false =>
     rw [ho] at this
     simp only [Bool.false_or,decide_eq_true_eq,List.length_eq_zero_iff] at this
     exact absurd ⟨hfo,hq⟩ (Fcz.1 this i f hi hf)
theorem vB_no {cs:List Int}{es:List Ex}{i:Nat}{e:Ex}(he:es[i]?=some e)(h:exV cs.length i e=false):vB cs es=false:=by
 unfold vB
 rw [allX_no (f:=sxV cs.length es) he (by unfold sxV;rw [h];rfl) (List.getElem?_eq_some_iff.1 he).1]
 simp


set_option maxHeartbeats 16000000 in
theorem B4z (cs:List Int)(es:List Ex)(m n:Nat)(hm:cs.length=m)(hn:es.length=n)(hb:m≤1099511627776∧n≤1099511627776∧exB 1099511627776 es) :
  PCall Tryz.prog 19 [.agg [.rows false (IL cs) m,.rows false (EL false es) n]] (fun r=>r=.bool (vB cs es)):=by
 subst hm hn
 obtain ⟨hb1,hb2,hb3⟩:=hb
 have hel:=Auz false es
 refine Atz l19_eq rfl ?_
 cases hv:vMem cs with
 | false =>
  have hvb:vB cs es=false:=by unfold vB;rw [hv];rfl
  rw [hvb]
  (repeat' ((first
 | (first|refine Afz ?_|refine Aaz ?_)
 | (first|refine Agz ?_|refine Acz ?_)
 | (first|refine Ajz false ?_)
 | (first|(refine Aiz (Akz (Hvz _ _ ?_ ?_)) ?_;(iterate 2 (exact sd));rintro _ _ ⟨rfl,rfl⟩))
 | (refine Adz ⟨.inr rfl,_,rfl,?_⟩))<;>(try simp (disch:=omega) only [push_cast,seval,hv,hel,Abz])))
 | true =>
  have hm60:cs.length≤60:=by unfold vMem at hv;simp at hv;omega
  by_cases h8:es.length≤8
  ·(repeat' ((first
 | (first|refine Afz ?_|refine Aaz ?_)
 | (first|refine Agz ?_|refine Acz ?_|refine Amz ?_)
 | ((first|refine Alz (fun h=>?_) (fun h=>?_))<;>(try simp only [h])<;>(try simp only [bitvec_to_nat] at h)<;>(try simp only [h])<;>(first|(exfalso;omega)|(exfalso;simp_all;done)|skip))
 | (first|refine Ajz false ?_)
 | (first|(refine Aiz (Akz (Hvz _ _ ?_ ?_)) ?_;(iterate 2 (exact sd));rintro _ _ ⟨rfl,rfl⟩))
 | (refine Adz ⟨.inr rfl,_,rfl,?_⟩))<;>(try simp (disch:=omega) only [push_cast,seval,hv,hel,Abz])))
   refine A4z (fun i:Nat=>mkS [(1,.ref 16 2 0),(2,.bool false),(18,.rows false (EL false es) es.length),(19,.int .i64 es.length),(20,.int .i64 i)] [(16,[.rows false (IL cs) cs.length,.rows false (EL false es) es.length])]) (fun i=>i≤es.length∧allX (exV cs.length) es i=true) (fun i=>es.length-i) 0 ⟨Nat.zero_le _,rfl⟩ ?_ ?_
   ·(refine Sub.of_lists ?_ ?_ ?_ ?_ ?_<;>simp [Vw.mkS,Vw.lk,Vw.hk,AV.inn,innL,Apz,Aoz,Asz,-List.map_set,-List.getD_eq_getElem?_getD,Abz])
   ·rintro i ⟨hi,hal⟩
    by_cases hlt:i<es.length
    ·obtain ⟨p,b,x,y,o,he⟩:=Duz hlt
     obtain ⟨hbx,hby⟩:=Ciz hb3 he
     have hd:=B6z false es i he
     simp only at hd
     have hil:i*5+5≤es.length*5:=by omega
     cases hs:exV cs.length i (p,(b,x,y),o) with
     | false =>
      have hno:=vB_no he hs
      rw [hno]
      (repeat' ((first
 | (first|refine Afz ?_|refine Aaz ?_)
 | (first|refine Agz ?_|refine Acz ?_|refine Amz ?_)
 | ((first|refine Alz (fun h=>?_) (fun h=>?_))<;>(try simp only [h])<;>(try simp only [bitvec_to_nat] at h)<;>(try simp only [h])<;>(first|(exfalso;omega)|(exfalso;simp_all;done)|skip))
 | (first|refine Ajz false ?_)
 | (first|(refine Aiz (Akz (ivEx_ok _ _ _ _ _ _ _ _ _ ?_ ?_ ?_)) ?_;(iterate 3 (exact sd));rintro _ _ ⟨rfl,rfl⟩))
 | (refine Adz ⟨.inr rfl,_,rfl,?_⟩; (try simp (disch := omega) only [push_cast,seval,hd,hil,hel,hs,Abz])))<;>(try simp (disch:=omega) only [push_cast,seval,hd,hil,hel,hs,Abz])))
     | true =>
      have hyes:allX (exV cs.length) es (i+1)=true:=by rw [H2z he,hal,hs];rfl
      (repeat' ((first
 | (first|refine Afz ?_|refine Aaz ?_)
 | (first|refine Agz ?_|refine Acz ?_|refine Amz ?_)
 | ((first|refine Alz (fun h=>?_) (fun h=>?_))<;>(try simp only [h])<;>(try simp only [bitvec_to_nat] at h)<;>(try simp only [h])<;>(first|(exfalso;omega)|(exfalso;simp_all;done)|skip))
 | (first|refine Ajz false ?_)
 | (first|(refine Aiz (Akz (ivEx_ok _ _ _ _ _ _ _ _ _ ?_ ?_ ?_)) ?_;(iterate 3 (exact sd));rintro _ _ ⟨rfl,rfl⟩))
 | (refine Adz ⟨.inr rfl,_,rfl,?_⟩; (try simp (disch := omega) only [push_cast,seval,hd,hil,hel,hs,Abz])))<;>(try simp (disch:=omega) only [push_cast,seval,hd,hil,hel,hs,Abz])))
      refine ⟨i+1,⟨by omega,hyes⟩,by omega,?_⟩
      (refine Sub.of_lists ?_ ?_ ?_ ?_ ?_<;>simp [Vw.mkS,Vw.lk,Vw.hk,AV.inn,innL,Apz,Aoz,Asz,-List.map_set,-List.getD_eq_getElem?_getD,Abz])
    ·have e:i=es.length:=by omega
     subst e
     have hpo:=parOk_of hal
     have hvc:=vB_clos hv h8 hal
     rw [hvc]
     have hq:cs.length≤1000∧es.length≤1000:=⟨by omega,by omega⟩
     (repeat' (first
 | (first|refine Afz ?_|refine Aaz ?_)
 | ((first|refine Agz ?_|refine Acz ?_|refine Azz ?_);simp (disch:=omega) only [push_cast,seval,hel,Abz])
 | ((first|refine Alz (fun h=>?_) (fun h=>?_))<;>(try simp only [h])<;>(try simp only [bitvec_to_nat] at h)<;>(try simp only [h])<;>(first|(exfalso;omega)|(exfalso;simp_all;done)|(simp (disch:=omega) only [push_cast,seval,hel,Abz])|skip))
 | (refine Adz ⟨.inr rfl,_,rfl,?_⟩; (try simp (disch := omega) only [push_cast,seval,hel,Abz]))))
     refine A4z (fun i:Nat=>mkS [(1,.ref 16 2 0),(2,.bool false),(34,.rows false (EL false es) es.length),(35,.int .i64 es.length),(36,.int .i64 i)] [(16,[.rows false (IL cs) cs.length,.rows false (EL false es) es.length])]) (fun i=>i≤es.length∧allX (closB es es.length) es i=true) (fun i=>es.length-i) 0 ⟨Nat.zero_le _,rfl⟩ ?_ ?_
     ·(refine Sub.of_lists ?_ ?_ ?_ ?_ ?_<;>simp [Vw.mkS,Vw.lk,Vw.hk,AV.inn,innL,Apz,Aoz,Asz,-List.map_set,-List.getD_eq_getElem?_getD,Abz])
     ·rintro i ⟨hi,hal2⟩
      by_cases hlt2:i<es.length
      ·obtain ⟨p,b,x,y,o,he⟩:=Duz hlt2
       have hd:=B6z false es i he
       simp only at hd
       have hil:i*5+5≤es.length*5:=by omega
       have hkl:=D4z es i es.length
       cases o with
       | true =>
        have hyes:allX (closB es es.length) es (i+1)=true:=by rw [H2z he,hal2];rfl
        (repeat' (first
 | (first|refine Afz ?_|refine Aaz ?_)
 | ((first|refine Agz ?_|refine Arz (mid:=l19r12a) (post:=l19r12b) mixed (by decide) ?_|refine Acz ?_|refine Amz ?_);simp (disch:=omega) only [push_cast,seval,hd,hil,hel,B1z,Abz])
 | ((first|refine Alz (fun h=>?_) (fun h=>?_))<;>(try simp only [h])<;>(try simp only [bitvec_to_nat] at h)<;>(try simp only [h])<;>(first|(exfalso;omega)|(exfalso;simp_all;done)|(simp (disch:=omega) only [push_cast,seval,hd,hil,hel,B1z,Abz])|skip))
 | (refine Adz ⟨.inr rfl,_,rfl,?_⟩; (try simp (disch := omega) only [push_cast,seval,hd,hil,hel,B1z,Abz]))))
        refine ⟨i+1,⟨by omega,hyes⟩,by omega,?_⟩
        (refine Sub.of_lists ?_ ?_ ?_ ?_ ?_<;>simp [Vw.mkS,Vw.lk,Vw.hk,AV.inn,innL,Apz,Aoz,Asz,-List.map_set,-List.getD_eq_getElem?_getD,Abz])
       | false =>
        by_cases hk:0<(kidsT es i es.length).length
        ·have hno:allX (closB es es.length) es es.length=false:=allX_no (f:=closB es es.length) he (by unfold closB;simp;intro h;rw [h] at hk;simp at hk) hlt2
         rw [hno]
         have hk2:=decide_eq_true hk
         generalize hK:kidsT es i es.length=ks at *
         generalize hKn:ks.length=kn at *
         (repeat' ((first
 | (first|refine Afz ?_|refine Aaz ?_)
 | (first|refine Agz ?_|refine Arz (mid:=l19r12a) (post:=l19r12b) mixed (by decide) ?_|refine Acz ?_|refine Amz ?_)
 | ((first|refine Alz (fun h=>?_) (fun h=>?_))<;>(try simp only [h])<;>(try simp only [bitvec_to_nat] at h)<;>(try simp only [h])<;>(first|(exfalso;omega)|(exfalso;simp_all;done)|skip))
 | (first|refine Ajz false ?_|refine Aqz false ?_)
 | (first|((first|refine Aiz (Akz (C0z _ _ _ _ _ ?_ ?_ ?_ ?_ ?_)) ?_|refine Anz (Akz (C0z _ _ _ _ _ ?_ ?_ ?_ ?_ ?_)) ⟨_,_,rfl,rfl⟩ ?_);(iterate 5 (exact sd));rintro _ _ ⟨rfl,rfl⟩)|((first|refine Aiz (Akz (Dvz _ _ ?_ ?_)) ?_|refine Anz (Akz (Dvz _ _ ?_ ?_)) ⟨_,_,rfl,rfl⟩ ?_);(iterate 2 (exact sd));rintro _ _ ⟨rfl,rfl⟩)|((first|refine Aiz (Akz (Cfz _)) ?_|refine Anz (Akz (Cfz _)) ⟨_,_,rfl,rfl⟩ ?_);rintro _ _ ⟨rfl,rfl⟩))
 | (refine Adz ⟨.inr rfl,_,rfl,?_⟩; (try simp (disch := omega) only [push_cast,seval,hd,hil,hel,B1z,Bcz,hK,hKn,hk2,Abz])))<;>(try simp (disch:=omega) only [push_cast,seval,hd,hil,hel,B1z,Bcz,hK,hKn,hk2,Abz])))
        ·have hyes:allX (closB es es.length) es (i+1)=true:=by rw [H2z he,hal2];simp [closB];exact List.length_eq_zero_iff.1 (by omega)
         have hk2:=decide_eq_false hk
         generalize hK:kidsT es i es.length=ks at *
         generalize hKn:ks.length=kn at *
         (repeat' ((first
 | (first|refine Afz ?_|refine Aaz ?_)
 | (first|refine Agz ?_|refine Arz (mid:=l19r12a) (post:=l19r12b) mixed (by decide) ?_|refine Acz ?_|refine Amz ?_)
 | ((first|refine Alz (fun h=>?_) (fun h=>?_))<;>(try simp only [h])<;>(try simp only [bitvec_to_nat] at h)<;>(try simp only [h])<;>(first|(exfalso;omega)|(exfalso;simp_all;done)|skip))
 | (first|refine Ajz false ?_|refine Aqz false ?_)
 | (first|((first|refine Aiz (Akz (C0z _ _ _ _ _ ?_ ?_ ?_ ?_ ?_)) ?_|refine Anz (Akz (C0z _ _ _ _ _ ?_ ?_ ?_ ?_ ?_)) ⟨_,_,rfl,rfl⟩ ?_);(iterate 5 (exact sd));rintro _ _ ⟨rfl,rfl⟩)|((first|refine Aiz (Akz (Dvz _ _ ?_ ?_)) ?_|refine Anz (Akz (Dvz _ _ ?_ ?_)) ⟨_,_,rfl,rfl⟩ ?_);(iterate 2 (exact sd));rintro _ _ ⟨rfl,rfl⟩)|((first|refine Aiz (Akz (Cfz _)) ?_|refine Anz (Akz (Cfz _)) ⟨_,_,rfl,rfl⟩ ?_);rintro _ _ ⟨rfl,rfl⟩))
 | (refine Adz ⟨.inr rfl,_,rfl,?_⟩; (try simp (disch := omega) only [push_cast,seval,hd,hil,hel,B1z,Bcz,hK,hKn,hk2,Abz])))<;>(try simp (disch:=omega) only [push_cast,seval,hd,hil,hel,B1z,Bcz,hK,hKn,hk2,Abz])))
         refine ⟨i+1,⟨by omega,hyes⟩,by omega,?_⟩
         (refine Sub.of_lists ?_ ?_ ?_ ?_ ?_<;>simp [Vw.mkS,Vw.lk,Vw.hk,AV.inn,innL,Apz,Aoz,Asz,-List.map_set,-List.getD_eq_getElem?_getD,Abz])
      ·have e2:i=es.length:=by omega
       subst e2
       (repeat' (first
 | (first|refine Afz ?_|refine Aaz ?_)
 | ((first|refine Agz ?_|refine Acz ?_|refine Azz ?_);simp (disch:=omega) only [push_cast,seval,hel,Abz])
 | ((first|refine Alz (fun h=>?_) (fun h=>?_))<;>(try simp only [h])<;>(try simp only [bitvec_to_nat] at h)<;>(try simp only [h])<;>(first|(exfalso;omega)|(exfalso;simp_all;done)|(simp (disch:=omega) only [push_cast,seval,hel,Abz])|skip))
 | (refine Adz ⟨.inr rfl,_,rfl,?_⟩; (try simp (disch := omega) only [push_cast,seval,hel,Abz]))))
       all_goals (try simp [hal2])
  ·have hvb:vB cs es=false:=by unfold vB;rw [decide_eq_false h8];simp
   rw [hvb]
   (repeat' ((first
 | (first|refine Afz ?_|refine Aaz ?_)
 | (first|refine Agz ?_|refine Acz ?_)
 | ((first|refine Alz (fun h=>?_) (fun h=>?_))<;>(try simp only [h])<;>(try simp only [bitvec_to_nat] at h)<;>(try simp only [h])<;>(first|(exfalso;omega)|(exfalso;simp_all;done)|skip))
 | (first|refine Ajz false ?_)
 | (first|(refine Aiz (Akz (Hvz _ _ ?_ ?_)) ?_;(iterate 2 (exact sd));rintro _ _ ⟨rfl,rfl⟩))
 | (refine Adz ⟨.inr rfl,_,rfl,?_⟩))<;>(try simp (disch:=omega) only [push_cast,seval,hv,hel,Abz])))

end Go.Proofs.YtfccepgibbdfaaaGreatDoor
namespace Go.Proofs.YtfccepgibbdfaaaGreatDoor
open VwM Vw Go
variable [SentA]
variable [PowA]

end Go.Proofs.YtfccepgibbdfaaaGreatDoor
namespace Go.Proofs.YtfccepgibbdfaaaGreatDoor
open VwM Vw Go
variable [SentA]
variable [PowA]

end Go.Proofs.YtfccepgibbdfaaaGreatDoor
namespace Go.Proofs.YtfccepgibbdfaaaGreatDoor
open VwM Vw Go
variable [SentA]
variable [PowA]

end Go.Proofs.YtfccepgibbdfaaaGreatDoor
namespace Go.Proofs.YtfccepgibbdfaaaGreatDoor
open VwM Vw Go
variable [SentA]
variable [PowA]

def opensT (es:List Ex):Nat→List Int
 | 0=>[]
 | k+1=>match es[k]? with
  | some e=>if e.2.2=true then opensT es k++[(k:Int)] else opensT es k
  | none=>opensT es k
theorem K3z {es:List Ex}{k:Nat}{e:Ex}(h:es[k]?=some e)(h1:e.2.2=true):opensT es (k+1)=opensT es k++[(k:Int)]:=by
 simp only [opensT,h,if_pos h1]
theorem Juz {es:List Ex}{k:Nat}{e:Ex}(h:es[k]?=some e)(h1:¬ e.2.2=true):opensT es (k+1)=opensT es k:=by
 simp only [opensT,h,if_neg h1]
theorem Icz (es:List Ex):∀ k,(opensT es k).length≤k
 | 0=>Nat.le_refl _
 | k+1=>by
  have:=Icz es k
  simp only [opensT]
  split
  ·split
   ·simp;omega
   ·omega
  ·omega
def opensA (cs:List Int)(es:List Ex):List Int:=if vB cs es=true then opensT es es.length else []
theorem opensA_len (cs:List Int)(es:List Ex):(opensA cs es).length≤es.length:=by
 unfold opensA
 split
 ·exact Icz _ _
 ·exact Nat.zero_le _
theorem vB_8 {cs:List Int}{es:List Ex}(h:vB cs es=true):es.length≤8∧cs.length≤60∧parOk es:=by
 unfold vB at h
 simp only [Bool.and_eq_true,decide_eq_true_eq] at h
 obtain ⟨⟨h1,h2⟩,h3⟩:=h
 refine ⟨h2,by unfold vMem at h1;simp at h1;omega,fun i e he=>?_⟩
 have hi:i<es.length:=(List.getElem?_eq_some_iff.1 he).1
 have:=(Ddz (f:=sxV cs.length es)).1 h3 i e hi he
 unfold sxV exV at this
 simp only [Bool.and_eq_true,decide_eq_true_eq] at this
 omega


set_option maxHeartbeats 8000000 in
theorem skids_ok (cs:List Int)(es:List Ex)(m n:Nat)(id:Int)(hm:cs.length=m)(hn:es.length=n)(hb:m≤1000∧n≤1000) :
  BCall Tryz.prog 120 [.agg [.rows false (IL cs) m,.rows false (EL false es) n],.int .i64 id] [] (OI (kidsT es id n)):=by
 subst hm hn
 obtain ⟨hb1,hb2⟩:=hb
 refine Avz (pins:=[]) (pin:=0) l120_eq rfl rfl rfl ?_
 have hel:=Auz false es
 (repeat' (first
 | (first|refine Afz ?_|refine Aaz ?_)
 | ((first|refine Agz ?_);simp (disch:=omega) only [push_cast,seval,Abz])
 | (refine Adz ⟨.inr rfl,[112],[],_,by decide,rfl,?_⟩;(try simp (disch:=omega) only [push_cast,seval,↓Ahz,↓Aez,↓List.map_cons,↓List.map_nil,Abz]))))
 refine A4z (fun i:Nat=>mkS [(1,.int .i64 id),(2,.ref 32 2 0),(5,.own 112 (kidsT es id i).length 1),(6,.int .i64 i)] [(32,[.rows false (IL cs) cs.length,.rows false (EL false es) es.length]),(112,IL (kidsT es id i))]) (fun i=>i≤es.length) (fun i=>es.length-i) 0 (Nat.zero_le _) ?_ ?_
 ·have e0:kidsT es id 0=[]:=rfl
  (refine Sub.of_lists ?_ ?_ ?_ ?_ ?_<;>simp [Vw.mkS,Vw.lk,Vw.hk,AV.inn,innL,Apz,Aoz,Asz,-List.map_set,-List.getD_eq_getElem?_getD,Abz,e0])
 ·intro i hi
  by_cases hlt:i<es.length
  ·obtain ⟨p,b,x,y,o,he⟩:=Duz hlt
   have hd:=B6z false es i he
   simp only at hd
   have hd0:((EL false es).drop (i*5)).take 1=[.int .i64 p]:=by have:=congrArg (fun l=>l.take 1) hd;simpa [List.take_take] using this
   have hd4:((EL false es).drop (i*5+4)).take 1=[.bool o]:=by have:=congrArg (fun l=>(l.drop 4).take 1) hd;simpa [List.drop_take,List.take_take] using this
   have hil:i*5+5≤es.length*5:=by omega
   have hkl:=D4z es id i
   cases o with
 | false =>
    have e1:=Gkz (p:=id) he (by simp)
    (repeat' (first
 | (first|refine Afz ?_|refine Aaz ?_)
 | ((first|refine Agz ?_|refine Acz ?_|refine Amz ?_);simp (disch:=omega) only [push_cast,seval,hd0,hd4,hel,hil,Abz])
 | ((first|refine Alz (fun h=>?_) (fun h=>?_))<;>(try simp only [h])<;>(try simp only [bitvec_to_nat] at h)<;>(try simp only [h])<;>(first|(exfalso;omega)|(exfalso;simp_all;done)|(simp (disch:=omega) only [push_cast,seval,hd0,hd4,hel,hil,Abz])|skip))
 | (refine Adz ⟨.inr rfl,[112],[],_,by decide,rfl,?_⟩;(try simp (disch:=omega) only [push_cast,seval,↓Ahz,↓Aez,↓List.map_cons,↓List.map_nil,hd0,hd4,hel,hil,Abz]))))
    all_goals (refine ⟨i+1,by omega,by omega,?_⟩;(refine Sub.of_lists ?_ ?_ ?_ ?_ ?_<;>simp [Vw.mkS,Vw.lk,Vw.hk,AV.inn,innL,Apz,Aoz,Asz,-List.map_set,-List.getD_eq_getElem?_getD,Abz,e1]))
 | true =>
    by_cases hpe:p=id
    ·have e1:=J3z (p:=id) he ⟨rfl,hpe⟩
     (repeat' (first
 | (first|refine Afz ?_|refine Aaz ?_)
 | ((first|refine Agz ?_|refine Acz ?_|refine Amz ?_);simp (disch:=omega) only [push_cast,seval,hd0,hd4,hel,hil,hpe,hkl,Abz])
 | ((first|refine Alz (fun h=>?_) (fun h=>?_))<;>(try simp only [h])<;>(try simp only [bitvec_to_nat] at h)<;>(try simp only [h])<;>(first|(exfalso;omega)|(exfalso;simp_all;done)|(simp (disch:=omega) only [push_cast,seval,hd0,hd4,hel,hil,hpe,hkl,Abz])|skip))
 | (refine Adz ⟨.inr rfl,[112],[],_,by decide,rfl,?_⟩; (try simp (disch := omega) only [push_cast,seval,↓Ahz,↓Aez,↓List.map_cons,↓List.map_nil,hd0,hd4,hel,hil,hpe,hkl,Abz]))))
     all_goals (refine ⟨i+1,by omega,by omega,?_⟩;(refine Sub.of_lists ?_ ?_ ?_ ?_ ?_<;>simp [Vw.mkS,Vw.lk,Vw.hk,AV.inn,innL,Apz,Aoz,Asz,-List.map_set,-List.getD_eq_getElem?_getD,Abz,e1,List.length_append]))
    ·have e1:=Gkz (p:=id) he (by simp [hpe])
     (repeat' (first
 | (first|refine Afz ?_|refine Aaz ?_)
 | ((first|refine Agz ?_|refine Acz ?_|refine Amz ?_);simp (disch:=omega) only [push_cast,seval,hd0,hd4,hel,hil,hpe,hkl,Abz])
 | ((first|refine Alz (fun h=>?_) (fun h=>?_))<;>(try simp only [h])<;>(try simp only [bitvec_to_nat] at h)<;>(try simp only [h])<;>(first|(exfalso;omega)|(exfalso;simp_all;done)|(simp (disch:=omega) only [push_cast,seval,hd0,hd4,hel,hil,hpe,hkl,Abz])|skip))
 | (refine Adz ⟨.inr rfl,[112],[],_,by decide,rfl,?_⟩; (try simp (disch := omega) only [push_cast,seval,↓Ahz,↓Aez,↓List.map_cons,↓List.map_nil,hd0,hd4,hel,hil,hpe,hkl,Abz]))))
     all_goals (refine ⟨i+1,by omega,by omega,?_⟩;(refine Sub.of_lists ?_ ?_ ?_ ?_ ?_<;>simp [Vw.mkS,Vw.lk,Vw.hk,AV.inn,innL,Apz,Aoz,Asz,-List.map_set,-List.getD_eq_getElem?_getD,Abz,e1]))
  ·have e:i=es.length:=by omega
   subst e
   (repeat' (first
 | (first|refine Afz ?_|refine Aaz ?_)
 | ((first|refine Agz ?_|refine Acz ?_|refine Azz ?_);simp (disch:=omega) only [push_cast,seval,hel,Abz])
 | ((first|refine Alz (fun h=>?_) (fun h=>?_))<;>(try simp only [h])<;>(try simp only [bitvec_to_nat] at h)<;>(try simp only [h])<;>(first|(exfalso;omega)|(exfalso;simp_all;done)|(simp (disch:=omega) only [push_cast,seval,hel,Abz])|skip))
 | (refine Adz ⟨.inr rfl,[112],[],_,by decide,rfl,?_⟩;(try simp (disch:=omega) only [push_cast,seval,↓Ahz,↓Aez,↓List.map_cons,↓List.map_nil,hel,Abz]))))
   all_goals simp [OI]

end Go.Proofs.YtfccepgibbdfaaaGreatDoor
namespace Go.Proofs.YtfccepgibbdfaaaGreatDoor
open VwM Vw Go
variable [SentA]
variable [PowA]





set_option maxHeartbeats 8000000 in
theorem Lwz (cs:List Int)(es:List Ex)(m n:Nat)(hm:cs.length=m)(hn:es.length=n)(hb:m≤1099511627776∧n≤1099511627776∧exB 1099511627776 es) :
  BCall Tryz.prog 112 [.agg [.rows false (IL cs) m,.rows false (EL false es) n]] [] (OI (opensA cs es)):=by
 subst hm hn
 have hb0:=hb
 obtain ⟨hb1,hb2,hb3⟩:=hb
 have hel:=Auz false es
 refine Avz (pins:=[]) (pin:=0) l112_eq rfl rfl rfl ?_
 unfold opensA
 cases hv:vB cs es with
 | false =>
  (repeat' ((first
 | (first|refine Afz ?_|refine Aaz ?_)
 | (first|refine Agz ?_|refine Acz ?_)
 | (first|refine Ajz false ?_)
 | (first|(refine Aiz (Akz (Biz _ _ _ _ ?_ ?_ ?_)) ?_;(iterate 3 (exact sd));rintro _ _ ⟨rfl,rfl⟩))
 | (refine Adz ⟨.inr rfl,[16000],[(16000,1)],_,by decide,rfl,?_⟩;(try simp (disch:=omega) only [push_cast,seval,↓Ahz,↓Aez,↓List.map_cons,↓List.map_nil,hv,hel,Abz])))<;>(try simp (disch:=omega) only [push_cast,seval,hv,hel,Abz])))
  all_goals simp [OI]
 | true =>
  obtain ⟨v1,v2,v3⟩:=vB_8 hv
  (repeat' ((first
 | (first|refine Afz ?_|refine Aaz ?_)
 | (first|refine Agz ?_|refine Acz ?_|refine Amz ?_)
 | (first|refine Ajz false ?_)
 | (first|(refine Aiz (Akz (Biz _ _ _ _ ?_ ?_ ?_)) ?_;(iterate 3 (exact sd));rintro _ _ ⟨rfl,rfl⟩))
 | (refine Adz ⟨.inr rfl,[128],[],_,by decide,rfl,?_⟩;(try simp (disch:=omega) only [push_cast,seval,↓Ahz,↓Aez,↓List.map_cons,↓List.map_nil,hv,hel,Abz])))<;>(try simp (disch:=omega) only [push_cast,seval,hv,hel,Abz])))
  refine A4z (fun i:Nat=>mkS [(1,.ref 16 2 0),(3,.own 128 (opensT es i).length 1),(4,.int .i64 i)] [(16,[.rows false (IL cs) cs.length,.rows false (EL false es) es.length]),(128,IL (opensT es i))]) (fun i=>i≤es.length) (fun i=>es.length-i) 0 (Nat.zero_le _) ?_ ?_
  ·have e0:opensT es 0=[]:=rfl
   (refine Sub.of_lists ?_ ?_ ?_ ?_ ?_<;>simp [Vw.mkS,Vw.lk,Vw.hk,AV.inn,innL,Apz,Aoz,Asz,-List.map_set,-List.getD_eq_getElem?_getD,Abz,e0])
  ·intro i hi
   by_cases hlt:i<es.length
   ·obtain ⟨p,b,x,y,o,he⟩:=Duz hlt
    have hd:=B6z false es i he
    simp only at hd
    have hd4:((EL false es).drop (i*5+4)).take 1=[.bool o]:=by have:=congrArg (fun l=>(l.drop 4).take 1) hd;simpa [List.drop_take,List.take_take] using this
    have hil:i*5+5≤es.length*5:=by omega
    have hkl:=Icz es i
    cases o with
    | false =>
     have e1:=Juz he (by simp)
     (repeat' (first
 | (first|refine Afz ?_|refine Aaz ?_)
 | ((first|refine Agz ?_|refine Acz ?_|refine Amz ?_);simp (disch:=omega) only [push_cast,seval,hd4,hel,hil,Abz])
 | ((first|refine Alz (fun h=>?_) (fun h=>?_))<;>(try simp only [h])<;>(try simp only [bitvec_to_nat] at h)<;>(try simp only [h])<;>(first|(exfalso;omega)|(exfalso;simp_all;done)|(simp (disch:=omega) only [push_cast,seval,hd4,hel,hil,Abz])|skip))
 | (refine Adz ⟨.inr rfl,[128],[],_,by decide,rfl,?_⟩; (try simp (disch := omega) only [push_cast,seval,↓Ahz,↓Aez,↓List.map_cons,↓List.map_nil,hd4,hel,hil,Abz]))))
     all_goals (refine ⟨i+1,by omega,by omega,?_⟩;(refine Sub.of_lists ?_ ?_ ?_ ?_ ?_<;>simp [Vw.mkS,Vw.lk,Vw.hk,AV.inn,innL,Apz,Aoz,Asz,-List.map_set,-List.getD_eq_getElem?_getD,Abz,e1]))
    | true =>
     have e1:=K3z he rfl
     (repeat' (first
 | (first|refine Afz ?_|refine Aaz ?_)
 | ((first|refine Agz ?_|refine Acz ?_|refine Amz ?_);simp (disch:=omega) only [push_cast,seval,hd4,hel,hil,hkl,Abz])
 | ((first|refine Alz (fun h=>?_) (fun h=>?_))<;>(try simp only [h])<;>(try simp only [bitvec_to_nat] at h)<;>(try simp only [h])<;>(first|(exfalso;omega)|(exfalso;simp_all;done)|(simp (disch:=omega) only [push_cast,seval,hd4,hel,hil,hkl,Abz])|skip))
 | (refine Adz ⟨.inr rfl,[128],[],_,by decide,rfl,?_⟩; (try simp (disch := omega) only [push_cast,seval,↓Ahz,↓Aez,↓List.map_cons,↓List.map_nil,hd4,hel,hil,hkl,Abz]))))
     all_goals (refine ⟨i+1,by omega,by omega,?_⟩;(refine Sub.of_lists ?_ ?_ ?_ ?_ ?_<;>simp [Vw.mkS,Vw.lk,Vw.hk,AV.inn,innL,Apz,Aoz,Asz,-List.map_set,-List.getD_eq_getElem?_getD,Abz,e1,List.length_append]))
   ·have e:i=es.length:=by omega
    subst e
    (repeat' (first
 | (first|refine Afz ?_|refine Aaz ?_)
 | ((first|refine Agz ?_|refine Acz ?_|refine Azz ?_);simp (disch:=omega) only [push_cast,seval,hel,Abz])
 | ((first|refine Alz (fun h=>?_) (fun h=>?_))<;>(try simp only [h])<;>(try simp only [bitvec_to_nat] at h)<;>(try simp only [h])<;>(first|(exfalso;omega)|(exfalso;simp_all;done)|(simp (disch:=omega) only [push_cast,seval,hel,Abz])|skip))
 | (refine Adz ⟨.inr rfl,[128],[],_,by decide,rfl,?_⟩;(try simp (disch:=omega) only [push_cast,seval,↓Ahz,↓Aez,↓List.map_cons,↓List.map_nil,hel,Abz]))))
    all_goals simp [OI]

end Go.Proofs.YtfccepgibbdfaaaGreatDoor
namespace Go.Proofs.YtfccepgibbdfaaaGreatDoor
open VwM Vw Go
variable [SentA]
variable [PowA]

end Go.Proofs.YtfccepgibbdfaaaGreatDoor
namespace Go.Proofs.YtfccepgibbdfaaaGreatDoor
open VwM Vw Go
variable [SentA]
variable [PowA]

def opA (es:List Ex)(id:Int):Bool:=(decide (0≤id)&&decide (id≤(es.length:Int)-1))&&(match es[id.toNat]? with|some e=>e.2.2|none=>false)
def vwA (es:List Ex)(id:Int):Vw3:=(es.getD id.toNat (0,(0,[],[]),false)).2.1
def loadA (cs:List Int)(es:List Ex)(id:Int):List Int:=if (vB cs es&&opA es id)=true then takesL cs (offs (vwA es id).1 (vwA es id).2.1 (vwA es id).2.2) else []
theorem Dbz {es:List Ex}{id:Int}(h:opA es id=true):∃ (q:Nat) (p b:Int) (x y:List Int),id=q∧q<es.length∧es[q]?=some (p,(b,x,y),true)∧vwA es id=(b,x,y):=by
 unfold opA at h
 simp only [Bool.and_eq_true,decide_eq_true_eq] at h
 obtain ⟨⟨h1,h2⟩,h3⟩:=h
 obtain ⟨q,rfl⟩:∃ q:Nat,id=q:=⟨id.toNat,by omega⟩
 obtain ⟨p,b,x,y,o,he⟩:=Duz (es:=es) (i:=q) (by omega)
 simp only [Int.toNat_natCast,he] at h3
 subst h3
 exact ⟨q,p,b,x,y,rfl,by omega,he,by simp [vwA,List.getD,he]⟩
theorem D7z {cs:List Int}{es:List Ex}{q:Nat}{p b:Int}{x y:List Int}(h:vB cs es=true)(he:es[q]?=some (p,(b,x,y),true)):seeB cs b x y=true:=by
 unfold vB at h
 simp only [Bool.and_eq_true,decide_eq_true_eq] at h
 obtain ⟨⟨h1,h2⟩,h3⟩:=h
 have hi:q<es.length:=(List.getElem?_eq_some_iff.1 he).1
 have:=(Ddz (f:=sxV cs.length es)).1 h3 q _ hi he
 unfold sxV exV at this
 simp only [Bool.and_eq_true,Bool.not_true,Bool.false_or] at this
 unfold seeB
 simp only [Bool.and_eq_true]
 exact ⟨⟨h1,this.1.1.2⟩,this.1.2⟩
theorem see_prX {mem:List Int}{b:Int}{sh st:List Int}(h:seeB mem b sh st=true):(offs b sh st).length≤60∧mem.length≤60:=by
 obtain ⟨_,_,_,f4,f5,f6⟩:=Cnz h
 have:=Bdz b sh st
 omega
theorem loadA_len (cs:List Int)(es:List Ex)(id:Int):(loadA cs es id).length≤60:=by
 unfold loadA
 split
 ·rename_i h
  rw [Bool.and_eq_true] at h
  obtain ⟨q,p,b,x,y,_,_,he,hv⟩:=Dbz h.2
  rw [hv,takesL_length]
  exact (see_prX (D7z h.1 he)).1
 ·exact Nat.zero_le _


set_option maxHeartbeats 8000000 in
theorem Cyz (cs:List Int)(es:List Ex)(m n:Nat)(id:Int)(hm:cs.length=m)(hn:es.length=n)(hb:m≤1099511627776∧n≤1099511627776) :
  PCall Tryz.prog 100 [.agg [.rows false (IL cs) m,.rows false (EL false es) n],.int .i64 id] (fun r=>r=.bool (opA es id)):=by
 subst hm hn
 obtain ⟨hb1,hb2⟩:=hb
 have hel:=Auz false es
 refine Atz l100_eq rfl ?_
 unfold opA
 by_cases hr:0≤id∧id≤(es.length:Int)-1
 ·have hrd:(decide (0≤id)&&decide (id≤(es.length:Int)-1))=true:=by rw [Bool.and_eq_true,decide_eq_true_eq,decide_eq_true_eq];exact hr
  rw [hrd]
  obtain ⟨q,rfl⟩:∃ q:Nat,id=q:=⟨id.toNat,by omega⟩
  obtain ⟨p,b,x,y,o,he⟩:=Duz (es:=es) (i:=q) (by omega)
  have hd:=B6z false es q he
  simp only at hd
  have hil:q*5+5≤es.length*5:=by omega
  have h4:((EL false es).drop (q*5+4)).take 1=[.bool o]:=by
   have:=congrArg (fun l=>(l.drop 4).take 1) hd
   simpa [List.drop_take,List.drop_drop,List.take_take] using this
  simp only [Int.toNat_natCast,he]
  (repeat' ((first
 | (first|refine Afz ?_|refine Aaz ?_)
 | (first|refine Agz ?_)
 | (first|refine Ajz false ?_)
 | (first|(refine Aiz (Akz (A1z _ _ _)) ?_;rintro _ _ ⟨rfl,rfl⟩))
 | (refine Adz ⟨.inr rfl,_,rfl,?_⟩))<;>(try simp (disch:=omega) only [push_cast,seval,h4,hel,hil,hrd,Abz])))
  all_goals (try simp)
 ·have hrd:(decide (0≤id)&&decide (id≤(es.length:Int)-1))=false:=by rw [Bool.eq_false_iff];intro h;simp at h;omega
  rw [hrd]
  (repeat' ((first
 | (first|refine Afz ?_|refine Aaz ?_)
 | (first|refine Agz ?_)
 | (first|refine Ajz false ?_)
 | (first|(refine Aiz (Akz (A1z _ _ _)) ?_;rintro _ _ ⟨rfl,rfl⟩))
 | (refine Adz ⟨.inr rfl,_,rfl,?_⟩))<;>(try simp (disch:=omega) only [push_cast,seval,hel,hrd,Abz])))
  all_goals (try simp)


set_option maxHeartbeats 8000000 in
theorem Cpz (cs:List Int)(es:List Ex)(m n:Nat)(id:Int)(hm:cs.length=m)(hn:es.length=n)(hb:m≤1099511627776∧n≤1099511627776∧exB 1099511627776 es) :
  PCall Tryz.prog 73 [.agg [.rows false (IL cs) m,.rows false (EL false es) n],.int .i64 id] (fun r=>r=.bool (vB cs es&&opA es id)):=by
 subst hm hn
 have hb0:=hb
 obtain ⟨hb1,hb2,hb3⟩:=hb
 have hel:=Auz false es
 refine Atz l73_eq rfl ?_
 cases hv:vB cs es with
 | false =>
  (repeat' ((first
 | (first|refine Afz ?_|refine Aaz ?_)
 | (first|refine Agz ?_)
 | (first|refine Ajz false ?_)
 | (first|(refine Aiz (Akz (B4z _ _ _ _ ?_ ?_ ?_)) ?_;(iterate 3 (exact sd));rintro _ _ ⟨rfl,rfl⟩))
 | (refine Adz ⟨.inr rfl,_,rfl,?_⟩))<;>(try simp (disch:=omega) only [push_cast,seval,hv,hel,Abz])))
  all_goals (try simp)
 | true =>
  unfold opA
  by_cases hr:0≤id∧id≤(es.length:Int)-1
  ·have hrd:(decide (0≤id)&&decide (id≤(es.length:Int)-1))=true:=by rw [Bool.and_eq_true,decide_eq_true_eq,decide_eq_true_eq];exact hr
   rw [hrd]
   obtain ⟨q,rfl⟩:∃ q:Nat,id=q:=⟨id.toNat,by omega⟩
   obtain ⟨p,b,x,y,o,he⟩:=Duz (es:=es) (i:=q) (by omega)
   have hd:=B6z false es q he
   simp only at hd
   have hil:q*5+5≤es.length*5:=by omega
   have h4:((EL false es).drop (q*5+4)).take 1=[.bool o]:=by
    have:=congrArg (fun l=>(l.drop 4).take 1) hd
    simpa [List.drop_take,List.drop_drop,List.take_take] using this
   simp only [Int.toNat_natCast,he]
   (repeat' ((first
 | (first|refine Afz ?_|refine Aaz ?_)
 | (first|refine Agz ?_)
 | (first|refine Ajz false ?_)
 | (first|(refine Aiz (Akz (B4z _ _ _ _ ?_ ?_ ?_)) ?_;(iterate 3 (exact sd));rintro _ _ ⟨rfl,rfl⟩)|(refine Aiz (Akz (Dtz _ _)) ?_;rintro _ _ ⟨rfl,rfl⟩))
 | (refine Adz ⟨.inr rfl,_,rfl,?_⟩))<;>(try simp (disch:=omega) only [push_cast,seval,hv,h4,hel,hil,hrd,Abz])))
   all_goals (try simp)
  ·have hrd:(decide (0≤id)&&decide (id≤(es.length:Int)-1))=false:=by rw [Bool.eq_false_iff];intro h;simp at h;omega
   rw [hrd]
   (repeat' ((first
 | (first|refine Afz ?_|refine Aaz ?_)
 | (first|refine Agz ?_)
 | (first|refine Ajz false ?_)
 | (first|(refine Aiz (Akz (B4z _ _ _ _ ?_ ?_ ?_)) ?_;(iterate 3 (exact sd));rintro _ _ ⟨rfl,rfl⟩)|(refine Aiz (Akz (Dtz _ _)) ?_;rintro _ _ ⟨rfl,rfl⟩))
 | (refine Adz ⟨.inr rfl,_,rfl,?_⟩))<;>(try simp (disch:=omega) only [push_cast,seval,hv,hel,hrd,Abz])))
   all_goals (try simp)


set_option maxHeartbeats 8000000 in
theorem iLE_ok (cs:List Int)(es:List Ex)(m n:Nat)(id:Int)(hm:cs.length=m)(hn:es.length=n)(hb:m≤1099511627776∧n≤1099511627776∧exB 1099511627776 es) :
  BCall Tryz.prog 77 [.agg [.rows false (IL cs) m,.rows false (EL false es) n],.int .i64 id] [] (OI (loadA cs es id)):=by
 subst hm hn
 have hb0:=hb
 obtain ⟨hb1,hb2,hb3⟩:=hb
 have hel:=Auz false es
 refine Avz (pins:=[]) (pin:=0) l77_eq rfl rfl rfl ?_
 unfold loadA
 cases hc:(vB cs es&&opA es id) with
 | false =>
  (repeat' ((first
 | (first|refine Afz ?_|refine Aaz ?_)
 | (first|refine Agz ?_|refine Acz ?_)
 | (first|refine Ajz false ?_)
 | (first|(refine Aiz (Akz (Cpz _ _ _ _ _ ?_ ?_ ?_)) ?_;(iterate 3 (exact sd));rintro _ _ ⟨rfl,rfl⟩))
 | (refine Adz ⟨.inr rfl,[16000],[(16000,1)],_,by decide,rfl,?_⟩;(try simp (disch:=omega) only [push_cast,seval,↓Ahz,↓Aez,↓List.map_cons,↓List.map_nil,hc,hel,Abz])))<;>(try simp (disch:=omega) only [push_cast,seval,hc,hel,Abz])))
  all_goals simp [OI]
 | true =>
  have hc2:=hc
  rw [Bool.and_eq_true] at hc2
  obtain ⟨hv,hr⟩:=hc2
  obtain ⟨q,p,b,x,y,rfl,hq,he,hvw⟩:=Dbz hr
  have hs:=D7z hv he
  have hbb:=Ciz hb3 he
  have q9:seeB cs b x y=true∧cs.length≤1099511627776∧x.length≤1099511627776∧y.length≤1099511627776:=⟨hs,hb1,hbb⟩
  rw [hvw]
  have hd:=B6z false es q he
  simp only at hd
  have hil:q*5+5≤es.length*5:=by omega
  have h3:((EL false es).drop (q*5+1)).take 3=[.int .i64 b,.rows false (IL x) x.length,.rows false (IL y) y.length]:=by
   have:=congrArg (fun l=>(l.drop 1).take 3) hd
   simpa [List.drop_take,List.drop_drop,List.take_take] using this
  (repeat' ((first
 | (first|refine Afz ?_|refine Aaz ?_)
 | (first|refine Agz ?_|refine Arz (mid:=l77r3a) (post:=l77r3b) mixed (by decide) ?_|refine Acz ?_|refine Amz ?_)
 | (first|refine Ajz false ?_)
 | (first|(refine Aiz (Akz (Cpz _ _ _ _ _ ?_ ?_ ?_)) ?_;(iterate 3 (exact sd));rintro _ _ ⟨rfl,rfl⟩)|(refine Aiz (iLoad_ok _ _ _ _ _ _ _ ?_ ?_ ?_ ?_) ?_;(iterate 4 (exact sd));rintro _ _ ⟨rfl,rfl⟩))
 | (refine Adz ⟨.inr rfl,[112],[],_,by decide,rfl,?_⟩;(try simp (disch:=omega) only [push_cast,seval,↓Ahz,↓Aez,↓List.map_cons,↓List.map_nil,hc,h3,hil,hel,Abz]);(first|done|(show AV.own _ _ _=_∧_)))
 | (refine Adz ⟨.inr rfl,[272],[],_,by decide,rfl,?_⟩;(try simp (disch:=omega) only [push_cast,seval,↓Ahz,↓Aez,↓List.map_cons,↓List.map_nil,hc,h3,hil,hel,Abz]);(first|done|(show AV.own _ _ _=_∧_))))<;>(try simp (disch:=omega) only [push_cast,seval,hc,h3,hil,hel,Abz])))
  all_goals simp [OI,MVL,hs]

end Go.Proofs.YtfccepgibbdfaaaGreatDoor
