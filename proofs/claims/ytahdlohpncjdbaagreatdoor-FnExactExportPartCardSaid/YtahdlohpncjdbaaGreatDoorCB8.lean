/- Texts of this verifier. -/
import Derived.Test.YtahdlohpncjdbaaGreatDoorCB7
import Derived.Test.YtahdlohpncjdbaaGreatDoorCM1
import Derived.Test.YtahdlohpncjdbaaGreatDoorCW3
set_option linter.unusedSimpArgs false
set_option linter.unusedVariables false
set_option maxRecDepth 4000
set_option maxHeartbeats 4000000
namespace Go.Proofs.YtahdlohpncjdbaaGreatDoor
open VwM Vw Go
set_option linter.unusedSectionVars false
variable [SentA]

theorem isHeld_ok (n:Nat):PCall Tryz.prog 67 [.val (heldV n),.val (.iface 135 (.pointer (some SentA.a)))] (fun r=>r=.bool (decide (0 < n))):=by
  intro w B vs hB hG hl hd
  obtain ⟨u,v,rfl⟩:∃ u v,vs=[u,v]:=by
    match vs,hl with
    | [u,v],_=>exact ⟨u,v,rfl⟩
  simp only [DenP,Den] at hd
  obtain ⟨rfl,rfl,_⟩:=hd
  unfold heldV
  by_cases h:0 < n
  · rw [if_pos h]
    refine (is_same SentA.a w).mono fun e w' ⟨he,hw⟩=>?_
    subst he hw
    exact ⟨.bool true,_,by simp [h],rfl,by simp [Den],Go.RowKit.Below.refl _ _⟩
  · rw [if_neg h]
    refine (is_nil SentA.a w).mono fun e w' ⟨he,hw⟩=>?_
    subst he hw
    exact ⟨.bool false,_,by simp [h],rfl,by simp [Den],Go.RowKit.Below.refl _ _⟩


set_option maxHeartbeats 8000000 in
theorem Fdz (cs:List Int) (es:List Ex) (m n:Nat) (hm:cs.length=m) (hn:es.length=n) (hb:m ≤ 1099511627776 ∧ n ≤ 1099511627776 ∧ exB 1099511627776 es) :
    PCall Tryz.prog 14 [.agg [.rows false (IL cs) m,.rows false (EL false es) n]] (fun r=>r=.bool (vB cs es)):=by
  subst hm hn
  have hb0:=hb
  obtain ⟨hb1,hb2,hb3⟩:=hb
  have hel:=Bbz false es
  refine Auz l14_eq rfl ?_
  unfold vB
  (repeat' (first
 | (first|refine Ajz ?_|refine Afz ?_)
 | ((first|refine Akz ?_|refine Aez ?_|refine Agz ?_|refine Ahz ?_);simp (disch:=omega) only [push_cast,seval,l14r0,l14r1,l14r2,l14r3,l14r4,l14r5,l14r6,Abz])
 | ((first|refine Aaz ?_ ?_|refine Adz ?_ ?_|refine Acz ?_ ?_)<;>intro h<;>(try simp only [h])<;>(try simp only [bitvec_to_nat] at h)<;>(try simp only [h])<;>(first|(exfalso;omega)|(exfalso;simp_all;done)|(simp (disch:=omega) only [push_cast,seval,Abz])|skip))
 | ((first|refine Amz false ?_|refine Alz false ?_);simp (disch:=omega) only [push_cast,seval,Abz])
 | ((first|((first|refine call0D (BCall.ofP (Dpz _ _ _ _ _ _ _ _ _ _ ?_ ?_ (by assumption) ?_)) ?_|refine qcall0D (BCall.ofP (Dpz _ _ _ _ _ _ _ _ _ _ ?_ ?_ (by assumption) ?_)) ⟨_,_,rfl,rfl⟩ ?_);(iterate 3 (exact sd));rintro _ _ ⟨rfl,rfl⟩)|((first|refine call0D (BCall.ofP (svMem_ok _ _ ?_ ?_)) ?_|refine qcall0D (BCall.ofP (svMem_ok _ _ ?_ ?_)) ⟨_,_,rfl,rfl⟩ ?_);(iterate 2 (exact sd));rintro _ _ ⟨rfl,rfl⟩))<;>(try simp (disch:=omega) only [push_cast,seval,Abz]))
 | (refine Aiz ⟨.inr rfl,_,rfl,?_⟩;(try simp (disch:=omega) only [push_cast,seval,Abz]))))
  refine Bcz (fun i:Nat=>mkS [(1,.ref 16 2 0),(2,.bool false),(3,.int .i64 i)] [(16,[.rows false (IL cs) cs.length,.rows false (EL false es) es.length])]) (fun i=>i ≤ es.length ∧ allX (sxV cs.length es) es i=true) (fun i=>es.length - i) 0 ⟨Nat.zero_le _,rfl⟩ ?_ ?_
  · (refine Sub.of_lists ?_ ?_ ?_ ?_ ?_<;>simp [Vw.mkS,Vw.lk,Vw.hk,AV.inn,innL,Asz,Arz,Avz,-List.map_set,-List.getD_eq_getElem?_getD,Abz])
  · rintro i ⟨hi,hal⟩
    by_cases hlt:i < es.length
    · obtain ⟨p,b,x,y,o,he⟩:=Ctz hlt
      cases hs:sxV cs.length es i (p,(b,x,y),o) with
 | false =>
        have hno:=allX_no (f:=sxV cs.length es) he hs hlt
        (repeat' (first
 | (first|refine Ajz ?_|refine Afz ?_)
 | ((first|refine Akz ?_|refine Aez ?_|refine Agz ?_|refine Ahz ?_);simp (disch:=omega) only [push_cast,seval,l14r0,l14r1,l14r2,l14r3,l14r4,l14r5,l14r6,hel,hs,Abz])
 | ((first|refine Aaz ?_ ?_|refine Adz ?_ ?_|refine Acz ?_ ?_)<;>intro h<;>(try simp only [h])<;>(try simp only [bitvec_to_nat] at h)<;>(try simp only [h])<;>(first|(exfalso;omega)|(exfalso;simp_all;done)|(simp (disch:=omega) only [push_cast,seval,hel,hs,Abz])|skip))
 | ((first|refine Amz false ?_|refine Alz false ?_);simp (disch:=omega) only [push_cast,seval,hel,hs,Abz])
 | ((first|((first|refine call0D (BCall.ofP (Dpz _ _ _ _ _ _ _ _ _ _ ?_ ?_ (by assumption) ?_)) ?_|refine qcall0D (BCall.ofP (Dpz _ _ _ _ _ _ _ _ _ _ ?_ ?_ (by assumption) ?_)) ⟨_,_,rfl,rfl⟩ ?_);(iterate 3 (exact sd));rintro _ _ ⟨rfl,rfl⟩)|((first|refine call0D (BCall.ofP (svMem_ok _ _ ?_ ?_)) ?_|refine qcall0D (BCall.ofP (svMem_ok _ _ ?_ ?_)) ⟨_,_,rfl,rfl⟩ ?_);(iterate 2 (exact sd));rintro _ _ ⟨rfl,rfl⟩))<;>(try simp (disch:=omega) only [push_cast,seval,hel,hs,Abz]))
 | (refine Aiz ⟨.inr rfl,_,rfl,?_⟩;(try simp (disch:=omega) only [push_cast,seval,hel,hs,Abz]))))
        all_goals (try simp [hno])
 | true =>
        have hyes:allX (sxV cs.length es) es (i + 1)=true:=by rw [Gkz he,hal,hs];rfl
        (repeat' (first
 | (first|refine Ajz ?_|refine Afz ?_)
 | ((first|refine Akz ?_|refine Aez ?_|refine Agz ?_|refine Ahz ?_);simp (disch:=omega) only [push_cast,seval,l14r0,l14r1,l14r2,l14r3,l14r4,l14r5,l14r6,hel,hs,Abz])
 | ((first|refine Aaz ?_ ?_|refine Adz ?_ ?_|refine Acz ?_ ?_)<;>intro h<;>(try simp only [h])<;>(try simp only [bitvec_to_nat] at h)<;>(try simp only [h])<;>(first|(exfalso;omega)|(exfalso;simp_all;done)|(simp (disch:=omega) only [push_cast,seval,hel,hs,Abz])|skip))
 | ((first|refine Amz false ?_|refine Alz false ?_);simp (disch:=omega) only [push_cast,seval,hel,hs,Abz])
 | ((first|((first|refine call0D (BCall.ofP (Dpz _ _ _ _ _ _ _ _ _ _ ?_ ?_ (by assumption) ?_)) ?_|refine qcall0D (BCall.ofP (Dpz _ _ _ _ _ _ _ _ _ _ ?_ ?_ (by assumption) ?_)) ⟨_,_,rfl,rfl⟩ ?_);(iterate 3 (exact sd));rintro _ _ ⟨rfl,rfl⟩)|((first|refine call0D (BCall.ofP (svMem_ok _ _ ?_ ?_)) ?_|refine qcall0D (BCall.ofP (svMem_ok _ _ ?_ ?_)) ⟨_,_,rfl,rfl⟩ ?_);(iterate 2 (exact sd));rintro _ _ ⟨rfl,rfl⟩))<;>(try simp (disch:=omega) only [push_cast,seval,hel,hs,Abz]))
 | (refine Aiz ⟨.inr rfl,_,rfl,?_⟩;(try simp (disch:=omega) only [push_cast,seval,hel,hs,Abz]))))
        refine ⟨i + 1,⟨by omega,hyes⟩,by omega,?_⟩
        (refine Sub.of_lists ?_ ?_ ?_ ?_ ?_<;>simp [Vw.mkS,Vw.lk,Vw.hk,AV.inn,innL,Asz,Arz,Avz,-List.map_set,-List.getD_eq_getElem?_getD,Abz])
    · have e:i=es.length:=by omega
      subst e
      cases hv:vMem cs with
 | false =>
        (repeat' (first
 | (first|refine Ajz ?_|refine Afz ?_)
 | ((first|refine Akz ?_|refine Aez ?_|refine Agz ?_|refine Ahz ?_);simp (disch:=omega) only [push_cast,seval,l14r0,l14r1,l14r2,l14r3,l14r4,l14r5,l14r6,hel,hv,hal,Abz])
 | ((first|refine Aaz ?_ ?_|refine Adz ?_ ?_|refine Acz ?_ ?_)<;>intro h<;>(try simp only [h])<;>(try simp only [bitvec_to_nat] at h)<;>(try simp only [h])<;>(first|(exfalso;omega)|(exfalso;simp_all;done)|(simp (disch:=omega) only [push_cast,seval,hel,hv,hal,Abz])|skip))
 | ((first|refine Amz false ?_|refine Alz false ?_);simp (disch:=omega) only [push_cast,seval,hel,hv,hal,Abz])
 | ((first|((first|refine call0D (BCall.ofP (Dpz _ _ _ _ _ _ _ _ _ _ ?_ ?_ (by assumption) ?_)) ?_|refine qcall0D (BCall.ofP (Dpz _ _ _ _ _ _ _ _ _ _ ?_ ?_ (by assumption) ?_)) ⟨_,_,rfl,rfl⟩ ?_);(iterate 3 (exact sd));rintro _ _ ⟨rfl,rfl⟩)|((first|refine call0D (BCall.ofP (svMem_ok _ _ ?_ ?_)) ?_|refine qcall0D (BCall.ofP (svMem_ok _ _ ?_ ?_)) ⟨_,_,rfl,rfl⟩ ?_);(iterate 2 (exact sd));rintro _ _ ⟨rfl,rfl⟩))<;>(try simp (disch:=omega) only [push_cast,seval,hel,hv,hal,Abz]))
 | (refine Aiz ⟨.inr rfl,_,rfl,?_⟩;(try simp (disch:=omega) only [push_cast,seval,hel,hv,hal,Abz]))))
        all_goals (try simp)
 | true =>
        (repeat' (first
 | (first|refine Ajz ?_|refine Afz ?_)
 | ((first|refine Akz ?_|refine Aez ?_|refine Agz ?_|refine Ahz ?_);simp (disch:=omega) only [push_cast,seval,l14r0,l14r1,l14r2,l14r3,l14r4,l14r5,l14r6,hel,hv,hal,Abz])
 | ((first|refine Aaz ?_ ?_|refine Adz ?_ ?_|refine Acz ?_ ?_)<;>intro h<;>(try simp only [h])<;>(try simp only [bitvec_to_nat] at h)<;>(try simp only [h])<;>(first|(exfalso;omega)|(exfalso;simp_all;done)|(simp (disch:=omega) only [push_cast,seval,hel,hv,hal,Abz])|skip))
 | ((first|refine Amz false ?_|refine Alz false ?_);simp (disch:=omega) only [push_cast,seval,hel,hv,hal,Abz])
 | ((first|((first|refine call0D (BCall.ofP (Dpz _ _ _ _ _ _ _ _ _ _ ?_ ?_ (by assumption) ?_)) ?_|refine qcall0D (BCall.ofP (Dpz _ _ _ _ _ _ _ _ _ _ ?_ ?_ (by assumption) ?_)) ⟨_,_,rfl,rfl⟩ ?_);(iterate 3 (exact sd));rintro _ _ ⟨rfl,rfl⟩)|((first|refine call0D (BCall.ofP (svMem_ok _ _ ?_ ?_)) ?_|refine qcall0D (BCall.ofP (svMem_ok _ _ ?_ ?_)) ⟨_,_,rfl,rfl⟩ ?_);(iterate 2 (exact sd));rintro _ _ ⟨rfl,rfl⟩))<;>(try simp (disch:=omega) only [push_cast,seval,hel,hv,hal,Abz]))
 | (refine Aiz ⟨.inr rfl,_,rfl,?_⟩;(try simp (disch:=omega) only [push_cast,seval,hel,hv,hal,Abz]))))
        all_goals (try simp)
        all_goals (try omega)


set_option maxHeartbeats 8000000 in
theorem ivEx_ok (p b:Int) (x y:List Int) (o:Bool) (n m:Nat) (i k:Nat) (hn:x.length=n) (hm:y.length=m) (hb:(n ≤ 1099511627776 ∧ m ≤ 1099511627776) ∧ (i ≤ 1000000 ∧ k ≤ 60)) :
    PCall Tryz.prog 66 [.agg [.int .i64 p,.int .i64 b,.rows false (IL x) n,.rows false (IL y) m,.bool o],.int .i64 i,.int .i64 k] (fun r=>r=.bool (exV k i (p,(b,x,y),o))):=by
  subst hn hm
  obtain ⟨⟨hbx,hby⟩,hi,hk⟩:=hb
  refine Auz l66_eq rfl ?_
  unfold exV
  simp only
  cases hv:vV b x y with
  | false =>
    (repeat' (first
 | (first|refine Ajz ?_|refine Afz ?_)
 | ((first|refine Akz ?_|refine Aez ?_|refine Agz ?_|refine Ahz ?_);simp (disch:=omega) only [push_cast,seval,l66r0,l66r1,l66r2,l66r3,hv])
 | ((first|refine Aaz ?_ ?_|refine Adz ?_ ?_|refine Acz ?_ ?_)<;>intro h<;>(try simp only [h])<;>(try simp only [bitvec_to_nat] at h)<;>(try simp only [h])<;>(first|(exfalso;omega)|(exfalso;simp_all;done)|(simp (disch:=omega) only [push_cast,seval,hv])|skip))
 | ((first|refine Amz false ?_|refine Alz false ?_);simp (disch:=omega) only [push_cast,seval,hv])
 | ((first|((first|refine call0D (BCall.ofP (A2z _ _ _ _ _ ?_ ?_ ?_)) ?_|refine qcall0D (BCall.ofP (A2z _ _ _ _ _ ?_ ?_ ?_)) ⟨_,_,rfl,rfl⟩ ?_);(iterate 3 (exact sd));rintro _ _ ⟨rfl,rfl⟩)|((first|refine call0D (BCall.ofP (iFitsIn_ok _ _ _ _ _ _ ?_ ?_ ?_)) ?_|refine qcall0D (BCall.ofP (iFitsIn_ok _ _ _ _ _ _ ?_ ?_ ?_)) ⟨_,_,rfl,rfl⟩ ?_);(iterate 3 (exact sd));rintro _ _ ⟨rfl,rfl⟩))<;>(try simp (disch:=omega) only [push_cast,seval,hv]))
 | (refine Aiz ⟨.inr rfl,_,rfl,?_⟩;(try simp (disch:=omega) only [push_cast,seval,hv]))))
    all_goals (try simp)
  | true =>
    by_cases hp:-1 ≤ p ∧ p ≤ (i:Int) - 1
    · have hpd:(decide (-1 ≤ p) && decide (p ≤ (i:Int) - 1))=true:=by rw [Bool.and_eq_true,decide_eq_true_eq,decide_eq_true_eq];exact hp
      rw [hpd]
      have hf:fitB b x y k=allI (offs b x y) 0 ((k:Int) - 1):=by
        unfold fitB
        rw [hv]
        have:(decide ((0:Int) ≤ k) && decide ((k:Int) ≤ 60))=true:=by rw [Bool.and_eq_true,decide_eq_true_eq,decide_eq_true_eq];omega
        rw [this];rfl
      have hp3:(p < -1)=False:=eq_false (by omega)
      have hp4:((i:Int) ≤ p)=False:=eq_false (by omega)
      cases o with
 | false =>
        (repeat' (first
 | (first|refine Ajz ?_|refine Afz ?_)
 | ((first|refine Akz ?_|refine Aez ?_|refine Agz ?_|refine Ahz ?_);simp (disch:=omega) only [push_cast,seval,l66r0,l66r1,l66r2,l66r3,hv,hp3,hp4,decide_false])
 | ((first|refine Aaz ?_ ?_|refine Adz ?_ ?_|refine Acz ?_ ?_)<;>intro h<;>(try simp only [h])<;>(try simp only [bitvec_to_nat] at h)<;>(try simp only [h])<;>(first|(exfalso;omega)|(exfalso;simp_all;done)|(simp (disch:=omega) only [push_cast,seval,hv,hp3,hp4,decide_false])|skip))
 | ((first|refine Amz false ?_|refine Alz false ?_);simp (disch:=omega) only [push_cast,seval,hv,hp3,hp4,decide_false])
 | ((first|((first|refine call0D (BCall.ofP (A2z _ _ _ _ _ ?_ ?_ ?_)) ?_|refine qcall0D (BCall.ofP (A2z _ _ _ _ _ ?_ ?_ ?_)) ⟨_,_,rfl,rfl⟩ ?_);(iterate 3 (exact sd));rintro _ _ ⟨rfl,rfl⟩)|((first|refine call0D (BCall.ofP (iFitsIn_ok _ _ _ _ _ _ ?_ ?_ ?_)) ?_|refine qcall0D (BCall.ofP (iFitsIn_ok _ _ _ _ _ _ ?_ ?_ ?_)) ⟨_,_,rfl,rfl⟩ ?_);(iterate 3 (exact sd));rintro _ _ ⟨rfl,rfl⟩))<;>(try simp (disch:=omega) only [push_cast,seval,hv,hp3,hp4,decide_false]))
 | (refine Aiz ⟨.inr rfl,_,rfl,?_⟩;(try simp (disch:=omega) only [push_cast,seval,hv,hp3,hp4,decide_false]))))
        all_goals (try simp)
 | true =>
        (repeat' (first
 | (first|refine Ajz ?_|refine Afz ?_)
 | ((first|refine Akz ?_|refine Aez ?_|refine Agz ?_|refine Ahz ?_);simp (disch:=omega) only [push_cast,seval,l66r0,l66r1,l66r2,l66r3,hv,hf,hp3,hp4,decide_false])
 | ((first|refine Aaz ?_ ?_|refine Adz ?_ ?_|refine Acz ?_ ?_)<;>intro h<;>(try simp only [h])<;>(try simp only [bitvec_to_nat] at h)<;>(try simp only [h])<;>(first|(exfalso;omega)|(exfalso;simp_all;done)|(simp (disch:=omega) only [push_cast,seval,hv,hf,hp3,hp4,decide_false])|skip))
 | ((first|refine Amz false ?_|refine Alz false ?_);simp (disch:=omega) only [push_cast,seval,hv,hf,hp3,hp4,decide_false])
 | ((first|((first|refine call0D (BCall.ofP (A2z _ _ _ _ _ ?_ ?_ ?_)) ?_|refine qcall0D (BCall.ofP (A2z _ _ _ _ _ ?_ ?_ ?_)) ⟨_,_,rfl,rfl⟩ ?_);(iterate 3 (exact sd));rintro _ _ ⟨rfl,rfl⟩)|((first|refine call0D (BCall.ofP (iFitsIn_ok _ _ _ _ _ _ ?_ ?_ ?_)) ?_|refine qcall0D (BCall.ofP (iFitsIn_ok _ _ _ _ _ _ ?_ ?_ ?_)) ⟨_,_,rfl,rfl⟩ ?_);(iterate 3 (exact sd));rintro _ _ ⟨rfl,rfl⟩))<;>(try simp (disch:=omega) only [push_cast,seval,hv,hf,hp3,hp4,decide_false]))
 | (refine Aiz ⟨.inr rfl,_,rfl,?_⟩;(try simp (disch:=omega) only [push_cast,seval,hv,hf,hp3,hp4,decide_false]))))
        all_goals (try simp)
    · have hpd:(decide (-1 ≤ p) && decide (p ≤ (i:Int) - 1))=false:=by rw [Bool.eq_false_iff];intro h;simp at h;omega
      rw [hpd]
      by_cases hp1:p < -1
      · have hp3:(p < -1)=True:=eq_true hp1
        (repeat' (first
 | (first|refine Ajz ?_|refine Afz ?_)
 | ((first|refine Akz ?_|refine Aez ?_|refine Agz ?_|refine Ahz ?_);simp (disch:=omega) only [push_cast,seval,l66r0,l66r1,l66r2,l66r3,hv,hp3,decide_true])
 | ((first|refine Aaz ?_ ?_|refine Adz ?_ ?_|refine Acz ?_ ?_)<;>intro h<;>(try simp only [h])<;>(try simp only [bitvec_to_nat] at h)<;>(try simp only [h])<;>(first|(exfalso;omega)|(exfalso;simp_all;done)|(simp (disch:=omega) only [push_cast,seval,hv,hp3,decide_true])|skip))
 | ((first|refine Amz false ?_|refine Alz false ?_);simp (disch:=omega) only [push_cast,seval,hv,hp3,decide_true])
 | ((first|((first|refine call0D (BCall.ofP (A2z _ _ _ _ _ ?_ ?_ ?_)) ?_|refine qcall0D (BCall.ofP (A2z _ _ _ _ _ ?_ ?_ ?_)) ⟨_,_,rfl,rfl⟩ ?_);(iterate 3 (exact sd));rintro _ _ ⟨rfl,rfl⟩)|((first|refine call0D (BCall.ofP (iFitsIn_ok _ _ _ _ _ _ ?_ ?_ ?_)) ?_|refine qcall0D (BCall.ofP (iFitsIn_ok _ _ _ _ _ _ ?_ ?_ ?_)) ⟨_,_,rfl,rfl⟩ ?_);(iterate 3 (exact sd));rintro _ _ ⟨rfl,rfl⟩))<;>(try simp (disch:=omega) only [push_cast,seval,hv,hp3,decide_true]))
 | (refine Aiz ⟨.inr rfl,_,rfl,?_⟩;(try simp (disch:=omega) only [push_cast,seval,hv,hp3,decide_true]))))
        all_goals (try simp)
      · have hp3:(p < -1)=False:=eq_false hp1
        have hp4:((i:Int) ≤ p)=True:=eq_true (by omega)
        (repeat' (first
 | (first|refine Ajz ?_|refine Afz ?_)
 | ((first|refine Akz ?_|refine Aez ?_|refine Agz ?_|refine Ahz ?_);simp (disch:=omega) only [push_cast,seval,l66r0,l66r1,l66r2,l66r3,hv,hp3,hp4,decide_false,decide_true])
 | ((first|refine Aaz ?_ ?_|refine Adz ?_ ?_|refine Acz ?_ ?_)<;>intro h<;>(try simp only [h])<;>(try simp only [bitvec_to_nat] at h)<;>(try simp only [h])<;>(first|(exfalso;omega)|(exfalso;simp_all;done)|(simp (disch:=omega) only [push_cast,seval,hv,hp3,hp4,decide_false,decide_true])|skip))
 | ((first|refine Amz false ?_|refine Alz false ?_);simp (disch:=omega) only [push_cast,seval,hv,hp3,hp4,decide_false,decide_true])
 | ((first|((first|refine call0D (BCall.ofP (A2z _ _ _ _ _ ?_ ?_ ?_)) ?_|refine qcall0D (BCall.ofP (A2z _ _ _ _ _ ?_ ?_ ?_)) ⟨_,_,rfl,rfl⟩ ?_);(iterate 3 (exact sd));rintro _ _ ⟨rfl,rfl⟩)|((first|refine call0D (BCall.ofP (iFitsIn_ok _ _ _ _ _ _ ?_ ?_ ?_)) ?_|refine qcall0D (BCall.ofP (iFitsIn_ok _ _ _ _ _ _ ?_ ?_ ?_)) ⟨_,_,rfl,rfl⟩ ?_);(iterate 3 (exact sd));rintro _ _ ⟨rfl,rfl⟩))<;>(try simp (disch:=omega) only [push_cast,seval,hv,hp3,hp4,decide_false,decide_true]))
 | (refine Aiz ⟨.inr rfl,_,rfl,?_⟩;(try simp (disch:=omega) only [push_cast,seval,hv,hp3,hp4,decide_false,decide_true]))))
        all_goals (try simp)


theorem Gbz {es:List Ex} {p:Int}:∀ {k:Nat},kidsT es p k=[] ↔ ∀ i e,i < k → es[i]?=some e → ¬ (e.2.2=true ∧ e.1=p)
  | 0=>by simp [kidsT]
  | k + 1=>by
    constructor
    · intro h i e hi he
      cases hk:es[k]? with
 | none =>
        by_cases hik:i=k
        · subst hik;rw [hk] at he;cases he
        · simp only [kidsT,hk] at h
          exact Gbz.1 h i e (by omega) he
 | some f =>
        by_cases hf:f.2.2=true ∧ f.1=p
        · rw [kidsT_yes hk hf] at h;simp at h
        · rw [Hbz hk hf] at h
          by_cases hik:i=k
          · subst hik;rw [hk] at he;injection he with he;subst he;exact hf
          · exact Gbz.1 h i e (by omega) he
    · intro h
      have ih:kidsT es p k=[]:=Gbz.2 fun i e hi he=>h i e (by omega) he
      cases hk:es[k]? with
 | none=>simp only [kidsT,hk];exact ih
 | some f=>rw [Hbz hk (h k f (by omega) hk)];exact ih
/-- No closed export has open ones of its own. -/
def closB (es:List Ex) (n:Nat) (j:Nat) (e:Ex):Bool:=e.2.2 || decide ((kidsT es (j:Int) n).length=0)
theorem vB_clos {cs:List Int} {es:List Ex} (h1:vMem cs=true) (h2:es.length ≤ 8) (h3:allX (exV cs.length) es es.length=true):vB cs es=allX (closB es es.length) es es.length:=by
  unfold vB
  rw [h1,decide_eq_true h2]
  simp only [Bool.true_and]
  rw [Bool.eq_iff_iff,Dnz,Dnz]
  have hp:=parOk_of h3
  constructor
  · intro h j e hj he
    unfold closB
    cases ho:e.2.2 with
    | true=>rfl
    | false =>
      simp only [Bool.false_or,decide_eq_true_eq,List.length_eq_zero_iff]
      refine Gbz.2 fun i f hi hf ⟨hfo,hfp⟩=>?_
      have:=h i f hi hf
      unfold sxV at this
      rw [hfo,hfp] at this
      simp only [Bool.and_eq_true,Bool.not_true,Bool.false_or,Bool.or_eq_true,decide_eq_true_eq] at this
      rcases this.2 with hx|hx
      · omega
      · simp only [opE,Int.toNat_natCast,he] at hx
        rw [ho] at hx;cases hx
  · intro h i f hi hf
    unfold sxV
    rw [Dnz.1 h3 i f hi hf]
    simp only [Bool.true_and]
    cases hfo:f.2.2 with
    | false=>rfl
    | true =>
      simp only [Bool.not_true,Bool.false_or,Bool.or_eq_true,decide_eq_true_eq]
      have hpp:=hp i f hf
      by_cases hneg:f.1 < 0
      · exact .inl hneg
      · right
        obtain ⟨q,hq⟩:∃ q:Nat,f.1=q:=⟨f.1.toNat,by omega⟩
        have hql:q < es.length:=by omega
        have hqe:=List.getElem?_eq_getElem hql
        have:=h q _ hql hqe
        unfold closB at this
        simp only [opE,hq,Int.toNat_natCast,hqe]
        cases ho:es[q].2.2 with
        | true=>rfl
        | false =>
          rw [ho] at this
          simp only [Bool.false_or,decide_eq_true_eq,List.length_eq_zero_iff] at this
          exact absurd ⟨hfo,hq⟩ (Gbz.1 this i f hi hf)
theorem vB_no {cs:List Int} {es:List Ex} {i:Nat} {e:Ex} (he:es[i]?=some e) (h:exV cs.length i e=false):vB cs es=false:=by
  unfold vB
  rw [allX_no (f:=sxV cs.length es) he (by unfold sxV;rw [h];rfl) (List.getElem?_eq_some_iff.1 he).1]
  simp


set_option maxHeartbeats 16000000 in
theorem Guz (cs:List Int) (es:List Ex) (m n:Nat) (hm:cs.length=m) (hn:es.length=n) (hb:m ≤ 1099511627776 ∧ n ≤ 1099511627776 ∧ exB 1099511627776 es) :
    PCall Tryz.prog 41 [.agg [.rows false (IL cs) m,.rows false (EL false es) n]] (fun r=>r=.bool (vB cs es)):=by
  subst hm hn
  obtain ⟨hb1,hb2,hb3⟩:=hb
  have hel:=Bbz false es
  refine Auz l41_eq rfl ?_
  cases hv:vMem cs with
  | false =>
    have hvb:vB cs es=false:=by unfold vB;rw [hv];rfl
    rw [hvb]
    (repeat' (first
 | (first|refine Ajz ?_|refine Afz ?_)
 | ((first|refine Akz ?_|refine Aqz (mid:=l41r12a) (post:=l41r12b) Ayz (by decide) ?_|refine Aez ?_|refine Agz ?_|refine Ahz ?_);simp (disch:=omega) only [push_cast,seval,l41r0,l41r1,l41r2,l41r3,l41r4,l41r5,l41r6,l41r7,l41r8,l41r9,l41r10,l41r11,l41r12a,l41r12b,l41r12,l41r13,l41r14,l41r15,hv,hel,Abz])
 | ((first|refine Aaz ?_ ?_|refine Adz ?_ ?_|refine Acz ?_ ?_)<;>intro h<;>(try simp only [h])<;>(try simp only [bitvec_to_nat] at h)<;>(try simp only [h])<;>(first|(exfalso;omega)|(exfalso;simp_all;done)|(simp (disch:=omega) only [push_cast,seval,hv,hel,Abz])|skip))
 | ((first|refine Amz false ?_|refine Alz false ?_);simp (disch:=omega) only [push_cast,seval,hv,hel,Abz])
 | ((first|((first|refine call0D (BCall.ofP (Bjz _ _ ?_ ?_)) ?_|refine qcall0D (BCall.ofP (Bjz _ _ ?_ ?_)) ⟨_,_,rfl,rfl⟩ ?_);(iterate 2 (exact sd));rintro _ _ ⟨rfl,rfl⟩)|((first|refine call0D (BCall.ofP (ivEx_ok _ _ _ _ _ _ _ _ _ ?_ ?_ ?_)) ?_|refine qcall0D (BCall.ofP (ivEx_ok _ _ _ _ _ _ _ _ _ ?_ ?_ ?_)) ⟨_,_,rfl,rfl⟩ ?_);(iterate 3 (exact sd));rintro _ _ ⟨rfl,rfl⟩)|((first|refine call0D (BCall.ofP (nodeP_ok _ _ _ _ _ ?_ ?_ ?_ ?_ ?_)) ?_|refine qcall0D (BCall.ofP (nodeP_ok _ _ _ _ _ ?_ ?_ ?_ ?_ ?_)) ⟨_,_,rfl,rfl⟩ ?_);(iterate 5 (exact sd));rintro _ _ ⟨rfl,rfl⟩)|((first|refine call0D (BCall.ofP (held_ok _ _ ?_ ?_)) ?_|refine qcall0D (BCall.ofP (held_ok _ _ ?_ ?_)) ⟨_,_,rfl,rfl⟩ ?_);(iterate 2 (exact sd));rintro _ _ ⟨rfl,rfl⟩)|((first|refine call0D (BCall.ofP (isHeld_ok _)) ?_|refine qcall0D (BCall.ofP (isHeld_ok _)) ⟨_,_,rfl,rfl⟩ ?_);rintro _ _ ⟨rfl,rfl⟩))<;>(try simp (disch:=omega) only [push_cast,seval,hv,hel,Abz]))
 | (refine Aiz ⟨.inr rfl,_,rfl,?_⟩;(try simp (disch:=omega) only [push_cast,seval,hv,hel,Abz]))))
  | true =>
    have hm60:cs.length ≤ 60:=by unfold vMem at hv;simp at hv;omega
    by_cases h8:es.length ≤ 8
    · (repeat' (first
 | (first|refine Ajz ?_|refine Afz ?_)
 | ((first|refine Akz ?_|refine Aqz (mid:=l41r12a) (post:=l41r12b) Ayz (by decide) ?_|refine Aez ?_|refine Agz ?_|refine Ahz ?_);simp (disch:=omega) only [push_cast,seval,l41r0,l41r1,l41r2,l41r3,l41r4,l41r5,l41r6,l41r7,l41r8,l41r9,l41r10,l41r11,l41r12a,l41r12b,l41r12,l41r13,l41r14,l41r15,hv,hel,Abz])
 | ((first|refine Aaz ?_ ?_|refine Adz ?_ ?_|refine Acz ?_ ?_)<;>intro h<;>(try simp only [h])<;>(try simp only [bitvec_to_nat] at h)<;>(try simp only [h])<;>(first|(exfalso;omega)|(exfalso;simp_all;done)|(simp (disch:=omega) only [push_cast,seval,hv,hel,Abz])|skip))
 | ((first|refine Amz false ?_|refine Alz false ?_);simp (disch:=omega) only [push_cast,seval,hv,hel,Abz])
 | ((first|((first|refine call0D (BCall.ofP (Bjz _ _ ?_ ?_)) ?_|refine qcall0D (BCall.ofP (Bjz _ _ ?_ ?_)) ⟨_,_,rfl,rfl⟩ ?_);(iterate 2 (exact sd));rintro _ _ ⟨rfl,rfl⟩)|((first|refine call0D (BCall.ofP (ivEx_ok _ _ _ _ _ _ _ _ _ ?_ ?_ ?_)) ?_|refine qcall0D (BCall.ofP (ivEx_ok _ _ _ _ _ _ _ _ _ ?_ ?_ ?_)) ⟨_,_,rfl,rfl⟩ ?_);(iterate 3 (exact sd));rintro _ _ ⟨rfl,rfl⟩)|((first|refine call0D (BCall.ofP (nodeP_ok _ _ _ _ _ ?_ ?_ ?_ ?_ ?_)) ?_|refine qcall0D (BCall.ofP (nodeP_ok _ _ _ _ _ ?_ ?_ ?_ ?_ ?_)) ⟨_,_,rfl,rfl⟩ ?_);(iterate 5 (exact sd));rintro _ _ ⟨rfl,rfl⟩)|((first|refine call0D (BCall.ofP (held_ok _ _ ?_ ?_)) ?_|refine qcall0D (BCall.ofP (held_ok _ _ ?_ ?_)) ⟨_,_,rfl,rfl⟩ ?_);(iterate 2 (exact sd));rintro _ _ ⟨rfl,rfl⟩)|((first|refine call0D (BCall.ofP (isHeld_ok _)) ?_|refine qcall0D (BCall.ofP (isHeld_ok _)) ⟨_,_,rfl,rfl⟩ ?_);rintro _ _ ⟨rfl,rfl⟩))<;>(try simp (disch:=omega) only [push_cast,seval,hv,hel,Abz]))
 | (refine Aiz ⟨.inr rfl,_,rfl,?_⟩;(try simp (disch:=omega) only [push_cast,seval,hv,hel,Abz]))))
      refine Bcz (fun i:Nat=>mkS [(1,.ref 16 2 0),(2,.bool false),(18,.rows false (EL false es) es.length),(19,.int .i64 es.length),(20,.int .i64 i)] [(16,[.rows false (IL cs) cs.length,.rows false (EL false es) es.length])]) (fun i=>i ≤ es.length ∧ allX (exV cs.length) es i=true) (fun i=>es.length - i) 0 ⟨Nat.zero_le _,rfl⟩ ?_ ?_
      · (refine Sub.of_lists ?_ ?_ ?_ ?_ ?_<;>simp [Vw.mkS,Vw.lk,Vw.hk,AV.inn,innL,Asz,Arz,Avz,-List.map_set,-List.getD_eq_getElem?_getD,Abz])
      · rintro i ⟨hi,hal⟩
        by_cases hlt:i < es.length
        · obtain ⟨p,b,x,y,o,he⟩:=Ctz hlt
          obtain ⟨hbx,hby⟩:=Diz hb3 he
          have hd:=Cjz false es i he
          simp only at hd
          have hil:i * 5 + 5 ≤ es.length * 5:=by omega
          cases hs:exV cs.length i (p,(b,x,y),o) with
          | false =>
            have hno:=vB_no he hs
            rw [hno]
            (repeat' (first
 | (first|refine Ajz ?_|refine Afz ?_)
 | ((first|refine Akz ?_|refine Aqz (mid:=l41r12a) (post:=l41r12b) Ayz (by decide) ?_|refine Aez ?_|refine Agz ?_|refine Ahz ?_);simp (disch:=omega) only [push_cast,seval,l41r0,l41r1,l41r2,l41r3,l41r4,l41r5,l41r6,l41r7,l41r8,l41r9,l41r10,l41r11,l41r12a,l41r12b,l41r12,l41r13,l41r14,l41r15,hd,hil,hel,hs,Abz])
 | ((first|refine Aaz ?_ ?_|refine Adz ?_ ?_|refine Acz ?_ ?_)<;>intro h<;>(try simp only [h])<;>(try simp only [bitvec_to_nat] at h)<;>(try simp only [h])<;>(first|(exfalso;omega)|(exfalso;simp_all;done)|(simp (disch:=omega) only [push_cast,seval,hd,hil,hel,hs,Abz])|skip))
 | ((first|refine Amz false ?_|refine Alz false ?_);simp (disch:=omega) only [push_cast,seval,hd,hil,hel,hs,Abz])
 | ((first|((first|refine call0D (BCall.ofP (Bjz _ _ ?_ ?_)) ?_|refine qcall0D (BCall.ofP (Bjz _ _ ?_ ?_)) ⟨_,_,rfl,rfl⟩ ?_);(iterate 2 (exact sd));rintro _ _ ⟨rfl,rfl⟩)|((first|refine call0D (BCall.ofP (ivEx_ok _ _ _ _ _ _ _ _ _ ?_ ?_ ?_)) ?_|refine qcall0D (BCall.ofP (ivEx_ok _ _ _ _ _ _ _ _ _ ?_ ?_ ?_)) ⟨_,_,rfl,rfl⟩ ?_);(iterate 3 (exact sd));rintro _ _ ⟨rfl,rfl⟩)|((first|refine call0D (BCall.ofP (nodeP_ok _ _ _ _ _ ?_ ?_ ?_ ?_ ?_)) ?_|refine qcall0D (BCall.ofP (nodeP_ok _ _ _ _ _ ?_ ?_ ?_ ?_ ?_)) ⟨_,_,rfl,rfl⟩ ?_);(iterate 5 (exact sd));rintro _ _ ⟨rfl,rfl⟩)|((first|refine call0D (BCall.ofP (held_ok _ _ ?_ ?_)) ?_|refine qcall0D (BCall.ofP (held_ok _ _ ?_ ?_)) ⟨_,_,rfl,rfl⟩ ?_);(iterate 2 (exact sd));rintro _ _ ⟨rfl,rfl⟩)|((first|refine call0D (BCall.ofP (isHeld_ok _)) ?_|refine qcall0D (BCall.ofP (isHeld_ok _)) ⟨_,_,rfl,rfl⟩ ?_);rintro _ _ ⟨rfl,rfl⟩))<;>(try simp (disch:=omega) only [push_cast,seval,hd,hil,hel,hs,Abz]))
 | (refine Aiz ⟨.inr rfl,_,rfl,?_⟩; (try simp (disch := omega) only [push_cast,seval,hd,hil,hel,hs,Abz]))))
          | true =>
            have hyes:allX (exV cs.length) es (i + 1)=true:=by rw [Gkz he,hal,hs];rfl
            (repeat' (first
 | (first|refine Ajz ?_|refine Afz ?_)
 | ((first|refine Akz ?_|refine Aqz (mid:=l41r12a) (post:=l41r12b) Ayz (by decide) ?_|refine Aez ?_|refine Agz ?_|refine Ahz ?_);simp (disch:=omega) only [push_cast,seval,l41r0,l41r1,l41r2,l41r3,l41r4,l41r5,l41r6,l41r7,l41r8,l41r9,l41r10,l41r11,l41r12a,l41r12b,l41r12,l41r13,l41r14,l41r15,hd,hil,hel,hs,Abz])
 | ((first|refine Aaz ?_ ?_|refine Adz ?_ ?_|refine Acz ?_ ?_)<;>intro h<;>(try simp only [h])<;>(try simp only [bitvec_to_nat] at h)<;>(try simp only [h])<;>(first|(exfalso;omega)|(exfalso;simp_all;done)|(simp (disch:=omega) only [push_cast,seval,hd,hil,hel,hs,Abz])|skip))
 | ((first|refine Amz false ?_|refine Alz false ?_);simp (disch:=omega) only [push_cast,seval,hd,hil,hel,hs,Abz])
 | ((first|((first|refine call0D (BCall.ofP (Bjz _ _ ?_ ?_)) ?_|refine qcall0D (BCall.ofP (Bjz _ _ ?_ ?_)) ⟨_,_,rfl,rfl⟩ ?_);(iterate 2 (exact sd));rintro _ _ ⟨rfl,rfl⟩)|((first|refine call0D (BCall.ofP (ivEx_ok _ _ _ _ _ _ _ _ _ ?_ ?_ ?_)) ?_|refine qcall0D (BCall.ofP (ivEx_ok _ _ _ _ _ _ _ _ _ ?_ ?_ ?_)) ⟨_,_,rfl,rfl⟩ ?_);(iterate 3 (exact sd));rintro _ _ ⟨rfl,rfl⟩)|((first|refine call0D (BCall.ofP (nodeP_ok _ _ _ _ _ ?_ ?_ ?_ ?_ ?_)) ?_|refine qcall0D (BCall.ofP (nodeP_ok _ _ _ _ _ ?_ ?_ ?_ ?_ ?_)) ⟨_,_,rfl,rfl⟩ ?_);(iterate 5 (exact sd));rintro _ _ ⟨rfl,rfl⟩)|((first|refine call0D (BCall.ofP (held_ok _ _ ?_ ?_)) ?_|refine qcall0D (BCall.ofP (held_ok _ _ ?_ ?_)) ⟨_,_,rfl,rfl⟩ ?_);(iterate 2 (exact sd));rintro _ _ ⟨rfl,rfl⟩)|((first|refine call0D (BCall.ofP (isHeld_ok _)) ?_|refine qcall0D (BCall.ofP (isHeld_ok _)) ⟨_,_,rfl,rfl⟩ ?_);rintro _ _ ⟨rfl,rfl⟩))<;>(try simp (disch:=omega) only [push_cast,seval,hd,hil,hel,hs,Abz]))
 | (refine Aiz ⟨.inr rfl,_,rfl,?_⟩; (try simp (disch := omega) only [push_cast,seval,hd,hil,hel,hs,Abz]))))
            refine ⟨i + 1,⟨by omega,hyes⟩,by omega,?_⟩
            (refine Sub.of_lists ?_ ?_ ?_ ?_ ?_<;>simp [Vw.mkS,Vw.lk,Vw.hk,AV.inn,innL,Asz,Arz,Avz,-List.map_set,-List.getD_eq_getElem?_getD,Abz])
        · have e:i=es.length:=by omega
          subst e
          have hpo:=parOk_of hal
          have hvc:=vB_clos hv h8 hal
          rw [hvc]
          have hq:cs.length ≤ 1000 ∧ es.length ≤ 1000:=⟨by omega,by omega⟩
          (repeat' (first
 | (first|refine Ajz ?_|refine Afz ?_)
 | ((first|refine Akz ?_|refine Aqz (mid:=l41r12a) (post:=l41r12b) Ayz (by decide) ?_|refine Aez ?_|refine Agz ?_|refine Ahz ?_);simp (disch:=omega) only [push_cast,seval,l41r0,l41r1,l41r2,l41r3,l41r4,l41r5,l41r6,l41r7,l41r8,l41r9,l41r10,l41r11,l41r12a,l41r12b,l41r12,l41r13,l41r14,l41r15,hel,Abz])
 | ((first|refine Aaz ?_ ?_|refine Adz ?_ ?_|refine Acz ?_ ?_)<;>intro h<;>(try simp only [h])<;>(try simp only [bitvec_to_nat] at h)<;>(try simp only [h])<;>(first|(exfalso;omega)|(exfalso;simp_all;done)|(simp (disch:=omega) only [push_cast,seval,hel,Abz])|skip))
 | ((first|refine Amz false ?_|refine Alz false ?_);simp (disch:=omega) only [push_cast,seval,hel,Abz])
 | ((first|((first|refine call0D (BCall.ofP (Bjz _ _ ?_ ?_)) ?_|refine qcall0D (BCall.ofP (Bjz _ _ ?_ ?_)) ⟨_,_,rfl,rfl⟩ ?_);(iterate 2 (exact sd));rintro _ _ ⟨rfl,rfl⟩)|((first|refine call0D (BCall.ofP (ivEx_ok _ _ _ _ _ _ _ _ _ ?_ ?_ ?_)) ?_|refine qcall0D (BCall.ofP (ivEx_ok _ _ _ _ _ _ _ _ _ ?_ ?_ ?_)) ⟨_,_,rfl,rfl⟩ ?_);(iterate 3 (exact sd));rintro _ _ ⟨rfl,rfl⟩)|((first|refine call0D (BCall.ofP (nodeP_ok _ _ _ _ _ ?_ ?_ ?_ ?_ ?_)) ?_|refine qcall0D (BCall.ofP (nodeP_ok _ _ _ _ _ ?_ ?_ ?_ ?_ ?_)) ⟨_,_,rfl,rfl⟩ ?_);(iterate 5 (exact sd));rintro _ _ ⟨rfl,rfl⟩)|((first|refine call0D (BCall.ofP (held_ok _ _ ?_ ?_)) ?_|refine qcall0D (BCall.ofP (held_ok _ _ ?_ ?_)) ⟨_,_,rfl,rfl⟩ ?_);(iterate 2 (exact sd));rintro _ _ ⟨rfl,rfl⟩)|((first|refine call0D (BCall.ofP (isHeld_ok _)) ?_|refine qcall0D (BCall.ofP (isHeld_ok _)) ⟨_,_,rfl,rfl⟩ ?_);rintro _ _ ⟨rfl,rfl⟩))<;>(try simp (disch:=omega) only [push_cast,seval,hel,Abz]))
 | (refine Aiz ⟨.inr rfl,_,rfl,?_⟩; (try simp (disch := omega) only [push_cast,seval,hel,Abz]))))
          refine Bcz (fun i:Nat=>mkS [(1,.ref 16 2 0),(2,.bool false),(34,.rows false (EL false es) es.length),(35,.int .i64 es.length),(36,.int .i64 i)] [(16,[.rows false (IL cs) cs.length,.rows false (EL false es) es.length])]) (fun i=>i ≤ es.length ∧ allX (closB es es.length) es i=true) (fun i=>es.length - i) 0 ⟨Nat.zero_le _,rfl⟩ ?_ ?_
          · (refine Sub.of_lists ?_ ?_ ?_ ?_ ?_<;>simp [Vw.mkS,Vw.lk,Vw.hk,AV.inn,innL,Asz,Arz,Avz,-List.map_set,-List.getD_eq_getElem?_getD,Abz])
          · rintro i ⟨hi,hal2⟩
            by_cases hlt2:i < es.length
            · obtain ⟨p,b,x,y,o,he⟩:=Ctz hlt2
              have hd:=Cjz false es i he
              simp only at hd
              have hil:i * 5 + 5 ≤ es.length * 5:=by omega
              have hkl:=Gaz es i es.length
              cases o with
              | true =>
                have hyes:allX (closB es es.length) es (i + 1)=true:=by rw [Gkz he,hal2];rfl
                (repeat' (first
 | (first|refine Ajz ?_|refine Afz ?_)
 | ((first|refine Akz ?_|refine Aqz (mid:=l41r12a) (post:=l41r12b) Ayz (by decide) ?_|refine Aez ?_|refine Agz ?_|refine Ahz ?_);simp (disch:=omega) only [push_cast,seval,l41r0,l41r1,l41r2,l41r3,l41r4,l41r5,l41r6,l41r7,l41r8,l41r9,l41r10,l41r11,l41r12a,l41r12b,l41r12,l41r13,l41r14,l41r15,hd,hil,hel,Dtz,Abz])
 | ((first|refine Aaz ?_ ?_|refine Adz ?_ ?_|refine Acz ?_ ?_)<;>intro h<;>(try simp only [h])<;>(try simp only [bitvec_to_nat] at h)<;>(try simp only [h])<;>(first|(exfalso;omega)|(exfalso;simp_all;done)|(simp (disch:=omega) only [push_cast,seval,hd,hil,hel,Dtz,Abz])|skip))
 | ((first|refine Amz false ?_|refine Alz false ?_);simp (disch:=omega) only [push_cast,seval,hd,hil,hel,Dtz,Abz])
 | ((first|((first|refine call0D (BCall.ofP (Bjz _ _ ?_ ?_)) ?_|refine qcall0D (BCall.ofP (Bjz _ _ ?_ ?_)) ⟨_,_,rfl,rfl⟩ ?_);(iterate 2 (exact sd));rintro _ _ ⟨rfl,rfl⟩)|((first|refine call0D (BCall.ofP (ivEx_ok _ _ _ _ _ _ _ _ _ ?_ ?_ ?_)) ?_|refine qcall0D (BCall.ofP (ivEx_ok _ _ _ _ _ _ _ _ _ ?_ ?_ ?_)) ⟨_,_,rfl,rfl⟩ ?_);(iterate 3 (exact sd));rintro _ _ ⟨rfl,rfl⟩)|((first|refine call0D (BCall.ofP (nodeP_ok _ _ _ _ _ ?_ ?_ ?_ ?_ ?_)) ?_|refine qcall0D (BCall.ofP (nodeP_ok _ _ _ _ _ ?_ ?_ ?_ ?_ ?_)) ⟨_,_,rfl,rfl⟩ ?_);(iterate 5 (exact sd));rintro _ _ ⟨rfl,rfl⟩)|((first|refine call0D (BCall.ofP (held_ok _ _ ?_ ?_)) ?_|refine qcall0D (BCall.ofP (held_ok _ _ ?_ ?_)) ⟨_,_,rfl,rfl⟩ ?_);(iterate 2 (exact sd));rintro _ _ ⟨rfl,rfl⟩)|((first|refine call0D (BCall.ofP (isHeld_ok _)) ?_|refine qcall0D (BCall.ofP (isHeld_ok _)) ⟨_,_,rfl,rfl⟩ ?_);rintro _ _ ⟨rfl,rfl⟩))<;>(try simp (disch:=omega) only [push_cast,seval,hd,hil,hel,Dtz,Abz]))
 | (refine Aiz ⟨.inr rfl,_,rfl,?_⟩; (try simp (disch := omega) only [push_cast,seval,hd,hil,hel,Dtz,Abz]))))
                refine ⟨i + 1,⟨by omega,hyes⟩,by omega,?_⟩
                (refine Sub.of_lists ?_ ?_ ?_ ?_ ?_<;>simp [Vw.mkS,Vw.lk,Vw.hk,AV.inn,innL,Asz,Arz,Avz,-List.map_set,-List.getD_eq_getElem?_getD,Abz])
              | false =>
                by_cases hk:0 < (kidsT es i es.length).length
                · have hno:allX (closB es es.length) es es.length=false:=allX_no (f:=closB es es.length) he (by unfold closB;simp;intro h;rw [h] at hk;simp at hk) hlt2
                  rw [hno]
                  have hk2:=decide_eq_true hk
                  generalize hK:kidsT es i es.length=ks at *
                  generalize hKn:ks.length=kn at *
                  (repeat' (first
 | (first|refine Ajz ?_|refine Afz ?_)
 | ((first|refine Akz ?_|refine Aqz (mid:=l41r12a) (post:=l41r12b) Ayz (by decide) ?_|refine Aez ?_|refine Agz ?_|refine Ahz ?_);simp (disch:=omega) only [push_cast,seval,l41r0,l41r1,l41r2,l41r3,l41r4,l41r5,l41r6,l41r7,l41r8,l41r9,l41r10,l41r11,l41r12a,l41r12b,l41r12,l41r13,l41r14,l41r15,hd,hil,hel,Dtz,Dqz,hK,hKn,hk2,Abz])
 | ((first|refine Aaz ?_ ?_|refine Adz ?_ ?_|refine Acz ?_ ?_)<;>intro h<;>(try simp only [h])<;>(try simp only [bitvec_to_nat] at h)<;>(try simp only [h])<;>(first|(exfalso;omega)|(exfalso;simp_all;done)|(simp (disch:=omega) only [push_cast,seval,hd,hil,hel,Dtz,Dqz,hK,hKn,hk2,Abz])|skip))
 | ((first|refine Amz false ?_|refine Alz false ?_);simp (disch:=omega) only [push_cast,seval,hd,hil,hel,Dtz,Dqz,hK,hKn,hk2,Abz])
 | ((first|((first|refine call0D (BCall.ofP (Bjz _ _ ?_ ?_)) ?_|refine qcall0D (BCall.ofP (Bjz _ _ ?_ ?_)) ⟨_,_,rfl,rfl⟩ ?_);(iterate 2 (exact sd));rintro _ _ ⟨rfl,rfl⟩)|((first|refine call0D (BCall.ofP (ivEx_ok _ _ _ _ _ _ _ _ _ ?_ ?_ ?_)) ?_|refine qcall0D (BCall.ofP (ivEx_ok _ _ _ _ _ _ _ _ _ ?_ ?_ ?_)) ⟨_,_,rfl,rfl⟩ ?_);(iterate 3 (exact sd));rintro _ _ ⟨rfl,rfl⟩)|((first|refine call0D (BCall.ofP (nodeP_ok _ _ _ _ _ ?_ ?_ ?_ ?_ ?_)) ?_|refine qcall0D (BCall.ofP (nodeP_ok _ _ _ _ _ ?_ ?_ ?_ ?_ ?_)) ⟨_,_,rfl,rfl⟩ ?_);(iterate 5 (exact sd));rintro _ _ ⟨rfl,rfl⟩)|((first|refine call0D (BCall.ofP (held_ok _ _ ?_ ?_)) ?_|refine qcall0D (BCall.ofP (held_ok _ _ ?_ ?_)) ⟨_,_,rfl,rfl⟩ ?_);(iterate 2 (exact sd));rintro _ _ ⟨rfl,rfl⟩)|((first|refine call0D (BCall.ofP (isHeld_ok _)) ?_|refine qcall0D (BCall.ofP (isHeld_ok _)) ⟨_,_,rfl,rfl⟩ ?_);rintro _ _ ⟨rfl,rfl⟩))<;>(try simp (disch:=omega) only [push_cast,seval,hd,hil,hel,Dtz,Dqz,hK,hKn,hk2,Abz]))
 | (refine Aiz ⟨.inr rfl,_,rfl,?_⟩; (try simp (disch := omega) only [push_cast,seval,hd,hil,hel,Dtz,Dqz,hK,hKn,hk2,Abz]))))
                · have hyes:allX (closB es es.length) es (i + 1)=true:=by rw [Gkz he,hal2];simp [closB];exact List.length_eq_zero_iff.1 (by omega)
                  have hk2:=decide_eq_false hk
                  generalize hK:kidsT es i es.length=ks at *
                  generalize hKn:ks.length=kn at *
                  (repeat' (first
 | (first|refine Ajz ?_|refine Afz ?_)
 | ((first|refine Akz ?_|refine Aqz (mid:=l41r12a) (post:=l41r12b) Ayz (by decide) ?_|refine Aez ?_|refine Agz ?_|refine Ahz ?_);simp (disch:=omega) only [push_cast,seval,l41r0,l41r1,l41r2,l41r3,l41r4,l41r5,l41r6,l41r7,l41r8,l41r9,l41r10,l41r11,l41r12a,l41r12b,l41r12,l41r13,l41r14,l41r15,hd,hil,hel,Dtz,Dqz,hK,hKn,hk2,Abz])
 | ((first|refine Aaz ?_ ?_|refine Adz ?_ ?_|refine Acz ?_ ?_)<;>intro h<;>(try simp only [h])<;>(try simp only [bitvec_to_nat] at h)<;>(try simp only [h])<;>(first|(exfalso;omega)|(exfalso;simp_all;done)|(simp (disch:=omega) only [push_cast,seval,hd,hil,hel,Dtz,Dqz,hK,hKn,hk2,Abz])|skip))
 | ((first|refine Amz false ?_|refine Alz false ?_);simp (disch:=omega) only [push_cast,seval,hd,hil,hel,Dtz,Dqz,hK,hKn,hk2,Abz])
 | ((first|((first|refine call0D (BCall.ofP (Bjz _ _ ?_ ?_)) ?_|refine qcall0D (BCall.ofP (Bjz _ _ ?_ ?_)) ⟨_,_,rfl,rfl⟩ ?_);(iterate 2 (exact sd));rintro _ _ ⟨rfl,rfl⟩)|((first|refine call0D (BCall.ofP (ivEx_ok _ _ _ _ _ _ _ _ _ ?_ ?_ ?_)) ?_|refine qcall0D (BCall.ofP (ivEx_ok _ _ _ _ _ _ _ _ _ ?_ ?_ ?_)) ⟨_,_,rfl,rfl⟩ ?_);(iterate 3 (exact sd));rintro _ _ ⟨rfl,rfl⟩)|((first|refine call0D (BCall.ofP (nodeP_ok _ _ _ _ _ ?_ ?_ ?_ ?_ ?_)) ?_|refine qcall0D (BCall.ofP (nodeP_ok _ _ _ _ _ ?_ ?_ ?_ ?_ ?_)) ⟨_,_,rfl,rfl⟩ ?_);(iterate 5 (exact sd));rintro _ _ ⟨rfl,rfl⟩)|((first|refine call0D (BCall.ofP (held_ok _ _ ?_ ?_)) ?_|refine qcall0D (BCall.ofP (held_ok _ _ ?_ ?_)) ⟨_,_,rfl,rfl⟩ ?_);(iterate 2 (exact sd));rintro _ _ ⟨rfl,rfl⟩)|((first|refine call0D (BCall.ofP (isHeld_ok _)) ?_|refine qcall0D (BCall.ofP (isHeld_ok _)) ⟨_,_,rfl,rfl⟩ ?_);rintro _ _ ⟨rfl,rfl⟩))<;>(try simp (disch:=omega) only [push_cast,seval,hd,hil,hel,Dtz,Dqz,hK,hKn,hk2,Abz]))
 | (refine Aiz ⟨.inr rfl,_,rfl,?_⟩; (try simp (disch := omega) only [push_cast,seval,hd,hil,hel,Dtz,Dqz,hK,hKn,hk2,Abz]))))
                  refine ⟨i + 1,⟨by omega,hyes⟩,by omega,?_⟩
                  (refine Sub.of_lists ?_ ?_ ?_ ?_ ?_<;>simp [Vw.mkS,Vw.lk,Vw.hk,AV.inn,innL,Asz,Arz,Avz,-List.map_set,-List.getD_eq_getElem?_getD,Abz])
            · have e2:i=es.length:=by omega
              subst e2
              (repeat' (first
 | (first|refine Ajz ?_|refine Afz ?_)
 | ((first|refine Akz ?_|refine Aqz (mid:=l41r12a) (post:=l41r12b) Ayz (by decide) ?_|refine Aez ?_|refine Agz ?_|refine Ahz ?_);simp (disch:=omega) only [push_cast,seval,l41r0,l41r1,l41r2,l41r3,l41r4,l41r5,l41r6,l41r7,l41r8,l41r9,l41r10,l41r11,l41r12a,l41r12b,l41r12,l41r13,l41r14,l41r15,hel,Abz])
 | ((first|refine Aaz ?_ ?_|refine Adz ?_ ?_|refine Acz ?_ ?_)<;>intro h<;>(try simp only [h])<;>(try simp only [bitvec_to_nat] at h)<;>(try simp only [h])<;>(first|(exfalso;omega)|(exfalso;simp_all;done)|(simp (disch:=omega) only [push_cast,seval,hel,Abz])|skip))
 | ((first|refine Amz false ?_|refine Alz false ?_);simp (disch:=omega) only [push_cast,seval,hel,Abz])
 | ((first|((first|refine call0D (BCall.ofP (Bjz _ _ ?_ ?_)) ?_|refine qcall0D (BCall.ofP (Bjz _ _ ?_ ?_)) ⟨_,_,rfl,rfl⟩ ?_);(iterate 2 (exact sd));rintro _ _ ⟨rfl,rfl⟩)|((first|refine call0D (BCall.ofP (ivEx_ok _ _ _ _ _ _ _ _ _ ?_ ?_ ?_)) ?_|refine qcall0D (BCall.ofP (ivEx_ok _ _ _ _ _ _ _ _ _ ?_ ?_ ?_)) ⟨_,_,rfl,rfl⟩ ?_);(iterate 3 (exact sd));rintro _ _ ⟨rfl,rfl⟩)|((first|refine call0D (BCall.ofP (nodeP_ok _ _ _ _ _ ?_ ?_ ?_ ?_ ?_)) ?_|refine qcall0D (BCall.ofP (nodeP_ok _ _ _ _ _ ?_ ?_ ?_ ?_ ?_)) ⟨_,_,rfl,rfl⟩ ?_);(iterate 5 (exact sd));rintro _ _ ⟨rfl,rfl⟩)|((first|refine call0D (BCall.ofP (held_ok _ _ ?_ ?_)) ?_|refine qcall0D (BCall.ofP (held_ok _ _ ?_ ?_)) ⟨_,_,rfl,rfl⟩ ?_);(iterate 2 (exact sd));rintro _ _ ⟨rfl,rfl⟩)|((first|refine call0D (BCall.ofP (isHeld_ok _)) ?_|refine qcall0D (BCall.ofP (isHeld_ok _)) ⟨_,_,rfl,rfl⟩ ?_);rintro _ _ ⟨rfl,rfl⟩))<;>(try simp (disch:=omega) only [push_cast,seval,hel,Abz]))
 | (refine Aiz ⟨.inr rfl,_,rfl,?_⟩; (try simp (disch := omega) only [push_cast,seval,hel,Abz]))))
              all_goals (try simp [hal2])
    · have hvb:vB cs es=false:=by unfold vB;rw [decide_eq_false h8];simp
      rw [hvb]
      (repeat' (first
 | (first|refine Ajz ?_|refine Afz ?_)
 | ((first|refine Akz ?_|refine Aqz (mid:=l41r12a) (post:=l41r12b) Ayz (by decide) ?_|refine Aez ?_|refine Agz ?_|refine Ahz ?_);simp (disch:=omega) only [push_cast,seval,l41r0,l41r1,l41r2,l41r3,l41r4,l41r5,l41r6,l41r7,l41r8,l41r9,l41r10,l41r11,l41r12a,l41r12b,l41r12,l41r13,l41r14,l41r15,hv,hel,Abz])
 | ((first|refine Aaz ?_ ?_|refine Adz ?_ ?_|refine Acz ?_ ?_)<;>intro h<;>(try simp only [h])<;>(try simp only [bitvec_to_nat] at h)<;>(try simp only [h])<;>(first|(exfalso;omega)|(exfalso;simp_all;done)|(simp (disch:=omega) only [push_cast,seval,hv,hel,Abz])|skip))
 | ((first|refine Amz false ?_|refine Alz false ?_);simp (disch:=omega) only [push_cast,seval,hv,hel,Abz])
 | ((first|((first|refine call0D (BCall.ofP (Bjz _ _ ?_ ?_)) ?_|refine qcall0D (BCall.ofP (Bjz _ _ ?_ ?_)) ⟨_,_,rfl,rfl⟩ ?_);(iterate 2 (exact sd));rintro _ _ ⟨rfl,rfl⟩)|((first|refine call0D (BCall.ofP (ivEx_ok _ _ _ _ _ _ _ _ _ ?_ ?_ ?_)) ?_|refine qcall0D (BCall.ofP (ivEx_ok _ _ _ _ _ _ _ _ _ ?_ ?_ ?_)) ⟨_,_,rfl,rfl⟩ ?_);(iterate 3 (exact sd));rintro _ _ ⟨rfl,rfl⟩)|((first|refine call0D (BCall.ofP (nodeP_ok _ _ _ _ _ ?_ ?_ ?_ ?_ ?_)) ?_|refine qcall0D (BCall.ofP (nodeP_ok _ _ _ _ _ ?_ ?_ ?_ ?_ ?_)) ⟨_,_,rfl,rfl⟩ ?_);(iterate 5 (exact sd));rintro _ _ ⟨rfl,rfl⟩)|((first|refine call0D (BCall.ofP (held_ok _ _ ?_ ?_)) ?_|refine qcall0D (BCall.ofP (held_ok _ _ ?_ ?_)) ⟨_,_,rfl,rfl⟩ ?_);(iterate 2 (exact sd));rintro _ _ ⟨rfl,rfl⟩)|((first|refine call0D (BCall.ofP (isHeld_ok _)) ?_|refine qcall0D (BCall.ofP (isHeld_ok _)) ⟨_,_,rfl,rfl⟩ ?_);rintro _ _ ⟨rfl,rfl⟩))<;>(try simp (disch:=omega) only [push_cast,seval,hv,hel,Abz]))
 | (refine Aiz ⟨.inr rfl,_,rfl,?_⟩;(try simp (disch:=omega) only [push_cast,seval,hv,hel,Abz]))))

end Go.Proofs.YtahdlohpncjdbaaGreatDoor
set_option linter.unusedSimpArgs false
set_option linter.unusedVariables false
set_option maxRecDepth 4000
set_option maxHeartbeats 4000000
namespace Go.Proofs.YtahdlohpncjdbaaGreatDoor
open VwM Vw Go
set_option linter.unusedSectionVars false
variable [SentA]

theorem swownH (a b id n sz:Nat) (h1:id ≠ a) (h2:id ≠ b):(AV.own id n sz).sw a b=.own id n sz:=by simp only [AV.sw,A5z h1 h2]
theorem swl2H (a d i m:Nat) (hm:m < 1099511627776) (hn:m ≠ a) (n sz:Nat):(AV.own m n sz).sw a (fim d i)=.own m n sz:=by simp only [AV.sw,D3z a d i m hm hn]




set_option maxHeartbeats 8000000 in
theorem Cwz (p b:Int) (x y:List Int) (o:Bool) (n m:Nat) (hn:x.length=n) (hm:y.length=m) (hb:n ≤ 1099511627776 ∧ m ≤ 1099511627776):BCall Tryz.prog 40 [.agg [.int .i64 p,.int .i64 b,.rows false (IL x) n,.rows false (IL y) m,.bool o]] [] (fun r H'=>r=.agg [.int .i64 p,.int .i64 b,.own 0 n 1,.own 1 m 1,.bool o] ∧ H'=[IL x,IL y]):=by
  subst hn hm
  refine A4z (pins:=[]) (pin:=0) l40_eq rfl rfl rfl ?_
  (repeat' (first
 | (first|refine Ajz ?_|refine Afz ?_)
 | ((first|refine Akz ?_|refine Aez ?_|refine Agz ?_|refine Ahz ?_);simp (disch:=omega) only [push_cast,seval,l40r0,l40r1,l40r2,l40r3,l40r4,l40r5])
 | ((first|refine Aaz ?_ ?_|refine Adz ?_ ?_|refine Acz ?_ ?_)<;>intro h<;>(try simp only [h])<;>(try simp only [bitvec_to_nat] at h)<;>(try simp only [h])<;>(first|(exfalso;omega)|(exfalso;simp_all;done)|(simp (disch:=omega) only [push_cast,seval])|skip))
 | ((first|refine Amz false ?_|refine Alz false ?_);simp (disch:=omega) only [push_cast,seval])
 | ((first|((first|refine call0D (toView_ok _ _ _ _ _ ?_ ?_ ?_) ?_|refine qcall0D (toView_ok _ _ _ _ _ ?_ ?_ ?_) ⟨_,_,rfl,rfl⟩ ?_);(iterate 3 (exact sd));rintro _ _ ⟨rfl,rfl⟩))<;>(try simp (disch:=omega) only [push_cast,seval]))
 | (refine Aiz ⟨.inr rfl,[144,145],[],_,by decide,rfl,?_⟩;(try simp (disch:=omega) only [push_cast,seval,↓Apz,↓Anz,↓List.map_cons,↓List.map_nil]))))
  all_goals (try exact ⟨rfl,rfl⟩)


set_option maxHeartbeats 8000000 in
theorem Fwz (es:List Ex) (n:Nat) (hn:es.length=n) (hb:n ≤ 1048576 ∧ exB 1099511627776 es):BCall Tryz.prog 19 [.rows false (EL false es) n] [] (fun r H'=>r=.own 0 n 5 ∧ H'=(esF es).cellsG (· + 1) :: (esF es).conts):=by
  subst hn
  obtain ⟨hb1,hb2⟩:=hb
  refine A4z (pins:=[]) (pin:=0) l19_eq rfl rfl rfl ?_
  have hvl:=Bbz false es
  have hzl:(zcells [AV.int .i64 0,.int .i64 0,.val (.slice none 0 0),.val (.slice none 0 0),.bool false] es.length).length=es.length * 5:=by simp [zcells,Nat.mul_comm]
  (repeat' (first
 | (first|refine Ajz ?_|refine Afz ?_)
 | ((first|refine Akz ?_|refine Aez ?_|refine Agz ?_|refine Ahz ?_);simp (disch:=omega) only [push_cast,seval,l19r0,l19r1,l19r2,l19r3,l19r4,l19r5,l19r6,Abz])
 | ((first|refine Aaz ?_ ?_|refine Adz ?_ ?_|refine Acz ?_ ?_)<;>intro h<;>(try simp only [h])<;>(try simp only [bitvec_to_nat] at h)<;>(try simp only [h])<;>(first|(exfalso;omega)|(exfalso;simp_all;done)|(simp (disch:=omega) only [push_cast,seval,Abz])|skip))
 | ((first|refine Amz false ?_|refine Alz false ?_);simp (disch:=omega) only [push_cast,seval,Abz])
 | ((first|((first|refine call0D (Cwz _ _ _ _ _ _ _ ?_ ?_ ?_) ?_|refine qcall0D (Cwz _ _ _ _ _ _ _ ?_ ?_ ?_) ⟨_,_,rfl,rfl⟩ ?_);(iterate 3 (exact sd));rintro _ _ ⟨rfl,rfl⟩))<;>(try simp (disch:=omega) only [push_cast,seval,Abz]))
 | (refine Aiz ⟨.inr rfl,[112],[],_,by decide,rfl,?_⟩;(try simp (disch:=omega) only [push_cast,seval,↓Apz,↓Anz,↓List.map_cons,↓List.map_nil,Abz]))))
  refine E0z (fun i:Nat=>mkS [(0,.rows false (EL false es) es.length),(3,.own 112 es.length 5),(4,.int .i64 i)] ((112,row (es.length * 5) (cellE es i)) :: famR 7 (exR es) (i * 2))) (fun i=>i ≤ es.length) (fun i=>es.length - i) 0 (Nat.zero_le _) ?_ ?_
  · refine SubW.of ?_
    have e:row (es.length * 5) (cellE es 0)=zcells [AV.int .i64 0,.int .i64 0,.val (.slice none 0 0),.val (.slice none 0 0),.bool false] es.length:=by
      symm
      refine Jmz hzl fun p hp=>?_
      unfold zcells
      rw [List.getElem?_map,List.getElem?_range (by simpa using hp)]
      have hm:p % 5=0 ∨ p % 5=1 ∨ p % 5=2 ∨ p % 5=3 ∨ p % 5=4:=by omega
      rcases hm with h|h|h|h|h<;>simp [h,cellE]
    have hzi:∀ P:Nat → Bool,innL P (row (es.length * 5) (cellE es 0))=true:=fun P=>Hdz _ _ _ fun p _=>by
      unfold cellE
      rw [if_neg (by omega)]
      split
      · rfl
      · split
        · rfl
        · split<;>rfl
    rw [Nat.zero_mul,famR_zero]
    rw [e] at hzi
    rw [e]
    generalize zcells [AV.int .i64 0,.int .i64 0,.val (.slice none 0 0),.val (.slice none 0 0),.bool false] es.length=Z at *
    (refine Sub.of_lists ?_ ?_ ?_ ?_ ?_<;>simp [Vw.mkS,Vw.lk,Vw.hk,AV.inn,innL,Asz,Arz,Avz,-List.map_set,-List.getD_eq_getElem?_getD,Abz,EL,hzi])
  · intro i hi
    by_cases hlt:i < es.length
    · obtain ⟨p,b,x,y,o,hti⟩:=Ctz hlt
      have hbb:x.length ≤ 1099511627776 ∧ y.length ≤ 1099511627776:=Diz hb2 hti
      have hd:=Cjz false es i hti
      simp only at hd
      have hil:i * 5 + 5 ≤ es.length * 5:=by omega
      have hwl:=Dbz (es.length * 5) (cellE es i)
      obtain ⟨h0,h1,h2,hr0,hr1⟩:=ex_at hti
      (repeat' (first
 | (first|refine Ajz ?_|refine Afz ?_)
 | ((first|refine Akz ?_|refine Aez ?_|refine Agz ?_|refine Ahz ?_);simp (disch:=omega) only [push_cast,seval,l19r0,l19r1,l19r2,l19r3,l19r4,l19r5,l19r6,hd,hvl,hil,hwl,Abz])
 | ((first|refine Aaz ?_ ?_|refine Adz ?_ ?_|refine Acz ?_ ?_)<;>intro h<;>(try simp only [h])<;>(try simp only [bitvec_to_nat] at h)<;>(try simp only [h])<;>(first|(exfalso;omega)|(exfalso;simp_all;done)|(simp (disch:=omega) only [push_cast,seval,hd,hvl,hil,hwl,Abz])|skip))
 | ((first|refine Amz false ?_|refine Alz false ?_);simp (disch:=omega) only [push_cast,seval,hd,hvl,hil,hwl,Abz])
 | ((first|((first|refine call0D (Cwz _ _ _ _ _ _ _ ?_ ?_ ?_) ?_|refine qcall0D (Cwz _ _ _ _ _ _ _ ?_ ?_ ?_) ⟨_,_,rfl,rfl⟩ ?_);(iterate 3 (exact sd));rintro _ _ ⟨rfl,rfl⟩))<;>(try simp (disch:=omega) only [push_cast,seval,hd,hvl,hil,hwl,Abz]))))
      refine ⟨i + 1,by omega,by omega,?_⟩
      rw [show (i + 1) * 2=i * 2 + 2 by omega]
      refine SubW.fam2 (a:=320) (b:=321) (d:=7) (i:=i * 2) (id0:=112) (rows:=exR es) (c0:=(((((row (es.length * 5) (cellE es i)).set (i * 5) (.int .i64 p)).set (i * 5 + 1) (.int .i64 b)).set (i * 5 + 2) (.own 320 x.length 1)).set (i * 5 + 3) (.own 321 y.length 1)).set (i * 5 + 4) (.bool o)) ?_ ?_ ?_ ⟨by omega,by omega,by omega⟩ ?_ ?_ ?_ ?_ ?_
      · rw [hr0];rfl
      · rw [hr1];rfl
      · rfl
      · intro j hj
        simp only [hk,Axz 7 j 112 (by omega),Axz 7 j 320 (by omega),Axz 7 j 321 (by omega),if_false]
        exact Dcz _ _ _ _ hj
      · rw [Epz,Epz,Epz,Epz,Epz,Bkz,Bkz]
        refine A6z fun q hq=>?_
        have hp2:∀ r,r < 5 → i * 5 + r < (i + 1) * 5:=fun r hr=>by omega
        by_cases e4:q=i * 5 + 4
        · subst e4
          rw [A1z]
          unfold cellE
          rw [if_pos (hp2 4 (by omega))]
          simp only [Fam.atG,eF,patE]
          rw [if_neg (by omega),if_neg (by omega),if_pos (by omega),show (i * 5 + 4) / 5=i by omega,h2]
          rfl
        rw [A0z _ _ _ _ e4]
        by_cases e3:q=i * 5 + 3
        · subst e3
          rw [A1z,swl2H _ _ _ _ (by omega) (by omega)]
          unfold cellE
          rw [if_pos (hp2 3 (by omega))]
          simp only [Fam.atG,eF,patE]
          rw [if_neg (by omega),if_neg (by omega),if_neg (by omega),show (i * 5 + 3) / 5 * 2 + ((i * 5 + 3) % 5 - 2)=i * 2 + 1 by omega]
          simp only [hr1,AV.sw,Elz]
        rw [A0z _ _ _ _ e3]
        by_cases e2:q=i * 5 + 2
        · subst e2
          rw [A1z]
          unfold cellE
          rw [if_pos (hp2 2 (by omega))]
          simp only [Fam.atG,eF,patE]
          rw [if_neg (by omega),if_neg (by omega),if_neg (by omega),show (i * 5 + 2) / 5 * 2 + ((i * 5 + 2) % 5 - 2)=i * 2 by omega]
          simp only [hr0,AV.sw,Elz]
          rw [A5z (Ne.symm (C9z _ _ _ (by omega))) (fun e'=>by have:=Baz e';omega)]
        rw [A0z _ _ _ _ e2]
        by_cases e1:q=i * 5 + 1
        · subst e1
          rw [A1z]
          unfold cellE
          rw [if_pos (hp2 1 (by omega))]
          simp only [Fam.atG,eF,patE]
          rw [if_neg (by omega),if_pos (by omega),show (i * 5 + 1) / 5=i by omega,h1]
          rfl
        rw [A0z _ _ _ _ e1]
        by_cases e0:q=i * 5
        · subst e0
          rw [A1z]
          unfold cellE
          have hp20:i * 5 < (i + 1) * 5:=by omega
          rw [if_pos hp20]
          simp only [Fam.atG,eF,patE]
          rw [if_pos (by omega),show i * 5 / 5=i by omega,h0]
          rfl
        rw [A0z _ _ _ _ e0]
        unfold cellE
        by_cases hpi:q < i * 5
        · have hq2:q < (i + 1) * 5:=by omega
          rw [if_pos hpi,if_pos hq2]
          unfold Fam.atG
          cases e:(esF es).pat q with
          | inl a=>rcases (esF es).cell q a e with ⟨k,z,rfl⟩|⟨c,rfl⟩<;>rfl
          | inr j =>
            have hj:j < i * 2:=by
              have e':patE (exPa es) (exBs es) (exOp es) q=.inr j:=e
              unfold patE at e'
              split at e'
              · cases e'
              · split at e'
                · cases e'
                · split at e'
                  · cases e'
                  · injection e' with e';omega
            simp only
            rw [swownH _ _ _ _ _ (Ne.symm (C9z _ _ _ (by omega))) (fun e'=>by have:=Baz e';omega)]
            exact swownH _ _ _ _ _ (Ne.symm (C9z _ _ _ (by omega))) (fun e'=>by have:=Baz e';omega)
        · have hq2:¬ q < (i + 1) * 5:=by omega
          rw [if_neg hpi,if_neg hq2]
          split
          · rfl
          · split
            · rfl
            · split<;>rfl
      · simp [lk,AV.sw,Gzz,D3z]
      · simp [AV.inn,Abz,hk]
      · exact Hdz _ _ _ fun q hq=>by rw [show i * 2 + 2=(i + 1) * 2 by omega];exact cellE_inn _ _ hq
    · have e:i=es.length:=by omega
      subst e
      (repeat' (first
 | (first|refine Ajz ?_|refine Afz ?_)
 | ((first|refine Akz ?_|refine Aez ?_|refine Agz ?_|refine Ahz ?_);simp (disch:=omega) only [push_cast,seval,l19r0,l19r1,l19r2,l19r3,l19r4,l19r5,l19r6,Abz])
 | ((first|refine Aaz ?_ ?_|refine Adz ?_ ?_|refine Acz ?_ ?_)<;>intro h<;>(try simp only [h])<;>(try simp only [bitvec_to_nat] at h)<;>(try simp only [h])<;>(first|(exfalso;omega)|(exfalso;simp_all;done)|(simp (disch:=omega) only [push_cast,seval,Abz])|skip))
 | ((first|refine Amz false ?_|refine Alz false ?_);simp (disch:=omega) only [push_cast,seval,Abz])
 | ((first|((first|refine call0D (Cwz _ _ _ _ _ _ _ ?_ ?_ ?_) ?_|refine qcall0D (Cwz _ _ _ _ _ _ _ ?_ ?_ ?_) ⟨_,_,rfl,rfl⟩ ?_);(iterate 3 (exact sd));rintro _ _ ⟨rfl,rfl⟩))<;>(try simp (disch:=omega) only [push_cast,seval,Abz]))))
      refine Aiz ⟨.inr rfl,ret_famS (F:=esF es) (d:=7) rfl ?_ ?_ (by omega)⟩
      · simp only [hk,if_true]
        congr 1
        exact A6z fun p hp=>by
          unfold cellE
          rw [if_pos hp]
      · intro j hj
        simp only [hk,Axz 7 j 112 (by omega),if_false]
        exact Dcz _ _ _ _ hj


theorem toExportSP_ok (es:List Ex) (n:Nat) (hn:es.length=n) (hb:n ≤ 1048576 ∧ exB 1099511627776 es):PCall Tryz.prog 19 [.rows false (EL false es) n] (fun r=>r=.rows true (EL true es) n):=by
  refine (BCall.plain (Fwz es n hn hb)).mono ?_
  rintro r ⟨r0,H',⟨rfl,rfl⟩,rfl⟩
  show AV.ren _ _ _ _ 5 (.own 0 n 5)=_
  have e0:nthH ((esF es).cellsG (· + 1) :: (esF es).conts) 0=some ((esF es).cellsG (· + 1)):=rfl
  rw [Dfz,e0,Eqz,if_pos (by rw [Brz,eF_C,hn])]
  rw [← Ifz]
  congr 1
  unfold Fam.cellsG Fam.plain
  rw [Bkz]
  refine A6z fun p hp=>(esF es).ren_plain fun j hj=>⟨rfl,?_⟩
  have hjR:=(esF es).ok p j hp hj
  show ((esF es).conts)[j]?=_
  unfold Fam.conts
  rw [List.getElem?_map,List.getElem?_range hjR];rfl

end Go.Proofs.YtahdlohpncjdbaaGreatDoor
