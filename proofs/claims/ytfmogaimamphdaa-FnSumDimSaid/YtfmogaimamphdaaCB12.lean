/- Texts of this verifier. -/
import Derived.Test.YtfmogaimamphdaaCB11
import Derived.Test.YtfmogaimamphdaaCM1
import Derived.Test.YtfmogaimamphdaaCW3
set_option linter.unusedSimpArgs false
set_option linter.unusedVariables false
set_option maxRecDepth 4000
set_option maxHeartbeats 4000000
namespace Go.Proofs.Ytfmogaimamphdaa
open VwM Vw Go

theorem w64_sumN (f:Nat → Int):∀ n,w64 (sumN n fun p=>w64 (f p))=w64 (sumN n f)
  | 0=>rfl
  | n + 1=>by
    have ih:=w64_sumN f n
    simp only [sumN]
    rw [Goz,← Fdz,ih,Fdz]
theorem G6z (xs:List Int):∀ n,sumN n (fun i=>xs.getD i 0)=sumT xs n
  | 0=>rfl
  | n + 1=>by simp only [sumN,sumT,G6z xs n]
theorem sumT_b {xs:List Int} (hb:∀ x ∈ xs,-1000000 ≤ x ∧ x ≤ 1000000):∀ k:Nat,-1000000 * (k:Int) ≤ sumT xs k ∧ sumT xs k ≤ 1000000 * k
  | 0=>by simp [sumT]
  | k + 1=>by
    have ih:=sumT_b hb k
    have h1:-1000000 ≤ xs.getD k 0 ∧ xs.getD k 0 ≤ 1000000:=by
      by_cases hlt:k < xs.length
      · exact hb _ (A2z hlt)
      · rw [List.getD_eq_getElem?_getD,List.getElem?_eq_none (by omega)];simp
    simp only [sumT]
    push_cast
    omega
/-- All values of a contraction together are the sum over all labels. -/
theorem ct_total {ts:List Tn} {ls:List (List Int)} {e out:List Int} (hC:CtOk ts ls e) (hc:ctC out e=true):sumN (pr (out.map (gE e))).toNat (fun p=>ctE ts ls out e p)=SS e (lbS ls.flatten) Z5 (gP ts ls):=by
  obtain ⟨h1,h2,h3,_⟩:=ctC_parts hc
  have ho:=Gsz hC h1 h3
  have hO:∀ x ∈ out,(0 ≤ x ∧ x ≤ 4):=fun x hx=>Bcz.1 h1 x hx
  rw [Jrz (outk hC ho h2) (fun x hx=>(D3z _ x hx).1) (Cbz _),Fwz,← C8z e _ out Z5 (fun x hx=>⟨(hO x hx).1,(hC.used x (ho x hx)).2.1⟩) h2]
  exact A9z fun p hp=>rfl
/-- The sum of a tensor over all its labels. -/
theorem one_total {t:Tn} {e:List Int} (h:exO [t] [nums 0 1 t.1.length]=some e):(nums 0 1 t.1.length).map (gE e)=t.1 ∧ SS e (lbS [nums 0 1 t.1.length].flatten) Z5 (gP [t] [nums 0 1 t.1.length])=sumT t.2 t.2.length:=by
  have hC:=Cpz h
  obtain ⟨⟨hs,hlen⟩,hl,hl5,hge⟩:=hC.lab 0 t _ rfl rfl
  have hm:(nums 0 1 t.1.length).map (gE e)=t.1:=by
    refine Brz (by simp) fun j hj=>?_
    have hj':j < t.1.length:=by simpa using hj
    rw [← hge j (by simpa using hj')]
    simp [List.getD,hj']
  refine ⟨hm,?_⟩
  have hp:(lbS [nums 0 1 t.1.length].flatten).Perm (nums 0 1 t.1.length):=by
    rw [List.perm_ext_iff_of_nodup (Cbz _) (Daz _)]
    intro x
    rw [C2z]
    constructor
    · intro hx;simpa using hx.2
    · intro hx;exact ⟨hl5 x hx,by simpa using hx⟩
  rw [Jrz hp (fun x hx=>(D3z _ x hx).1) (Cbz _),← C8z e _ _ Z5 (fun x hx=>⟨(hl5 x hx).1,(hC.used x (by simpa using hx)).2.1⟩) (Daz _),hm,show (pr t.1).toNat=t.2.length by omega,← G6z]
  refine A9z fun k hk=>?_
  have hg:=(A3z hs).1
  have hr:=I6z hs (k:=(k:Int)) (Int.natCast_nonneg k) (by omega)
  unfold rankD at hr
  rw [if_pos ⟨hs,Gqz hg (Int.natCast_nonneg k) (by omega)⟩] at hr
  have hd:dot (fun d=>gE (wayK e (nums 0 1 t.1.length) Z5 k) ((nums 0 1 t.1.length).getD d 0)) (rowS t.1) t.1.length=k:=by
    refine Eq.trans (B2z fun d hd=>?_) hr
    have hi:(nums 0 1 t.1.length)[d]?=some ((nums 0 1 t.1.length).getD d 0):=by simp [List.getD,hd]
    rw [G2z (Daz _) (Eyz rfl hl5) hi,hm]
    simp [unr,List.getD,hd]
  show t.2.getD (dot (fun d=>gE (wayK e (nums 0 1 t.1.length) Z5 k) ((nums 0 1 t.1.length).getD d 0)) (rowS t.1) t.1.length).toNat 0 * 1=_
  rw [hd,Int.toNat_natCast,Int.mul_one]
theorem sd_total {t o:Tn} {d:Int} (h:sdT t d=some o):(vT t=true ∧ vT o=true ∧ 0 ≤ d ∧ d < t.1.length) ∧ o.1=wo t.1 d.toNat ∧ sumT o.2 o.2.length=sumT t.2 t.2.length:=by
  unfold sdT at h
  split at h
  case isFalse=>cases h
  rename_i hh
  obtain ⟨hv,hd0,hd1⟩:=hh
  obtain ⟨e,he,hc,hvo,ho⟩:=Jnz h
  have hvo':vT o=true:=by rw [ho];exact hvo
  obtain ⟨hm,hone⟩:=one_total he
  have hct:=ct_total (Cpz he) hc
  rw [hone] at hct
  have ho1:o.1=wo t.1 d.toNat:=by
    rw [ho]
    show (wo (nums 0 1 t.1.length) d.toNat).map (gE e)=_
    conv=>rhs;rw [← hm]
    simp [wo,List.map_take,List.map_drop]
  refine ⟨⟨hv,hvo',hd0,hd1⟩,ho1,?_⟩
  have b1:=sumT_b (Bnz.1 hv).2.2 t.2.length
  have b2:=sumT_b (Bnz.1 hvo').2.2 o.2.length
  have l1:=(Ixz hv).2
  have l2:=(Ixz hvo').2
  have e1:sumT o.2 o.2.length=sumN (pr ((wo (nums 0 1 t.1.length) d.toNat).map (gE e))).toNat fun p=>w64 (ctE [t] [nums 0 1 t.1.length] (wo (nums 0 1 t.1.length) d.toNat) e p):=by
    rw [← G6z,ho]
    unfold ctW
    simp only [Gbz]
    exact A9z fun p hp=>by unfold ctV;simp [List.getD,hp]
  have e2:=w64_sumN (fun p=>ctE [t] [nums 0 1 t.1.length] (wo (nums 0 1 t.1.length) d.toNat) e p) (pr ((wo (nums 0 1 t.1.length) d.toNat).map (gE e))).toNat
  rw [← e1,hct,w64_id (by omega),w64_id (by omega)] at e2
  exact e2


theorem totalB_ok (xs:List Int) (n:Nat) (hn:xs.length=n) (hb:n ≤ 100 ∧ ∀ x ∈ xs,-1000000 ≤ x ∧ x ≤ 1000000):PCall Try.prog 18 [.rows false (IL xs) n] (fun r=>r=.int .i64 (sumT xs n)):=by
  subst hn
  obtain ⟨hb1,hb2⟩:=hb
  refine Ayz l18_eq rfl ?_
  (repeat' (first
 | (first|refine Alz ?_|refine Aez ?_)
 | ((first|refine Amz ?_|refine Adz ?_|refine Agz ?_|refine Ahz ?_);simp (disch:=omega) only [push_cast,seval,l18r0,l18r1,l18r2,l18r3,l18r4,l18r5,l18r6])
 | ((first|refine Aaz ?_ ?_|refine Acz ?_ ?_|refine Abz ?_ ?_)<;>intro h<;>(try simp only [h])<;>(try simp only [bitvec_to_nat] at h)<;>(try simp only [h])<;>(first|(exfalso;omega)|(exfalso;simp_all;done)|(simp (disch:=omega) only [push_cast,seval])|skip))
 | (refine Aiz ⟨.inr rfl,_,rfl,?_⟩;(try simp (disch:=omega) only [push_cast,seval]))))
  refine Azz (fun k:Nat=>mkS [(0,RI xs),(3,.int .i64 (sumT xs k)),(4,.int .i64 k)] []) (fun k=>k ≤ xs.length) (fun k=>xs.length - k) 0 (Nat.zero_le _) ?_ ?_
  · have e0:sumT xs 0=0:=rfl
    (refine Sub.of_lists ?_ ?_ ?_ ?_ ?_<;>simp [Vw.mkS,Vw.lk,Vw.hk,AV.inn,innL,Asz,Aoz,Atz,-List.map_set,-List.getD_eq_getElem?_getD,e0])
  · intro k hk
    have b1:=sumT_b hb2 k
    by_cases hlt:k < xs.length
    · have hx:=hb2 _ (A2z hlt)
      have e1:sumT xs (k + 1)=sumT xs k + xs.getD k 0:=rfl
      generalize hA:sumT xs k=A at *
      (repeat' (first
 | (first|refine Alz ?_|refine Aez ?_)
 | ((first|refine Amz ?_|refine Adz ?_|refine Agz ?_|refine Ahz ?_);simp (disch:=omega) only [push_cast,seval,l18r0,l18r1,l18r2,l18r3,l18r4,l18r5,l18r6])
 | ((first|refine Aaz ?_ ?_|refine Acz ?_ ?_|refine Abz ?_ ?_)<;>intro h<;>(try simp only [h])<;>(try simp only [bitvec_to_nat] at h)<;>(try simp only [h])<;>(first|(exfalso;omega)|(exfalso;simp_all;done)|(simp (disch:=omega) only [push_cast,seval])|skip))
 | (refine Aiz ⟨.inr rfl,_,rfl,?_⟩;(try simp (disch:=omega) only [push_cast,seval]))))
      refine ⟨k + 1,by omega,by omega,?_⟩
      (refine Sub.of_lists ?_ ?_ ?_ ?_ ?_<;>simp [Vw.mkS,Vw.lk,Vw.hk,AV.inn,innL,Asz,Aoz,Atz,-List.map_set,-List.getD_eq_getElem?_getD,e1,hA])
    · have e:k=xs.length:=by omega
      subst e
      (repeat' (first
 | (first|refine Alz ?_|refine Aez ?_)
 | ((first|refine Amz ?_|refine Adz ?_|refine Agz ?_|refine Ahz ?_);simp (disch:=omega) only [push_cast,seval,l18r0,l18r1,l18r2,l18r3,l18r4,l18r5,l18r6])
 | ((first|refine Aaz ?_ ?_|refine Acz ?_ ?_|refine Abz ?_ ?_)<;>intro h<;>(try simp only [h])<;>(try simp only [bitvec_to_nat] at h)<;>(try simp only [h])<;>(first|(exfalso;omega)|(exfalso;simp_all;done)|(simp (disch:=omega) only [push_cast,seval])|skip))
 | (refine Aiz ⟨.inr rfl,_,rfl,?_⟩;(try simp (disch:=omega) only [push_cast,seval]))))


set_option maxHeartbeats 32000000 in
theorem fSD_ok (bs:List Int) (hl:bs.length ≤ 9223372036854775807) (hb:∀ x ∈ bs,0 ≤ x ∧ x ≤ 255):PCall Try.prog 5 [.rows false (UL bs) bs.length] (fun r=>r=.bool true):=by
  refine Ayz l5_eq rfl ?_
  by_cases h:bs.length ≤ 1048576
  · have q:bs.length ≤ 1099511627776 ∧ ∀ x ∈ bs,0 ≤ x ∧ x ≤ 255:=⟨by omega,hb⟩
    (repeat' (first
 | (refine H3z (c1:=.reg l5r3) (fun x:List Int × List Int × Int=>mkS [(3,.ref 48 2 0),(4,.int .i64 x.2.2)] [(48,[.rows true (IL x.1) x.1.length,.rows true (IL x.2.1) x.2.1.length])]) (fun x=>x.1.length ≤ 5 ∧ x.2.1.length ≤ 61) ?_ ?_)
 | (first|refine Alz ?_|refine Aez ?_)
 | ((first|refine Amz ?_|refine Arz (mid:=l5r8a) (post:=l5r8b) Awz (by decide) ?_|refine Adz ?_|refine Agz ?_|refine Ahz ?_);simp (disch:=omega) only [push_cast,seval,l5r0,l5r1,l5r2,l5r3,l5r4,l5r5,l5r6,l5r7,l5r8a,l5r8b,l5r8])
 | ((first|refine Aaz ?_ ?_|refine Acz ?_ ?_|refine Abz ?_ ?_)<;>intro h<;>(try simp only [h])<;>(try simp only [bitvec_to_nat] at h)<;>(try simp only [h])<;>(first|(exfalso;omega)|(exfalso;simp_all;done)|(simp (disch:=omega) only [push_cast,seval])|skip))
 | ((first|refine Aqz false ?_|refine qcallD_of false ?_);simp (disch:=omega) only [push_cast,seval])
 | ((first|(refine call0D (BCall.ofP (Frz _ _ ?_ ?_)) ?_;(iterate 2 (exact sd));rintro _ _ ⟨⟨x1,y1,d,hxy,rfl⟩,rfl⟩)|((first|refine call0D (iSD_ok _ _ _ _ _ ?_ ?_ ?_) ?_|refine qcall0D (iSD_ok _ _ _ _ _ ?_ ?_ ?_) ⟨_,_,rfl,rfl⟩ ?_);(iterate 3 (exact sd));rintro _ _ ⟨rfl,rfl⟩)|((first|refine call0D (sSD_ok _ _ _ _ _ ?_ ?_ ?_) ?_|refine qcall0D (sSD_ok _ _ _ _ _ ?_ ?_ ?_) ⟨_,_,rfl,rfl⟩ ?_);(iterate 3 (exact sd));rintro _ _ ⟨rfl,rfl⟩)|((first|refine call0D (BCall.ofP (lequT_ok _ _ _ _ _ _ _ _ ?_ ?_)) ?_|refine qcall0D (BCall.ofP (lequT_ok _ _ _ _ _ _ _ _ ?_ ?_)) ⟨_,_,rfl,rfl⟩ ?_);(iterate 2 (exact sd));rintro _ _ ⟨rfl,rfl⟩)|((first|refine call0D (BCall.ofP (totalB_ok _ _ ?_ ?_)) ?_|refine qcall0D (BCall.ofP (totalB_ok _ _ ?_ ?_)) ⟨_,_,rfl,rfl⟩ ?_);(iterate 2 (exact sd));rintro _ _ ⟨rfl,rfl⟩)|((first|refine call0D (lwithout_ok _ _ _ ?_ ?_) ?_|refine qcall0D (lwithout_ok _ _ _ ?_ ?_) ⟨_,_,rfl,rfl⟩ ?_);(iterate 2 (exact sd));rintro _ _ ⟨rfl,rfl⟩)|((first|refine call0D (BCall.ofP (equalInts_ok _ _ _ _ ?_ ?_ ?_)) ?_|refine qcall0D (BCall.ofP (equalInts_ok _ _ _ _ ?_ ?_ ?_)) ⟨_,_,rfl,rfl⟩ ?_);(iterate 3 (exact sd));rintro _ _ ⟨rfl,rfl⟩))<;>(try simp (disch:=omega) only [push_cast,seval]))
 | (refine Aiz ⟨.inr rfl,_,rfl,?_⟩;(try simp (disch:=omega) only [push_cast,seval]))))
    · exact ⟨(x1,y1,d),hxy,by (refine Sub.of_lists ?_ ?_ ?_ ?_ ?_<;>simp [Vw.mkS,Vw.lk,Vw.hk,AV.inn,innL,Asz,Aoz,Atz,-List.map_set,-List.getD_eq_getElem?_getD])⟩
    · refine ⟨?_⟩
      rintro ⟨x,y,d⟩ hxy
      try simp only at hxy ⊢
      have hC:(t0 (sdT (x,y) d)).1.length ≤ 60 ∧ (t0 (sdT (x,y) d)).2.length ≤ 60:=by
        unfold sdT
        split
        · exact ctT_short
        · simp [t0]
      cases hct:sdT (x,y) d with
 | none =>
        rw [hct] at hC
        obtain ⟨⟨Q,R⟩,hP⟩:∃ p:Tn,t0 none=p:=⟨_,rfl⟩
        rw [hP] at hC
        simp only at hC
        obtain ⟨hC1,hC2⟩:=hC
        (repeat' (first
 | (first|refine Alz ?_|refine Aez ?_)
 | ((first|refine Amz ?_|refine Arz (mid:=l5r8a) (post:=l5r8b) Awz (by decide) ?_|refine Adz ?_|refine Agz ?_|refine Ahz ?_);simp (disch:=omega) only [push_cast,seval,l5r0,l5r1,l5r2,l5r3,l5r4,l5r5,l5r6,l5r7,l5r8a,l5r8b,l5r8,hct,hP,Option.isSome_none,decide_true])
 | ((first|refine Aaz ?_ ?_|refine Acz ?_ ?_|refine Abz ?_ ?_)<;>intro h<;>(try simp only [h])<;>(try simp only [bitvec_to_nat] at h)<;>(try simp only [h])<;>(first|(exfalso;omega)|(exfalso;simp_all;done)|(simp (disch:=omega) only [push_cast,seval,hct,hP,Option.isSome_none,decide_true])|skip))
 | ((first|refine Aqz false ?_|refine qcallD_of false ?_);simp (disch:=omega) only [push_cast,seval,hct,hP,Option.isSome_none,decide_true])
 | ((first|(refine call0D (BCall.ofP (Frz _ _ ?_ ?_)) ?_;(iterate 2 (exact sd));rintro _ _ ⟨⟨x1,y1,d,hxy,rfl⟩,rfl⟩)|((first|refine call0D (iSD_ok _ _ _ _ _ ?_ ?_ ?_) ?_|refine qcall0D (iSD_ok _ _ _ _ _ ?_ ?_ ?_) ⟨_,_,rfl,rfl⟩ ?_);(iterate 3 (exact sd));rintro _ _ ⟨rfl,rfl⟩)|((first|refine call0D (sSD_ok _ _ _ _ _ ?_ ?_ ?_) ?_|refine qcall0D (sSD_ok _ _ _ _ _ ?_ ?_ ?_) ⟨_,_,rfl,rfl⟩ ?_);(iterate 3 (exact sd));rintro _ _ ⟨rfl,rfl⟩)|((first|refine call0D (BCall.ofP (lequT_ok _ _ _ _ _ _ _ _ ?_ ?_)) ?_|refine qcall0D (BCall.ofP (lequT_ok _ _ _ _ _ _ _ _ ?_ ?_)) ⟨_,_,rfl,rfl⟩ ?_);(iterate 2 (exact sd));rintro _ _ ⟨rfl,rfl⟩)|((first|refine call0D (BCall.ofP (totalB_ok _ _ ?_ ?_)) ?_|refine qcall0D (BCall.ofP (totalB_ok _ _ ?_ ?_)) ⟨_,_,rfl,rfl⟩ ?_);(iterate 2 (exact sd));rintro _ _ ⟨rfl,rfl⟩)|((first|refine call0D (lwithout_ok _ _ _ ?_ ?_) ?_|refine qcall0D (lwithout_ok _ _ _ ?_ ?_) ⟨_,_,rfl,rfl⟩ ?_);(iterate 2 (exact sd));rintro _ _ ⟨rfl,rfl⟩)|((first|refine call0D (BCall.ofP (equalInts_ok _ _ _ _ ?_ ?_ ?_)) ?_|refine qcall0D (BCall.ofP (equalInts_ok _ _ _ _ ?_ ?_ ?_)) ⟨_,_,rfl,rfl⟩ ?_);(iterate 3 (exact sd));rintro _ _ ⟨rfl,rfl⟩))<;>(try simp (disch:=omega) only [push_cast,seval,hct,hP,Option.isSome_none,decide_true]))
 | (refine Aiz ⟨.inr rfl,_,rfl,?_⟩;(try simp (disch:=omega) only [push_cast,seval,hct,hP,Option.isSome_none,decide_true]))))
        all_goals (try simp)
 | some o =>
        rw [hct] at hC
        obtain ⟨⟨hvt,hvo,hd0,hd1⟩,ho1,htot⟩:=sd_total hct
        have hb1:=(Bnz.1 hvt).2.2
        have hb2:=(Bnz.1 hvo).2.2
        obtain ⟨Q,R⟩:=o
        simp only [Cnz] at hC ho1 htot hb1 hb2 hd1
        obtain ⟨hC1,hC2⟩:=hC
        obtain ⟨k,rfl⟩:∃ k:Nat,d=k:=⟨d.toNat,by omega⟩
        rw [Int.toNat_natCast] at ho1
        have q5:y.length ≤ 100 ∧ ∀ v ∈ y,-1000000 ≤ v ∧ v ≤ 1000000:=⟨by omega,hb1⟩
        have q6:R.length ≤ 100 ∧ ∀ v ∈ R,-1000000 ≤ v ∧ v ≤ 1000000:=⟨by omega,hb2⟩
        have q7:k < x.length ∧ x.length ≤ 1099511627776:=⟨by omega,by omega⟩
        (repeat' (first
 | (first|refine Alz ?_|refine Aez ?_)
 | ((first|refine Amz ?_|refine Arz (mid:=l5r8a) (post:=l5r8b) Awz (by decide) ?_|refine Adz ?_|refine Agz ?_|refine Ahz ?_);simp (disch:=omega) only [push_cast,seval,l5r0,l5r1,l5r2,l5r3,l5r4,l5r5,l5r6,l5r7,l5r8a,l5r8b,l5r8,hct,Cnz,htot,← ho1,Option.isSome_some,decide_true])
 | ((first|refine Aaz ?_ ?_|refine Acz ?_ ?_|refine Abz ?_ ?_)<;>intro h<;>(try simp only [h])<;>(try simp only [bitvec_to_nat] at h)<;>(try simp only [h])<;>(first|(exfalso;omega)|(exfalso;simp_all;done)|(simp (disch:=omega) only [push_cast,seval,hct,Cnz,htot,← ho1,Option.isSome_some,decide_true])|skip))
 | ((first|refine Aqz false ?_|refine qcallD_of false ?_);simp (disch:=omega) only [push_cast,seval,hct,Cnz,htot,← ho1,Option.isSome_some,decide_true])
 | ((first|(refine call0D (BCall.ofP (Frz _ _ ?_ ?_)) ?_;(iterate 2 (exact sd));rintro _ _ ⟨⟨x1,y1,d,hxy,rfl⟩,rfl⟩)|((first|refine call0D (iSD_ok _ _ _ _ _ ?_ ?_ ?_) ?_|refine qcall0D (iSD_ok _ _ _ _ _ ?_ ?_ ?_) ⟨_,_,rfl,rfl⟩ ?_);(iterate 3 (exact sd));rintro _ _ ⟨rfl,rfl⟩)|((first|refine call0D (sSD_ok _ _ _ _ _ ?_ ?_ ?_) ?_|refine qcall0D (sSD_ok _ _ _ _ _ ?_ ?_ ?_) ⟨_,_,rfl,rfl⟩ ?_);(iterate 3 (exact sd));rintro _ _ ⟨rfl,rfl⟩)|((first|refine call0D (BCall.ofP (lequT_ok _ _ _ _ _ _ _ _ ?_ ?_)) ?_|refine qcall0D (BCall.ofP (lequT_ok _ _ _ _ _ _ _ _ ?_ ?_)) ⟨_,_,rfl,rfl⟩ ?_);(iterate 2 (exact sd));rintro _ _ ⟨rfl,rfl⟩)|((first|refine call0D (BCall.ofP (totalB_ok _ _ ?_ ?_)) ?_|refine qcall0D (BCall.ofP (totalB_ok _ _ ?_ ?_)) ⟨_,_,rfl,rfl⟩ ?_);(iterate 2 (exact sd));rintro _ _ ⟨rfl,rfl⟩)|((first|refine call0D (lwithout_ok _ _ _ ?_ ?_) ?_|refine qcall0D (BCall.ofP (plainI (lwithout_ok _ _ _ ?_ ?_))) ⟨_,_,rfl,rfl⟩ ?_);(iterate 2 (exact sd));rintro _ _ ⟨rfl,rfl⟩)|((first|refine call0D (BCall.ofP (equalInts_ok _ _ _ _ ?_ ?_ ?_)) ?_|refine qcall0D (BCall.ofP (equalInts_ok _ _ _ _ ?_ ?_ ?_)) ⟨_,_,rfl,rfl⟩ ?_);(iterate 3 (exact sd));rintro _ _ ⟨rfl,rfl⟩))<;>(try simp (disch:=omega) only [push_cast,seval,hct,Cnz,htot,← ho1,Option.isSome_some,decide_true]))
 | (refine Aiz ⟨.inr rfl,_,rfl,?_⟩;(try simp (disch:=omega) only [push_cast,seval,hct,Cnz,htot,← ho1,Option.isSome_some,decide_true]))))
        all_goals (try simp [ho1])
  · (repeat' (first
 | (first|refine Alz ?_|refine Aez ?_)
 | ((first|refine Amz ?_|refine Arz (mid:=l5r8a) (post:=l5r8b) Awz (by decide) ?_|refine Adz ?_|refine Agz ?_|refine Ahz ?_);simp (disch:=omega) only [push_cast,seval,l5r0,l5r1,l5r2,l5r3,l5r4,l5r5,l5r6,l5r7,l5r8a,l5r8b,l5r8])
 | ((first|refine Aaz ?_ ?_|refine Acz ?_ ?_|refine Abz ?_ ?_)<;>intro h<;>(try simp only [h])<;>(try simp only [bitvec_to_nat] at h)<;>(try simp only [h])<;>(first|(exfalso;omega)|(exfalso;simp_all;done)|(simp (disch:=omega) only [push_cast,seval])|skip))
 | ((first|refine Aqz false ?_|refine qcallD_of false ?_);simp (disch:=omega) only [push_cast,seval])
 | ((first|(refine call0D (BCall.ofP (Frz _ _ ?_ ?_)) ?_;(iterate 2 (exact sd));rintro _ _ ⟨⟨x1,y1,d,hxy,rfl⟩,rfl⟩)|((first|refine call0D (iSD_ok _ _ _ _ _ ?_ ?_ ?_) ?_|refine qcall0D (iSD_ok _ _ _ _ _ ?_ ?_ ?_) ⟨_,_,rfl,rfl⟩ ?_);(iterate 3 (exact sd));rintro _ _ ⟨rfl,rfl⟩)|((first|refine call0D (sSD_ok _ _ _ _ _ ?_ ?_ ?_) ?_|refine qcall0D (sSD_ok _ _ _ _ _ ?_ ?_ ?_) ⟨_,_,rfl,rfl⟩ ?_);(iterate 3 (exact sd));rintro _ _ ⟨rfl,rfl⟩)|((first|refine call0D (BCall.ofP (lequT_ok _ _ _ _ _ _ _ _ ?_ ?_)) ?_|refine qcall0D (BCall.ofP (lequT_ok _ _ _ _ _ _ _ _ ?_ ?_)) ⟨_,_,rfl,rfl⟩ ?_);(iterate 2 (exact sd));rintro _ _ ⟨rfl,rfl⟩)|((first|refine call0D (BCall.ofP (totalB_ok _ _ ?_ ?_)) ?_|refine qcall0D (BCall.ofP (totalB_ok _ _ ?_ ?_)) ⟨_,_,rfl,rfl⟩ ?_);(iterate 2 (exact sd));rintro _ _ ⟨rfl,rfl⟩)|((first|refine call0D (lwithout_ok _ _ _ ?_ ?_) ?_|refine qcall0D (lwithout_ok _ _ _ ?_ ?_) ⟨_,_,rfl,rfl⟩ ?_);(iterate 2 (exact sd));rintro _ _ ⟨rfl,rfl⟩)|((first|refine call0D (BCall.ofP (equalInts_ok _ _ _ _ ?_ ?_ ?_)) ?_|refine qcall0D (BCall.ofP (equalInts_ok _ _ _ _ ?_ ?_ ?_)) ⟨_,_,rfl,rfl⟩ ?_);(iterate 3 (exact sd));rintro _ _ ⟨rfl,rfl⟩))<;>(try simp (disch:=omega) only [push_cast,seval]))
 | (refine Aiz ⟨.inr rfl,_,rfl,?_⟩;(try simp (disch:=omega) only [push_cast,seval]))))

end Go.Proofs.Ytfmogaimamphdaa
set_option linter.unusedSimpArgs false
set_option linter.unusedVariables false
set_option maxRecDepth 4000
set_option maxHeartbeats 4000000
namespace Go.Proofs.Ytfmogaimamphdaa
open VwM Vw Go

theorem dig20 {N K:Nat} {p:Nat} (hp:p < N * K):dig [(N:Int),(K:Int)] p 0=((p / K:Nat):Int):=by
  have h1:p / K < N:=Nat.div_lt_of_lt_mul (by rw [Nat.mul_comm];exact hp)
  show ((p:Int).tdiv (K:Int)).tmod (N:Int)=_
  rw [← Int.ofNat_tdiv,← Int.ofNat_tmod,Nat.mod_eq_of_lt h1]
theorem dig21 {N K:Nat} {p:Nat}:dig [(N:Int),(K:Int)] p 1=((p % K:Nat):Int):=by
  show (p:Int).tmod (K:Int)=_
  rw [← Int.ofNat_tmod]
theorem pr2 (a b:Int):pr [a,b]=a * b:=by simp [pr]
theorem row2 (a b:Int):rowS [a,b]=[b,1]:=by simp [rowS,List.range_succ,pr]
theorem D0z {j M l:Nat} (h:l < M):(j * M + l) / M=j ∧ (j * M + l) % M=l:=by
  have h0:0 < M:=by omega
  rw [Nat.mul_comm]
  exact ⟨by rw [Nat.mul_add_div h0,Nat.div_eq_of_lt h,Nat.add_zero],by rw [Nat.mul_add_mod,Nat.mod_eq_of_lt h]⟩
/-- The product of two matrices,value by value. -/
def mmV (a b:List Int) (M K i j:Nat):Int:=sumN M fun l=>a.getD (i * M + l) 0 * b.getD (l * K + j) 0
def mmL (a b:List Int) (N M K:Nat):List Int:=(List.range (N * K)).map fun p=>w64 (mmV a b M K (p / K) (p % K))
theorem mmL_at {a b:List Int} {N M K p:Nat} (hp:p < N * K):(mmL a b N M K).getD p 0=w64 (mmV a b M K (p / K) (p % K)):=by simp [mmL,List.getD,hp]
theorem mm_shape {a b:Tn} {e:List Int} (he:exO [a,b] [[0,1],[1,2]]=some e):∃ N M K:Nat,a.1=[(N:Int),(M:Int)] ∧ b.1=[(M:Int),(K:Int)] ∧ vT a=true ∧ vT b=true ∧ gE e 0=N ∧ gE e 1=M ∧ gE e 2=K:=by
  have hC:=Cpz he
  have hv:=(Elz he).1
  simp only [List.all_cons,List.all_nil,Bool.and_true,Bool.and_eq_true] at hv
  have a1:=(hC.lab 0 a [0,1] rfl rfl).2
  have b1:=(hC.lab 1 b [1,2] rfl rfl).2
  obtain ⟨x,y⟩:=a
  obtain ⟨x',y'⟩:=b
  match x,x',a1,b1,hv with
  | [p,q],[r,s],a1,b1,hv =>
    have e0:=a1.2.2 0 (by simp)
    have e1:=a1.2.2 1 (by simp)
    have e2:=b1.2.2 0 (by simp)
    have e3:=b1.2.2 1 (by simp)
    simp only [List.getD_cons_zero,List.getD_cons_succ] at e0 e1 e2 e3
    have u0:=(hC.used 0 (by simp)).2
    have u1:=(hC.used 1 (by simp)).2
    have u2:=(hC.used 2 (by simp)).2
    refine ⟨(gE e 0).toNat,(gE e 1).toNat,(gE e 2).toNat,?_,?_,hv.1,hv.2,by omega,by omega,by omega⟩
    · simp only [List.cons.injEq,and_true];omega
    · simp only [List.cons.injEq,and_true];omega
theorem mm_ex {a b:Tn} {N M K:Nat} (ha:a.1=[(N:Int),(M:Int)]) (hb:b.1=[(M:Int),(K:Int)]) (va:vT a=true) (vb:vT b=true):∃ e,exO [a,b] [[0,1],[1,2]]=some e :=
  ex_of (fun x=>if x=0 then N else if x=1 then M else K) (by simp [va,vb]) (by simp) rfl fun i t l ht hl=>by
    match i,ht,hl with
    | 0,ht,hl =>
      simp only [List.getElem?_cons_zero,Option.some.injEq] at ht hl
      subst ht hl
      refine ⟨by rw [ha];rfl,by decide,fun j hj=>?_⟩
      rw [ha]
      have:j=0 ∨ j=1:=by simp at hj;omega
      rcases this with rfl|rfl<;>simp
    | 1,ht,hl =>
      simp only [List.getElem?_cons_zero,List.getElem?_cons_succ,Option.some.injEq] at ht hl
      subst ht hl
      refine ⟨by rw [hb];rfl,by decide,fun j hj=>?_⟩
      rw [hb]
      have:j=0 ∨ j=1:=by simp at hj;omega
      rcases this with rfl|rfl<;>simp
theorem mm_ctW {a b:Tn} {N M K:Nat} {e:List Int} (ha:a.1=[(N:Int),(M:Int)]) (hb:b.1=[(M:Int),(K:Int)]) (h0:gE e 0=N) (h1:gE e 1=M) (h2:gE e 2=K):ctW [a,b] [[0,1],[1,2]] [0,2] e=([(N:Int),(K:Int)],mmL a.2 b.2 N M K):=by
  have hO:[0,2].map (gE e)=[(N:Int),(K:Int)]:=by simp [h0,h2]
  unfold ctW
  rw [hO]
  congr 1
  have hn:(pr [(N:Int),(K:Int)]).toNat=N * K:=by rw [pr2,← Int.natCast_mul,Int.toNat_natCast]
  rw [hn]
  unfold ctV mmL
  refine List.map_congr_left fun p hp=>?_
  rw [List.mem_range] at hp
  congr 1
  unfold ctE
  have hsd:sumd [[0,1],[1,2]] [0,2]=[1]:=by decide
  rw [hsd]
  have hn2:([0,2]:List Int).Nodup:=by decide
  have w0:=G2z (e:=e) (w:=Z5) (k:=(p:Int)) hn2 (Eyz rfl (by decide)) (i:=0) (x:=0) rfl
  have w2:=G2z (e:=e) (w:=Z5) (k:=(p:Int)) hn2 (Eyz rfl (by decide)) (i:=1) (x:=2) rfl
  rw [hO] at w0 w2
  rw [dig20 hp] at w0
  rw [dig21] at w2
  have wl:(wayK e [0,2] Z5 p).length=5:=by rw [Cqz];rfl
  generalize wayK e [0,2] Z5 p=W at *
  show sumN (gE e 1).toNat _=mmV a.2 b.2 M K (p / K) (p % K)
  rw [h1,Int.toNat_natCast]
  unfold mmV
  refine A9z fun l hl=>?_
  show gP [a,b] [[0,1],[1,2]] (W.set 1 (l:Int))=_
  have gs:∀ y:Int,0 ≤ y → gE (W.set 1 (l:Int)) y=if y=1 then (l:Int) else gE W y:=fun y hy=>Glz (w:=W) (x:=1) ⟨by decide,by show 1 < W.length;omega⟩ hy
  have g0:gE (W.set 1 (l:Int)) 0=((p / K:Nat):Int):=(gs 0 (by decide)).trans ((if_neg (by decide)).trans w0)
  have g1:gE (W.set 1 (l:Int)) 1=(l:Int):=(gs 1 (by decide)).trans (if_pos rfl)
  have g2:gE (W.set 1 (l:Int)) 2=((p % K:Nat):Int):=(gs 2 (by decide)).trans ((if_neg (by decide)).trans w2)
  show tv a [0,1] (W.set 1 (l:Int)) * (tv b [1,2] (W.set 1 (l:Int)) * 1)=_
  have t1:tv a [0,1] (W.set 1 (l:Int))=a.2.getD (p / K * M + l) 0:=by
    unfold tv
    rw [ha,row2]
    have:dot (fun d=>gE (W.set 1 (l:Int)) (([0,1]:List Int).getD d 0)) [(M:Int),1] 2=((p / K * M + l:Nat):Int):=by
      simp only [dot,List.getD_cons_zero,List.getD_cons_succ,g0,g1]
      push_cast
      omega
    show a.2.getD (dot _ _ 2).toNat 0=_
    rw [this,Int.toNat_natCast]
  have t2:tv b [1,2] (W.set 1 (l:Int))=b.2.getD (l * K + p % K) 0:=by
    unfold tv
    rw [hb,row2]
    have:dot (fun d=>gE (W.set 1 (l:Int)) (([1,2]:List Int).getD d 0)) [(K:Int),1] 2=((l * K + p % K:Nat):Int):=by
      simp only [dot,List.getD_cons_zero,List.getD_cons_succ,g1,g2]
      push_cast
      omega
    show b.2.getD (dot _ _ 2).toNat 0=_
    rw [this,Int.toNat_natCast]
  rw [t1,t2,Int.mul_one]
/-- When the product of two matrices is possible,and what it is. -/
theorem mm_form {a b:Tn} {N M K:Nat} (ha:a.1=[(N:Int),(M:Int)]) (hb:b.1=[(M:Int),(K:Int)]) (va:vT a=true) (vb:vT b=true):mmT a b=if (vT ([(N:Int),(K:Int)],mmL a.2 b.2 N M K) && decide (N * K * M ≤ 4000))=true then some ([(N:Int),(K:Int)],mmL a.2 b.2 N M K) else none:=by
  obtain ⟨e,he⟩:=mm_ex ha hb va vb
  obtain ⟨N',M',K',ha',hb',_,_,h0,h1,h2⟩:=mm_shape he
  rw [ha] at ha'
  rw [hb] at hb'
  simp only [List.cons.injEq,and_true] at ha' hb'
  obtain rfl:N=N':=by omega
  obtain rfl:M=M':=by omega
  obtain rfl:K=K':=by omega
  have hW:=mm_ctW ha hb h0 h1 h2
  have hC:=Cpz he
  have hsp:=sp_out hC (out:=[0,2]) (by decide) (by decide)
  have hsd:sumd [[0,1],[1,2]] [0,2]=[1]:=by decide
  have hO:[0,2].map (gE e)=[(N:Int),(K:Int)]:=by simp [h0,h2]
  rw [hsd,hO,pr2] at hsp
  have hp1:pr (([1]:List Int).map (gE e))=M:=by simp [pr,h1]
  rw [hp1,← Int.natCast_mul,← Int.natCast_mul] at hsp
  unfold mmT ctT
  rw [he]
  simp only [Option.bind_some]
  rw [hW]
  cases hvt:vT ([(N:Int),(K:Int)],mmL a.2 b.2 N M K) with
  | false=>simp
  | true =>
    have hvs:=(Bnz.1 hvt).1
    simp only at hvs
    have hcc:ctC [0,2] e=decide (N * K * M ≤ 4000):=by
      unfold ctC
      rw [hO,hvs,hsp]
      have:(allI [0,2] 0 4 && decide ([0,2]:List Int).Nodup)=true:=by decide
      rw [this]
      simp only [Bool.true_and]
      congr 1
      apply propext
      omega
    rw [hcc]
    simp
/-- A turned matrix,value by value. -/
def tL (v:List Int) (N M:Nat):List Int:=(List.range (M * N)).map fun p=>v.getD (p % N * M + p / N) 0
theorem tL_at {v:List Int} {N M j i:Nat} (hj:j < M) (hi:i < N):(tL v N M).getD (j * N + i) 0=v.getD (i * M + j) 0:=by
  have hlt:j * N + i < M * N:=by
    have:(j + 1) * N ≤ M * N:=Nat.mul_le_mul_right N hj
    rw [Nat.succ_mul] at this
    omega
  obtain ⟨h1,h2⟩:=D0z (j:=j) hi
  simp [tL,List.getD,hlt,h1,h2]
theorem Izz {t:Tn} {N M:Nat} (h:t.1=[(N:Int),(M:Int)]) (hv:vT t=true):turnT t [1,0]=([(M:Int),(N:Int)],tL t.2 N M):=by
  unfold turnT
  rw [h,row2]
  have h1:permL [(N:Int),(M:Int)] [1,0]=[(M:Int),(N:Int)]:=rfl
  have h2:permL [(M:Int),(1:Int)] [1,0]=[1,(M:Int)]:=rfl
  rw [h1,h2]
  congr 1
  have hn:(pr [(M:Int),(N:Int)]).toNat=M * N:=by rw [pr2,← Int.natCast_mul,Int.toNat_natCast]
  unfold takesL offs tL
  rw [hn,List.map_map]
  refine List.map_congr_left fun p hp=>?_
  rw [List.mem_range] at hp
  simp only [Function.comp_def]
  have:cellK 0 [(M:Int),(N:Int)] [1,(M:Int)] p=((p % N * M + p / N:Nat):Int):=by
    unfold cellK
    show 0 + dot (dig [(M:Int),(N:Int)] p) [1,(M:Int)] 2=_
    simp only [dot,List.getD_cons_zero,List.getD_cons_succ]
    rw [dig20 hp,dig21]
    push_cast
    omega
  rw [this,Int.toNat_natCast]
theorem mm_turn {a b o:Tn} (h:mmT a b=some o):(vT a=true ∧ ordB [1,0] a.1.length=true) ∧ (vT b=true ∧ ordB [1,0] b.1.length=true) ∧ (vT o=true ∧ ordB [1,0] o.1.length=true) ∧ mmT (turnT b [1,0]) (turnT a [1,0])=some (turnT o [1,0]):=by
  obtain ⟨e,he,_⟩:=Jnz h
  obtain ⟨N,M,K,ha,hb,va,vb,_⟩:=mm_shape he
  rw [mm_form ha hb va vb] at h
  split at h
  case isFalse=>cases h
  rename_i hc
  injection h with h
  rw [Bool.and_eq_true,decide_eq_true_eq] at hc
  obtain ⟨hvo,hcost⟩:=hc
  rw [h] at hvo
  have ho1:o.1=[(N:Int),(K:Int)]:=by rw [← h]
  have q:=ordB_of ord2
  refine ⟨⟨va,by rw [ha];exact q⟩,⟨vb,by rw [hb];exact q⟩,⟨hvo,by rw [ho1];exact q⟩,?_⟩
  have hta:=Izz ha va
  have htb:=Izz hb vb
  have hto:=Izz ho1 hvo
  have vta:=Fzz va (order:=[1,0]) (by rw [ha];exact ord2)
  have vtb:=Fzz vb (order:=[1,0]) (by rw [hb];exact ord2)
  have vto:=Fzz hvo (order:=[1,0]) (by rw [ho1];exact ord2)
  rw [mm_form (N:=K) (M:=M) (K:=N) (by rw [htb]) (by rw [hta]) vtb vta]
  have hL:mmL (turnT b [1,0]).2 (turnT a [1,0]).2 K M N=tL o.2 N K:=by
    rw [hta,htb]
    unfold tL mmL
    refine List.map_congr_left fun p hp=>?_
    rw [List.mem_range] at hp
    have hN:0 < N:=by
      rcases Nat.eq_zero_or_pos N with h0|h0
      · subst h0;simp at hp
      · exact h0
    have hi:p % N < N:=Nat.mod_lt _ hN
    have hj:p / N < K:=Nat.div_lt_of_lt_mul (by rw [Nat.mul_comm];exact hp)
    have hlt:p % N * K + p / N < N * K:=by
      have:(p % N + 1) * K ≤ N * K:=Nat.mul_le_mul_right K hi
      rw [Nat.succ_mul] at this
      omega
    rw [← h]
    simp only
    rw [mmL_at hlt,(D0z hj).1,(D0z hj).2]
    congr 1
    unfold mmV
    refine A9z fun l hl=>?_
    rw [Int.mul_comm]
    congr 1
    · exact tL_at hl hi
    · exact tL_at hj hl
  rw [hL]
  rw [hto] at vto ⊢
  rw [vto,show K * N * M=N * K * M by rw [Nat.mul_comm K N]]
  simp [hcost]

end Go.Proofs.Ytfmogaimamphdaa
set_option linter.unusedSimpArgs false
set_option linter.unusedVariables false
set_option maxRecDepth 4000
set_option maxHeartbeats 4000000
namespace Go.Proofs.Ytfmogaimamphdaa
open VwM Vw Go

set_option maxHeartbeats 32000000 in
theorem fMM_ok (bs:List Int) (hl:bs.length ≤ 9223372036854775807) (hb:∀ x ∈ bs,0 ≤ x ∧ x ≤ 255):PCall Try.prog 3 [.rows false (UL bs) bs.length] (fun r=>r=.bool true):=by
  refine Ayz l3_eq rfl ?_
  by_cases h:bs.length ≤ 1048576
  · have q:bs.length ≤ 1099511627776 ∧ ∀ x ∈ bs,0 ≤ x ∧ x ≤ 255:=⟨by omega,hb⟩
    (repeat' (first
 | (refine H3z (c1:=.reg l3r3) (fun x:List Int × List Int × List Int × List Int=>mkS [(3,.ref 48 2 0),(4,.ref 64 2 0)] [(48,[.rows true (IL x.1) x.1.length,.rows true (IL x.2.1) x.2.1.length]),(64,[.rows true (IL x.2.2.1) x.2.2.1.length,.rows true (IL x.2.2.2) x.2.2.2.length])]) (fun x=>(x.1.length ≤ 5 ∧ x.2.1.length ≤ 61) ∧ x.2.2.1.length ≤ 5 ∧ x.2.2.2.length ≤ 61) ?_ ?_)
 | (first|refine Alz ?_|refine Aez ?_)
 | ((first|refine Amz ?_|refine Bez (mid:=l3r8a) (post:=l3r8b) [144,1000000009,2000000144] Awz (by decide) ?_|refine Arz (mid:=l3r9a) (post:=l3r9b) Awz (by decide) ?_|refine Adz ?_|refine Agz ?_|refine Ahz ?_);simp (disch:=omega) only [push_cast,seval,l3r0,l3r1,l3r2,l3r3,l3r4,l3r5,l3r6,l3r7,l3r8a,l3r8b,l3r8,l3r9a,l3r9b,l3r9])
 | ((first|refine Aaz ?_ ?_|refine Acz ?_ ?_|refine Abz ?_ ?_)<;>intro h<;>(try simp only [h])<;>(try simp only [bitvec_to_nat] at h)<;>(try simp only [h])<;>(first|(exfalso;omega)|(exfalso;simp_all;done)|(simp (disch:=omega) only [push_cast,seval])|skip))
 | ((first|refine Aqz false ?_|refine qcallD_of false ?_);simp (disch:=omega) only [push_cast,seval])
 | ((first|(refine call0D (BCall.ofP (Fsz _ _ ?_ ?_)) ?_;(iterate 2 (exact sd));rintro _ _ ⟨⟨x1,y1,x2,y2,hxy,rfl⟩,rfl⟩)|((first|refine call0D (iMM_ok _ _ _ _ _ _ _ _ ?_ ?_) ?_|refine qcall0D (iMM_ok _ _ _ _ _ _ _ _ ?_ ?_) ⟨_,_,rfl,rfl⟩ ?_);(iterate 2 (exact sd));rintro _ _ ⟨rfl,rfl⟩)|((first|refine call0D (sMM_ok _ _ _ _ _ _ _ _ ?_ ?_) ?_|refine qcall0D (sMM_ok _ _ _ _ _ _ _ _ ?_ ?_) ⟨_,_,rfl,rfl⟩ ?_);(iterate 2 (exact sd));rintro _ _ ⟨rfl,rfl⟩)|((first|refine call0D (BCall.ofP (lequT_ok _ _ _ _ _ _ _ _ ?_ ?_)) ?_|refine qcall0D (BCall.ofP (lequT_ok _ _ _ _ _ _ _ _ ?_ ?_)) ⟨_,_,rfl,rfl⟩ ?_);(iterate 2 (exact sd));rintro _ _ ⟨rfl,rfl⟩)|((first|refine call0D (iTT10_ok _ _ _ _ ?_ ?_) ?_|refine qcall0D (iTT10_ok _ _ _ _ ?_ ?_) ⟨_,_,rfl,rfl⟩ ?_);(iterate 2 (exact sd));rintro _ _ ⟨rfl,rfl⟩))<;>(try simp (disch:=omega) only [push_cast,seval]))
 | (refine Aiz ⟨.inr rfl,_,rfl,?_⟩;(try simp (disch:=omega) only [push_cast,seval]))))
    · exact ⟨(x1,y1,x2,y2),hxy,by (refine Sub.of_lists ?_ ?_ ?_ ?_ ?_<;>simp [Vw.mkS,Vw.lk,Vw.hk,AV.inn,innL,Asz,Aoz,Atz,-List.map_set,-List.getD_eq_getElem?_getD])⟩
    · refine ⟨?_⟩
      rintro ⟨x1,y1,x2,y2⟩ hxy
      try simp only at hxy ⊢
      have hC:(t0 (mmT (x1,y1) (x2,y2))).1.length ≤ 60 ∧ (t0 (mmT (x1,y1) (x2,y2))).2.length ≤ 60:=ctT_short
      cases hct:mmT (x1,y1) (x2,y2) with
 | none =>
        rw [hct] at hC
        obtain ⟨⟨Q,R⟩,hP⟩:∃ p:Tn,t0 none=p:=⟨_,rfl⟩
        rw [hP] at hC
        simp only at hC
        obtain ⟨hC1,hC2⟩:=hC
        (repeat' (first
 | (first|refine Alz ?_|refine Aez ?_)
 | ((first|refine Amz ?_|refine Bez (mid:=l3r8a) (post:=l3r8b) [144,1000000009,2000000144] Awz (by decide) ?_|refine Arz (mid:=l3r9a) (post:=l3r9b) Awz (by decide) ?_|refine Adz ?_|refine Agz ?_|refine Ahz ?_);simp (disch:=omega) only [push_cast,seval,l3r0,l3r1,l3r2,l3r3,l3r4,l3r5,l3r6,l3r7,l3r8a,l3r8b,l3r8,l3r9a,l3r9b,l3r9,hct,hP,Option.isSome_none,decide_true])
 | ((first|refine Aaz ?_ ?_|refine Acz ?_ ?_|refine Abz ?_ ?_)<;>intro h<;>(try simp only [h])<;>(try simp only [bitvec_to_nat] at h)<;>(try simp only [h])<;>(first|(exfalso;omega)|(exfalso;simp_all;done)|(simp (disch:=omega) only [push_cast,seval,hct,hP,Option.isSome_none,decide_true])|skip))
 | ((first|refine Aqz false ?_|refine qcallD_of false ?_);simp (disch:=omega) only [push_cast,seval,hct,hP,Option.isSome_none,decide_true])
 | ((first|(refine call0D (BCall.ofP (Fsz _ _ ?_ ?_)) ?_;(iterate 2 (exact sd));rintro _ _ ⟨⟨x1,y1,x2,y2,hxy,rfl⟩,rfl⟩)|((first|refine call0D (iMM_ok _ _ _ _ _ _ _ _ ?_ ?_) ?_|refine qcall0D (iMM_ok _ _ _ _ _ _ _ _ ?_ ?_) ⟨_,_,rfl,rfl⟩ ?_);(iterate 2 (exact sd));rintro _ _ ⟨rfl,rfl⟩)|((first|refine call0D (sMM_ok _ _ _ _ _ _ _ _ ?_ ?_) ?_|refine qcall0D (sMM_ok _ _ _ _ _ _ _ _ ?_ ?_) ⟨_,_,rfl,rfl⟩ ?_);(iterate 2 (exact sd));rintro _ _ ⟨rfl,rfl⟩)|((first|refine call0D (BCall.ofP (lequT_ok _ _ _ _ _ _ _ _ ?_ ?_)) ?_|refine qcall0D (BCall.ofP (lequT_ok _ _ _ _ _ _ _ _ ?_ ?_)) ⟨_,_,rfl,rfl⟩ ?_);(iterate 2 (exact sd));rintro _ _ ⟨rfl,rfl⟩)|((first|refine call0D (iTT10_ok _ _ _ _ ?_ ?_) ?_|refine qcall0D (iTT10_ok _ _ _ _ ?_ ?_) ⟨_,_,rfl,rfl⟩ ?_);(iterate 2 (exact sd));rintro _ _ ⟨rfl,rfl⟩))<;>(try simp (disch:=omega) only [push_cast,seval,hct,hP,Option.isSome_none,decide_true]))
 | (refine Aiz ⟨.inr rfl,_,rfl,?_⟩;(try simp (disch:=omega) only [push_cast,seval,hct,hP,Option.isSome_none,decide_true]))))
        all_goals (try simp)
 | some o =>
        rw [hct] at hC
        obtain ⟨⟨va,oa⟩,⟨vb,ob⟩,⟨vo,oo⟩,hmt⟩:=mm_turn hct
        have ta:=G4z va oa
        have tb:=G4z vb ob
        have to:=G4z vo oo
        have lta:=Ffz va (Fnz oa)
        have ltb:=Ffz vb (Fnz ob)
        have lto:=Ffz vo (Fnz oo)
        generalize turnT (x1,y1) [1,0]=A at *
        generalize turnT (x2,y2) [1,0]=B at *
        generalize turnT o [1,0]=O at *
        obtain ⟨Q,R⟩:=o
        obtain ⟨A1,A2⟩:=A
        obtain ⟨B1,B2⟩:=B
        obtain ⟨O1,O2⟩:=O
        simp only [Cnz] at hC lta ltb lto
        obtain ⟨hC1,hC2⟩:=hC
        obtain ⟨_,la1,la2⟩:=lta
        obtain ⟨_,lb1,lb2⟩:=ltb
        obtain ⟨_,lo1,lo2⟩:=lto
        (repeat' (first
 | (first|refine Alz ?_|refine Aez ?_)
 | ((first|refine Amz ?_|refine Bez (mid:=l3r8a) (post:=l3r8b) [144,1000000009,2000000144] Awz (by decide) ?_|refine Bez (mid:=l3r9a) (post:=l3r9b) [] Awz (by decide) ?_|refine Adz ?_|refine Agz ?_|refine Ahz ?_);simp (disch:=omega) only [push_cast,seval,l3r0,l3r1,l3r2,l3r3,l3r4,l3r5,l3r6,l3r7,l3r8a,l3r8b,l3r8,l3r9a,l3r9b,l3r9,hct,ta,tb,to,hmt,Cnz,Option.isSome_some,decide_true])
 | ((first|refine Aaz ?_ ?_|refine Acz ?_ ?_|refine Abz ?_ ?_)<;>intro h<;>(try simp only [h])<;>(try simp only [bitvec_to_nat] at h)<;>(try simp only [h])<;>(first|(exfalso;omega)|(exfalso;simp_all;done)|(simp (disch:=omega) only [push_cast,seval,hct,ta,tb,to,hmt,Cnz,Option.isSome_some,decide_true])|skip))
 | ((first|refine Aqz false ?_|refine qcallD_of false ?_);simp (disch:=omega) only [push_cast,seval,hct,ta,tb,to,hmt,Cnz,Option.isSome_some,decide_true])
 | ((first|(refine call0D (BCall.ofP (Fsz _ _ ?_ ?_)) ?_;(iterate 2 (exact sd));rintro _ _ ⟨⟨x1,y1,x2,y2,hxy,rfl⟩,rfl⟩)|((first|refine call0D (iMM_ok _ _ _ _ _ _ _ _ ?_ ?_) ?_|refine qcall0D (iMM_ok _ _ _ _ _ _ _ _ ?_ ?_) ⟨_,_,rfl,rfl⟩ ?_);(iterate 2 (exact sd));rintro _ _ ⟨rfl,rfl⟩)|((first|refine call0D (sMM_ok _ _ _ _ _ _ _ _ ?_ ?_) ?_|refine qcall0D (sMM_ok _ _ _ _ _ _ _ _ ?_ ?_) ⟨_,_,rfl,rfl⟩ ?_);(iterate 2 (exact sd));rintro _ _ ⟨rfl,rfl⟩)|((first|refine call0D (BCall.ofP (lequT_ok _ _ _ _ _ _ _ _ ?_ ?_)) ?_|refine qcall0D (BCall.ofP (lequT_ok _ _ _ _ _ _ _ _ ?_ ?_)) ⟨_,_,rfl,rfl⟩ ?_);(iterate 2 (exact sd));rintro _ _ ⟨rfl,rfl⟩)|((first|refine call0D (iTT10_ok _ _ _ _ ?_ ?_) ?_|refine qcall0D (BCall.ofP (plainT ((iTT10_ok _ _ _ _ ?_ ?_)))) ⟨_,_,rfl,rfl⟩ ?_);(iterate 2 (exact sd));rintro _ _ ⟨rfl,rfl⟩))<;>(try simp (disch:=omega) only [push_cast,seval,hct,ta,tb,to,hmt,Cnz,Option.isSome_some,decide_true]))
 | (refine Aiz ⟨.inr rfl,_,rfl,?_⟩;(try simp (disch:=omega) only [push_cast,seval,hct,ta,tb,to,hmt,Cnz,Option.isSome_some,decide_true]))))
        all_goals (try simp)
  · (repeat' (first
 | (first|refine Alz ?_|refine Aez ?_)
 | ((first|refine Amz ?_|refine Bez (mid:=l3r8a) (post:=l3r8b) [144,1000000009,2000000144] Awz (by decide) ?_|refine Arz (mid:=l3r9a) (post:=l3r9b) Awz (by decide) ?_|refine Adz ?_|refine Agz ?_|refine Ahz ?_);simp (disch:=omega) only [push_cast,seval,l3r0,l3r1,l3r2,l3r3,l3r4,l3r5,l3r6,l3r7,l3r8a,l3r8b,l3r8,l3r9a,l3r9b,l3r9])
 | ((first|refine Aaz ?_ ?_|refine Acz ?_ ?_|refine Abz ?_ ?_)<;>intro h<;>(try simp only [h])<;>(try simp only [bitvec_to_nat] at h)<;>(try simp only [h])<;>(first|(exfalso;omega)|(exfalso;simp_all;done)|(simp (disch:=omega) only [push_cast,seval])|skip))
 | ((first|refine Aqz false ?_|refine qcallD_of false ?_);simp (disch:=omega) only [push_cast,seval])
 | ((first|(refine call0D (BCall.ofP (Fsz _ _ ?_ ?_)) ?_;(iterate 2 (exact sd));rintro _ _ ⟨⟨x1,y1,x2,y2,hxy,rfl⟩,rfl⟩)|((first|refine call0D (iMM_ok _ _ _ _ _ _ _ _ ?_ ?_) ?_|refine qcall0D (iMM_ok _ _ _ _ _ _ _ _ ?_ ?_) ⟨_,_,rfl,rfl⟩ ?_);(iterate 2 (exact sd));rintro _ _ ⟨rfl,rfl⟩)|((first|refine call0D (sMM_ok _ _ _ _ _ _ _ _ ?_ ?_) ?_|refine qcall0D (sMM_ok _ _ _ _ _ _ _ _ ?_ ?_) ⟨_,_,rfl,rfl⟩ ?_);(iterate 2 (exact sd));rintro _ _ ⟨rfl,rfl⟩)|((first|refine call0D (BCall.ofP (lequT_ok _ _ _ _ _ _ _ _ ?_ ?_)) ?_|refine qcall0D (BCall.ofP (lequT_ok _ _ _ _ _ _ _ _ ?_ ?_)) ⟨_,_,rfl,rfl⟩ ?_);(iterate 2 (exact sd));rintro _ _ ⟨rfl,rfl⟩)|((first|refine call0D (iTT10_ok _ _ _ _ ?_ ?_) ?_|refine qcall0D (iTT10_ok _ _ _ _ ?_ ?_) ⟨_,_,rfl,rfl⟩ ?_);(iterate 2 (exact sd));rintro _ _ ⟨rfl,rfl⟩))<;>(try simp (disch:=omega) only [push_cast,seval]))
 | (refine Aiz ⟨.inr rfl,_,rfl,?_⟩;(try simp (disch:=omega) only [push_cast,seval]))))

end Go.Proofs.Ytfmogaimamphdaa
