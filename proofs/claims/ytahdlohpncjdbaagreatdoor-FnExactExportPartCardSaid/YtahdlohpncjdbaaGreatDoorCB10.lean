/- Texts of this verifier. -/
import Derived.Test.YtahdlohpncjdbaaGreatDoorCB9
import Derived.Test.YtahdlohpncjdbaaGreatDoorCM1
import Derived.Test.YtahdlohpncjdbaaGreatDoorCW3
set_option linter.unusedSimpArgs false
set_option linter.unusedVariables false
set_option maxRecDepth 4000
set_option maxHeartbeats 4000000
namespace Go.Proofs.YtahdlohpncjdbaaGreatDoor
open VwM Vw Go
set_option linter.unusedSectionVars false
variable [SentA]



set_option maxHeartbeats 16000000 in
theorem H0z (es:List Ex) (n:Nat) (k:Int) (hn:es.length=n) (hk:0 ≤ k ∧ k ≤ 1125899906842624) (hb:n ≤ 1048576 ∧ ∀ j,(exR es j).length ≤ 1048576):BCall Tryz.prog 26 [.own 0 n 5,.int .i64 k] ((esF es).cellsG (· + 1) :: (esF es).conts) (fun r H'=>r=.int .i64 (kA (exR es) k n) ∧ H'=(esF (mkE es k)).cellsG (· + 1) :: (esF (mkE es k)).conts):=by
  obtain ⟨hb2,hb3⟩:=hb
  have hb1:=hk
  clear hk
  have hEs:esF es=eF n (exPa es) (exBs es) (exOp es) (exR es):=by rw [← hn]
  rw [hEs]
  refine A4z (pins:=List.range (n * 2 + 1)) (pin:=n * 2 + 1) l26_eq rfl (by simp [Bqz,eF_R]) (by simp [Bqz,eF_R]) ?_
  rw [initB_fam,eF_R,show (eF n (exPa es) (exBs es) (exOp es) (exR es)).rows=exR es from rfl]
  have hke:=fun i=>kA_le (k:=k) hb3 i
  have hdone:∀ (ps bs:Nat → Int) (os:Nat → Bool) (rows:Nat → List Int),(∀ j,j < n → ps j=(mkX (exR es) k j).1 ∧ bs j=(mkX (exR es) k j).2.1.1 ∧ os j=(mkX (exR es) k j).2.2 ∧ rows (j * 2)=(mkX (exR es) k j).2.1.2.1 ∧ rows (j * 2 + 1)=(mkX (exR es) k j).2.1.2.2) → (∀ j,n * 2 ≤ j → rows j=[]) → exR (mkE es k)=rows ∧ row (n * 5) ((eF n ps bs os (exR es)).atG (· + 1))=(esF (mkE es k)).cellsG (· + 1):=fun ps bs os rows h hz=>by
    subst hn;exact mkE_done h hz _
  have hRR:(esF (mkE es k)).R=n * 2:=by rw [eF_R,Aoz,hn]
  have hz0:∀ j,n * 2 ≤ j → exR es j=[]:=fun j hj=>J2z (by omega)
  obtain ⟨rows0,hr0⟩:∃ r,r=exR es:=⟨_,rfl⟩
  rw [← hr0] at hb3 hke hz0 hdone ⊢
  obtain ⟨cc,hcc⟩:∃ cc:(Nat → Int) → (Nat → Int) → (Nat → Bool) → List AV,cc=fun ps bs os=>(eF n ps bs os rows0).cellsG (· + 1):=⟨_,rfl⟩
  have hc0:(eF n (exPa es) (exBs es) (exOp es) rows0).cellsG (· + 1)=cc (exPa es) (exBs es) (exOp es):=by rw [hcc]
  have hcl:∀ ps bs os,(cc ps bs os).length=n * 5:=fun ps bs os=>by rw [hcc];exact Brz ..
  have hset0:∀ ps bs os i x,(cc ps bs os).set (i * 5) (.int .i64 x)=cc (upd ps i x) bs os:=fun ps bs os i x=>by rw [hcc];exact eF_set0 ..
  have hset1:∀ ps bs os i x,(cc ps bs os).set (i * 5 + 1) (.int .i64 x)=cc ps (upd bs i x) os:=fun ps bs os i x=>by rw [hcc];exact eF_set1 ..
  have hset4:∀ ps bs os i x,(cc ps bs os).set (i * 5 + 4) (.bool x)=cc ps bs (upd os i x):=fun ps bs os i x=>by rw [hcc];exact eF_set4 ..
  have hat1:∀ ps bs os i,i < n → ((cc ps bs os).drop (i * 5 + 2)).take 1=[.own (i * 2 + 1) (rows0 (i * 2)).length 1]:=fun ps bs os i hi=>by
    rw [hcc]
    simp only [Fam.cellsG]
    rw [eF_C,row_1 _ _ _ (by omega),eF_2]
  have hat2:∀ ps bs os i,i < n → ((cc ps bs os).drop (i * 5 + 3)).take 1=[.own (i * 2 + 1 + 1) (rows0 (i * 2 + 1)).length 1]:=fun ps bs os i hi=>by
    rw [hcc]
    simp only [Fam.cellsG]
    rw [eF_C,row_1 _ _ _ (by omega),eF_3]
  have hfin:∀ ps bs os,cc ps bs os=row (n * 5) ((eF n ps bs os rows0).atG (· + 1)):=fun ps bs os=>by rw [hcc];rfl
  generalize exPa es=ps0 at *
  generalize exBs es=bs0 at *
  generalize exOp es=os0 at *
  generalize hG:esF (mkE es k)=G at *
  rw [hc0]
  (repeat' (first
 | (first|refine Ajz ?_|refine Afz ?_)
 | ((first|refine Akz ?_|refine Aez ?_|refine Agz ?_|refine Ahz ?_);simp (disch:=omega) only [push_cast,seval,l26r0,l26r1,l26r2,l26r3,l26r4,l26r5,l26r6,l26r7,l26r8,l26r9,l26r10,l26r11,l26r12])
 | ((first|refine Aaz ?_ ?_|refine Adz ?_ ?_|refine Acz ?_ ?_)<;>intro h<;>(try simp only [h])<;>(try simp only [bitvec_to_nat] at h)<;>(try simp only [h])<;>(first|(exfalso;omega)|(exfalso;simp_all;done)|(simp (disch:=omega) only [push_cast,seval])|skip))
 | ((first|((with_reducible refine qcallI_of (f:=25) [544] false ?_);simp (disch:=omega) only [push_cast,seval];(refine Byz (id:=544) (Atz _ _ _ ?_ ?_) (by (simp (disch:=omega) only [push_cast,seval])<;>rfl) (by decide) ⟨_,_,rfl,rfl⟩ ?_;(iterate 2 (exact sd));rintro _ _ ⟨rfl,rfl⟩))|((with_reducible refine qcallI_of (f:=25) [672] false ?_);simp (disch:=omega) only [push_cast,seval];(refine Byz (id:=672) (Atz _ _ _ ?_ ?_) (by (simp (disch:=omega) only [push_cast,seval])<;>rfl) (by decide) ⟨_,_,rfl,rfl⟩ ?_;(iterate 2 (exact sd));rintro _ _ ⟨rfl,rfl⟩))|((with_reducible refine callD_ids (f:=25) [544] false ?_);simp (disch:=omega) only [push_cast,seval];(refine Ciz (id:=544) (Atz _ _ _ ?_ ?_) (by (simp (disch:=omega) only [push_cast,seval])<;>rfl) ?_;(iterate 2 (exact sd));rintro _ _ ⟨rfl,rfl⟩))|((with_reducible refine callD_ids (f:=25) [672] false ?_);simp (disch:=omega) only [push_cast,seval];(refine Ciz (id:=672) (Atz _ _ _ ?_ ?_) (by (simp (disch:=omega) only [push_cast,seval])<;>rfl) ?_;(iterate 2 (exact sd));rintro _ _ ⟨rfl,rfl⟩)))<;>(try simp (disch:=omega) only [push_cast,seval]))))
  refine E0z (fun x:Nat × Int × (Nat → List Int) × (Nat → Int) × (Nat → Int) × (Nat → Bool)=>mkS [(0,.own 0 n 5),(1,.int .i64 x.2.1),(5,.int .i64 x.1)] ((0,cc x.2.2.2.1 x.2.2.2.2.1 x.2.2.2.2.2) :: pinR x.2.2.1 (n * 2))) (fun x=>x.1 ≤ n ∧ x.2.1=kA rows0 k x.1 ∧ (∀ j,(x.2.2.1 j).length=(rows0 j).length) ∧ (∀ j,n * 2 ≤ j → x.2.2.1 j=[]) ∧ ∀ j,j < x.1 → x.2.2.2.1 j=(mkX rows0 k j).1 ∧ x.2.2.2.2.1 j=(mkX rows0 k j).2.1.1 ∧ x.2.2.2.2.2 j=(mkX rows0 k j).2.2 ∧ x.2.2.1 (j * 2)=(mkX rows0 k j).2.1.2.1 ∧ x.2.2.1 (j * 2 + 1)=(mkX rows0 k j).2.1.2.2) (fun x=>n - x.1) (0,k,rows0,ps0,bs0,os0) ⟨Nat.zero_le _,rfl,fun _=>rfl,hz0,fun j h=>absurd h (Nat.not_lt_zero _)⟩ ?_ ?_
  · refine SubW.slots ?_
    simp [lk]
  · rintro ⟨i,kk,rows,ps,bs,os⟩ ⟨hi,hkk,hl,hz,hall⟩
    simp only at hi hkk hl hz hall ⊢
    have hki:=hke i
    rw [← hkk] at hki
    by_cases hlt:i < n
    · have hd:=hat1 (upd ps i kk) (upd bs i (kk + 1)) os i hlt
      have hd2:=hat2 (upd ps i kk) (upd bs i (kk + 1)) os i hlt
      have hkp:=Fnz rows (n * 2) (i * 2) (by omega)
      have hkp2:=Fnz rows (n * 2) (i * 2 + 1) (by omega)
      have hli:=hl (i * 2)
      have hbi:=hb3 (i * 2)
      have hli2:=hl (i * 2 + 1)
      have hbi2:=hb3 (i * 2 + 1)
      have hil:i * 5 + 5 ≤ n * 5:=by omega
      have hne:(i * 2 + 1 + 1=i * 2 + 1)=False:=by simp
      have hkn:kA rows0 k (i + 1)=kA rows0 k i + 1 + 1 + (rows0 (i * 2)).length + (rows0 (i * 2 + 1)).length + 1:=rfl
      have hmx:mkX rows0 k i=(kA rows0 k i,(kA rows0 k i + 1,upFrom (kA rows0 k i + 1 + 1) (rows0 (i * 2)).length,upFrom (kA rows0 k i + 1 + 1 + (rows0 (i * 2)).length) (rows0 (i * 2 + 1)).length),decide ((kA rows0 k i + 1 + 1 + (rows0 (i * 2)).length + (rows0 (i * 2 + 1)).length).tmod 3=0)):=rfl
      rw [← hkk] at hkn hmx
      generalize hLL:(rows0 (i * 2)).length=L at *
      generalize hLL2:(rows0 (i * 2 + 1)).length=L2 at *
      (repeat' (first
 | (first|refine Ajz ?_|refine Afz ?_)
 | ((first|refine Akz ?_|refine Aez ?_|refine Agz ?_|refine Ahz ?_);simp (disch:=omega) only [push_cast,seval,l26r0,l26r1,l26r2,l26r3,l26r4,l26r5,l26r6,l26r7,l26r8,l26r9,l26r10,l26r11,l26r12,hset0,hset1,hset4,hd,hd2,hkp,hkp2,hli,hli2,hcl,hil,hne,Ddz,Dgz])
 | ((first|refine Aaz ?_ ?_|refine Adz ?_ ?_|refine Acz ?_ ?_)<;>intro h<;>(try simp only [h])<;>(try simp only [bitvec_to_nat] at h)<;>(try simp only [h])<;>(first|(exfalso;omega)|(exfalso;simp_all;done)|(simp (disch:=omega) only [push_cast,seval,hset0,hset1,hset4,hd,hd2,hkp,hkp2,hli,hli2,hcl,hil,hne,Ddz,Dgz])|skip))
 | ((first|((with_reducible refine callD_ids (f:=25) [(i * 2 + 1)] false ?_);simp (disch:=omega) only [push_cast,seval,hset0,hset1,hset4,hd,hd2,hkp,hkp2,hli,hli2,hcl,hil,hne,Ddz,Dgz];(refine Ciz (id:=(i * 2 + 1)) (Atz _ _ _ ?_ ?_) (by (simp (disch:=omega) only [push_cast,seval,hset0,hset1,hset4,hd,hd2,hkp,hkp2,hli,hli2,hcl,hil,hne,Ddz,Dgz])<;>rfl) ?_;(iterate 2 (exact sd));rintro _ _ ⟨rfl,rfl⟩))|((with_reducible refine callD_ids (f:=25) [(i * 2 + 1 + 1)] false ?_);simp (disch:=omega) only [push_cast,seval,hset0,hset1,hset4,hd,hd2,hkp,hkp2,hli,hli2,hcl,hil,hne,Ddz,Dgz];(refine Ciz (id:=(i * 2 + 1 + 1)) (Atz _ _ _ ?_ ?_) (by (simp (disch:=omega) only [push_cast,seval,hset0,hset1,hset4,hd,hd2,hkp,hkp2,hli,hli2,hcl,hil,hne,Ddz,Dgz])<;>rfl) ?_;(iterate 2 (exact sd));rintro _ _ ⟨rfl,rfl⟩)))<;>(try simp (disch:=omega) only [push_cast,seval,hset0,hset1,hset4,hd,hd2,hkp,hkp2,hli,hli2,hcl,hil,hne,Ddz,Dgz]))))
      refine ⟨(i + 1,kk + 1 + 1 + L + L2 + 1,upd (upd rows (i * 2) (upFrom (kk + 1 + 1) L)) (i * 2 + 1) (upFrom (kk + 1 + 1 + L) L2),upd ps i kk,upd bs i (kk + 1),upd os i (decide ((kk + 1 + 1 + L + L2).tmod 3=0))),⟨by simp only;omega,hkn.symm,fun j=>?_,fun j hj=>?_,fun j hj=>?_⟩,by simp only;omega,?_⟩
      · simp only
        by_cases e:j=i * 2 + 1
        · subst e;rw [A1z,hLL2];simp [upFrom]
        · rw [A0z _ _ _ _ e]
          by_cases e:j=i * 2
          · subst e;rw [A1z,hLL];simp [upFrom]
          · rw [A0z _ _ _ _ e];exact hl j
      · simp only
        rw [A0z _ _ _ _ (by omega),A0z _ _ _ _ (by omega)]
        exact hz j hj
      · simp only at hj ⊢
        by_cases e:j=i
        · subst e
          rw [hmx,A1z,A1z,A1z,A1z,A0z _ _ _ _ (by omega),A1z]
          exact ⟨rfl,rfl,rfl,rfl,rfl⟩
        · rw [A0z _ _ _ _ e,A0z _ _ _ _ e,A0z _ _ _ _ e,A0z _ _ _ _ (by omega),A0z _ _ _ _ (by omega),A0z _ _ _ _ (by omega),A0z _ _ _ _ (by omega)]
          exact hall j (by omega)
      · generalize cc (upd ps i kk) (upd bs i (kk + 1)) (upd os i (decide ((kk + 1 + 1 + L + L2).tmod 3=0)))=C
        refine SubW.heq (H':=(0,C) :: pinR (upd (upd rows (i * 2) (upFrom (kk + 1 + 1) L)) (i * 2 + 1) (upFrom (kk + 1 + 1 + L) L2)) (n * 2)) (fun id=>?_) (SubW.slots ?_)
        · have h1:=pinR_upd (rows:=upd rows (i * 2) (upFrom (kk + 1 + 1) L)) (n:=n * 2) (j:=i * 2 + 1) (xs:=upFrom (kk + 1 + 1 + L) L2) (c0:=C) (by omega) id
          have h2:=pinR_upd (rows:=rows) (n:=n * 2) (j:=i * 2) (xs:=upFrom (kk + 1 + 1) L) (c0:=C) (by omega) id
          rw [h1]
          simp only [hk] at h2 ⊢
          by_cases e0:id=0
          · subst e0;simp
          · simp only [if_neg e0] at h2 ⊢
            rw [h2]
        · simp [lk]
    · have e:i=n:=by omega
      subst e
      obtain ⟨d1,d2⟩:=hdone ps bs os rows hall hz
      (repeat' (first
 | (first|refine Ajz ?_|refine Afz ?_)
 | ((first|refine Akz ?_|refine Aez ?_|refine Agz ?_|refine Ahz ?_);simp (disch:=omega) only [push_cast,seval,l26r0,l26r1,l26r2,l26r3,l26r4,l26r5,l26r6,l26r7,l26r8,l26r9,l26r10,l26r11,l26r12,hcl])
 | ((first|refine Aaz ?_ ?_|refine Adz ?_ ?_|refine Acz ?_ ?_)<;>intro h<;>(try simp only [h])<;>(try simp only [bitvec_to_nat] at h)<;>(try simp only [h])<;>(first|(exfalso;omega)|(exfalso;simp_all;done)|(simp (disch:=omega) only [push_cast,seval,hcl])|skip))
 | ((first|((with_reducible refine qcallI_of (f:=25) [544] false ?_);simp (disch:=omega) only [push_cast,seval,hcl];(refine Byz (id:=544) (Atz _ _ _ ?_ ?_) (by (simp (disch:=omega) only [push_cast,seval,hcl])<;>rfl) (by decide) ⟨_,_,rfl,rfl⟩ ?_;(iterate 2 (exact sd));rintro _ _ ⟨rfl,rfl⟩))|((with_reducible refine qcallI_of (f:=25) [672] false ?_);simp (disch:=omega) only [push_cast,seval,hcl];(refine Byz (id:=672) (Atz _ _ _ ?_ ?_) (by (simp (disch:=omega) only [push_cast,seval,hcl])<;>rfl) (by decide) ⟨_,_,rfl,rfl⟩ ?_;(iterate 2 (exact sd));rintro _ _ ⟨rfl,rfl⟩))|((with_reducible refine callD_ids (f:=25) [544] false ?_);simp (disch:=omega) only [push_cast,seval,hcl];(refine Ciz (id:=544) (Atz _ _ _ ?_ ?_) (by (simp (disch:=omega) only [push_cast,seval,hcl])<;>rfl) ?_;(iterate 2 (exact sd));rintro _ _ ⟨rfl,rfl⟩))|((with_reducible refine callD_ids (f:=25) [672] false ?_);simp (disch:=omega) only [push_cast,seval,hcl];(refine Ciz (id:=672) (Atz _ _ _ ?_ ?_) (by (simp (disch:=omega) only [push_cast,seval,hcl])<;>rfl) ?_;(iterate 2 (exact sd));rintro _ _ ⟨rfl,rfl⟩)))<;>(try simp (disch:=omega) only [push_cast,seval,hcl]))))
      subst hkk
      refine Aiz ⟨.inr rfl,ret_pinT (fun _=>rfl) (by rw [← hG];exact d1) hRR ((hfin ps bs os).trans d2)⟩


set_option maxHeartbeats 16000000 in
theorem Bsz (cs:List Int) (es:List Ex) (m n:Nat) (k:Int) (hm:cs.length=m) (hn:es.length=n) (hk:0 ≤ k ∧ k ≤ 1000000) (hb:m ≤ 1048576 ∧ n ≤ 1048576 ∧ ∀ j,(exR es j).length ≤ 1048576):BCall Tryz.prog 10 [.agg [.own 0 m 1,.own 1 n 5],.int .i64 k] (IL cs :: (esF es).cellsG (· + 2) :: (esF es).conts) (fun r H'=>r=.int .i64 (kA (exR es) (k + m) n) ∧ H'=IL (upFrom k m) :: (esF (mkE es (k + m))).cellsG (· + 2) :: (esF (mkE es (k + m))).conts):=by
  obtain ⟨hb1,hb2,hb3⟩:=hb
  have hbe:n ≤ 1048576 ∧ ∀ j,(exR es j).length ≤ 1048576:=⟨hb2,hb3⟩
  have hk1:=hk
  clear hk
  subst hm
  have hEs:esF es=eF n (exPa es) (exBs es) (exOp es) (exR es):=by rw [← hn]
  have hX:=H0z es n (k + cs.length) hn (by omega) hbe
  have hlk:=Dlz es (k + cs.length)
  rw [hEs] at hX hlk ⊢
  refine A4z (pins:=List.range (n * 2 + 2)) (pin:=n * 2 + 2) l10_eq rfl (by simp [Bqz,eF_R]) (by simp [Bqz,eF_R]) ?_
  rw [initB_famB,eF_R,show (eF n (exPa es) (exBs es) (exOp es) (exR es)).rows=exR es from rfl]
  have hRR:n * 2=(esF (mkE es (k + cs.length))).R:=by rw [eF_R,Aoz,hn]
  have hX2:=hX.mono (Q':=fun r H'=>∃ G k',(G=esF (mkE es (k + cs.length)) ∧ k'=kA (exR es) (k + cs.length) n) ∧ (eF n (exPa es) (exBs es) (exOp es) (exR es)).like G ∧ r=.int .i64 k' ∧ H'=G.cellsG (· + 1) :: G.conts) fun r H' h=>⟨_,_,⟨rfl,rfl⟩,hlk,h.1,h.2⟩
  generalize exPa es=ps0 at *
  generalize exBs es=bs0 at *
  generalize exOp es=os0 at *
  generalize hKA:kA (exR es) (k + cs.length) n=KA at *
  generalize exR es=rows0 at *
  generalize esF (mkE es (k + cs.length))=GG at *
  have hlen:cs.length ≤ 1099511627776:=by omega
  by_cases hp:n * 2 + 2 ≤ 32
  · have hx:=hk_pinB_none rows0 (n * 2) 32 (by omega)
    (repeat' (first
 | (first|refine Ajz ?_|refine Afz ?_)
 | ((first|refine Akz ?_|refine Aez ?_|refine Agz ?_|refine Ahz ?_);simp (disch:=omega) only [push_cast,seval,l10r0,l10r1,l10r2,l10r3,hp,hx])
 | ((first|refine Aaz ?_ ?_|refine Adz ?_ ?_|refine Acz ?_ ?_)<;>intro h<;>(try simp only [h])<;>(try simp only [bitvec_to_nat] at h)<;>(try simp only [h])<;>(first|(exfalso;omega)|(exfalso;simp_all;done)|(simp (disch:=omega) only [push_cast,seval,hp,hx])|skip))
 | ((first|((with_reducible refine qcallI_of (f:=25) [128] false ?_);simp (disch:=omega) only [push_cast,seval,hp,hx];(refine Byz (id:=128) (Atz _ _ _ ?_ ?_) (by (simp (disch:=omega) only [push_cast,seval,hp,hx])<;>rfl) (by decide) ⟨_,_,rfl,rfl⟩ ?_;(iterate 2 (exact sd));rintro _ _ ⟨rfl,rfl⟩))|((with_reducible refine qcallI_of (f:=25) [192] false ?_);simp (disch:=omega) only [push_cast,seval,hp,hx];(refine Byz (id:=192) (Atz _ _ _ ?_ ?_) (by (simp (disch:=omega) only [push_cast,seval,hp,hx])<;>rfl) (by decide) ⟨_,_,rfl,rfl⟩ ?_;(iterate 2 (exact sd));rintro _ _ ⟨rfl,rfl⟩))|((with_reducible refine qcallI_of (f:=25) [0] false ?_);simp (disch:=omega) only [push_cast,seval,hp,hx];(refine Byz (id:=0) (Atz _ _ _ ?_ ?_) (by (simp (disch:=omega) only [push_cast,seval,hp,hx])<;>rfl) (by decide) ⟨_,_,rfl,rfl⟩ ?_;(iterate 2 (exact sd));rintro _ _ ⟨rfl,rfl⟩))|((with_reducible refine qcallI_of (f:=25) [1] false ?_);simp (disch:=omega) only [push_cast,seval,hp,hx];(refine Byz (id:=1) (Atz _ _ _ ?_ ?_) (by (simp (disch:=omega) only [push_cast,seval,hp,hx])<;>rfl) (by decide) ⟨_,_,rfl,rfl⟩ ?_;(iterate 2 (exact sd));rintro _ _ ⟨rfl,rfl⟩))|((with_reducible refine callD_ids (f:=25) [128] false ?_);simp (disch:=omega) only [push_cast,seval,hp,hx];(refine Ciz (id:=128) (Atz _ _ _ ?_ ?_) (by (simp (disch:=omega) only [push_cast,seval,hp,hx])<;>rfl) ?_;(iterate 2 (exact sd));rintro _ _ ⟨rfl,rfl⟩))|((with_reducible refine callD_ids (f:=25) [192] false ?_);simp (disch:=omega) only [push_cast,seval,hp,hx];(refine Ciz (id:=192) (Atz _ _ _ ?_ ?_) (by (simp (disch:=omega) only [push_cast,seval,hp,hx])<;>rfl) ?_;(iterate 2 (exact sd));rintro _ _ ⟨rfl,rfl⟩))|((with_reducible refine callD_ids (f:=25) [0] false ?_);simp (disch:=omega) only [push_cast,seval,hp,hx];(refine Ciz (id:=0) (Atz _ _ _ ?_ ?_) (by (simp (disch:=omega) only [push_cast,seval,hp,hx])<;>rfl) ?_;(iterate 2 (exact sd));rintro _ _ ⟨rfl,rfl⟩))|((with_reducible refine callD_ids (f:=25) [1] false ?_);simp (disch:=omega) only [push_cast,seval,hp,hx];(refine Ciz (id:=1) (Atz _ _ _ ?_ ?_) (by (simp (disch:=omega) only [push_cast,seval,hp,hx])<;>rfl) ?_;(iterate 2 (exact sd));rintro _ _ ⟨rfl,rfl⟩)))<;>(try simp (disch:=omega) only [push_cast,seval,hp,hx]))))
    refine Chz (f:=26) ?_
    simp (disch:=omega) only [push_cast,seval]
    refine callFG (Post:=fun G k'=>G=GG ∧ k'=KA) (fun j=>j + 2) (fun _ _ h=>by simpa using h) (fun j=>by omega) hX2 (by simp only [hk];rfl) (fun j hj=>?_) fun G kk hkk hG=>?_
    · have hj':j < n * 2:=hj
      simp only [hk]
      repeat rw [if_neg (by omega)]
      exact hk_pinB _ _ _ hj'
    · obtain ⟨rfl,rfl⟩:=hkk
      simp (disch:=omega) only [push_cast,seval]
      (repeat' (first
 | (first|refine Ajz ?_|refine Afz ?_)
 | ((first|refine Akz ?_|refine Aez ?_|refine Agz ?_|refine Ahz ?_);simp (disch:=omega) only [push_cast,seval,l10r0,l10r1,l10r2,l10r3])
 | ((first|refine Aaz ?_ ?_|refine Adz ?_ ?_|refine Acz ?_ ?_)<;>intro h<;>(try simp only [h])<;>(try simp only [bitvec_to_nat] at h)<;>(try simp only [h])<;>(first|(exfalso;omega)|(exfalso;simp_all;done)|(simp (disch:=omega) only [push_cast,seval])|skip))
 | ((first|((with_reducible refine qcallI_of (f:=25) [128] false ?_);simp (disch:=omega) only [push_cast,seval];(refine Byz (id:=128) (Atz _ _ _ ?_ ?_) (by (simp (disch:=omega) only [push_cast,seval])<;>rfl) (by decide) ⟨_,_,rfl,rfl⟩ ?_;(iterate 2 (exact sd));rintro _ _ ⟨rfl,rfl⟩))|((with_reducible refine qcallI_of (f:=25) [192] false ?_);simp (disch:=omega) only [push_cast,seval];(refine Byz (id:=192) (Atz _ _ _ ?_ ?_) (by (simp (disch:=omega) only [push_cast,seval])<;>rfl) (by decide) ⟨_,_,rfl,rfl⟩ ?_;(iterate 2 (exact sd));rintro _ _ ⟨rfl,rfl⟩))|((with_reducible refine qcallI_of (f:=25) [0] false ?_);simp (disch:=omega) only [push_cast,seval];(refine Byz (id:=0) (Atz _ _ _ ?_ ?_) (by (simp (disch:=omega) only [push_cast,seval])<;>rfl) (by decide) ⟨_,_,rfl,rfl⟩ ?_;(iterate 2 (exact sd));rintro _ _ ⟨rfl,rfl⟩))|((with_reducible refine qcallI_of (f:=25) [1] false ?_);simp (disch:=omega) only [push_cast,seval];(refine Byz (id:=1) (Atz _ _ _ ?_ ?_) (by (simp (disch:=omega) only [push_cast,seval])<;>rfl) (by decide) ⟨_,_,rfl,rfl⟩ ?_;(iterate 2 (exact sd));rintro _ _ ⟨rfl,rfl⟩))|((with_reducible refine callD_ids (f:=25) [128] false ?_);simp (disch:=omega) only [push_cast,seval];(refine Ciz (id:=128) (Atz _ _ _ ?_ ?_) (by (simp (disch:=omega) only [push_cast,seval])<;>rfl) ?_;(iterate 2 (exact sd));rintro _ _ ⟨rfl,rfl⟩))|((with_reducible refine callD_ids (f:=25) [192] false ?_);simp (disch:=omega) only [push_cast,seval];(refine Ciz (id:=192) (Atz _ _ _ ?_ ?_) (by (simp (disch:=omega) only [push_cast,seval])<;>rfl) ?_;(iterate 2 (exact sd));rintro _ _ ⟨rfl,rfl⟩))|((with_reducible refine callD_ids (f:=25) [0] false ?_);simp (disch:=omega) only [push_cast,seval];(refine Ciz (id:=0) (Atz _ _ _ ?_ ?_) (by (simp (disch:=omega) only [push_cast,seval])<;>rfl) ?_;(iterate 2 (exact sd));rintro _ _ ⟨rfl,rfl⟩))|((with_reducible refine callD_ids (f:=25) [1] false ?_);simp (disch:=omega) only [push_cast,seval];(refine Ciz (id:=1) (Atz _ _ _ ?_ ?_) (by (simp (disch:=omega) only [push_cast,seval])<;>rfl) ?_;(iterate 2 (exact sd));rintro _ _ ⟨rfl,rfl⟩)))<;>(try simp (disch:=omega) only [push_cast,seval]))))
      refine Aiz ⟨.inr rfl,ret_pinU (cs:=upFrom k cs.length) (G:=G) hRR rfl ?_ rfl ?_⟩
      · show hk ((1,_) :: (pinB G.rows G.R ++ _)) 0=_
        simp only [hk]
        rw [if_neg (by omega),H5z _ _ _ _ (by omega)]
        rfl
      · intro j hj
        rw [hRR] at hj
        show hk ((1,_) :: (pinB G.rows G.R ++ _)) (j + 2)=_
        simp only [hk]
        rw [if_neg (by omega)]
        exact H6z _ _ _ _ hj
  · have hx:32 < n * 2 + 2:=by omega
    (repeat' (first
 | (first|refine Ajz ?_|refine Afz ?_)
 | ((first|refine Akz ?_|refine Aez ?_|refine Agz ?_|refine Ahz ?_);simp (disch:=omega) only [push_cast,seval,l10r0,l10r1,l10r2,l10r3,hp,hx])
 | ((first|refine Aaz ?_ ?_|refine Adz ?_ ?_|refine Acz ?_ ?_)<;>intro h<;>(try simp only [h])<;>(try simp only [bitvec_to_nat] at h)<;>(try simp only [h])<;>(first|(exfalso;omega)|(exfalso;simp_all;done)|(simp (disch:=omega) only [push_cast,seval,hp,hx])|skip))
 | ((first|((with_reducible refine qcallI_of (f:=25) [128] false ?_);simp (disch:=omega) only [push_cast,seval,hp,hx];(refine Byz (id:=128) (Atz _ _ _ ?_ ?_) (by (simp (disch:=omega) only [push_cast,seval,hp,hx])<;>rfl) (by decide) ⟨_,_,rfl,rfl⟩ ?_;(iterate 2 (exact sd));rintro _ _ ⟨rfl,rfl⟩))|((with_reducible refine qcallI_of (f:=25) [192] false ?_);simp (disch:=omega) only [push_cast,seval,hp,hx];(refine Byz (id:=192) (Atz _ _ _ ?_ ?_) (by (simp (disch:=omega) only [push_cast,seval,hp,hx])<;>rfl) (by decide) ⟨_,_,rfl,rfl⟩ ?_;(iterate 2 (exact sd));rintro _ _ ⟨rfl,rfl⟩))|((with_reducible refine qcallI_of (f:=25) [0] false ?_);simp (disch:=omega) only [push_cast,seval,hp,hx];(refine Byz (id:=0) (Atz _ _ _ ?_ ?_) (by (simp (disch:=omega) only [push_cast,seval,hp,hx])<;>rfl) (by decide) ⟨_,_,rfl,rfl⟩ ?_;(iterate 2 (exact sd));rintro _ _ ⟨rfl,rfl⟩))|((with_reducible refine qcallI_of (f:=25) [1] false ?_);simp (disch:=omega) only [push_cast,seval,hp,hx];(refine Byz (id:=1) (Atz _ _ _ ?_ ?_) (by (simp (disch:=omega) only [push_cast,seval,hp,hx])<;>rfl) (by decide) ⟨_,_,rfl,rfl⟩ ?_;(iterate 2 (exact sd));rintro _ _ ⟨rfl,rfl⟩))|((with_reducible refine callD_ids (f:=25) [128] false ?_);simp (disch:=omega) only [push_cast,seval,hp,hx];(refine Ciz (id:=128) (Atz _ _ _ ?_ ?_) (by (simp (disch:=omega) only [push_cast,seval,hp,hx])<;>rfl) ?_;(iterate 2 (exact sd));rintro _ _ ⟨rfl,rfl⟩))|((with_reducible refine callD_ids (f:=25) [192] false ?_);simp (disch:=omega) only [push_cast,seval,hp,hx];(refine Ciz (id:=192) (Atz _ _ _ ?_ ?_) (by (simp (disch:=omega) only [push_cast,seval,hp,hx])<;>rfl) ?_;(iterate 2 (exact sd));rintro _ _ ⟨rfl,rfl⟩))|((with_reducible refine callD_ids (f:=25) [0] false ?_);simp (disch:=omega) only [push_cast,seval,hp,hx];(refine Ciz (id:=0) (Atz _ _ _ ?_ ?_) (by (simp (disch:=omega) only [push_cast,seval,hp,hx])<;>rfl) ?_;(iterate 2 (exact sd));rintro _ _ ⟨rfl,rfl⟩))|((with_reducible refine callD_ids (f:=25) [1] false ?_);simp (disch:=omega) only [push_cast,seval,hp,hx];(refine Ciz (id:=1) (Atz _ _ _ ?_ ?_) (by (simp (disch:=omega) only [push_cast,seval,hp,hx])<;>rfl) ?_;(iterate 2 (exact sd));rintro _ _ ⟨rfl,rfl⟩)))<;>(try simp (disch:=omega) only [push_cast,seval,hp,hx]))))
    refine Chz (f:=26) ?_
    simp (disch:=omega) only [push_cast,seval]
    refine callFG (Post:=fun G k'=>G=GG ∧ k'=KA) (fun j=>j + 2) (fun _ _ h=>by simpa using h) (fun j=>by omega) hX2 (by simp only [hk];rfl) (fun j hj=>?_) fun G kk hkk hG=>?_
    · have hj':j < n * 2:=hj
      simp only [hk]
      repeat rw [if_neg (by omega)]
      exact hk_pinB _ _ _ hj'
    · obtain ⟨rfl,rfl⟩:=hkk
      simp (disch:=omega) only [push_cast,seval]
      (repeat' (first
 | (first|refine Ajz ?_|refine Afz ?_)
 | ((first|refine Akz ?_|refine Aez ?_|refine Agz ?_|refine Ahz ?_);simp (disch:=omega) only [push_cast,seval,l10r0,l10r1,l10r2,l10r3])
 | ((first|refine Aaz ?_ ?_|refine Adz ?_ ?_|refine Acz ?_ ?_)<;>intro h<;>(try simp only [h])<;>(try simp only [bitvec_to_nat] at h)<;>(try simp only [h])<;>(first|(exfalso;omega)|(exfalso;simp_all;done)|(simp (disch:=omega) only [push_cast,seval])|skip))
 | ((first|((with_reducible refine qcallI_of (f:=25) [128] false ?_);simp (disch:=omega) only [push_cast,seval];(refine Byz (id:=128) (Atz _ _ _ ?_ ?_) (by (simp (disch:=omega) only [push_cast,seval])<;>rfl) (by decide) ⟨_,_,rfl,rfl⟩ ?_;(iterate 2 (exact sd));rintro _ _ ⟨rfl,rfl⟩))|((with_reducible refine qcallI_of (f:=25) [192] false ?_);simp (disch:=omega) only [push_cast,seval];(refine Byz (id:=192) (Atz _ _ _ ?_ ?_) (by (simp (disch:=omega) only [push_cast,seval])<;>rfl) (by decide) ⟨_,_,rfl,rfl⟩ ?_;(iterate 2 (exact sd));rintro _ _ ⟨rfl,rfl⟩))|((with_reducible refine qcallI_of (f:=25) [0] false ?_);simp (disch:=omega) only [push_cast,seval];(refine Byz (id:=0) (Atz _ _ _ ?_ ?_) (by (simp (disch:=omega) only [push_cast,seval])<;>rfl) (by decide) ⟨_,_,rfl,rfl⟩ ?_;(iterate 2 (exact sd));rintro _ _ ⟨rfl,rfl⟩))|((with_reducible refine qcallI_of (f:=25) [1] false ?_);simp (disch:=omega) only [push_cast,seval];(refine Byz (id:=1) (Atz _ _ _ ?_ ?_) (by (simp (disch:=omega) only [push_cast,seval])<;>rfl) (by decide) ⟨_,_,rfl,rfl⟩ ?_;(iterate 2 (exact sd));rintro _ _ ⟨rfl,rfl⟩))|((with_reducible refine callD_ids (f:=25) [128] false ?_);simp (disch:=omega) only [push_cast,seval];(refine Ciz (id:=128) (Atz _ _ _ ?_ ?_) (by (simp (disch:=omega) only [push_cast,seval])<;>rfl) ?_;(iterate 2 (exact sd));rintro _ _ ⟨rfl,rfl⟩))|((with_reducible refine callD_ids (f:=25) [192] false ?_);simp (disch:=omega) only [push_cast,seval];(refine Ciz (id:=192) (Atz _ _ _ ?_ ?_) (by (simp (disch:=omega) only [push_cast,seval])<;>rfl) ?_;(iterate 2 (exact sd));rintro _ _ ⟨rfl,rfl⟩))|((with_reducible refine callD_ids (f:=25) [0] false ?_);simp (disch:=omega) only [push_cast,seval];(refine Ciz (id:=0) (Atz _ _ _ ?_ ?_) (by (simp (disch:=omega) only [push_cast,seval])<;>rfl) ?_;(iterate 2 (exact sd));rintro _ _ ⟨rfl,rfl⟩))|((with_reducible refine callD_ids (f:=25) [1] false ?_);simp (disch:=omega) only [push_cast,seval];(refine Ciz (id:=1) (Atz _ _ _ ?_ ?_) (by (simp (disch:=omega) only [push_cast,seval])<;>rfl) ?_;(iterate 2 (exact sd));rintro _ _ ⟨rfl,rfl⟩)))<;>(try simp (disch:=omega) only [push_cast,seval]))))
      refine Aiz ⟨.inr rfl,ret_pinU (cs:=upFrom k cs.length) (G:=G) hRR rfl ?_ rfl ?_⟩
      · show hk ((1,_) :: (pinB G.rows G.R ++ _)) 0=_
        simp only [hk]
        rw [if_neg (by omega),H5z _ _ _ _ (by omega)]
        rfl
      · intro j hj
        rw [hRR] at hj
        show hk ((1,_) :: (pinB G.rows G.R ++ _)) (j + 2)=_
        simp only [hk]
        rw [if_neg (by omega)]
        exact H6z _ _ _ _ hj


set_option maxHeartbeats 8000000 in
theorem heldExportS_ok (es:List Ex) (n:Nat) (k:Int) (hn:es.length=n) (hk:0 ≤ k ∧ k ≤ 1125899906842624) (hb:n ≤ 1048576 ∧ ∀ j,(exR es j).length ≤ 1048576):PCall Tryz.prog 28 [.rows false (EL false (mkE es k)) n,.int .i64 k] (fun r=>r=.int .i64 (kA (exR es) k n)):=by
  subst hn
  obtain ⟨hb1,hb2⟩:=hb
  have hk1:=hk
  clear hk
  refine Auz l28_eq rfl ?_
  have hke:=fun i=>kA_le (k:=k) hb2 i
  have hel:(EL false (mkE es k)).length=es.length * 5:=by rw [Bbz,Aoz]
  (repeat' (first
 | (first|refine Ajz ?_|refine Afz ?_)
 | ((first|refine Akz ?_|refine Aez ?_|refine Agz ?_|refine Ahz ?_);simp (disch:=omega) only [push_cast,seval,l28r0,l28r1,l28r2,l28r3,l28r4,l28r5,l28r6,l28r7,l28r8,l28r9,l28r10,l28r11,l28r12,l28r13,l28r14,l28r15,l28r16,l28r17,l28r18,l28r19,Abz])
 | ((first|refine Aaz ?_ ?_|refine Adz ?_ ?_|refine Acz ?_ ?_)<;>intro h<;>(try simp only [h])<;>(try simp only [bitvec_to_nat] at h)<;>(try simp only [h])<;>(first|(exfalso;omega)|(exfalso;simp_all;done)|(simp (disch:=omega) only [push_cast,seval,Abz])|skip))
 | ((first|refine Amz false ?_|refine Alz false ?_);simp (disch:=omega) only [push_cast,seval,Abz])
 | ((first|((first|refine call0D (BCall.ofP (Caz _ _ ?_)) ?_|refine qcall0D (BCall.ofP (Caz _ _ ?_)) ⟨_,_,rfl,rfl⟩ ?_);(exact sd);rintro _ _ ⟨rfl,rfl⟩))<;>(try simp (disch:=omega) only [push_cast,seval,Abz]))
 | (refine Aiz ⟨.inr rfl,_,rfl,?_⟩;(try simp (disch:=omega) only [push_cast,seval,Abz]))))
  refine Bcz (fun i:Nat=>mkS [(0,.rows false (EL false (mkE es k)) es.length),(1,.int .i64 (kA (exR es) k i)),(5,.int .i64 i)] []) (fun i=>i ≤ es.length) (fun i=>es.length - i) 0 (Nat.zero_le _) ?_ ?_
  · have e0:kA (exR es) k 0=k:=rfl
    (refine Sub.of_lists ?_ ?_ ?_ ?_ ?_<;>simp [Vw.mkS,Vw.lk,Vw.hk,AV.inn,innL,Asz,Arz,Avz,-List.map_set,-List.getD_eq_getElem?_getD,Abz,e0])
  · intro i hi
    have hki:=hke i
    by_cases hlt:i < es.length
    · have hq:=EL_cells false (mkE es k) i (mkE_get hlt)
      have hbi:=hb2 (i * 2)
      have hbi2:=hb2 (i * 2 + 1)
      have hil:i * 5 + 5 ≤ es.length * 5:=by omega
      have hkn:kA (exR es) k (i + 1)=kA (exR es) k i + 1 + 1 + (exR es (i * 2)).length + (exR es (i * 2 + 1)).length + 1:=rfl
      simp only [mkX,B8z] at hq
      generalize hK2:kA (exR es) k (i + 1)=K2 at *
      generalize kA (exR es) k i=K at *
      generalize (exR es (i * 2)).length=L at *
      generalize (exR es (i * 2 + 1)).length=L2 at *
      obtain ⟨q0,q1,q2,q3,q4⟩:=hq
      (repeat' (first
 | (first|refine Ajz ?_|refine Afz ?_)
 | ((first|refine Akz ?_|refine Aez ?_|refine Agz ?_|refine Ahz ?_);simp (disch:=omega) only [push_cast,seval,l28r0,l28r1,l28r2,l28r3,l28r4,l28r5,l28r6,l28r7,l28r8,l28r9,l28r10,l28r11,l28r12,l28r13,l28r14,l28r15,l28r16,l28r17,l28r18,l28r19,q0,q1,q2,q3,q4,hel,hil,Abz])
 | ((first|refine Aaz ?_ ?_|refine Adz ?_ ?_|refine Acz ?_ ?_)<;>intro h<;>(try simp only [h])<;>(try simp only [bitvec_to_nat] at h)<;>(try simp only [h])<;>(first|(exfalso;omega)|(exfalso;simp_all;done)|(simp (disch:=omega) only [push_cast,seval,q0,q1,q2,q3,q4,hel,hil,Abz])|skip))
 | ((first|refine Amz false ?_|refine Alz false ?_);simp (disch:=omega) only [push_cast,seval,q0,q1,q2,q3,q4,hel,hil,Abz])
 | ((first|((first|refine call0D (BCall.ofP (Caz _ _ ?_)) ?_|refine qcall0D (BCall.ofP (Caz _ _ ?_)) ⟨_,_,rfl,rfl⟩ ?_);(exact sd);rintro _ _ ⟨rfl,rfl⟩))<;>(try simp (disch:=omega) only [push_cast,seval,q0,q1,q2,q3,q4,hel,hil,Abz]))
 | (refine Aiz ⟨.inr rfl,_,rfl,?_⟩;(try simp (disch:=omega) only [push_cast,seval,q0,q1,q2,q3,q4,hel,hil,Abz]))))
      refine ⟨i + 1,by omega,by omega,?_⟩
      (refine Sub.of_lists ?_ ?_ ?_ ?_ ?_<;>simp [Vw.mkS,Vw.lk,Vw.hk,AV.inn,innL,Asz,Arz,Avz,-List.map_set,-List.getD_eq_getElem?_getD,Abz,hK2,hkn])
    · have e:i=es.length:=by omega
      subst e
      (repeat' (first
 | (first|refine Ajz ?_|refine Afz ?_)
 | ((first|refine Akz ?_|refine Aez ?_|refine Agz ?_|refine Ahz ?_);simp (disch:=omega) only [push_cast,seval,l28r0,l28r1,l28r2,l28r3,l28r4,l28r5,l28r6,l28r7,l28r8,l28r9,l28r10,l28r11,l28r12,l28r13,l28r14,l28r15,l28r16,l28r17,l28r18,l28r19,hel,Abz])
 | ((first|refine Aaz ?_ ?_|refine Adz ?_ ?_|refine Acz ?_ ?_)<;>intro h<;>(try simp only [h])<;>(try simp only [bitvec_to_nat] at h)<;>(try simp only [h])<;>(first|(exfalso;omega)|(exfalso;simp_all;done)|(simp (disch:=omega) only [push_cast,seval,hel,Abz])|skip))
 | ((first|refine Amz false ?_|refine Alz false ?_);simp (disch:=omega) only [push_cast,seval,hel,Abz])
 | ((first|((first|refine call0D (BCall.ofP (Caz _ _ ?_)) ?_|refine qcall0D (BCall.ofP (Caz _ _ ?_)) ⟨_,_,rfl,rfl⟩ ?_);(exact sd);rintro _ _ ⟨rfl,rfl⟩))<;>(try simp (disch:=omega) only [push_cast,seval,hel,Abz]))
 | (refine Aiz ⟨.inr rfl,_,rfl,?_⟩;(try simp (disch:=omega) only [push_cast,seval,hel,Abz]))))


set_option maxHeartbeats 8000000 in
theorem heldBuffer_ok (es:List Ex) (m n:Nat) (k:Int) (hn:es.length=n) (hk:0 ≤ k ∧ k ≤ 1000000) (hb:m ≤ 1048576 ∧ n ≤ 1048576 ∧ ∀ j,(exR es j).length ≤ 1048576):PCall Tryz.prog 11 [.agg [.rows false (IL (upFrom k m)) m,.rows false (EL false (mkE es (k + m))) n],.int .i64 k] (fun r=>r=.int .i64 (kA (exR es) (k + m) n)):=by
  obtain ⟨hb1,hb2,hb3⟩:=hb
  have hbe:n ≤ 1048576 ∧ ∀ j,(exR es j).length ≤ 1048576:=⟨hb2,hb3⟩
  have hke:=kA_le (k:=k + m) hb3 n
  refine Auz l11_eq rfl ?_
  (repeat' (first
 | (first|refine Ajz ?_|refine Afz ?_)
 | ((first|refine Akz ?_|refine Aez ?_|refine Agz ?_|refine Ahz ?_);simp (disch:=omega) only [push_cast,seval,l11r0,l11r1,l11r2,l11r3,l11r4,l11r5,l11r6,l11r7,Abz])
 | ((first|refine Aaz ?_ ?_|refine Adz ?_ ?_|refine Acz ?_ ?_)<;>intro h<;>(try simp only [h])<;>(try simp only [bitvec_to_nat] at h)<;>(try simp only [h])<;>(first|(exfalso;omega)|(exfalso;simp_all;done)|(simp (disch:=omega) only [push_cast,seval,Abz])|skip))
 | ((first|refine Amz false ?_|refine Alz false ?_);simp (disch:=omega) only [push_cast,seval,Abz])
 | ((first|((first|refine call0D (BCall.ofP (Caz _ _ ?_)) ?_|refine qcall0D (BCall.ofP (Caz _ _ ?_)) ⟨_,_,rfl,rfl⟩ ?_);(exact sd);rintro _ _ ⟨rfl,rfl⟩)|((first|refine call0D (BCall.ofP (heldExportS_ok _ _ _ ?_ ?_ ?_)) ?_|refine qcall0D (BCall.ofP (heldExportS_ok _ _ _ ?_ ?_ ?_)) ⟨_,_,rfl,rfl⟩ ?_);(iterate 3 (exact sd));rintro _ _ ⟨rfl,rfl⟩))<;>(try simp (disch:=omega) only [push_cast,seval,Abz]))
 | (refine Aiz ⟨.inr rfl,_,rfl,?_⟩;(try simp (disch:=omega) only [push_cast,seval,Abz]))))
  all_goals skip

end Go.Proofs.YtahdlohpncjdbaaGreatDoor
set_option linter.unusedSimpArgs false
set_option linter.unusedVariables false
set_option maxRecDepth 4000
set_option maxHeartbeats 4000000
namespace Go.Proofs.YtahdlohpncjdbaaGreatDoor
open VwM Vw Go
set_option linter.unusedSectionVars false
variable [SentA]



theorem vclone_ok (b:Int) (sh st:List Int) (n m:Nat) (hn:sh.length=n) (hm:st.length=m) (hb:n ≤ 1099511627776 ∧ m ≤ 1099511627776):BCall Tryz.prog 51 [.agg [.int .i64 b,.rows false (IL sh) n,.rows false (IL st) m]] [] (OV b sh st):=by
  subst hn hm
  obtain ⟨hb1,hb2⟩:=hb
  refine A4z (pins:=[]) (pin:=0) l51_eq rfl rfl rfl ?_
  (repeat' (first
 | (first|refine Ajz ?_|refine Afz ?_)
 | ((first|refine Akz ?_|refine Aqz (mid:=l51r1a) (post:=l51r1b) Ayz (by decide) ?_|refine Aez ?_|refine Agz ?_|refine Ahz ?_);simp (disch:=omega) only [push_cast,seval,l51r0,l51r1a,l51r1b,l51r1])
 | ((first|refine Aaz ?_ ?_|refine Adz ?_ ?_|refine Acz ?_ ?_)<;>intro h<;>(try simp only [h])<;>(try simp only [bitvec_to_nat] at h)<;>(try simp only [h])<;>(first|(exfalso;omega)|(exfalso;simp_all;done)|(simp (disch:=omega) only [push_cast,seval])|skip))
 | ((first|refine Amz false ?_|refine Alz false ?_);simp (disch:=omega) only [push_cast,seval])
 | ((first|((first|refine call0D (Dmz _ _ ?_ ?_) ?_|refine qcall0D (Dmz _ _ ?_ ?_) ⟨_,_,rfl,rfl⟩ ?_);(iterate 2 (exact sd));rintro _ _ ⟨rfl,rfl⟩))<;>(try simp (disch:=omega) only [push_cast,seval]))
 | (refine Aiz ⟨.inr rfl,[112,160],[],_,by decide,rfl,?_⟩;(try simp (disch:=omega) only [push_cast,seval,↓Apz,↓Anz,↓List.map_cons,↓List.map_nil]))))
  all_goals simp [OV]


set_option maxHeartbeats 16000000 in
theorem bclone_ok (cs:List Int) (es:List Ex) (m n:Nat) (hm:cs.length=m) (hn:es.length=n) (hb:m ≤ 1048576 ∧ n ≤ 1048576 ∧ exB 1048576 es):BCall Tryz.prog 50 [.agg [.rows false (IL cs) m,.rows false (EL false es) n]] [] (fun r H'=>r=.agg [.own 0 m 1,.own 1 n 5] ∧ H'=IL cs :: (esF es).cellsG (· + 2) :: (esF es).conts):=by
  subst hm hn
  obtain ⟨hb1,hb2,hb3⟩:=hb
  refine A4z (pins:=[]) (pin:=0) l50_eq rfl rfl rfl ?_
  have hel:=Bbz false es
  (repeat' (first
 | (first|refine Ajz ?_|refine Afz ?_)
 | ((first|refine Akz ?_|refine Aqz (mid:=l50r5a) (post:=l50r5b) Ayz (by decide) ?_|refine Aez ?_|refine Agz ?_|refine Ahz ?_);simp (disch:=omega) only [push_cast,seval,l50r0,l50r1,l50r2,l50r3,l50r4,l50r5a,l50r5b,l50r5,l50r6,l50r7,Abz,hel])
 | ((first|refine Aaz ?_ ?_|refine Adz ?_ ?_|refine Acz ?_ ?_)<;>intro h<;>(try simp only [h])<;>(try simp only [bitvec_to_nat] at h)<;>(try simp only [h])<;>(first|(exfalso;omega)|(exfalso;simp_all;done)|(simp (disch:=omega) only [push_cast,seval,Abz,hel])|skip))
 | ((first|refine Amz false ?_|refine Alz false ?_);simp (disch:=omega) only [push_cast,seval,Abz,hel])
 | ((first|((first|refine call0D (Dmz _ _ ?_ ?_) ?_|refine qcall0D (Dmz _ _ ?_ ?_) ⟨_,_,rfl,rfl⟩ ?_);(iterate 2 (exact sd));rintro _ _ ⟨rfl,rfl⟩)|((first|refine call0D (vclone_ok _ _ _ _ _ ?_ ?_ ?_) ?_|refine qcall0D (vclone_ok _ _ _ _ _ ?_ ?_ ?_) ⟨_,_,rfl,rfl⟩ ?_);(iterate 3 (exact sd));rintro _ _ ⟨rfl,rfl⟩))<;>(try simp (disch:=omega) only [push_cast,seval,Abz,hel]))))
  refine E0z (fun i:Nat=>mkS [(2,.ref 32 2 0),(3,.ref 48 2 0),(11,.rows false (EL false es) es.length),(12,.int .i64 es.length),(13,.int .i64 i)] ([(32,[.val (.slice none 0 0),.val (.slice none 0 0)]),(48,[.own 128 cs.length 1,.own 448 i 5]),(128,IL cs),(448,cellN 7 es i)] ++ famR 7 (exR es) (i * 2))) (fun i=>i ≤ es.length) (fun i=>es.length - i) 0 (Nat.zero_le _) ?_ ?_
  · refine SubW.adoptH [48] 448 5 (by simp [Vw.hk]) (SubW.of ?_)
    have e0:cellN 7 es 0=[]:=rfl
    have e1:famR 7 (exR es) (0 * 2)=[]:=rfl
    rw [e0,e1]
    simp only [adHL,List.map_cons,List.map_nil,adA,List.contains_cons,List.contains_nil]
    (refine Sub.of_lists ?_ ?_ ?_ ?_ ?_<;>simp [Vw.mkS,Vw.lk,Vw.hk,AV.inn,innL,Asz,Arz,Avz,-List.map_set,-List.getD_eq_getElem?_getD,Abz])
  · intro i hi
    by_cases hlt:i < es.length
    · obtain ⟨p,b,x,y,o,he⟩:=Ctz hlt
      have hbb:=Diz hb3 he
      have hd:=Cjz false es i he
      simp only at hd
      have hil:i * 5 + 5 ≤ es.length * 5:=by omega
      have hcl:=cellN_length 7 es i
      obtain ⟨h0,h1,h2,hr0,hr1⟩:=ex_at he
      (repeat' (first
 | (first|refine Ajz ?_|refine Afz ?_)
 | ((first|refine Akz ?_|refine Aqz (mid:=l50r5a) (post:=l50r5b) Ayz (by decide) ?_|refine Aez ?_|refine Agz ?_|refine Ahz ?_);simp (disch:=omega) only [push_cast,seval,l50r0,l50r1,l50r2,l50r3,l50r4,l50r5a,l50r5b,l50r5,l50r6,l50r7,hd,hel,hil,hcl,Abz,zcX])
 | ((first|refine Aaz ?_ ?_|refine Adz ?_ ?_|refine Acz ?_ ?_)<;>intro h<;>(try simp only [h])<;>(try simp only [bitvec_to_nat] at h)<;>(try simp only [h])<;>(first|(exfalso;omega)|(exfalso;simp_all;done)|(simp (disch:=omega) only [push_cast,seval,hd,hel,hil,hcl,Abz,zcX])|skip))
 | ((first|refine Amz false ?_|refine Alz false ?_);simp (disch:=omega) only [push_cast,seval,hd,hel,hil,hcl,Abz,zcX])
 | ((first|((first|refine call0D (Dmz _ _ ?_ ?_) ?_|refine qcall0D (Dmz _ _ ?_ ?_) ⟨_,_,rfl,rfl⟩ ?_);(iterate 2 (exact sd));rintro _ _ ⟨rfl,rfl⟩)|((first|refine call0D (vclone_ok _ _ _ _ _ ?_ ?_ ?_) ?_|refine qcall0D (vclone_ok _ _ _ _ _ ?_ ?_ ?_) ⟨_,_,rfl,rfl⟩ ?_);(iterate 3 (exact sd));rintro _ _ ⟨rfl,rfl⟩))<;>(try simp (disch:=omega) only [push_cast,seval,hd,hel,hil,hcl,Abz,zcX]))))
      refine ⟨i + 1,by omega,by omega,?_⟩
      rw [show (i + 1) * 2=i * 2 + 2 by omega]
      refine SubW.fam2L (a:=368) (b:=369) (d:=7) (i:=i * 2) (rows:=exR es) (L:=[(32,[.val (.slice none 0 0),.val (.slice none 0 0)]),(48,[.own 128 cs.length 1,.own 448 (i + 1) 5]),(128,IL cs),(448,cellN 7 es (i + 1))]) ?_ ?_ ⟨by omega,by omega,by omega⟩ ?_ ?_ ?_ ?_ ?_
      · rw [hr0];rfl
      · rw [hr1];rfl
      · intro j hj
        simp only [hk,Axz _ _ 448 (by omega),Axz _ _ 368 (by omega),Axz _ _ 369 (by omega),Axz _ _ 432 (by omega),Axz _ _ 80 (by omega),Axz _ _ 32 (by omega),Axz _ _ 48 (by omega),Axz _ _ 128 (by omega),if_false]
        exact Dcz _ _ _ _ hj
      · intro q hq
        simp only [List.mem_cons,List.not_mem_nil,or_false] at hq
        rcases hq with rfl|rfl|rfl|rfl
        · exact ⟨⟨by simp,by simp,by simp⟩,rfl⟩
        · refine ⟨⟨by simp,by simp,by simp⟩,?_⟩
          show some [AV.own (swp 369 (fim 7 (i * 2 + 1)) (swp 368 (fim 7 (i * 2)) 128)) cs.length 1,AV.own (swp 369 (fim 7 (i * 2 + 1)) (swp 368 (fim 7 (i * 2)) 448)) (i + 1) 5]=_
          rw [D3z 368 7 _ 128 (by omega) (by omega),D3z 368 7 _ 448 (by omega) (by omega),D3z 369 7 _ 128 (by omega) (by omega),D3z 369 7 _ 448 (by omega) (by omega)]
        · refine ⟨⟨by simp,by simp,by simp⟩,?_⟩
          show some (swL _ _ (swL _ _ (IL cs)))=_
          rw [C2z,C2z]
        · refine ⟨⟨by simp,by simp,by simp⟩,?_⟩
          exact congrArg some (cellN_succ (by omega) (by omega) (by omega) he)
      · simp [lk,AV.sw,Gzz,D3z]
      · simp [AV.inn,Abz,hk]
      · intro q hq
        simp only [List.mem_cons,List.not_mem_nil,or_false] at hq
        rcases hq with rfl|rfl|rfl|rfl
        · rfl
        · simp [innL,AV.inn,hk]
        · exact Dsz _ _
        · exact cellN_inn fun j hj=>by
            show (hk ((32,_) :: (48,_) :: (128,_) :: (448,_) :: famR 7 (exR es) (i * 2 + 2)) (fim 7 j)).isSome=true
            simp only [hk,Axz _ _ 448 (by omega),Axz _ _ 32 (by omega),Axz _ _ 48 (by omega),Axz _ _ 128 (by omega),if_false]
            rw [Dcz _ _ _ _ (by omega)];rfl
    · have e:i=es.length:=by omega
      subst e
      (repeat' (first
 | (first|refine Ajz ?_|refine Afz ?_)
 | ((first|refine Akz ?_|refine Aqz (mid:=l50r5a) (post:=l50r5b) Ayz (by decide) ?_|refine Aez ?_|refine Agz ?_|refine Ahz ?_);simp (disch:=omega) only [push_cast,seval,l50r0,l50r1,l50r2,l50r3,l50r4,l50r5a,l50r5b,l50r5,l50r6,l50r7,Abz])
 | ((first|refine Aaz ?_ ?_|refine Adz ?_ ?_|refine Acz ?_ ?_)<;>intro h<;>(try simp only [h])<;>(try simp only [bitvec_to_nat] at h)<;>(try simp only [h])<;>(first|(exfalso;omega)|(exfalso;simp_all;done)|(simp (disch:=omega) only [push_cast,seval,Abz])|skip))
 | ((first|refine Amz false ?_|refine Alz false ?_);simp (disch:=omega) only [push_cast,seval,Abz])
 | ((first|((first|refine call0D (Dmz _ _ ?_ ?_) ?_|refine qcall0D (Dmz _ _ ?_ ?_) ⟨_,_,rfl,rfl⟩ ?_);(iterate 2 (exact sd));rintro _ _ ⟨rfl,rfl⟩)|((first|refine call0D (vclone_ok _ _ _ _ _ ?_ ?_ ?_) ?_|refine qcall0D (vclone_ok _ _ _ _ _ ?_ ?_ ?_) ⟨_,_,rfl,rfl⟩ ?_);(iterate 3 (exact sd));rintro _ _ ⟨rfl,rfl⟩))<;>(try simp (disch:=omega) only [push_cast,seval,Abz]))))
      refine Aiz ⟨.inr rfl,ret_famB (id0:=128) (id1:=448) (d:=7) (F:=esF es) (cs:=cs) rfl rfl rfl ?_ (by omega)⟩
      intro j hj
      simp only [hk,Axz _ _ 448 (by omega),Axz _ _ 32 (by omega),Axz _ _ 48 (by omega),Axz _ _ 128 (by omega),if_false]
      exact Dcz _ _ _ _ hj


set_option maxHeartbeats 16000000 in
theorem scB_ok (cs:List Int) (es:List Ex) (m n:Nat) (hm:cs.length=m) (hn:es.length=n) (hb:m ≤ 1099511627776 ∧ n ≤ 1099511627776 ∧ exB 1099511627776 es):BCall Tryz.prog 38 [.agg [.rows false (IL cs) m,.rows false (EL false es) n]] [] (fun r H'=>r=.agg [.own 0 m 1,.own 1 n 5] ∧ H'=[IL cs,EL true es]):=by
  subst hm hn
  obtain ⟨hb1,hb2,hb3⟩:=hb
  refine A4z (pins:=[]) (pin:=0) l38_eq rfl rfl rfl ?_
  have hel:=Bbz false es
  (repeat' (first
 | (first|refine Ajz ?_|refine Afz ?_)
 | ((first|refine Akz ?_|refine Aez ?_|refine Agz ?_|refine Ahz ?_);simp (disch:=omega) only [push_cast,seval,l38r0,l38r1,l38r2,l38r3,l38r4,l38r5,l38r6,l38r7,l38r8,Abz,hel])
 | ((first|refine Aaz ?_ ?_|refine Adz ?_ ?_|refine Acz ?_ ?_)<;>intro h<;>(try simp only [h])<;>(try simp only [bitvec_to_nat] at h)<;>(try simp only [h])<;>(first|(exfalso;omega)|(exfalso;simp_all;done)|(simp (disch:=omega) only [push_cast,seval,Abz,hel])|skip))
 | ((first|refine Amz false ?_|refine Alz false ?_);simp (disch:=omega) only [push_cast,seval,Abz,hel])
 | ((first|((first|refine call0D (Cez _ _ ?_ ?_) ?_|refine qcall0D (Cez _ _ ?_ ?_) ⟨_,_,rfl,rfl⟩ ?_);(iterate 2 (exact sd));rintro _ _ ⟨rfl,rfl⟩)|((first|refine call0D (scopyView_ok _ _ _ _ _ ?_ ?_ ?_) ?_|refine qcall0D (scopyView_ok _ _ _ _ _ ?_ ?_ ?_) ⟨_,_,rfl,rfl⟩ ?_);(iterate 3 (exact sd));rintro _ _ ⟨rfl,rfl⟩))<;>(try simp (disch:=omega) only [push_cast,seval,Abz,hel]))))
  refine E0z (fun i:Nat=>mkS [(1,.ref 16 2 0),(2,.ref 32 2 0),(3,.ref 48 2 0),(4,.int .i64 i)] [(16,[.rows false (IL cs) cs.length,.rows false (EL false es) es.length]),(32,[.rows true [] 0,.rows true [] 0]),(48,[.own 128 cs.length 1,.own 480 i 5]),(128,IL cs),(480,EL true (es.take i))]) (fun i=>i ≤ es.length) (fun i=>es.length - i) 0 (Nat.zero_le _) ?_ ?_
  · refine SubW.adoptH [48] 480 5 (by simp [Vw.hk]) ?_
    have e0:EL true (es.take 0)=[]:=rfl
    rw [e0]
    simp only [adHL,List.map_cons,List.map_nil,adA,List.contains_cons,List.contains_nil]
    refine SubW.freeze [] (fun _ h=>by cases h) (SubW.of ?_)
    simp (disch:=omega) only [push_cast,seval,frzA,frzH,rhoF,List.contains_cons,List.contains_nil,Bool.or_false,Bool.false_eq_true,List.map_append,List.map_cons,List.map_nil,List.length_map]
    (refine Sub.of_lists ?_ ?_ ?_ ?_ ?_<;>simp [Vw.mkS,Vw.lk,Vw.hk,AV.inn,innL,Asz,Arz,Avz,-List.map_set,-List.getD_eq_getElem?_getD,Abz])
  · intro i hi
    by_cases hlt:i < es.length
    · obtain ⟨p,b,x,y,o,he⟩:=Ctz hlt
      have hbb:=Diz hb3 he
      have hd:=Cjz false es i he
      simp only at hd
      have hil:i * 5 + 5 ≤ es.length * 5:=by omega
      have htl:(EL true (es.take i)).length=i * 5:=by rw [Bbz,List.length_take];omega
      have hsu:=EL_take true he
      simp only at hsu
      (repeat' (first
 | (first|refine Ajz ?_|refine Afz ?_)
 | ((first|refine Akz ?_|refine Aez ?_|refine Agz ?_|refine Ahz ?_);simp (disch:=omega) only [push_cast,seval,l38r0,l38r1,l38r2,l38r3,l38r4,l38r5,l38r6,l38r7,l38r8,hd,hel,hil,htl,Abz,zcX])
 | ((first|refine Aaz ?_ ?_|refine Adz ?_ ?_|refine Acz ?_ ?_)<;>intro h<;>(try simp only [h])<;>(try simp only [bitvec_to_nat] at h)<;>(try simp only [h])<;>(first|(exfalso;omega)|(exfalso;simp_all;done)|(simp (disch:=omega) only [push_cast,seval,hd,hel,hil,htl,Abz,zcX])|skip))
 | ((first|refine Amz false ?_|refine Alz false ?_);simp (disch:=omega) only [push_cast,seval,hd,hel,hil,htl,Abz,zcX])
 | ((first|((first|refine call0D (Cez _ _ ?_ ?_) ?_|refine qcall0D (Cez _ _ ?_ ?_) ⟨_,_,rfl,rfl⟩ ?_);(iterate 2 (exact sd));rintro _ _ ⟨rfl,rfl⟩)|((first|refine call0D (scopyView_ok _ _ _ _ _ ?_ ?_ ?_) ?_|refine qcall0D (scopyView_ok _ _ _ _ _ ?_ ?_ ?_) ⟨_,_,rfl,rfl⟩ ?_);(iterate 3 (exact sd));rintro _ _ ⟨rfl,rfl⟩))<;>(try simp (disch:=omega) only [push_cast,seval,hd,hel,hil,htl,Abz,zcX]))))
      refine ⟨i + 1,by omega,by omega,?_⟩
      refine SubW.trans (s1:=mkS [(1,.ref 16 2 0),(2,.ref 32 2 0),(3,.ref 48 2 0),(4,.int .i64 ((i:Int) + 1))] [(16,[.rows false (IL cs) cs.length,.rows false (EL false es) es.length]),(32,[.rows true [] 0,.rows true [] 0]),(48,[.own 128 cs.length 1,.own 480 (i + 1) 5]),(128,IL cs),(480,EL true (es.take i) ++ [.int .i64 p,.int .i64 b,.own 384 x.length 1,.own 385 y.length 1,.bool o]),(384,IL x),(385,IL y)]) (SubW.of (by (refine Sub.of_lists ?_ ?_ ?_ ?_ ?_<;>simp [Vw.mkS,Vw.lk,Vw.hk,AV.inn,innL,Asz,Arz,Avz,-List.map_set,-List.getD_eq_getElem?_getD,Abz]))) ?_
      refine SubW.freeze [384,385] (by decide) (SubW.of ?_)
      simp (disch:=omega) only [push_cast,seval,frzA,frzH,rhoF,List.contains_cons,List.contains_nil,Bool.or_false,Bool.false_eq_true,List.map_append,List.map_cons,List.map_nil,List.length_map]
      (refine Sub.of_lists ?_ ?_ ?_ ?_ ?_<;>simp [Vw.mkS,Vw.lk,Vw.hk,AV.inn,innL,Asz,Arz,Avz,-List.map_set,-List.getD_eq_getElem?_getD,Abz,hsu])
    · have e:i=es.length:=by omega
      subst e
      (repeat' (first
 | (first|refine Ajz ?_|refine Afz ?_)
 | ((first|refine Akz ?_|refine Aez ?_|refine Agz ?_|refine Ahz ?_);simp (disch:=omega) only [push_cast,seval,l38r0,l38r1,l38r2,l38r3,l38r4,l38r5,l38r6,l38r7,l38r8,Abz,List.take_length])
 | ((first|refine Aaz ?_ ?_|refine Adz ?_ ?_|refine Acz ?_ ?_)<;>intro h<;>(try simp only [h])<;>(try simp only [bitvec_to_nat] at h)<;>(try simp only [h])<;>(first|(exfalso;omega)|(exfalso;simp_all;done)|(simp (disch:=omega) only [push_cast,seval,Abz,List.take_length])|skip))
 | ((first|refine Amz false ?_|refine Alz false ?_);simp (disch:=omega) only [push_cast,seval,Abz,List.take_length])
 | ((first|((first|refine call0D (Cez _ _ ?_ ?_) ?_|refine qcall0D (Cez _ _ ?_ ?_) ⟨_,_,rfl,rfl⟩ ?_);(iterate 2 (exact sd));rintro _ _ ⟨rfl,rfl⟩)|((first|refine call0D (scopyView_ok _ _ _ _ _ ?_ ?_ ?_) ?_|refine qcall0D (scopyView_ok _ _ _ _ _ ?_ ?_ ?_) ⟨_,_,rfl,rfl⟩ ?_);(iterate 3 (exact sd));rintro _ _ ⟨rfl,rfl⟩))<;>(try simp (disch:=omega) only [push_cast,seval,Abz,List.take_length]))
 | (refine Aiz ⟨.inr rfl,[128,480],[],_,by decide,rfl,?_⟩;(try simp (disch:=omega) only [push_cast,seval,↓Apz,↓Anz,↓List.map_cons,↓List.map_nil,Abz,List.take_length]))))
      all_goals skip

end Go.Proofs.YtahdlohpncjdbaaGreatDoor
set_option linter.unusedSimpArgs false
set_option linter.unusedVariables false
set_option maxRecDepth 4000
set_option maxHeartbeats 4000000
namespace Go.Proofs.YtahdlohpncjdbaaGreatDoor
open VwM Vw Go
set_option linter.unusedSectionVars false
variable [SentA]

abbrev OBs (ok:Bool) (cs:List Int) (es:List Ex):AV → List (List AV) → Prop:=fun r H'=>r=.tup [.agg [.own 0 cs.length 1,.own 1 es.length 5],.bool ok] ∧ H'=[IL cs,EL true es]
abbrev OBf (ok:Bool) (cs:List Int) (es:List Ex):AV → List (List AV) → Prop:=fun r H'=>r=.tup [.agg [.own 0 cs.length 1,.own 1 es.length 5],.bool ok] ∧ H'=IL cs :: (esF es).cellsG (· + 2) :: (esF es).conts
theorem mkE_nil:(esF ([]:List Ex)).cellsG (· + 2)=[] ∧ (esF ([]:List Ex)).conts=[]:=⟨rfl,rfl⟩
/-- What comes of it if 'g' holds. -/
def ifB {α:Type} (g:Bool) (l:List α):List α:=if g=true then l else []
theorem Hez {α:Type} (l:List α):ifB true l=l:=rfl
theorem C5z {α:Type} (l:List α):ifB false l=[]:=rfl
def relG (cs:List Int) (es:List Ex) (id:Int):Bool:=(vB cs es && opA es id) && decide ((kidsT es id es.length).length=0)



end Go.Proofs.YtahdlohpncjdbaaGreatDoor
set_option linter.unusedSimpArgs false
set_option linter.unusedVariables false
set_option maxRecDepth 4000
set_option maxHeartbeats 4000000
namespace Go.Proofs.YtahdlohpncjdbaaGreatDoor
open VwM Vw Go
set_option linter.unusedSectionVars false
variable [SentA]

theorem ifB_le {α:Type} (g:Bool) (l:List α):(ifB g l).length ≤ l.length:=by
  cases g
  · exact Nat.zero_le _
  · exact Nat.le_refl _
theorem exB_ifB {n:Nat} {es:List Ex} (g:Bool) (h:exB n es):exB n (ifB g es):=by
  cases g
  · intro e he;cases he
  · exact h
end Go.Proofs.YtahdlohpncjdbaaGreatDoor
