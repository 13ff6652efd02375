import Derived.Test.YtahdlohpncjdbaaDoorCKh13
import Derived.Test.YtahdlohpncjdbaaDoorCM1
import Derived.Test.YtahdlohpncjdbaaDoorCW3
set_option linter.unusedSimpArgs false
set_option linter.unusedVariables false
set_option maxRecDepth 4000
set_option maxHeartbeats 4000000
namespace Go.Proofs.YtahdlohpncjdbaaDoor
open VwM Vw Go
set_option linter.unusedSectionVars false
variable [SentA]



set_option maxHeartbeats 16000000 in
theorem markExportSX_ok (es : List Ex) (n : Nat) (k : Int) (hn : es.length = n) (hk : 0 ≤ k ∧ k ≤ 1125899906842624) (hb : n ≤ 1048576 ∧ ∀ j,(exR es j).length ≤ 1048576) : BCall Tryd.prog 43 [.own 0 n 5,.int .i64 k] ((esF es).cellsG (· + 1) :: (esF es).conts) (fun r H' => r = .int .i64 (kA (exR es) k n) ∧ H' = (esF (mkE es k)).cellsG (· + 1) :: (esF (mkE es k)).conts) := by
  obtain ⟨hb2,hb3⟩ := hb
  have hb1 := hk
  clear hk
  have hEs : esF es = eF n (exPa es) (exBs es) (exOp es) (exR es) := by rw [← hn]
  rw [hEs]
  refine bcall_of (pins := List.range (n * 2 + 1)) (pin := n * 2 + 1) l43_eq rfl (by simp [conts_length,eF_R]) (by simp [conts_length,eF_R]) ?_
  rw [initB_fam,eF_R,show (eF n (exPa es) (exBs es) (exOp es) (exR es)).rows = exR es from rfl]
  have hke := fun i => kA_le (k := k) hb3 i
  have hdone : ∀ (ps bs : Nat → Int) (os : Nat → Bool) (rows : Nat → List Int),(∀ j,j < n → ps j = (mkX (exR es) k j).1 ∧ bs j = (mkX (exR es) k j).2.1.1 ∧ os j = (mkX (exR es) k j).2.2 ∧ rows (j * 2) = (mkX (exR es) k j).2.1.2.1 ∧ rows (j * 2 + 1) = (mkX (exR es) k j).2.1.2.2) → (∀ j,n * 2 ≤ j → rows j = []) → exR (mkE es k) = rows ∧ row (n * 5) ((eF n ps bs os (exR es)).atG (· + 1)) = (esF (mkE es k)).cellsG (· + 1) := fun ps bs os rows h hz => by
    subst hn; exact mkE_done h hz _
  have hRR : (esF (mkE es k)).R = n * 2 := by rw [eF_R,mkE_length,hn]
  have hz0 : ∀ j,n * 2 ≤ j → exR es j = [] := fun j hj => exR_out (by omega)
  obtain ⟨rows0,hr0⟩ : ∃ r,r = exR es := ⟨_,rfl⟩
  rw [← hr0] at hb3 hke hz0 hdone ⊢
  obtain ⟨cc,hcc⟩ : ∃ cc : (Nat → Int) → (Nat → Int) → (Nat → Bool) → List AV,cc = fun ps bs os => (eF n ps bs os rows0).cellsG (· + 1) := ⟨_,rfl⟩
  have hc0 : (eF n (exPa es) (exBs es) (exOp es) rows0).cellsG (· + 1) = cc (exPa es) (exBs es) (exOp es) := by rw [hcc]
  have hcl : ∀ ps bs os,(cc ps bs os).length = n * 5 := fun ps bs os => by rw [hcc]; exact cellsG_length ..
  have hset0 : ∀ ps bs os i x,(cc ps bs os).set (i * 5) (.int .i64 x) = cc (upd ps i x) bs os := fun ps bs os i x => by rw [hcc]; exact eF_set0 ..
  have hset1 : ∀ ps bs os i x,(cc ps bs os).set (i * 5 + 1) (.int .i64 x) = cc ps (upd bs i x) os := fun ps bs os i x => by rw [hcc]; exact eF_set1 ..
  have hset4 : ∀ ps bs os i x,(cc ps bs os).set (i * 5 + 4) (.bool x) = cc ps bs (upd os i x) := fun ps bs os i x => by rw [hcc]; exact eF_set4 ..
  have hat1 : ∀ ps bs os i,i < n → ((cc ps bs os).drop (i * 5 + 2)).take 1 = [.own (i * 2 + 1) (rows0 (i * 2)).length 1] := fun ps bs os i hi => by
    rw [hcc]
    simp only [Fam.cellsG]
    rw [eF_C,row_1 _ _ _ (by omega),eF_2]
  have hat2 : ∀ ps bs os i,i < n → ((cc ps bs os).drop (i * 5 + 3)).take 1 = [.own (i * 2 + 1 + 1) (rows0 (i * 2 + 1)).length 1] := fun ps bs os i hi => by
    rw [hcc]
    simp only [Fam.cellsG]
    rw [eF_C,row_1 _ _ _ (by omega),eF_3]
  have hfin : ∀ ps bs os,cc ps bs os = row (n * 5) ((eF n ps bs os rows0).atG (· + 1)) := fun ps bs os => by rw [hcc]; rfl
  generalize exPa es = ps0 at *
  generalize exBs es = bs0 at *
  generalize exOp es = os0 at *
  generalize hG : esF (mkE es k) = G at *
  rw [hc0]
  (repeat' (first
 | (first | refine awp_seq ?_ | refine awp_block ?_)
 | ((first | refine awp_reg ?_ | refine awp_condB ?_ | refine awp_skip ?_ | refine awp_exit ?_); simp (disch := omega) only [push_cast,seval,l43r0,l43r1,l43r2,l43r3,l43r4,l43r5,l43r6,l43r7,l43r8,l43r9,l43r10,l43r11,l43r12])
 | ((first | refine condB_split (fun h => ?_) (fun h => ?_) | refine gIf_split (fun h => ?_) (fun h => ?_) | refine qIf_split (fun h => ?_) (fun h => ?_)) <;> (try simp only [h]) <;> (try simp only [bitvec_to_nat] at h) <;> (try simp only [h]) <;> (first | (exfalso; omega) | (focus (exfalso; simp_all; done)) | (simp (disch := omega) only [push_cast,seval]) | skip))
 | ((first | ((with_reducible refine qcallI_of (f := 42) [544] false ?_); simp (disch := omega) only [push_cast,seval]; (refine qcall1D (id := 544) (markIntS_ok _ _ _ ?_ ?_) (by first | ((simp (disch := omega) only [push_cast,seval]); done) | ((simp (disch := omega) only [push_cast,seval]); rfl)) (by decide) ⟨_,_,rfl,rfl⟩ ?_; (iterate 2 (exact sd)); rintro _ _ ⟨rfl,rfl⟩)) | ((with_reducible refine qcallI_of (f := 42) [672] false ?_); simp (disch := omega) only [push_cast,seval]; (refine qcall1D (id := 672) (markIntS_ok _ _ _ ?_ ?_) (by first | ((simp (disch := omega) only [push_cast,seval]); done) | ((simp (disch := omega) only [push_cast,seval]); rfl)) (by decide) ⟨_,_,rfl,rfl⟩ ?_; (iterate 2 (exact sd)); rintro _ _ ⟨rfl,rfl⟩)) | ((with_reducible refine callD_ids (f := 42) [544] false ?_); simp (disch := omega) only [push_cast,seval]; (refine call1D (id := 544) (markIntS_ok _ _ _ ?_ ?_) (by first | ((simp (disch := omega) only [push_cast,seval]); done) | ((simp (disch := omega) only [push_cast,seval]); rfl)) ?_; (iterate 2 (exact sd)); rintro _ _ ⟨rfl,rfl⟩)) | ((with_reducible refine callD_ids (f := 42) [672] false ?_); simp (disch := omega) only [push_cast,seval]; (refine call1D (id := 672) (markIntS_ok _ _ _ ?_ ?_) (by first | ((simp (disch := omega) only [push_cast,seval]); done) | ((simp (disch := omega) only [push_cast,seval]); rfl)) ?_; (iterate 2 (exact sd)); rintro _ _ ⟨rfl,rfl⟩))) <;> (try simp (disch := omega) only [push_cast,seval]))))
  refine awp_loopW (fun x : Nat × Int × (Nat → List Int) × (Nat → Int) × (Nat → Int) × (Nat → Bool) => mkS [(0,.own 0 n 5),(1,.int .i64 x.2.1),(5,.int .i64 x.1)] ((0,cc x.2.2.2.1 x.2.2.2.2.1 x.2.2.2.2.2) :: pinR x.2.2.1 (n * 2))) (fun x => x.1 ≤ n ∧ x.2.1 = kA rows0 k x.1 ∧ (∀ j,(x.2.2.1 j).length = (rows0 j).length) ∧ (∀ j,n * 2 ≤ j → x.2.2.1 j = []) ∧ ∀ j,j < x.1 → x.2.2.2.1 j = (mkX rows0 k j).1 ∧ x.2.2.2.2.1 j = (mkX rows0 k j).2.1.1 ∧ x.2.2.2.2.2 j = (mkX rows0 k j).2.2 ∧ x.2.2.1 (j * 2) = (mkX rows0 k j).2.1.2.1 ∧ x.2.2.1 (j * 2 + 1) = (mkX rows0 k j).2.1.2.2) (fun x => n - x.1) (0,k,rows0,ps0,bs0,os0) ⟨Nat.zero_le _,rfl,fun _ => rfl,hz0,fun j h => absurd h (Nat.not_lt_zero _)⟩ ?_ ?_
  · refine SubW.slots ?_
    simp [lk]
  · rintro ⟨i,kk,rows,ps,bs,os⟩ ⟨hi,hkk,hl,hz,hall⟩
    simp only at hi hkk hl hz hall ⊢
    have hki := hke i
    rw [← hkk] at hki
    by_cases hlt : i < n
    · have hd := hat1 (upd ps i kk) (upd bs i (kk + 1)) os i hlt
      have hd2 := hat2 (upd ps i kk) (upd bs i (kk + 1)) os i hlt
      have hkp := hk_pinR rows (n * 2) (i * 2) (by omega)
      have hkp2 := hk_pinR rows (n * 2) (i * 2 + 1) (by omega)
      have hli := hl (i * 2)
      have hbi := hb3 (i * 2)
      have hli2 := hl (i * 2 + 1)
      have hbi2 := hb3 (i * 2 + 1)
      have hil : i * 5 + 5 ≤ n * 5 := by omega
      have hne : (i * 2 + 1 + 1 = i * 2 + 1) = False := by simp
      have hkn : kA rows0 k (i + 1) = kA rows0 k i + 1 + 1 + (rows0 (i * 2)).length + (rows0 (i * 2 + 1)).length + 1 := rfl
      have hmx : mkX rows0 k i = (kA rows0 k i,(kA rows0 k i + 1,upFrom (kA rows0 k i + 1 + 1) (rows0 (i * 2)).length,upFrom (kA rows0 k i + 1 + 1 + (rows0 (i * 2)).length) (rows0 (i * 2 + 1)).length),decide ((kA rows0 k i + 1 + 1 + (rows0 (i * 2)).length + (rows0 (i * 2 + 1)).length).tmod 3 = 0)) := rfl
      rw [← hkk] at hkn hmx
      generalize hLL : (rows0 (i * 2)).length = L at *
      generalize hLL2 : (rows0 (i * 2 + 1)).length = L2 at *
      (repeat' (first
 | (first | refine awp_seq ?_ | refine awp_block ?_)
 | ((first | refine awp_reg ?_ | refine awp_condB ?_ | refine awp_skip ?_ | refine awp_exit ?_); simp (disch := omega) only [push_cast,seval,l43r0,l43r1,l43r2,l43r3,l43r4,l43r5,l43r6,l43r7,l43r8,l43r9,l43r10,l43r11,l43r12,hset0,hset1,hset4,hd,hd2,hkp,hkp2,hli,hli2,hcl,hil,hne,succ_ne0H,ne0_succH])
 | ((first | refine condB_split (fun h => ?_) (fun h => ?_) | refine gIf_split (fun h => ?_) (fun h => ?_) | refine qIf_split (fun h => ?_) (fun h => ?_)) <;> (try simp only [h]) <;> (try simp only [bitvec_to_nat] at h) <;> (try simp only [h]) <;> (first | (exfalso; omega) | (focus (exfalso; simp_all; done)) | (simp (disch := omega) only [push_cast,seval,hset0,hset1,hset4,hd,hd2,hkp,hkp2,hli,hli2,hcl,hil,hne,succ_ne0H,ne0_succH]) | skip))
 | ((first | ((with_reducible refine callD_ids (f := 42) [(i * 2 + 1)] false ?_); simp (disch := omega) only [push_cast,seval,hset0,hset1,hset4,hd,hd2,hkp,hkp2,hli,hli2,hcl,hil,hne,succ_ne0H,ne0_succH]; (refine call1D (id := (i * 2 + 1)) (markIntS_ok _ _ _ ?_ ?_) (by first | ((simp (disch := omega) only [push_cast,seval,hset0,hset1,hset4,hd,hd2,hkp,hkp2,hli,hli2,hcl,hil,hne,succ_ne0H,ne0_succH]); done) | ((simp (disch := omega) only [push_cast,seval,hset0,hset1,hset4,hd,hd2,hkp,hkp2,hli,hli2,hcl,hil,hne,succ_ne0H,ne0_succH]); rfl)) ?_; (iterate 2 (exact sd)); rintro _ _ ⟨rfl,rfl⟩)) | ((with_reducible refine callD_ids (f := 42) [(i * 2 + 1 + 1)] false ?_); simp (disch := omega) only [push_cast,seval,hset0,hset1,hset4,hd,hd2,hkp,hkp2,hli,hli2,hcl,hil,hne,succ_ne0H,ne0_succH]; (refine call1D (id := (i * 2 + 1 + 1)) (markIntS_ok _ _ _ ?_ ?_) (by first | ((simp (disch := omega) only [push_cast,seval,hset0,hset1,hset4,hd,hd2,hkp,hkp2,hli,hli2,hcl,hil,hne,succ_ne0H,ne0_succH]); done) | ((simp (disch := omega) only [push_cast,seval,hset0,hset1,hset4,hd,hd2,hkp,hkp2,hli,hli2,hcl,hil,hne,succ_ne0H,ne0_succH]); rfl)) ?_; (iterate 2 (exact sd)); rintro _ _ ⟨rfl,rfl⟩))) <;> (try simp (disch := omega) only [push_cast,seval,hset0,hset1,hset4,hd,hd2,hkp,hkp2,hli,hli2,hcl,hil,hne,succ_ne0H,ne0_succH]))))
      refine ⟨(i + 1,kk + 1 + 1 + L + L2 + 1,upd (upd rows (i * 2) (upFrom (kk + 1 + 1) L)) (i * 2 + 1) (upFrom (kk + 1 + 1 + L) L2),upd ps i kk,upd bs i (kk + 1),upd os i (decide ((kk + 1 + 1 + L + L2).tmod 3 = 0))),⟨by simp only; omega,hkn.symm,fun j => ?_,fun j hj => ?_,fun j hj => ?_⟩,by simp only; omega,?_⟩
      · simp only
        by_cases e : j = i * 2 + 1
        · subst e; rw [upd_eq,hLL2]; simp [upFrom]
        · rw [upd_ne _ _ _ _ e]
          by_cases e : j = i * 2
          · subst e; rw [upd_eq,hLL]; simp [upFrom]
          · rw [upd_ne _ _ _ _ e]; exact hl j
      · simp only
        rw [upd_ne _ _ _ _ (by omega),upd_ne _ _ _ _ (by omega)]
        exact hz j hj
      · simp only at hj ⊢
        by_cases e : j = i
        · subst e
          rw [hmx,upd_eq,upd_eq,upd_eq,upd_eq,upd_ne _ _ _ _ (by omega),upd_eq]
          exact ⟨rfl,rfl,rfl,rfl,rfl⟩
        · rw [upd_ne _ _ _ _ e,upd_ne _ _ _ _ e,upd_ne _ _ _ _ e,upd_ne _ _ _ _ (by omega),upd_ne _ _ _ _ (by omega),upd_ne _ _ _ _ (by omega),upd_ne _ _ _ _ (by omega)]
          exact hall j (by omega)
      · generalize cc (upd ps i kk) (upd bs i (kk + 1)) (upd os i (decide ((kk + 1 + 1 + L + L2).tmod 3 = 0))) = C
        refine SubW.heq (H' := (0,C) :: pinR (upd (upd rows (i * 2) (upFrom (kk + 1 + 1) L)) (i * 2 + 1) (upFrom (kk + 1 + 1 + L) L2)) (n * 2)) (fun id => ?_) (SubW.slots ?_)
        · have h1 := pinR_upd (rows := upd rows (i * 2) (upFrom (kk + 1 + 1) L)) (n := n * 2) (j := i * 2 + 1) (xs := upFrom (kk + 1 + 1 + L) L2) (c0 := C) (by omega) id
          have h2 := pinR_upd (rows := rows) (n := n * 2) (j := i * 2) (xs := upFrom (kk + 1 + 1) L) (c0 := C) (by omega) id
          rw [h1]
          simp only [hk] at h2 ⊢
          by_cases e0 : id = 0
          · subst e0; simp
          · simp only [if_neg e0] at h2 ⊢
            rw [h2]
        · simp [lk]
    · have e : i = n := by omega
      subst e
      obtain ⟨d1,d2⟩ := hdone ps bs os rows hall hz
      (repeat' (first
 | (first | refine awp_seq ?_ | refine awp_block ?_)
 | ((first | refine awp_reg ?_ | refine awp_condB ?_ | refine awp_skip ?_ | refine awp_exit ?_); simp (disch := omega) only [push_cast,seval,l43r0,l43r1,l43r2,l43r3,l43r4,l43r5,l43r6,l43r7,l43r8,l43r9,l43r10,l43r11,l43r12,hcl])
 | ((first | refine condB_split (fun h => ?_) (fun h => ?_) | refine gIf_split (fun h => ?_) (fun h => ?_) | refine qIf_split (fun h => ?_) (fun h => ?_)) <;> (try simp only [h]) <;> (try simp only [bitvec_to_nat] at h) <;> (try simp only [h]) <;> (first | (exfalso; omega) | (focus (exfalso; simp_all; done)) | (simp (disch := omega) only [push_cast,seval,hcl]) | skip))
 | ((first | ((with_reducible refine qcallI_of (f := 42) [544] false ?_); simp (disch := omega) only [push_cast,seval,hcl]; (refine qcall1D (id := 544) (markIntS_ok _ _ _ ?_ ?_) (by first | ((simp (disch := omega) only [push_cast,seval,hcl]); done) | ((simp (disch := omega) only [push_cast,seval,hcl]); rfl)) (by decide) ⟨_,_,rfl,rfl⟩ ?_; (iterate 2 (exact sd)); rintro _ _ ⟨rfl,rfl⟩)) | ((with_reducible refine qcallI_of (f := 42) [672] false ?_); simp (disch := omega) only [push_cast,seval,hcl]; (refine qcall1D (id := 672) (markIntS_ok _ _ _ ?_ ?_) (by first | ((simp (disch := omega) only [push_cast,seval,hcl]); done) | ((simp (disch := omega) only [push_cast,seval,hcl]); rfl)) (by decide) ⟨_,_,rfl,rfl⟩ ?_; (iterate 2 (exact sd)); rintro _ _ ⟨rfl,rfl⟩)) | ((with_reducible refine callD_ids (f := 42) [544] false ?_); simp (disch := omega) only [push_cast,seval,hcl]; (refine call1D (id := 544) (markIntS_ok _ _ _ ?_ ?_) (by first | ((simp (disch := omega) only [push_cast,seval,hcl]); done) | ((simp (disch := omega) only [push_cast,seval,hcl]); rfl)) ?_; (iterate 2 (exact sd)); rintro _ _ ⟨rfl,rfl⟩)) | ((with_reducible refine callD_ids (f := 42) [672] false ?_); simp (disch := omega) only [push_cast,seval,hcl]; (refine call1D (id := 672) (markIntS_ok _ _ _ ?_ ?_) (by first | ((simp (disch := omega) only [push_cast,seval,hcl]); done) | ((simp (disch := omega) only [push_cast,seval,hcl]); rfl)) ?_; (iterate 2 (exact sd)); rintro _ _ ⟨rfl,rfl⟩))) <;> (try simp (disch := omega) only [push_cast,seval,hcl]))))
      subst hkk
      refine awp_ret ⟨.inr rfl,ret_pinT (fun _ => rfl) (by rw [← hG]; exact d1) hRR ((hfin ps bs os).trans d2)⟩


set_option maxHeartbeats 16000000 in
theorem markBufferX_ok (cs : List Int) (es : List Ex) (m n : Nat) (k : Int) (hm : cs.length = m) (hn : es.length = n) (hk : 0 ≤ k ∧ k ≤ 1000000) (hb : m ≤ 1048576 ∧ n ≤ 1048576 ∧ ∀ j,(exR es j).length ≤ 1048576) : BCall Tryd.prog 13 [.agg [.own 0 m 1,.own 1 n 5],.int .i64 k] (IL cs :: (esF es).cellsG (· + 2) :: (esF es).conts) (fun r H' => r = .int .i64 (kA (exR es) (k + m) n) ∧ H' = IL (upFrom k m) :: (esF (mkE es (k + m))).cellsG (· + 2) :: (esF (mkE es (k + m))).conts) := by
  obtain ⟨hb1,hb2,hb3⟩ := hb
  have hbe : n ≤ 1048576 ∧ ∀ j,(exR es j).length ≤ 1048576 := ⟨hb2,hb3⟩
  have hk1 := hk
  clear hk
  subst hm
  have hEs : esF es = eF n (exPa es) (exBs es) (exOp es) (exR es) := by rw [← hn]
  have hX := markExportSX_ok es n (k + cs.length) hn (by omega) hbe
  have hlk := like_mkE es (k + cs.length)
  rw [hEs] at hX hlk ⊢
  refine bcall_of (pins := List.range (n * 2 + 2)) (pin := n * 2 + 2) l13_eq rfl (by simp [conts_length,eF_R]) (by simp [conts_length,eF_R]) ?_
  rw [initB_famB,eF_R,show (eF n (exPa es) (exBs es) (exOp es) (exR es)).rows = exR es from rfl]
  have hRR : n * 2 = (esF (mkE es (k + cs.length))).R := by rw [eF_R,mkE_length,hn]
  have hX2 := hX.mono (Q' := fun r H' => ∃ G k',(G = esF (mkE es (k + cs.length)) ∧ k' = kA (exR es) (k + cs.length) n) ∧ (eF n (exPa es) (exBs es) (exOp es) (exR es)).like G ∧ r = .int .i64 k' ∧ H' = G.cellsG (· + 1) :: G.conts) fun r H' h => ⟨_,_,⟨rfl,rfl⟩,hlk,h.1,h.2⟩
  generalize exPa es = ps0 at *
  generalize exBs es = bs0 at *
  generalize exOp es = os0 at *
  generalize hKA : kA (exR es) (k + cs.length) n = KA at *
  generalize exR es = rows0 at *
  generalize esF (mkE es (k + cs.length)) = GG at *
  have hlen : cs.length ≤ 1099511627776 := by omega
  by_cases hp : n * 2 + 2 ≤ 32
  · have hx := hk_pinB_none rows0 (n * 2) 32 (by omega)
    (repeat' (first
 | (first | refine awp_seq ?_ | refine awp_block ?_)
 | ((first | refine awp_reg ?_ | refine awp_condB ?_ | refine awp_skip ?_ | refine awp_exit ?_); simp (disch := omega) only [push_cast,seval,l13r0,l13r1,l13r2,l13r3,hp,hx])
 | ((first | refine condB_split (fun h => ?_) (fun h => ?_) | refine gIf_split (fun h => ?_) (fun h => ?_) | refine qIf_split (fun h => ?_) (fun h => ?_)) <;> (try simp only [h]) <;> (try simp only [bitvec_to_nat] at h) <;> (try simp only [h]) <;> (first | (exfalso; omega) | (focus (exfalso; simp_all; done)) | (simp (disch := omega) only [push_cast,seval,hp,hx]) | skip))
 | ((first | ((with_reducible refine qcallI_of (f := 42) [128] false ?_); simp (disch := omega) only [push_cast,seval,hp,hx]; (refine qcall1D (id := 128) (markIntS_ok _ _ _ ?_ ?_) (by first | ((simp (disch := omega) only [push_cast,seval,hp,hx]); done) | ((simp (disch := omega) only [push_cast,seval,hp,hx]); rfl)) (by decide) ⟨_,_,rfl,rfl⟩ ?_; (iterate 2 (exact sd)); rintro _ _ ⟨rfl,rfl⟩)) | ((with_reducible refine qcallI_of (f := 42) [192] false ?_); simp (disch := omega) only [push_cast,seval,hp,hx]; (refine qcall1D (id := 192) (markIntS_ok _ _ _ ?_ ?_) (by first | ((simp (disch := omega) only [push_cast,seval,hp,hx]); done) | ((simp (disch := omega) only [push_cast,seval,hp,hx]); rfl)) (by decide) ⟨_,_,rfl,rfl⟩ ?_; (iterate 2 (exact sd)); rintro _ _ ⟨rfl,rfl⟩)) | ((with_reducible refine qcallI_of (f := 42) [0] false ?_); simp (disch := omega) only [push_cast,seval,hp,hx]; (refine qcall1D (id := 0) (markIntS_ok _ _ _ ?_ ?_) (by first | ((simp (disch := omega) only [push_cast,seval,hp,hx]); done) | ((simp (disch := omega) only [push_cast,seval,hp,hx]); rfl)) (by decide) ⟨_,_,rfl,rfl⟩ ?_; (iterate 2 (exact sd)); rintro _ _ ⟨rfl,rfl⟩)) | ((with_reducible refine qcallI_of (f := 42) [1] false ?_); simp (disch := omega) only [push_cast,seval,hp,hx]; (refine qcall1D (id := 1) (markIntS_ok _ _ _ ?_ ?_) (by first | ((simp (disch := omega) only [push_cast,seval,hp,hx]); done) | ((simp (disch := omega) only [push_cast,seval,hp,hx]); rfl)) (by decide) ⟨_,_,rfl,rfl⟩ ?_; (iterate 2 (exact sd)); rintro _ _ ⟨rfl,rfl⟩)) | ((with_reducible refine callD_ids (f := 42) [128] false ?_); simp (disch := omega) only [push_cast,seval,hp,hx]; (refine call1D (id := 128) (markIntS_ok _ _ _ ?_ ?_) (by first | ((simp (disch := omega) only [push_cast,seval,hp,hx]); done) | ((simp (disch := omega) only [push_cast,seval,hp,hx]); rfl)) ?_; (iterate 2 (exact sd)); rintro _ _ ⟨rfl,rfl⟩)) | ((with_reducible refine callD_ids (f := 42) [192] false ?_); simp (disch := omega) only [push_cast,seval,hp,hx]; (refine call1D (id := 192) (markIntS_ok _ _ _ ?_ ?_) (by first | ((simp (disch := omega) only [push_cast,seval,hp,hx]); done) | ((simp (disch := omega) only [push_cast,seval,hp,hx]); rfl)) ?_; (iterate 2 (exact sd)); rintro _ _ ⟨rfl,rfl⟩)) | ((with_reducible refine callD_ids (f := 42) [0] false ?_); simp (disch := omega) only [push_cast,seval,hp,hx]; (refine call1D (id := 0) (markIntS_ok _ _ _ ?_ ?_) (by first | ((simp (disch := omega) only [push_cast,seval,hp,hx]); done) | ((simp (disch := omega) only [push_cast,seval,hp,hx]); rfl)) ?_; (iterate 2 (exact sd)); rintro _ _ ⟨rfl,rfl⟩)) | ((with_reducible refine callD_ids (f := 42) [1] false ?_); simp (disch := omega) only [push_cast,seval,hp,hx]; (refine call1D (id := 1) (markIntS_ok _ _ _ ?_ ?_) (by first | ((simp (disch := omega) only [push_cast,seval,hp,hx]); done) | ((simp (disch := omega) only [push_cast,seval,hp,hx]); rfl)) ?_; (iterate 2 (exact sd)); rintro _ _ ⟨rfl,rfl⟩))) <;> (try simp (disch := omega) only [push_cast,seval,hp,hx]))))
    refine callE_of (f := 43) ?_
    simp (disch := omega) only [push_cast,seval]
    refine callFG (Post := fun G k' => G = GG ∧ k' = KA) (fun j => j + 2) (fun _ _ h => by simpa using h) (fun j => by omega) hX2 (by simp only [hk]; rfl) (fun j hj => ?_) fun G kk hkk hG => ?_
    · have hj' : j < n * 2 := hj
      simp only [hk]
      repeat rw [if_neg (by omega)]
      exact hk_pinB _ _ _ hj'
    · obtain ⟨rfl,rfl⟩ := hkk
      simp (disch := omega) only [push_cast,seval]
      (repeat' (first
 | (first | refine awp_seq ?_ | refine awp_block ?_)
 | ((first | refine awp_reg ?_ | refine awp_condB ?_ | refine awp_skip ?_ | refine awp_exit ?_); simp (disch := omega) only [push_cast,seval,l13r0,l13r1,l13r2,l13r3])
 | ((first | refine condB_split (fun h => ?_) (fun h => ?_) | refine gIf_split (fun h => ?_) (fun h => ?_) | refine qIf_split (fun h => ?_) (fun h => ?_)) <;> (try simp only [h]) <;> (try simp only [bitvec_to_nat] at h) <;> (try simp only [h]) <;> (first | (exfalso; omega) | (focus (exfalso; simp_all; done)) | (simp (disch := omega) only [push_cast,seval]) | skip))
 | ((first | ((with_reducible refine qcallI_of (f := 42) [128] false ?_); simp (disch := omega) only [push_cast,seval]; (refine qcall1D (id := 128) (markIntS_ok _ _ _ ?_ ?_) (by first | ((simp (disch := omega) only [push_cast,seval]); done) | ((simp (disch := omega) only [push_cast,seval]); rfl)) (by decide) ⟨_,_,rfl,rfl⟩ ?_; (iterate 2 (exact sd)); rintro _ _ ⟨rfl,rfl⟩)) | ((with_reducible refine qcallI_of (f := 42) [192] false ?_); simp (disch := omega) only [push_cast,seval]; (refine qcall1D (id := 192) (markIntS_ok _ _ _ ?_ ?_) (by first | ((simp (disch := omega) only [push_cast,seval]); done) | ((simp (disch := omega) only [push_cast,seval]); rfl)) (by decide) ⟨_,_,rfl,rfl⟩ ?_; (iterate 2 (exact sd)); rintro _ _ ⟨rfl,rfl⟩)) | ((with_reducible refine qcallI_of (f := 42) [0] false ?_); simp (disch := omega) only [push_cast,seval]; (refine qcall1D (id := 0) (markIntS_ok _ _ _ ?_ ?_) (by first | ((simp (disch := omega) only [push_cast,seval]); done) | ((simp (disch := omega) only [push_cast,seval]); rfl)) (by decide) ⟨_,_,rfl,rfl⟩ ?_; (iterate 2 (exact sd)); rintro _ _ ⟨rfl,rfl⟩)) | ((with_reducible refine qcallI_of (f := 42) [1] false ?_); simp (disch := omega) only [push_cast,seval]; (refine qcall1D (id := 1) (markIntS_ok _ _ _ ?_ ?_) (by first | ((simp (disch := omega) only [push_cast,seval]); done) | ((simp (disch := omega) only [push_cast,seval]); rfl)) (by decide) ⟨_,_,rfl,rfl⟩ ?_; (iterate 2 (exact sd)); rintro _ _ ⟨rfl,rfl⟩)) | ((with_reducible refine callD_ids (f := 42) [128] false ?_); simp (disch := omega) only [push_cast,seval]; (refine call1D (id := 128) (markIntS_ok _ _ _ ?_ ?_) (by first | ((simp (disch := omega) only [push_cast,seval]); done) | ((simp (disch := omega) only [push_cast,seval]); rfl)) ?_; (iterate 2 (exact sd)); rintro _ _ ⟨rfl,rfl⟩)) | ((with_reducible refine callD_ids (f := 42) [192] false ?_); simp (disch := omega) only [push_cast,seval]; (refine call1D (id := 192) (markIntS_ok _ _ _ ?_ ?_) (by first | ((simp (disch := omega) only [push_cast,seval]); done) | ((simp (disch := omega) only [push_cast,seval]); rfl)) ?_; (iterate 2 (exact sd)); rintro _ _ ⟨rfl,rfl⟩)) | ((with_reducible refine callD_ids (f := 42) [0] false ?_); simp (disch := omega) only [push_cast,seval]; (refine call1D (id := 0) (markIntS_ok _ _ _ ?_ ?_) (by first | ((simp (disch := omega) only [push_cast,seval]); done) | ((simp (disch := omega) only [push_cast,seval]); rfl)) ?_; (iterate 2 (exact sd)); rintro _ _ ⟨rfl,rfl⟩)) | ((with_reducible refine callD_ids (f := 42) [1] false ?_); simp (disch := omega) only [push_cast,seval]; (refine call1D (id := 1) (markIntS_ok _ _ _ ?_ ?_) (by first | ((simp (disch := omega) only [push_cast,seval]); done) | ((simp (disch := omega) only [push_cast,seval]); rfl)) ?_; (iterate 2 (exact sd)); rintro _ _ ⟨rfl,rfl⟩))) <;> (try simp (disch := omega) only [push_cast,seval]))))
      refine awp_ret ⟨.inr rfl,ret_pinU (cs := upFrom k cs.length) (G := G) hRR rfl ?_ rfl ?_⟩
      · show hk ((1,_) :: (pinB G.rows G.R ++ _)) 0 = _
        simp only [hk]
        rw [if_neg (by omega),hk_pinB_low _ _ _ _ (by omega)]
        rfl
      · intro j hj
        rw [hRR] at hj
        show hk ((1,_) :: (pinB G.rows G.R ++ _)) (j + 2) = _
        simp only [hk]
        rw [if_neg (by omega)]
        exact hk_pinB_app _ _ _ _ hj
  · have hx : 32 < n * 2 + 2 := by omega
    (repeat' (first
 | (first | refine awp_seq ?_ | refine awp_block ?_)
 | ((first | refine awp_reg ?_ | refine awp_condB ?_ | refine awp_skip ?_ | refine awp_exit ?_); simp (disch := omega) only [push_cast,seval,l13r0,l13r1,l13r2,l13r3,hp,hx])
 | ((first | refine condB_split (fun h => ?_) (fun h => ?_) | refine gIf_split (fun h => ?_) (fun h => ?_) | refine qIf_split (fun h => ?_) (fun h => ?_)) <;> (try simp only [h]) <;> (try simp only [bitvec_to_nat] at h) <;> (try simp only [h]) <;> (first | (exfalso; omega) | (focus (exfalso; simp_all; done)) | (simp (disch := omega) only [push_cast,seval,hp,hx]) | skip))
 | ((first | ((with_reducible refine qcallI_of (f := 42) [128] false ?_); simp (disch := omega) only [push_cast,seval,hp,hx]; (refine qcall1D (id := 128) (markIntS_ok _ _ _ ?_ ?_) (by first | ((simp (disch := omega) only [push_cast,seval,hp,hx]); done) | ((simp (disch := omega) only [push_cast,seval,hp,hx]); rfl)) (by decide) ⟨_,_,rfl,rfl⟩ ?_; (iterate 2 (exact sd)); rintro _ _ ⟨rfl,rfl⟩)) | ((with_reducible refine qcallI_of (f := 42) [192] false ?_); simp (disch := omega) only [push_cast,seval,hp,hx]; (refine qcall1D (id := 192) (markIntS_ok _ _ _ ?_ ?_) (by first | ((simp (disch := omega) only [push_cast,seval,hp,hx]); done) | ((simp (disch := omega) only [push_cast,seval,hp,hx]); rfl)) (by decide) ⟨_,_,rfl,rfl⟩ ?_; (iterate 2 (exact sd)); rintro _ _ ⟨rfl,rfl⟩)) | ((with_reducible refine qcallI_of (f := 42) [0] false ?_); simp (disch := omega) only [push_cast,seval,hp,hx]; (refine qcall1D (id := 0) (markIntS_ok _ _ _ ?_ ?_) (by first | ((simp (disch := omega) only [push_cast,seval,hp,hx]); done) | ((simp (disch := omega) only [push_cast,seval,hp,hx]); rfl)) (by decide) ⟨_,_,rfl,rfl⟩ ?_; (iterate 2 (exact sd)); rintro _ _ ⟨rfl,rfl⟩)) | ((with_reducible refine qcallI_of (f := 42) [1] false ?_); simp (disch := omega) only [push_cast,seval,hp,hx]; (refine qcall1D (id := 1) (markIntS_ok _ _ _ ?_ ?_) (by first | ((simp (disch := omega) only [push_cast,seval,hp,hx]); done) | ((simp (disch := omega) only [push_cast,seval,hp,hx]); rfl)) (by decide) ⟨_,_,rfl,rfl⟩ ?_; (iterate 2 (exact sd)); rintro _ _ ⟨rfl,rfl⟩)) | ((with_reducible refine callD_ids (f := 42) [128] false ?_); simp (disch := omega) only [push_cast,seval,hp,hx]; (refine call1D (id := 128) (markIntS_ok _ _ _ ?_ ?_) (by first | ((simp (disch := omega) only [push_cast,seval,hp,hx]); done) | ((simp (disch := omega) only [push_cast,seval,hp,hx]); rfl)) ?_; (iterate 2 (exact sd)); rintro _ _ ⟨rfl,rfl⟩)) | ((with_reducible refine callD_ids (f := 42) [192] false ?_); simp (disch := omega) only [push_cast,seval,hp,hx]; (refine call1D (id := 192) (markIntS_ok _ _ _ ?_ ?_) (by first | ((simp (disch := omega) only [push_cast,seval,hp,hx]); done) | ((simp (disch := omega) only [push_cast,seval,hp,hx]); rfl)) ?_; (iterate 2 (exact sd)); rintro _ _ ⟨rfl,rfl⟩)) | ((with_reducible refine callD_ids (f := 42) [0] false ?_); simp (disch := omega) only [push_cast,seval,hp,hx]; (refine call1D (id := 0) (markIntS_ok _ _ _ ?_ ?_) (by first | ((simp (disch := omega) only [push_cast,seval,hp,hx]); done) | ((simp (disch := omega) only [push_cast,seval,hp,hx]); rfl)) ?_; (iterate 2 (exact sd)); rintro _ _ ⟨rfl,rfl⟩)) | ((with_reducible refine callD_ids (f := 42) [1] false ?_); simp (disch := omega) only [push_cast,seval,hp,hx]; (refine call1D (id := 1) (markIntS_ok _ _ _ ?_ ?_) (by first | ((simp (disch := omega) only [push_cast,seval,hp,hx]); done) | ((simp (disch := omega) only [push_cast,seval,hp,hx]); rfl)) ?_; (iterate 2 (exact sd)); rintro _ _ ⟨rfl,rfl⟩))) <;> (try simp (disch := omega) only [push_cast,seval,hp,hx]))))
    refine callE_of (f := 43) ?_
    simp (disch := omega) only [push_cast,seval]
    refine callFG (Post := fun G k' => G = GG ∧ k' = KA) (fun j => j + 2) (fun _ _ h => by simpa using h) (fun j => by omega) hX2 (by simp only [hk]; rfl) (fun j hj => ?_) fun G kk hkk hG => ?_
    · have hj' : j < n * 2 := hj
      simp only [hk]
      repeat rw [if_neg (by omega)]
      exact hk_pinB _ _ _ hj'
    · obtain ⟨rfl,rfl⟩ := hkk
      simp (disch := omega) only [push_cast,seval]
      (repeat' (first
 | (first | refine awp_seq ?_ | refine awp_block ?_)
 | ((first | refine awp_reg ?_ | refine awp_condB ?_ | refine awp_skip ?_ | refine awp_exit ?_); simp (disch := omega) only [push_cast,seval,l13r0,l13r1,l13r2,l13r3])
 | ((first | refine condB_split (fun h => ?_) (fun h => ?_) | refine gIf_split (fun h => ?_) (fun h => ?_) | refine qIf_split (fun h => ?_) (fun h => ?_)) <;> (try simp only [h]) <;> (try simp only [bitvec_to_nat] at h) <;> (try simp only [h]) <;> (first | (exfalso; omega) | (focus (exfalso; simp_all; done)) | (simp (disch := omega) only [push_cast,seval]) | skip))
 | ((first | ((with_reducible refine qcallI_of (f := 42) [128] false ?_); simp (disch := omega) only [push_cast,seval]; (refine qcall1D (id := 128) (markIntS_ok _ _ _ ?_ ?_) (by first | ((simp (disch := omega) only [push_cast,seval]); done) | ((simp (disch := omega) only [push_cast,seval]); rfl)) (by decide) ⟨_,_,rfl,rfl⟩ ?_; (iterate 2 (exact sd)); rintro _ _ ⟨rfl,rfl⟩)) | ((with_reducible refine qcallI_of (f := 42) [192] false ?_); simp (disch := omega) only [push_cast,seval]; (refine qcall1D (id := 192) (markIntS_ok _ _ _ ?_ ?_) (by first | ((simp (disch := omega) only [push_cast,seval]); done) | ((simp (disch := omega) only [push_cast,seval]); rfl)) (by decide) ⟨_,_,rfl,rfl⟩ ?_; (iterate 2 (exact sd)); rintro _ _ ⟨rfl,rfl⟩)) | ((with_reducible refine qcallI_of (f := 42) [0] false ?_); simp (disch := omega) only [push_cast,seval]; (refine qcall1D (id := 0) (markIntS_ok _ _ _ ?_ ?_) (by first | ((simp (disch := omega) only [push_cast,seval]); done) | ((simp (disch := omega) only [push_cast,seval]); rfl)) (by decide) ⟨_,_,rfl,rfl⟩ ?_; (iterate 2 (exact sd)); rintro _ _ ⟨rfl,rfl⟩)) | ((with_reducible refine qcallI_of (f := 42) [1] false ?_); simp (disch := omega) only [push_cast,seval]; (refine qcall1D (id := 1) (markIntS_ok _ _ _ ?_ ?_) (by first | ((simp (disch := omega) only [push_cast,seval]); done) | ((simp (disch := omega) only [push_cast,seval]); rfl)) (by decide) ⟨_,_,rfl,rfl⟩ ?_; (iterate 2 (exact sd)); rintro _ _ ⟨rfl,rfl⟩)) | ((with_reducible refine callD_ids (f := 42) [128] false ?_); simp (disch := omega) only [push_cast,seval]; (refine call1D (id := 128) (markIntS_ok _ _ _ ?_ ?_) (by first | ((simp (disch := omega) only [push_cast,seval]); done) | ((simp (disch := omega) only [push_cast,seval]); rfl)) ?_; (iterate 2 (exact sd)); rintro _ _ ⟨rfl,rfl⟩)) | ((with_reducible refine callD_ids (f := 42) [192] false ?_); simp (disch := omega) only [push_cast,seval]; (refine call1D (id := 192) (markIntS_ok _ _ _ ?_ ?_) (by first | ((simp (disch := omega) only [push_cast,seval]); done) | ((simp (disch := omega) only [push_cast,seval]); rfl)) ?_; (iterate 2 (exact sd)); rintro _ _ ⟨rfl,rfl⟩)) | ((with_reducible refine callD_ids (f := 42) [0] false ?_); simp (disch := omega) only [push_cast,seval]; (refine call1D (id := 0) (markIntS_ok _ _ _ ?_ ?_) (by first | ((simp (disch := omega) only [push_cast,seval]); done) | ((simp (disch := omega) only [push_cast,seval]); rfl)) ?_; (iterate 2 (exact sd)); rintro _ _ ⟨rfl,rfl⟩)) | ((with_reducible refine callD_ids (f := 42) [1] false ?_); simp (disch := omega) only [push_cast,seval]; (refine call1D (id := 1) (markIntS_ok _ _ _ ?_ ?_) (by first | ((simp (disch := omega) only [push_cast,seval]); done) | ((simp (disch := omega) only [push_cast,seval]); rfl)) ?_; (iterate 2 (exact sd)); rintro _ _ ⟨rfl,rfl⟩))) <;> (try simp (disch := omega) only [push_cast,seval]))))
      refine awp_ret ⟨.inr rfl,ret_pinU (cs := upFrom k cs.length) (G := G) hRR rfl ?_ rfl ?_⟩
      · show hk ((1,_) :: (pinB G.rows G.R ++ _)) 0 = _
        simp only [hk]
        rw [if_neg (by omega),hk_pinB_low _ _ _ _ (by omega)]
        rfl
      · intro j hj
        rw [hRR] at hj
        show hk ((1,_) :: (pinB G.rows G.R ++ _)) (j + 2) = _
        simp only [hk]
        rw [if_neg (by omega)]
        exact hk_pinB_app _ _ _ _ hj


set_option maxHeartbeats 8000000 in
theorem heldExportS_ok (es : List Ex) (n : Nat) (k : Int) (hn : es.length = n) (hk : 0 ≤ k ∧ k ≤ 1125899906842624) (hb : n ≤ 1048576 ∧ ∀ j,(exR es j).length ≤ 1048576) : PCall Tryd.prog 45 [.rows false (EL false (mkE es k)) n,.int .i64 k] (fun r => r = .int .i64 (kA (exR es) k n)) := by
  subst hn
  obtain ⟨hb1,hb2⟩ := hb
  have hk1 := hk
  clear hk
  refine pcall_of l45_eq rfl ?_
  have hke := fun i => kA_le (k := k) hb2 i
  have hel : (EL false (mkE es k)).length = es.length * 5 := by rw [EL_length,mkE_length]
  (repeat' (first
 | (first | refine awp_seq ?_ | refine awp_block ?_)
 | ((first | refine awp_reg ?_ | refine awp_condB ?_ | refine awp_skip ?_ | refine awp_exit ?_); simp (disch := omega) only [push_cast,seval,l45r0,l45r1,l45r2,l45r3,l45r4,l45r5,l45r6,l45r7,l45r8,l45r9,l45r10,l45r11,l45r12,l45r13,l45r14,l45r15,l45r16,l45r17,l45r18,l45r19,innL_EL])
 | ((first | refine condB_split (fun h => ?_) (fun h => ?_) | refine gIf_split (fun h => ?_) (fun h => ?_) | refine qIf_split (fun h => ?_) (fun h => ?_)) <;> (try simp only [h]) <;> (try simp only [bitvec_to_nat] at h) <;> (try simp only [h]) <;> (first | (exfalso; omega) | (focus (exfalso; simp_all; done)) | (simp (disch := omega) only [push_cast,seval,innL_EL]) | skip))
 | ((first | refine callD_of false ?_ | refine qcallD_of false ?_); simp (disch := omega) only [push_cast,seval,innL_EL])
 | ((first | ((first | refine call0D (BCall.ofP (heldIntS_ok _ _ ?_)) ?_ | refine qcall0D (BCall.ofP (heldIntS_ok _ _ ?_)) ⟨_,_,rfl,rfl⟩ ?_); (exact sd); rintro _ _ ⟨rfl,rfl⟩)) <;> (try simp (disch := omega) only [push_cast,seval,innL_EL]))
 | (refine awp_ret ⟨.inr rfl,_,rfl,?_⟩; (try simp (disch := omega) only [push_cast,seval,innL_EL]))))
  refine awp_loop (fun i : Nat => mkS [(0,.rows false (EL false (mkE es k)) es.length),(1,.int .i64 (kA (exR es) k i)),(5,.int .i64 i)] []) (fun i => i ≤ es.length) (fun i => es.length - i) 0 (Nat.zero_le _) ?_ ?_
  · have e0 : kA (exR es) k 0 = k := rfl
    (refine Sub.of_lists ?_ ?_ ?_ ?_ ?_ <;> simp [Vw.mkS,Vw.lk,Vw.hk,AV.inn,innL,innL_ints,innL_append,innL_rep,-List.map_set,-List.getD_eq_getElem?_getD,innL_EL,e0])
  · intro i hi
    have hki := hke i
    by_cases hlt : i < es.length
    · have hq := EL_cells false (mkE es k) i (mkE_get hlt)
      have hbi := hb2 (i * 2)
      have hbi2 := hb2 (i * 2 + 1)
      have hil : i * 5 + 5 ≤ es.length * 5 := by omega
      have hkn : kA (exR es) k (i + 1) = kA (exR es) k i + 1 + 1 + (exR es (i * 2)).length + (exR es (i * 2 + 1)).length + 1 := rfl
      simp only [mkX,upFrom_len] at hq
      generalize hK2 : kA (exR es) k (i + 1) = K2 at *
      generalize kA (exR es) k i = K at *
      generalize (exR es (i * 2)).length = L at *
      generalize (exR es (i * 2 + 1)).length = L2 at *
      obtain ⟨q0,q1,q2,q3,q4⟩ := hq
      (repeat' (first
 | (first | refine awp_seq ?_ | refine awp_block ?_)
 | ((first | refine awp_reg ?_ | refine awp_condB ?_ | refine awp_skip ?_ | refine awp_exit ?_); simp (disch := omega) only [push_cast,seval,l45r0,l45r1,l45r2,l45r3,l45r4,l45r5,l45r6,l45r7,l45r8,l45r9,l45r10,l45r11,l45r12,l45r13,l45r14,l45r15,l45r16,l45r17,l45r18,l45r19,q0,q1,q2,q3,q4,hel,hil,innL_EL])
 | ((first | refine condB_split (fun h => ?_) (fun h => ?_) | refine gIf_split (fun h => ?_) (fun h => ?_) | refine qIf_split (fun h => ?_) (fun h => ?_)) <;> (try simp only [h]) <;> (try simp only [bitvec_to_nat] at h) <;> (try simp only [h]) <;> (first | (exfalso; omega) | (focus (exfalso; simp_all; done)) | (simp (disch := omega) only [push_cast,seval,q0,q1,q2,q3,q4,hel,hil,innL_EL]) | skip))
 | ((first | refine callD_of false ?_ | refine qcallD_of false ?_); simp (disch := omega) only [push_cast,seval,q0,q1,q2,q3,q4,hel,hil,innL_EL])
 | ((first | ((first | refine call0D (BCall.ofP (heldIntS_ok _ _ ?_)) ?_ | refine qcall0D (BCall.ofP (heldIntS_ok _ _ ?_)) ⟨_,_,rfl,rfl⟩ ?_); (exact sd); rintro _ _ ⟨rfl,rfl⟩)) <;> (try simp (disch := omega) only [push_cast,seval,q0,q1,q2,q3,q4,hel,hil,innL_EL]))
 | (refine awp_ret ⟨.inr rfl,_,rfl,?_⟩; (try simp (disch := omega) only [push_cast,seval,q0,q1,q2,q3,q4,hel,hil,innL_EL]))))
      refine ⟨i + 1,by omega,by omega,?_⟩
      (refine Sub.of_lists ?_ ?_ ?_ ?_ ?_ <;> simp [Vw.mkS,Vw.lk,Vw.hk,AV.inn,innL,innL_ints,innL_append,innL_rep,-List.map_set,-List.getD_eq_getElem?_getD,innL_EL,hK2,hkn])
    · have e : i = es.length := by omega
      subst e
      (repeat' (first
 | (first | refine awp_seq ?_ | refine awp_block ?_)
 | ((first | refine awp_reg ?_ | refine awp_condB ?_ | refine awp_skip ?_ | refine awp_exit ?_); simp (disch := omega) only [push_cast,seval,l45r0,l45r1,l45r2,l45r3,l45r4,l45r5,l45r6,l45r7,l45r8,l45r9,l45r10,l45r11,l45r12,l45r13,l45r14,l45r15,l45r16,l45r17,l45r18,l45r19,hel,innL_EL])
 | ((first | refine condB_split (fun h => ?_) (fun h => ?_) | refine gIf_split (fun h => ?_) (fun h => ?_) | refine qIf_split (fun h => ?_) (fun h => ?_)) <;> (try simp only [h]) <;> (try simp only [bitvec_to_nat] at h) <;> (try simp only [h]) <;> (first | (exfalso; omega) | (focus (exfalso; simp_all; done)) | (simp (disch := omega) only [push_cast,seval,hel,innL_EL]) | skip))
 | ((first | refine callD_of false ?_ | refine qcallD_of false ?_); simp (disch := omega) only [push_cast,seval,hel,innL_EL])
 | ((first | ((first | refine call0D (BCall.ofP (heldIntS_ok _ _ ?_)) ?_ | refine qcall0D (BCall.ofP (heldIntS_ok _ _ ?_)) ⟨_,_,rfl,rfl⟩ ?_); (exact sd); rintro _ _ ⟨rfl,rfl⟩)) <;> (try simp (disch := omega) only [push_cast,seval,hel,innL_EL]))
 | (refine awp_ret ⟨.inr rfl,_,rfl,?_⟩; (try simp (disch := omega) only [push_cast,seval,hel,innL_EL]))))


set_option maxHeartbeats 8000000 in
theorem heldBuffer_ok (es : List Ex) (m n : Nat) (k : Int) (hn : es.length = n) (hk : 0 ≤ k ∧ k ≤ 1000000) (hb : m ≤ 1048576 ∧ n ≤ 1048576 ∧ ∀ j,(exR es j).length ≤ 1048576) : PCall Tryd.prog 14 [.agg [.rows false (IL (upFrom k m)) m,.rows false (EL false (mkE es (k + m))) n],.int .i64 k] (fun r => r = .int .i64 (kA (exR es) (k + m) n)) := by
  obtain ⟨hb1,hb2,hb3⟩ := hb
  have hbe : n ≤ 1048576 ∧ ∀ j,(exR es j).length ≤ 1048576 := ⟨hb2,hb3⟩
  have hke := kA_le (k := k + m) hb3 n
  refine pcall_of l14_eq rfl ?_
  (repeat' (first
 | (first | refine awp_seq ?_ | refine awp_block ?_)
 | ((first | refine awp_reg ?_ | refine awp_condB ?_ | refine awp_skip ?_ | refine awp_exit ?_); simp (disch := omega) only [push_cast,seval,l14r0,l14r1,l14r2,l14r3,l14r4,l14r5,l14r6,l14r7,innL_EL])
 | ((first | refine condB_split (fun h => ?_) (fun h => ?_) | refine gIf_split (fun h => ?_) (fun h => ?_) | refine qIf_split (fun h => ?_) (fun h => ?_)) <;> (try simp only [h]) <;> (try simp only [bitvec_to_nat] at h) <;> (try simp only [h]) <;> (first | (exfalso; omega) | (focus (exfalso; simp_all; done)) | (simp (disch := omega) only [push_cast,seval,innL_EL]) | skip))
 | ((first | refine callD_of false ?_ | refine qcallD_of false ?_); simp (disch := omega) only [push_cast,seval,innL_EL])
 | ((first | ((first | refine call0D (BCall.ofP (heldIntS_ok _ _ ?_)) ?_ | refine qcall0D (BCall.ofP (heldIntS_ok _ _ ?_)) ⟨_,_,rfl,rfl⟩ ?_); (exact sd); rintro _ _ ⟨rfl,rfl⟩) | ((first | refine call0D (BCall.ofP (heldExportS_ok _ _ _ ?_ ?_ ?_)) ?_ | refine qcall0D (BCall.ofP (heldExportS_ok _ _ _ ?_ ?_ ?_)) ⟨_,_,rfl,rfl⟩ ?_); (iterate 3 (exact sd)); rintro _ _ ⟨rfl,rfl⟩)) <;> (try simp (disch := omega) only [push_cast,seval,innL_EL]))
 | (refine awp_ret ⟨.inr rfl,_,rfl,?_⟩; (try simp (disch := omega) only [push_cast,seval,innL_EL]))))
  all_goals skip

end Go.Proofs.YtahdlohpncjdbaaDoor
