import Derived.Test.YtiknpnnhbhfipaaDoorCKh8
import Derived.Test.YtiknpnnhbhfipaaDoorCM1
import Derived.Test.YtiknpnnhbhfipaaDoorCW3
set_option linter.unusedSimpArgs false
set_option linter.unusedVariables false
set_option maxRecDepth 4000
set_option maxHeartbeats 4000000
namespace Go.Proofs.YtiknpnnhbhfipaaDoor
open VwM Vw Go
set_option linter.unusedSectionVars false
variable [SentA]

theorem succ_ne0H (j : Nat) : (j + 1 = 0) = False := by simp
theorem ne0_succH (j : Nat) : (0 = j + 1) = False := by simp
theorem hk_pinB_none (rows : Nat → List Int) (n id : Nat) (h : n + 2 ≤ id) : hk (pinB rows n) id = none := by
  have := hk_rangeMap (fun j => j + 2) (fun j => IL (rows j)) [] id (List.range n) fun j hj e => by have := List.mem_range.1 hj; omega
  rw [List.append_nil] at this
  exact this


set_option maxHeartbeats 16000000 in
theorem markExportSF_ok (n : Nat) (ps0 bs0 : Nat → Int) (os0 : Nat → Bool) (rows0 : Nat → List Int) (k : Int) (hk : 0 ≤ k ∧ k ≤ 1125899906842624) (hb : n ≤ 1048576 ∧ ∀ j,(rows0 j).length ≤ 1048576) : BCall Tryd.prog 35 [.own 0 n 5,.int .i64 k] ((eF n ps0 bs0 os0 rows0).cellsG (· + 1) :: (eF n ps0 bs0 os0 rows0).conts) (fun r H' => ∃ G k',(k ≤ k' ∧ k' ≤ k + 4398046511104) ∧ (eF n ps0 bs0 os0 rows0).like G ∧ r = .int .i64 k' ∧ H' = G.cellsG (· + 1) :: G.conts) := by
  obtain ⟨hb2,hb3⟩ := hb
  have hb1 := hk
  clear hk
  refine bcall_of (pins := List.range (n * 2 + 1)) (pin := n * 2 + 1) l35_eq rfl (by simp [conts_length,eF_R]) (by simp [conts_length,eF_R]) ?_
  rw [initB_fam,eF_R,show (eF n ps0 bs0 os0 rows0).rows = rows0 from rfl]
  obtain ⟨cc,hcc⟩ : ∃ cc : (Nat → Int) → (Nat → Int) → (Nat → Bool) → List AV,cc = fun ps bs os => (eF n ps bs os rows0).cellsG (· + 1) := ⟨_,rfl⟩
  have hc0 : (eF n ps0 bs0 os0 rows0).cellsG (· + 1) = cc ps0 bs0 os0 := by rw [hcc]
  have hcl : ∀ ps bs os,(cc ps bs os).length = n * 5 := fun ps bs os => by rw [hcc]; exact cellsG_length ..
  have hset0 : ∀ ps bs os i x,(cc ps bs os).set (i * 5) (.int .i64 x) = cc (upd ps i x) bs os := fun ps bs os i x => by rw [hcc]; exact eF_set0 ..
  have hset1 : ∀ ps bs os i x,(cc ps bs os).set (i * 5 + 1) (.int .i64 x) = cc ps (upd bs i x) os := fun ps bs os i x => by rw [hcc]; exact eF_set1 ..
  have hset4 : ∀ ps bs os i x,(cc ps bs os).set (i * 5 + 4) (.bool x) = cc ps bs (upd os i x) := fun ps bs os i x => by rw [hcc]; exact eF_set4 ..
  have hat1 : ∀ ps bs os i,i < n → ((cc ps bs os).drop (i * 5 + 2)).take 1 = [.own (i * 2 + 1) (rows0 (i * 2)).length 1] := fun ps bs os i hi => by
    rw [hcc]
    simp only [Fam.cellsG]
    rw [eF_C,row_1 _ _ _ (by omega),eF_2]
  have hat2 : ∀ ps bs os i,i < n → ((cc ps bs os).drop (i * 5 + 3)).take 1 = [.own (i * 2 + 1 + 1) (rows0 (i * 2 + 1)).length 1] := fun ps bs os i hi => by
    rw [hcc]
    simp only [Fam.cellsG]
    rw [eF_C,row_1 _ _ _ (by omega),eF_3]
  have hret : ∀ (ps bs : Nat → Int) (os : Nat → Bool) (rows : Nat → List Int),(∀ j,(rows j).length = (rows0 j).length) → ∃ G : Fam,(eF n ps0 bs0 os0 rows0).like G ∧ G.rows = rows ∧ G.R = n * 2 ∧ cc ps bs os = G.cellsG (· + 1) := fun ps bs os rows hl => by
    refine ⟨eF n ps bs os rows,⟨rfl,rfl,fun j _ => hl j⟩,rfl,rfl,?_⟩
    rw [hcc]
    simp only [Fam.cellsG]
    refine row_congr fun p _ => ?_
    simp only [Fam.atG,eF,hl]
  rw [hc0]
  (repeat' (first
 | (first | refine awp_seq ?_ | refine awp_block ?_)
 | ((first | refine awp_reg ?_ | refine awp_condB ?_ | refine awp_skip ?_ | refine awp_exit ?_); simp (disch := omega) only [push_cast,seval,l35r0,l35r1,l35r2,l35r3,l35r4,l35r5,l35r6,l35r7,l35r8,l35r9,l35r10,l35r11,l35r12])
 | ((first | refine condB_split (fun h => ?_) (fun h => ?_) | refine gIf_split (fun h => ?_) (fun h => ?_) | refine qIf_split (fun h => ?_) (fun h => ?_)) <;> (try simp only [h]) <;> (try simp only [bitvec_to_nat] at h) <;> (try simp only [h]) <;> (first | (exfalso; omega) | (focus (exfalso; simp_all; done)) | (simp (disch := omega) only [push_cast,seval]) | skip))
 | ((first | ((with_reducible refine qcallI_of (f := 16) [544] false ?_); simp (disch := omega) only [push_cast,seval]; (refine qcall1D (id := 544) (markIntS_ok _ _ _ ?_ ?_) (by first | ((simp (disch := omega) only [push_cast,seval]); done) | ((simp (disch := omega) only [push_cast,seval]); rfl)) (by decide) ⟨_,_,rfl,rfl⟩ ?_; (iterate 2 (exact sd)); rintro _ _ ⟨rfl,rfl⟩)) | ((with_reducible refine qcallI_of (f := 16) [672] false ?_); simp (disch := omega) only [push_cast,seval]; (refine qcall1D (id := 672) (markIntS_ok _ _ _ ?_ ?_) (by first | ((simp (disch := omega) only [push_cast,seval]); done) | ((simp (disch := omega) only [push_cast,seval]); rfl)) (by decide) ⟨_,_,rfl,rfl⟩ ?_; (iterate 2 (exact sd)); rintro _ _ ⟨rfl,rfl⟩)) | ((with_reducible refine callD_ids (f := 16) [544] false ?_); simp (disch := omega) only [push_cast,seval]; (refine call1D (id := 544) (markIntS_ok _ _ _ ?_ ?_) (by first | ((simp (disch := omega) only [push_cast,seval]); done) | ((simp (disch := omega) only [push_cast,seval]); rfl)) ?_; (iterate 2 (exact sd)); rintro _ _ ⟨rfl,rfl⟩)) | ((with_reducible refine callD_ids (f := 16) [672] false ?_); simp (disch := omega) only [push_cast,seval]; (refine call1D (id := 672) (markIntS_ok _ _ _ ?_ ?_) (by first | ((simp (disch := omega) only [push_cast,seval]); done) | ((simp (disch := omega) only [push_cast,seval]); rfl)) ?_; (iterate 2 (exact sd)); rintro _ _ ⟨rfl,rfl⟩))) <;> (try simp (disch := omega) only [push_cast,seval]))))
  refine awp_loopW (fun x : Nat × Int × (Nat → List Int) × (Nat → Int) × (Nat → Int) × (Nat → Bool) => mkS [(0,.own 0 n 5),(1,.int .i64 x.2.1),(5,.int .i64 x.1)] ((0,cc x.2.2.2.1 x.2.2.2.2.1 x.2.2.2.2.2) :: pinR x.2.2.1 (n * 2))) (fun x => x.1 ≤ n ∧ (k ≤ x.2.1 ∧ x.2.1 ≤ k + x.1 * 4194304) ∧ ∀ j,(x.2.2.1 j).length = (rows0 j).length) (fun x => n - x.1) (0,k,rows0,ps0,bs0,os0) ⟨Nat.zero_le _,by simp,fun _ => rfl⟩ ?_ ?_
  · refine SubW.slots ?_
    simp [lk]
  · rintro ⟨i,kk,rows,ps,bs,os⟩ ⟨hi,hkk,hl⟩
    simp only at hi hkk hl ⊢
    by_cases hlt : i < n
    · have hd := hat1 (upd ps i kk) (upd bs i (kk + 1)) os i hlt
      have hd2 := hat2 (upd ps i kk) (upd bs i (kk + 1)) os i hlt
      have hkp := hk_pinR rows (n * 2) (i * 2) (by omega)
      have hkp2 := hk_pinR rows (n * 2) (i * 2 + 1) (by omega)
      have hli := hl (i * 2)
      have hbi := hb3 (i * 2)
      have hli2 := hl (i * 2 + 1)
      have hbi2 := hb3 (i * 2 + 1)
      have hil : i * 5 + 5 ≤ n * 5 := by omega
      have hne : (i * 2 + 1 + 1 = i * 2 + 1) = False := by simp
      generalize hLL : (rows0 (i * 2)).length = L at *
      generalize hLL2 : (rows0 (i * 2 + 1)).length = L2 at *
      (repeat' (first
 | (first | refine awp_seq ?_ | refine awp_block ?_)
 | ((first | refine awp_reg ?_ | refine awp_condB ?_ | refine awp_skip ?_ | refine awp_exit ?_); simp (disch := omega) only [push_cast,seval,l35r0,l35r1,l35r2,l35r3,l35r4,l35r5,l35r6,l35r7,l35r8,l35r9,l35r10,l35r11,l35r12,hset0,hset1,hset4,hd,hd2,hkp,hkp2,hli,hli2,hcl,hil,hne,succ_ne0H,ne0_succH])
 | ((first | refine condB_split (fun h => ?_) (fun h => ?_) | refine gIf_split (fun h => ?_) (fun h => ?_) | refine qIf_split (fun h => ?_) (fun h => ?_)) <;> (try simp only [h]) <;> (try simp only [bitvec_to_nat] at h) <;> (try simp only [h]) <;> (first | (exfalso; omega) | (focus (exfalso; simp_all; done)) | (simp (disch := omega) only [push_cast,seval,hset0,hset1,hset4,hd,hd2,hkp,hkp2,hli,hli2,hcl,hil,hne,succ_ne0H,ne0_succH]) | skip))
 | ((first | ((with_reducible refine callD_ids (f := 16) [(i * 2 + 1)] false ?_); simp (disch := omega) only [push_cast,seval,hset0,hset1,hset4,hd,hd2,hkp,hkp2,hli,hli2,hcl,hil,hne,succ_ne0H,ne0_succH]; (refine call1D (id := (i * 2 + 1)) (markIntS_ok _ _ _ ?_ ?_) (by first | ((simp (disch := omega) only [push_cast,seval,hset0,hset1,hset4,hd,hd2,hkp,hkp2,hli,hli2,hcl,hil,hne,succ_ne0H,ne0_succH]); done) | ((simp (disch := omega) only [push_cast,seval,hset0,hset1,hset4,hd,hd2,hkp,hkp2,hli,hli2,hcl,hil,hne,succ_ne0H,ne0_succH]); rfl)) ?_; (iterate 2 (exact sd)); rintro _ _ ⟨rfl,rfl⟩)) | ((with_reducible refine callD_ids (f := 16) [(i * 2 + 1 + 1)] false ?_); simp (disch := omega) only [push_cast,seval,hset0,hset1,hset4,hd,hd2,hkp,hkp2,hli,hli2,hcl,hil,hne,succ_ne0H,ne0_succH]; (refine call1D (id := (i * 2 + 1 + 1)) (markIntS_ok _ _ _ ?_ ?_) (by first | ((simp (disch := omega) only [push_cast,seval,hset0,hset1,hset4,hd,hd2,hkp,hkp2,hli,hli2,hcl,hil,hne,succ_ne0H,ne0_succH]); done) | ((simp (disch := omega) only [push_cast,seval,hset0,hset1,hset4,hd,hd2,hkp,hkp2,hli,hli2,hcl,hil,hne,succ_ne0H,ne0_succH]); rfl)) ?_; (iterate 2 (exact sd)); rintro _ _ ⟨rfl,rfl⟩))) <;> (try simp (disch := omega) only [push_cast,seval,hset0,hset1,hset4,hd,hd2,hkp,hkp2,hli,hli2,hcl,hil,hne,succ_ne0H,ne0_succH]))))
      refine ⟨(i + 1,kk + 1 + 1 + L + L2 + 1,upd (upd rows (i * 2) (upFrom (kk + 1 + 1) L)) (i * 2 + 1) (upFrom (kk + 1 + 1 + L) L2),upd ps i kk,upd bs i (kk + 1),upd os i (decide ((kk + 1 + 1 + L + L2).tmod 3 = 0))),⟨by simp only; omega,by simp only; omega,fun j => ?_⟩,by simp only; omega,?_⟩
      · simp only
        by_cases e : j = i * 2 + 1
        · subst e; rw [upd_eq,hLL2]; simp [upFrom]
        · rw [upd_ne _ _ _ _ e]
          by_cases e : j = i * 2
          · subst e; rw [upd_eq,hLL]; simp [upFrom]
          · rw [upd_ne _ _ _ _ e]; exact hl j
      · generalize cc (upd ps i kk) (upd bs i (kk + 1)) (upd os i (decide ((kk + 1 + 1 + L + L2).tmod 3 = 0))) = C
        refine SubW.heq (H' := (0,C) :: pinR (upd (upd rows (i * 2) (upFrom (kk + 1 + 1) L)) (i * 2 + 1) (upFrom (kk + 1 + 1 + L) L2)) (n * 2)) (fun id => ?_) (SubW.slots ?_)
        · have h1 := pinR_upd (rows := upd rows (i * 2) (upFrom (kk + 1 + 1) L)) (n := n * 2) (j := i * 2 + 1) (xs := upFrom (kk + 1 + 1 + L) L2) (c0 := C) (by omega) id
          have h2 := pinR_upd (rows := rows) (n := n * 2) (j := i * 2) (xs := upFrom (kk + 1 + 1) L) (c0 := C) (by omega) id
          rw [h1]
          simp only [hk] at h2 ⊢
          by_cases e0 : id = 0
          · subst e0; simp
          · simp only [if_neg e0] at h2 ⊢
            rw [h2]
        · simp [lk]
    · have e : i = n := by omega
      subst e
      (repeat' (first
 | (first | refine awp_seq ?_ | refine awp_block ?_)
 | ((first | refine awp_reg ?_ | refine awp_condB ?_ | refine awp_skip ?_ | refine awp_exit ?_); simp (disch := omega) only [push_cast,seval,l35r0,l35r1,l35r2,l35r3,l35r4,l35r5,l35r6,l35r7,l35r8,l35r9,l35r10,l35r11,l35r12,hcl])
 | ((first | refine condB_split (fun h => ?_) (fun h => ?_) | refine gIf_split (fun h => ?_) (fun h => ?_) | refine qIf_split (fun h => ?_) (fun h => ?_)) <;> (try simp only [h]) <;> (try simp only [bitvec_to_nat] at h) <;> (try simp only [h]) <;> (first | (exfalso; omega) | (focus (exfalso; simp_all; done)) | (simp (disch := omega) only [push_cast,seval,hcl]) | skip))
 | ((first | ((with_reducible refine qcallI_of (f := 16) [544] false ?_); simp (disch := omega) only [push_cast,seval,hcl]; (refine qcall1D (id := 544) (markIntS_ok _ _ _ ?_ ?_) (by first | ((simp (disch := omega) only [push_cast,seval,hcl]); done) | ((simp (disch := omega) only [push_cast,seval,hcl]); rfl)) (by decide) ⟨_,_,rfl,rfl⟩ ?_; (iterate 2 (exact sd)); rintro _ _ ⟨rfl,rfl⟩)) | ((with_reducible refine qcallI_of (f := 16) [672] false ?_); simp (disch := omega) only [push_cast,seval,hcl]; (refine qcall1D (id := 672) (markIntS_ok _ _ _ ?_ ?_) (by first | ((simp (disch := omega) only [push_cast,seval,hcl]); done) | ((simp (disch := omega) only [push_cast,seval,hcl]); rfl)) (by decide) ⟨_,_,rfl,rfl⟩ ?_; (iterate 2 (exact sd)); rintro _ _ ⟨rfl,rfl⟩)) | ((with_reducible refine callD_ids (f := 16) [544] false ?_); simp (disch := omega) only [push_cast,seval,hcl]; (refine call1D (id := 544) (markIntS_ok _ _ _ ?_ ?_) (by first | ((simp (disch := omega) only [push_cast,seval,hcl]); done) | ((simp (disch := omega) only [push_cast,seval,hcl]); rfl)) ?_; (iterate 2 (exact sd)); rintro _ _ ⟨rfl,rfl⟩)) | ((with_reducible refine callD_ids (f := 16) [672] false ?_); simp (disch := omega) only [push_cast,seval,hcl]; (refine call1D (id := 672) (markIntS_ok _ _ _ ?_ ?_) (by first | ((simp (disch := omega) only [push_cast,seval,hcl]); done) | ((simp (disch := omega) only [push_cast,seval,hcl]); rfl)) ?_; (iterate 2 (exact sd)); rintro _ _ ⟨rfl,rfl⟩))) <;> (try simp (disch := omega) only [push_cast,seval,hcl]))))
      refine awp_ret ⟨.inr rfl,ret_pinS (fun _ => rfl) (by omega) (hret ps bs os rows hl)⟩


set_option maxHeartbeats 16000000 in
theorem markBufferF_ok (cs : List Int) (m n : Nat) (ps0 bs0 : Nat → Int) (os0 : Nat → Bool) (rows0 : Nat → List Int) (k : Int) (hm : cs.length = m) (hk : 0 ≤ k ∧ k ≤ 1000000) (hb : m ≤ 1048576 ∧ n ≤ 1048576 ∧ ∀ j,(rows0 j).length ≤ 1048576) : BCall Tryd.prog 15 [.agg [.own 0 m 1,.own 1 n 5],.int .i64 k] (IL cs :: (eF n ps0 bs0 os0 rows0).cellsG (· + 2) :: (eF n ps0 bs0 os0 rows0).conts) (fun r H' => ∃ cs' G k',(k ≤ k' ∧ k' ≤ k + 1048576 + 4398046511104) ∧ cs'.length = cs.length ∧ (eF n ps0 bs0 os0 rows0).like G ∧ r = .int .i64 k' ∧ H' = IL cs' :: G.cellsG (· + 2) :: G.conts) := by
  subst hm
  obtain ⟨hb1,hb2,hb3⟩ := hb
  have hbe : n ≤ 1048576 ∧ ∀ j,(rows0 j).length ≤ 1048576 := ⟨hb2,hb3⟩
  have hk1 := hk
  clear hk
  refine bcall_of (pins := List.range (n * 2 + 2)) (pin := n * 2 + 2) l15_eq rfl (by simp [conts_length,eF_R]) (by simp [conts_length,eF_R]) ?_
  rw [initB_famB,eF_R,show (eF n ps0 bs0 os0 rows0).rows = rows0 from rfl]
  have hlen : cs.length ≤ 1099511627776 := by omega
  by_cases hp : n * 2 + 2 ≤ 32
  · have hx := hk_pinB_none rows0 (n * 2) 32 (by omega)
    (repeat' (first
 | (first | refine awp_seq ?_ | refine awp_block ?_)
 | ((first | refine awp_reg ?_ | refine awp_condB ?_ | refine awp_skip ?_ | refine awp_exit ?_); simp (disch := omega) only [push_cast,seval,l15r0,l15r1,l15r2,l15r3,hp,hx])
 | ((first | refine condB_split (fun h => ?_) (fun h => ?_) | refine gIf_split (fun h => ?_) (fun h => ?_) | refine qIf_split (fun h => ?_) (fun h => ?_)) <;> (try simp only [h]) <;> (try simp only [bitvec_to_nat] at h) <;> (try simp only [h]) <;> (first | (exfalso; omega) | (focus (exfalso; simp_all; done)) | (simp (disch := omega) only [push_cast,seval,hp,hx]) | skip))
 | ((first | ((with_reducible refine qcallI_of (f := 16) [128] false ?_); simp (disch := omega) only [push_cast,seval,hp,hx]; (refine qcall1D (id := 128) (markIntS_ok _ _ _ ?_ ?_) (by first | ((simp (disch := omega) only [push_cast,seval,hp,hx]); done) | ((simp (disch := omega) only [push_cast,seval,hp,hx]); rfl)) (by decide) ⟨_,_,rfl,rfl⟩ ?_; (iterate 2 (exact sd)); rintro _ _ ⟨rfl,rfl⟩)) | ((with_reducible refine qcallI_of (f := 16) [192] false ?_); simp (disch := omega) only [push_cast,seval,hp,hx]; (refine qcall1D (id := 192) (markIntS_ok _ _ _ ?_ ?_) (by first | ((simp (disch := omega) only [push_cast,seval,hp,hx]); done) | ((simp (disch := omega) only [push_cast,seval,hp,hx]); rfl)) (by decide) ⟨_,_,rfl,rfl⟩ ?_; (iterate 2 (exact sd)); rintro _ _ ⟨rfl,rfl⟩)) | ((with_reducible refine qcallI_of (f := 16) [0] false ?_); simp (disch := omega) only [push_cast,seval,hp,hx]; (refine qcall1D (id := 0) (markIntS_ok _ _ _ ?_ ?_) (by first | ((simp (disch := omega) only [push_cast,seval,hp,hx]); done) | ((simp (disch := omega) only [push_cast,seval,hp,hx]); rfl)) (by decide) ⟨_,_,rfl,rfl⟩ ?_; (iterate 2 (exact sd)); rintro _ _ ⟨rfl,rfl⟩)) | ((with_reducible refine qcallI_of (f := 16) [1] false ?_); simp (disch := omega) only [push_cast,seval,hp,hx]; (refine qcall1D (id := 1) (markIntS_ok _ _ _ ?_ ?_) (by first | ((simp (disch := omega) only [push_cast,seval,hp,hx]); done) | ((simp (disch := omega) only [push_cast,seval,hp,hx]); rfl)) (by decide) ⟨_,_,rfl,rfl⟩ ?_; (iterate 2 (exact sd)); rintro _ _ ⟨rfl,rfl⟩)) | ((with_reducible refine callD_ids (f := 16) [128] false ?_); simp (disch := omega) only [push_cast,seval,hp,hx]; (refine call1D (id := 128) (markIntS_ok _ _ _ ?_ ?_) (by first | ((simp (disch := omega) only [push_cast,seval,hp,hx]); done) | ((simp (disch := omega) only [push_cast,seval,hp,hx]); rfl)) ?_; (iterate 2 (exact sd)); rintro _ _ ⟨rfl,rfl⟩)) | ((with_reducible refine callD_ids (f := 16) [192] false ?_); simp (disch := omega) only [push_cast,seval,hp,hx]; (refine call1D (id := 192) (markIntS_ok _ _ _ ?_ ?_) (by first | ((simp (disch := omega) only [push_cast,seval,hp,hx]); done) | ((simp (disch := omega) only [push_cast,seval,hp,hx]); rfl)) ?_; (iterate 2 (exact sd)); rintro _ _ ⟨rfl,rfl⟩)) | ((with_reducible refine callD_ids (f := 16) [0] false ?_); simp (disch := omega) only [push_cast,seval,hp,hx]; (refine call1D (id := 0) (markIntS_ok _ _ _ ?_ ?_) (by first | ((simp (disch := omega) only [push_cast,seval,hp,hx]); done) | ((simp (disch := omega) only [push_cast,seval,hp,hx]); rfl)) ?_; (iterate 2 (exact sd)); rintro _ _ ⟨rfl,rfl⟩)) | ((with_reducible refine callD_ids (f := 16) [1] false ?_); simp (disch := omega) only [push_cast,seval,hp,hx]; (refine call1D (id := 1) (markIntS_ok _ _ _ ?_ ?_) (by first | ((simp (disch := omega) only [push_cast,seval,hp,hx]); done) | ((simp (disch := omega) only [push_cast,seval,hp,hx]); rfl)) ?_; (iterate 2 (exact sd)); rintro _ _ ⟨rfl,rfl⟩))) <;> (try simp (disch := omega) only [push_cast,seval,hp,hx]))))
    refine callE_of (f := 35) ?_
    simp (disch := omega) only [push_cast,seval]
    refine callFG (fun j => j + 2) (fun _ _ h => by simpa using h) (fun j => by omega) (markExportSF_ok n ps0 bs0 os0 rows0 _ (by omega) hbe) (by simp only [hk]; rfl) (fun j hj => ?_) fun G kk hkk hG => ?_
    · have hj' : j < n * 2 := hj
      simp only [hk]
      repeat rw [if_neg (by omega)]
      exact hk_pinB _ _ _ hj'
    · simp (disch := omega) only [push_cast,seval]
      (repeat' (first
 | (first | refine awp_seq ?_ | refine awp_block ?_)
 | ((first | refine awp_reg ?_ | refine awp_condB ?_ | refine awp_skip ?_ | refine awp_exit ?_); simp (disch := omega) only [push_cast,seval,l15r0,l15r1,l15r2,l15r3])
 | ((first | refine condB_split (fun h => ?_) (fun h => ?_) | refine gIf_split (fun h => ?_) (fun h => ?_) | refine qIf_split (fun h => ?_) (fun h => ?_)) <;> (try simp only [h]) <;> (try simp only [bitvec_to_nat] at h) <;> (try simp only [h]) <;> (first | (exfalso; omega) | (focus (exfalso; simp_all; done)) | (simp (disch := omega) only [push_cast,seval]) | skip))
 | ((first | ((with_reducible refine qcallI_of (f := 16) [128] false ?_); simp (disch := omega) only [push_cast,seval]; (refine qcall1D (id := 128) (markIntS_ok _ _ _ ?_ ?_) (by first | ((simp (disch := omega) only [push_cast,seval]); done) | ((simp (disch := omega) only [push_cast,seval]); rfl)) (by decide) ⟨_,_,rfl,rfl⟩ ?_; (iterate 2 (exact sd)); rintro _ _ ⟨rfl,rfl⟩)) | ((with_reducible refine qcallI_of (f := 16) [192] false ?_); simp (disch := omega) only [push_cast,seval]; (refine qcall1D (id := 192) (markIntS_ok _ _ _ ?_ ?_) (by first | ((simp (disch := omega) only [push_cast,seval]); done) | ((simp (disch := omega) only [push_cast,seval]); rfl)) (by decide) ⟨_,_,rfl,rfl⟩ ?_; (iterate 2 (exact sd)); rintro _ _ ⟨rfl,rfl⟩)) | ((with_reducible refine qcallI_of (f := 16) [0] false ?_); simp (disch := omega) only [push_cast,seval]; (refine qcall1D (id := 0) (markIntS_ok _ _ _ ?_ ?_) (by first | ((simp (disch := omega) only [push_cast,seval]); done) | ((simp (disch := omega) only [push_cast,seval]); rfl)) (by decide) ⟨_,_,rfl,rfl⟩ ?_; (iterate 2 (exact sd)); rintro _ _ ⟨rfl,rfl⟩)) | ((with_reducible refine qcallI_of (f := 16) [1] false ?_); simp (disch := omega) only [push_cast,seval]; (refine qcall1D (id := 1) (markIntS_ok _ _ _ ?_ ?_) (by first | ((simp (disch := omega) only [push_cast,seval]); done) | ((simp (disch := omega) only [push_cast,seval]); rfl)) (by decide) ⟨_,_,rfl,rfl⟩ ?_; (iterate 2 (exact sd)); rintro _ _ ⟨rfl,rfl⟩)) | ((with_reducible refine callD_ids (f := 16) [128] false ?_); simp (disch := omega) only [push_cast,seval]; (refine call1D (id := 128) (markIntS_ok _ _ _ ?_ ?_) (by first | ((simp (disch := omega) only [push_cast,seval]); done) | ((simp (disch := omega) only [push_cast,seval]); rfl)) ?_; (iterate 2 (exact sd)); rintro _ _ ⟨rfl,rfl⟩)) | ((with_reducible refine callD_ids (f := 16) [192] false ?_); simp (disch := omega) only [push_cast,seval]; (refine call1D (id := 192) (markIntS_ok _ _ _ ?_ ?_) (by first | ((simp (disch := omega) only [push_cast,seval]); done) | ((simp (disch := omega) only [push_cast,seval]); rfl)) ?_; (iterate 2 (exact sd)); rintro _ _ ⟨rfl,rfl⟩)) | ((with_reducible refine callD_ids (f := 16) [0] false ?_); simp (disch := omega) only [push_cast,seval]; (refine call1D (id := 0) (markIntS_ok _ _ _ ?_ ?_) (by first | ((simp (disch := omega) only [push_cast,seval]); done) | ((simp (disch := omega) only [push_cast,seval]); rfl)) ?_; (iterate 2 (exact sd)); rintro _ _ ⟨rfl,rfl⟩)) | ((with_reducible refine callD_ids (f := 16) [1] false ?_); simp (disch := omega) only [push_cast,seval]; (refine call1D (id := 1) (markIntS_ok _ _ _ ?_ ?_) (by first | ((simp (disch := omega) only [push_cast,seval]); done) | ((simp (disch := omega) only [push_cast,seval]); rfl)) ?_; (iterate 2 (exact sd)); rintro _ _ ⟨rfl,rfl⟩))) <;> (try simp (disch := omega) only [push_cast,seval]))))
      have hR : n * 2 = G.R := by rw [hG.R]; rfl
      refine awp_ret ⟨.inr rfl,ret_pinB (R := n * 2) (cs := upFrom k cs.length) (G := G) hR rfl (by omega) (by simp [upFrom]) hG ?_ rfl ?_⟩
      · show hk ((1,_) :: (pinB G.rows G.R ++ _)) 0 = _
        simp only [hk]
        rw [if_neg (by omega),hk_pinB_low _ _ _ _ (by omega)]
        rfl
      · intro j hj
        show hk ((1,_) :: (pinB G.rows G.R ++ _)) (j + 2) = _
        simp only [hk]
        rw [if_neg (by omega)]
        exact hk_pinB_app _ _ _ _ (by omega)
  · have hx : 32 < n * 2 + 2 := by omega
    (repeat' (first
 | (first | refine awp_seq ?_ | refine awp_block ?_)
 | ((first | refine awp_reg ?_ | refine awp_condB ?_ | refine awp_skip ?_ | refine awp_exit ?_); simp (disch := omega) only [push_cast,seval,l15r0,l15r1,l15r2,l15r3,hp,hx])
 | ((first | refine condB_split (fun h => ?_) (fun h => ?_) | refine gIf_split (fun h => ?_) (fun h => ?_) | refine qIf_split (fun h => ?_) (fun h => ?_)) <;> (try simp only [h]) <;> (try simp only [bitvec_to_nat] at h) <;> (try simp only [h]) <;> (first | (exfalso; omega) | (focus (exfalso; simp_all; done)) | (simp (disch := omega) only [push_cast,seval,hp,hx]) | skip))
 | ((first | ((with_reducible refine qcallI_of (f := 16) [128] false ?_); simp (disch := omega) only [push_cast,seval,hp,hx]; (refine qcall1D (id := 128) (markIntS_ok _ _ _ ?_ ?_) (by first | ((simp (disch := omega) only [push_cast,seval,hp,hx]); done) | ((simp (disch := omega) only [push_cast,seval,hp,hx]); rfl)) (by decide) ⟨_,_,rfl,rfl⟩ ?_; (iterate 2 (exact sd)); rintro _ _ ⟨rfl,rfl⟩)) | ((with_reducible refine qcallI_of (f := 16) [192] false ?_); simp (disch := omega) only [push_cast,seval,hp,hx]; (refine qcall1D (id := 192) (markIntS_ok _ _ _ ?_ ?_) (by first | ((simp (disch := omega) only [push_cast,seval,hp,hx]); done) | ((simp (disch := omega) only [push_cast,seval,hp,hx]); rfl)) (by decide) ⟨_,_,rfl,rfl⟩ ?_; (iterate 2 (exact sd)); rintro _ _ ⟨rfl,rfl⟩)) | ((with_reducible refine qcallI_of (f := 16) [0] false ?_); simp (disch := omega) only [push_cast,seval,hp,hx]; (refine qcall1D (id := 0) (markIntS_ok _ _ _ ?_ ?_) (by first | ((simp (disch := omega) only [push_cast,seval,hp,hx]); done) | ((simp (disch := omega) only [push_cast,seval,hp,hx]); rfl)) (by decide) ⟨_,_,rfl,rfl⟩ ?_; (iterate 2 (exact sd)); rintro _ _ ⟨rfl,rfl⟩)) | ((with_reducible refine qcallI_of (f := 16) [1] false ?_); simp (disch := omega) only [push_cast,seval,hp,hx]; (refine qcall1D (id := 1) (markIntS_ok _ _ _ ?_ ?_) (by first | ((simp (disch := omega) only [push_cast,seval,hp,hx]); done) | ((simp (disch := omega) only [push_cast,seval,hp,hx]); rfl)) (by decide) ⟨_,_,rfl,rfl⟩ ?_; (iterate 2 (exact sd)); rintro _ _ ⟨rfl,rfl⟩)) | ((with_reducible refine callD_ids (f := 16) [128] false ?_); simp (disch := omega) only [push_cast,seval,hp,hx]; (refine call1D (id := 128) (markIntS_ok _ _ _ ?_ ?_) (by first | ((simp (disch := omega) only [push_cast,seval,hp,hx]); done) | ((simp (disch := omega) only [push_cast,seval,hp,hx]); rfl)) ?_; (iterate 2 (exact sd)); rintro _ _ ⟨rfl,rfl⟩)) | ((with_reducible refine callD_ids (f := 16) [192] false ?_); simp (disch := omega) only [push_cast,seval,hp,hx]; (refine call1D (id := 192) (markIntS_ok _ _ _ ?_ ?_) (by first | ((simp (disch := omega) only [push_cast,seval,hp,hx]); done) | ((simp (disch := omega) only [push_cast,seval,hp,hx]); rfl)) ?_; (iterate 2 (exact sd)); rintro _ _ ⟨rfl,rfl⟩)) | ((with_reducible refine callD_ids (f := 16) [0] false ?_); simp (disch := omega) only [push_cast,seval,hp,hx]; (refine call1D (id := 0) (markIntS_ok _ _ _ ?_ ?_) (by first | ((simp (disch := omega) only [push_cast,seval,hp,hx]); done) | ((simp (disch := omega) only [push_cast,seval,hp,hx]); rfl)) ?_; (iterate 2 (exact sd)); rintro _ _ ⟨rfl,rfl⟩)) | ((with_reducible refine callD_ids (f := 16) [1] false ?_); simp (disch := omega) only [push_cast,seval,hp,hx]; (refine call1D (id := 1) (markIntS_ok _ _ _ ?_ ?_) (by first | ((simp (disch := omega) only [push_cast,seval,hp,hx]); done) | ((simp (disch := omega) only [push_cast,seval,hp,hx]); rfl)) ?_; (iterate 2 (exact sd)); rintro _ _ ⟨rfl,rfl⟩))) <;> (try simp (disch := omega) only [push_cast,seval,hp,hx]))))
    refine callE_of (f := 35) ?_
    simp (disch := omega) only [push_cast,seval]
    refine callFG (fun j => j + 2) (fun _ _ h => by simpa using h) (fun j => by omega) (markExportSF_ok n ps0 bs0 os0 rows0 _ (by omega) hbe) (by simp only [hk]; rfl) (fun j hj => ?_) fun G kk hkk hG => ?_
    · have hj' : j < n * 2 := hj
      simp only [hk]
      repeat rw [if_neg (by omega)]
      exact hk_pinB _ _ _ hj'
    · simp (disch := omega) only [push_cast,seval]
      (repeat' (first
 | (first | refine awp_seq ?_ | refine awp_block ?_)
 | ((first | refine awp_reg ?_ | refine awp_condB ?_ | refine awp_skip ?_ | refine awp_exit ?_); simp (disch := omega) only [push_cast,seval,l15r0,l15r1,l15r2,l15r3])
 | ((first | refine condB_split (fun h => ?_) (fun h => ?_) | refine gIf_split (fun h => ?_) (fun h => ?_) | refine qIf_split (fun h => ?_) (fun h => ?_)) <;> (try simp only [h]) <;> (try simp only [bitvec_to_nat] at h) <;> (try simp only [h]) <;> (first | (exfalso; omega) | (focus (exfalso; simp_all; done)) | (simp (disch := omega) only [push_cast,seval]) | skip))
 | ((first | ((with_reducible refine qcallI_of (f := 16) [128] false ?_); simp (disch := omega) only [push_cast,seval]; (refine qcall1D (id := 128) (markIntS_ok _ _ _ ?_ ?_) (by first | ((simp (disch := omega) only [push_cast,seval]); done) | ((simp (disch := omega) only [push_cast,seval]); rfl)) (by decide) ⟨_,_,rfl,rfl⟩ ?_; (iterate 2 (exact sd)); rintro _ _ ⟨rfl,rfl⟩)) | ((with_reducible refine qcallI_of (f := 16) [192] false ?_); simp (disch := omega) only [push_cast,seval]; (refine qcall1D (id := 192) (markIntS_ok _ _ _ ?_ ?_) (by first | ((simp (disch := omega) only [push_cast,seval]); done) | ((simp (disch := omega) only [push_cast,seval]); rfl)) (by decide) ⟨_,_,rfl,rfl⟩ ?_; (iterate 2 (exact sd)); rintro _ _ ⟨rfl,rfl⟩)) | ((with_reducible refine qcallI_of (f := 16) [0] false ?_); simp (disch := omega) only [push_cast,seval]; (refine qcall1D (id := 0) (markIntS_ok _ _ _ ?_ ?_) (by first | ((simp (disch := omega) only [push_cast,seval]); done) | ((simp (disch := omega) only [push_cast,seval]); rfl)) (by decide) ⟨_,_,rfl,rfl⟩ ?_; (iterate 2 (exact sd)); rintro _ _ ⟨rfl,rfl⟩)) | ((with_reducible refine qcallI_of (f := 16) [1] false ?_); simp (disch := omega) only [push_cast,seval]; (refine qcall1D (id := 1) (markIntS_ok _ _ _ ?_ ?_) (by first | ((simp (disch := omega) only [push_cast,seval]); done) | ((simp (disch := omega) only [push_cast,seval]); rfl)) (by decide) ⟨_,_,rfl,rfl⟩ ?_; (iterate 2 (exact sd)); rintro _ _ ⟨rfl,rfl⟩)) | ((with_reducible refine callD_ids (f := 16) [128] false ?_); simp (disch := omega) only [push_cast,seval]; (refine call1D (id := 128) (markIntS_ok _ _ _ ?_ ?_) (by first | ((simp (disch := omega) only [push_cast,seval]); done) | ((simp (disch := omega) only [push_cast,seval]); rfl)) ?_; (iterate 2 (exact sd)); rintro _ _ ⟨rfl,rfl⟩)) | ((with_reducible refine callD_ids (f := 16) [192] false ?_); simp (disch := omega) only [push_cast,seval]; (refine call1D (id := 192) (markIntS_ok _ _ _ ?_ ?_) (by first | ((simp (disch := omega) only [push_cast,seval]); done) | ((simp (disch := omega) only [push_cast,seval]); rfl)) ?_; (iterate 2 (exact sd)); rintro _ _ ⟨rfl,rfl⟩)) | ((with_reducible refine callD_ids (f := 16) [0] false ?_); simp (disch := omega) only [push_cast,seval]; (refine call1D (id := 0) (markIntS_ok _ _ _ ?_ ?_) (by first | ((simp (disch := omega) only [push_cast,seval]); done) | ((simp (disch := omega) only [push_cast,seval]); rfl)) ?_; (iterate 2 (exact sd)); rintro _ _ ⟨rfl,rfl⟩)) | ((with_reducible refine callD_ids (f := 16) [1] false ?_); simp (disch := omega) only [push_cast,seval]; (refine call1D (id := 1) (markIntS_ok _ _ _ ?_ ?_) (by first | ((simp (disch := omega) only [push_cast,seval]); done) | ((simp (disch := omega) only [push_cast,seval]); rfl)) ?_; (iterate 2 (exact sd)); rintro _ _ ⟨rfl,rfl⟩))) <;> (try simp (disch := omega) only [push_cast,seval]))))
      have hR : n * 2 = G.R := by rw [hG.R]; rfl
      refine awp_ret ⟨.inr rfl,ret_pinB (R := n * 2) (cs := upFrom k cs.length) (G := G) hR rfl (by omega) (by simp [upFrom]) hG ?_ rfl ?_⟩
      · show hk ((1,_) :: (pinB G.rows G.R ++ _)) 0 = _
        simp only [hk]
        rw [if_neg (by omega),hk_pinB_low _ _ _ _ (by omega)]
        rfl
      · intro j hj
        show hk ((1,_) :: (pinB G.rows G.R ++ _)) (j + 2) = _
        simp only [hk]
        rw [if_neg (by omega)]
        exact hk_pinB_app _ _ _ _ (by omega)

end Go.Proofs.YtiknpnnhbhfipaaDoor
