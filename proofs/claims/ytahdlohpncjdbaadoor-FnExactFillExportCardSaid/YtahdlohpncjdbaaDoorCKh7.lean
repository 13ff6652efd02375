import Derived.Test.YtahdlohpncjdbaaDoorCKh6
import Derived.Test.YtahdlohpncjdbaaDoorCM1
import Derived.Test.YtahdlohpncjdbaaDoorCW3
set_option linter.unusedSimpArgs false
set_option linter.unusedVariables false
set_option maxRecDepth 4000
set_option maxHeartbeats 4000000
namespace Go.Proofs.YtahdlohpncjdbaaDoor
open VwM Vw Go
set_option linter.unusedSectionVars false
variable [SentA]

theorem swownH (a b id n sz : Nat) (h1 : id ≠ a) (h2 : id ≠ b) : (AV.own id n sz).sw a b = .own id n sz := by simp only [AV.sw,swp_oth h1 h2]
theorem swl2H (a d i m : Nat) (hm : m < 1099511627776) (hn : m ≠ a) (n sz : Nat) : (AV.own m n sz).sw a (fim d i) = .own m n sz := by simp only [AV.sw,swpLow a d i m hm hn]




set_option maxHeartbeats 8000000 in
theorem toExport_ok (p b : Int) (x y : List Int) (o : Bool) (n m : Nat) (hn : x.length = n) (hm : y.length = m) (hb : n ≤ 1099511627776 ∧ m ≤ 1099511627776) : BCall Tryd.prog 65 [.agg [.int .i64 p,.int .i64 b,.rows false (IL x) n,.rows false (IL y) m,.bool o]] [] (fun r H' => r = .agg [.int .i64 p,.int .i64 b,.own 0 n 1,.own 1 m 1,.bool o] ∧ H' = [IL x,IL y]) := by
  subst hn hm
  refine bcall_of (pins := []) (pin := 0) l65_eq rfl rfl rfl ?_
  (repeat' (first
 | (first | refine awp_seq ?_ | refine awp_block ?_)
 | ((first | refine awp_reg ?_ | refine awp_condB ?_ | refine awp_skip ?_ | refine awp_exit ?_); simp (disch := omega) only [push_cast,seval,l65r0,l65r1,l65r2,l65r3,l65r4,l65r5])
 | ((first | refine condB_split (fun h => ?_) (fun h => ?_) | refine gIf_split (fun h => ?_) (fun h => ?_) | refine qIf_split (fun h => ?_) (fun h => ?_)) <;> (try simp only [h]) <;> (try simp only [bitvec_to_nat] at h) <;> (try simp only [h]) <;> (first | (exfalso; omega) | (focus (exfalso; simp_all; done)) | (simp (disch := omega) only [push_cast,seval]) | skip))
 | ((first | refine callD_of false ?_ | refine qcallD_of false ?_); simp (disch := omega) only [push_cast,seval])
 | ((first | ((first | refine call0D (toView_ok _ _ _ _ _ ?_ ?_ ?_) ?_ | refine qcall0D (toView_ok _ _ _ _ _ ?_ ?_ ?_) ⟨_,_,rfl,rfl⟩ ?_); (iterate 3 (exact sd)); rintro _ _ ⟨rfl,rfl⟩)) <;> (try simp (disch := omega) only [push_cast,seval]))
 | (refine awp_ret ⟨.inr rfl,[144,145],[],_,by decide,rfl,?_⟩; (try simp (disch := omega) only [push_cast,seval,↓allMem_nil,↓allMem_cons,↓List.map_cons,↓List.map_nil]))))
  all_goals (try exact ⟨rfl,rfl⟩)


set_option maxHeartbeats 8000000 in
theorem toExportSF_ok (es : List Ex) (n : Nat) (hn : es.length = n) (hb : n ≤ 1048576 ∧ exB 1099511627776 es) : BCall Tryd.prog 34 [.rows false (EL false es) n] [] (fun r H' => r = .own 0 n 5 ∧ H' = (esF es).cellsG (· + 1) :: (esF es).conts) := by
  subst hn
  obtain ⟨hb1,hb2⟩ := hb
  refine bcall_of (pins := []) (pin := 0) l34_eq rfl rfl rfl ?_
  have hvl := EL_length false es
  have hzl : (zcells [AV.int .i64 0,.int .i64 0,.val (.slice none 0 0),.val (.slice none 0 0),.bool false] es.length).length = es.length * 5 := by simp [zcells,Nat.mul_comm]
  (repeat' (first
 | (first | refine awp_seq ?_ | refine awp_block ?_)
 | ((first | refine awp_reg ?_ | refine awp_condB ?_ | refine awp_skip ?_ | refine awp_exit ?_); simp (disch := omega) only [push_cast,seval,l34r0,l34r1,l34r2,l34r3,l34r4,l34r5,l34r6,innL_EL])
 | ((first | refine condB_split (fun h => ?_) (fun h => ?_) | refine gIf_split (fun h => ?_) (fun h => ?_) | refine qIf_split (fun h => ?_) (fun h => ?_)) <;> (try simp only [h]) <;> (try simp only [bitvec_to_nat] at h) <;> (try simp only [h]) <;> (first | (exfalso; omega) | (focus (exfalso; simp_all; done)) | (simp (disch := omega) only [push_cast,seval,innL_EL]) | skip))
 | ((first | refine callD_of false ?_ | refine qcallD_of false ?_); simp (disch := omega) only [push_cast,seval,innL_EL])
 | ((first | ((first | refine call0D (toExport_ok _ _ _ _ _ _ _ ?_ ?_ ?_) ?_ | refine qcall0D (toExport_ok _ _ _ _ _ _ _ ?_ ?_ ?_) ⟨_,_,rfl,rfl⟩ ?_); (iterate 3 (exact sd)); rintro _ _ ⟨rfl,rfl⟩)) <;> (try simp (disch := omega) only [push_cast,seval,innL_EL]))
 | (refine awp_ret ⟨.inr rfl,[112],[],_,by decide,rfl,?_⟩; (try simp (disch := omega) only [push_cast,seval,↓allMem_nil,↓allMem_cons,↓List.map_cons,↓List.map_nil,innL_EL]))))
  refine awp_loopW (fun i : Nat => mkS [(0,.rows false (EL false es) es.length),(3,.own 112 es.length 5),(4,.int .i64 i)] ((112,row (es.length * 5) (cellE es i)) :: famR 7 (exR es) (i * 2))) (fun i => i ≤ es.length) (fun i => es.length - i) 0 (Nat.zero_le _) ?_ ?_
  · refine SubW.of ?_
    have e : row (es.length * 5) (cellE es 0) = zcells [AV.int .i64 0,.int .i64 0,.val (.slice none 0 0),.val (.slice none 0 0),.bool false] es.length := by
      symm
      refine row_ext hzl fun p hp => ?_
      unfold zcells
      rw [List.getElem?_map,List.getElem?_range (by simpa using hp)]
      have hm : p % 5 = 0 ∨ p % 5 = 1 ∨ p % 5 = 2 ∨ p % 5 = 3 ∨ p % 5 = 4 := by omega
      rcases hm with h | h | h | h | h <;> simp [h,cellE]
    have hzi : ∀ P : Nat → Bool,innL P (row (es.length * 5) (cellE es 0)) = true := fun P => innL_row _ _ _ fun p _ => by
      unfold cellE
      rw [if_neg (by omega)]
      split
      · rfl
      · split
        · rfl
        · split <;> rfl
    rw [Nat.zero_mul,famR_zero]
    rw [e] at hzi
    rw [e]
    generalize zcells [AV.int .i64 0,.int .i64 0,.val (.slice none 0 0),.val (.slice none 0 0),.bool false] es.length = Z at *
    (refine Sub.of_lists ?_ ?_ ?_ ?_ ?_ <;> simp [Vw.mkS,Vw.lk,Vw.hk,AV.inn,innL,innL_ints,innL_append,innL_rep,-List.map_set,-List.getD_eq_getElem?_getD,innL_EL,EL,hzi])
  · intro i hi
    by_cases hlt : i < es.length
    · obtain ⟨p,b,x,y,o,hti⟩ := mem_ltH hlt
      have hbb : x.length ≤ 1099511627776 ∧ y.length ≤ 1099511627776 := exB_get hb2 hti
      have hd := EL_drop false es i hti
      simp only at hd
      have hil : i * 5 + 5 ≤ es.length * 5 := by omega
      have hwl := row_length (es.length * 5) (cellE es i)
      obtain ⟨h0,h1,h2,hr0,hr1⟩ := ex_at hti
      (repeat' (first
 | (first | refine awp_seq ?_ | refine awp_block ?_)
 | ((first | refine awp_reg ?_ | refine awp_condB ?_ | refine awp_skip ?_ | refine awp_exit ?_); simp (disch := omega) only [push_cast,seval,l34r0,l34r1,l34r2,l34r3,l34r4,l34r5,l34r6,hd,hvl,hil,hwl,innL_EL])
 | ((first | refine condB_split (fun h => ?_) (fun h => ?_) | refine gIf_split (fun h => ?_) (fun h => ?_) | refine qIf_split (fun h => ?_) (fun h => ?_)) <;> (try simp only [h]) <;> (try simp only [bitvec_to_nat] at h) <;> (try simp only [h]) <;> (first | (exfalso; omega) | (focus (exfalso; simp_all; done)) | (simp (disch := omega) only [push_cast,seval,hd,hvl,hil,hwl,innL_EL]) | skip))
 | ((first | refine callD_of false ?_ | refine qcallD_of false ?_); simp (disch := omega) only [push_cast,seval,hd,hvl,hil,hwl,innL_EL])
 | ((first | ((first | refine call0D (toExport_ok _ _ _ _ _ _ _ ?_ ?_ ?_) ?_ | refine qcall0D (toExport_ok _ _ _ _ _ _ _ ?_ ?_ ?_) ⟨_,_,rfl,rfl⟩ ?_); (iterate 3 (exact sd)); rintro _ _ ⟨rfl,rfl⟩)) <;> (try simp (disch := omega) only [push_cast,seval,hd,hvl,hil,hwl,innL_EL]))))
      refine ⟨i + 1,by omega,by omega,?_⟩
      rw [show (i + 1) * 2 = i * 2 + 2 by omega]
      refine SubW.fam2 (a := 320) (b := 321) (d := 7) (i := i * 2) (id0 := 112) (rows := exR es) (c0 := (((((row (es.length * 5) (cellE es i)).set (i * 5) (.int .i64 p)).set (i * 5 + 1) (.int .i64 b)).set (i * 5 + 2) (.own 320 x.length 1)).set (i * 5 + 3) (.own 321 y.length 1)).set (i * 5 + 4) (.bool o)) ?_ ?_ ?_ ⟨by omega,by omega,by omega⟩ ?_ ?_ ?_ ?_ ?_
      · rw [hr0]; rfl
      · rw [hr1]; rfl
      · rfl
      · intro j hj
        simp only [hk,fim_ne 7 j 112 (by omega),fim_ne 7 j 320 (by omega),fim_ne 7 j 321 (by omega),if_false]
        exact hk_famR_in _ _ _ _ hj
      · rw [row_set,row_set,row_set,row_set,row_set,row_map,row_map]
        refine row_congr fun q hq => ?_
        have hp2 : ∀ r,r < 5 → i * 5 + r < (i + 1) * 5 := fun r hr => by omega
        by_cases e4 : q = i * 5 + 4
        · subst e4
          rw [upd_eq]
          unfold cellE
          rw [if_pos (hp2 4 (by omega))]
          simp only [Fam.atG,eF,patE]
          rw [if_neg (by omega),if_neg (by omega),if_pos (by omega),show (i * 5 + 4) / 5 = i by omega,h2]
          rfl
        rw [upd_ne _ _ _ _ e4]
        by_cases e3 : q = i * 5 + 3
        · subst e3
          rw [upd_eq,swl2H _ _ _ _ (by omega) (by omega)]
          unfold cellE
          rw [if_pos (hp2 3 (by omega))]
          simp only [Fam.atG,eF,patE]
          rw [if_neg (by omega),if_neg (by omega),if_neg (by omega),show (i * 5 + 3) / 5 * 2 + ((i * 5 + 3) % 5 - 2) = i * 2 + 1 by omega]
          simp only [hr1,AV.sw,swp_fst]
        rw [upd_ne _ _ _ _ e3]
        by_cases e2 : q = i * 5 + 2
        · subst e2
          rw [upd_eq]
          unfold cellE
          rw [if_pos (hp2 2 (by omega))]
          simp only [Fam.atG,eF,patE]
          rw [if_neg (by omega),if_neg (by omega),if_neg (by omega),show (i * 5 + 2) / 5 * 2 + ((i * 5 + 2) % 5 - 2) = i * 2 by omega]
          simp only [hr0,AV.sw,swp_fst]
          rw [swp_oth (Ne.symm (fimNe _ _ _ (by omega))) (fun e' => by have := fim_inj e'; omega)]
        rw [upd_ne _ _ _ _ e2]
        by_cases e1 : q = i * 5 + 1
        · subst e1
          rw [upd_eq]
          unfold cellE
          rw [if_pos (hp2 1 (by omega))]
          simp only [Fam.atG,eF,patE]
          rw [if_neg (by omega),if_pos (by omega),show (i * 5 + 1) / 5 = i by omega,h1]
          rfl
        rw [upd_ne _ _ _ _ e1]
        by_cases e0 : q = i * 5
        · subst e0
          rw [upd_eq]
          unfold cellE
          have hp20 : i * 5 < (i + 1) * 5 := by omega
          rw [if_pos hp20]
          simp only [Fam.atG,eF,patE]
          rw [if_pos (by omega),show i * 5 / 5 = i by omega,h0]
          rfl
        rw [upd_ne _ _ _ _ e0]
        unfold cellE
        by_cases hpi : q < i * 5
        · have hq2 : q < (i + 1) * 5 := by omega
          rw [if_pos hpi,if_pos hq2]
          unfold Fam.atG
          cases e : (esF es).pat q with
          | inl a => rcases (esF es).cell q a e with ⟨k,z,rfl⟩ | ⟨c,rfl⟩ <;> rfl
          | inr j =>
            have hj : j < i * 2 := by
              have e' : patE (exPa es) (exBs es) (exOp es) q = .inr j := e
              unfold patE at e'
              split at e'
              · cases e'
              · split at e'
                · cases e'
                · split at e'
                  · cases e'
                  · injection e' with e'; omega
            simp only
            rw [swownH _ _ _ _ _ (Ne.symm (fimNe _ _ _ (by omega))) (fun e' => by have := fim_inj e'; omega)]
            exact swownH _ _ _ _ _ (Ne.symm (fimNe _ _ _ (by omega))) (fun e' => by have := fim_inj e'; omega)
        · have hq2 : ¬ q < (i + 1) * 5 := by omega
          rw [if_neg hpi,if_neg hq2]
          split
          · rfl
          · split
            · rfl
            · split <;> rfl
      · simp [lk,AV.sw,swL_EL,swpLow]
      · simp [AV.inn,innL_EL,hk]
      · exact innL_row _ _ _ fun q hq => by rw [show i * 2 + 2 = (i + 1) * 2 by omega]; exact cellE_inn _ _ hq
    · have e : i = es.length := by omega
      subst e
      (repeat' (first
 | (first | refine awp_seq ?_ | refine awp_block ?_)
 | ((first | refine awp_reg ?_ | refine awp_condB ?_ | refine awp_skip ?_ | refine awp_exit ?_); simp (disch := omega) only [push_cast,seval,l34r0,l34r1,l34r2,l34r3,l34r4,l34r5,l34r6,innL_EL])
 | ((first | refine condB_split (fun h => ?_) (fun h => ?_) | refine gIf_split (fun h => ?_) (fun h => ?_) | refine qIf_split (fun h => ?_) (fun h => ?_)) <;> (try simp only [h]) <;> (try simp only [bitvec_to_nat] at h) <;> (try simp only [h]) <;> (first | (exfalso; omega) | (focus (exfalso; simp_all; done)) | (simp (disch := omega) only [push_cast,seval,innL_EL]) | skip))
 | ((first | refine callD_of false ?_ | refine qcallD_of false ?_); simp (disch := omega) only [push_cast,seval,innL_EL])
 | ((first | ((first | refine call0D (toExport_ok _ _ _ _ _ _ _ ?_ ?_ ?_) ?_ | refine qcall0D (toExport_ok _ _ _ _ _ _ _ ?_ ?_ ?_) ⟨_,_,rfl,rfl⟩ ?_); (iterate 3 (exact sd)); rintro _ _ ⟨rfl,rfl⟩)) <;> (try simp (disch := omega) only [push_cast,seval,innL_EL]))))
      refine awp_ret ⟨.inr rfl,ret_famS (F := esF es) (d := 7) rfl ?_ ?_ (by omega)⟩
      · simp only [hk,if_true]
        congr 1
        exact row_congr fun p hp => by
          unfold cellE
          rw [if_pos hp]
      · intro j hj
        simp only [hk,fim_ne 7 j 112 (by omega),if_false]
        exact hk_famR_in _ _ _ _ hj


theorem toExportSP_ok (es : List Ex) (n : Nat) (hn : es.length = n) (hb : n ≤ 1048576 ∧ exB 1099511627776 es) : PCall Tryd.prog 34 [.rows false (EL false es) n] (fun r => r = .rows true (EL true es) n) := by
  refine (BCall.plain (toExportSF_ok es n hn hb)).mono ?_
  rintro r ⟨r0,H',⟨rfl,rfl⟩,rfl⟩
  show AV.ren _ _ _ _ 5 (.own 0 n 5) = _
  have e0 : nthH ((esF es).cellsG (· + 1) :: (esF es).conts) 0 = some ((esF es).cellsG (· + 1)) := rfl
  rw [ren_own,e0,renO_none,if_pos (by rw [cellsG_length,eF_C,hn])]
  rw [← esF_plain]
  congr 1
  unfold Fam.cellsG Fam.plain
  rw [row_map]
  refine row_congr fun p hp => (esF es).ren_plain fun j hj => ⟨rfl,?_⟩
  have hjR := (esF es).ok p j hp hj
  show ((esF es).conts)[j]? = _
  unfold Fam.conts
  rw [List.getElem?_map,List.getElem?_range hjR]; rfl

end Go.Proofs.YtahdlohpncjdbaaDoor
