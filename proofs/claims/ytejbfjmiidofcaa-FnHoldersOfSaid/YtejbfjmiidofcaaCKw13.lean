import Derived.Test.YtejbfjmiidofcaaCKv2
import Derived.Test.YtejbfjmiidofcaaCM1
set_option linter.unusedSimpArgs false
set_option linter.unusedVariables false
set_option maxRecDepth 4000
set_option maxHeartbeats 4000000
namespace Go.Proofs.Ytejbfjmiidofcaa
open VwM Vw Go

def vvB (vs : List Vw3) : Bool := decide (vs.length ≤ 8) && vs.all fun v => vV v.1 v.2.1 v.2.2
theorem vvB_spec {vs : List Vw3} : vvB vs = true ↔ vs.length ≤ 8 ∧ ∀ v ∈ vs,vV v.1 v.2.1 v.2.2 = true := by
  unfold vvB; simp [List.all_eq_true]
theorem vvB_no {vs : List Vw3} {i : Nat} {v : Vw3} (h : vs[i]? = some v) (hv : vV v.1 v.2.1 v.2.2 = false) : vvB vs = false := by
  refine Bool.eq_false_iff.2 fun h' => ?_
  have := (vvB_spec.1 h').2 v (List.mem_of_getElem? h)
  rw [hv] at this; cases this


set_option maxHeartbeats 8000000 in
theorem ivv_ok (vs : List Vw3) (n : Nat) (hn : vs.length = n) (hb : n ≤ 1099511627776 ∧ ∀ v ∈ vs,v.2.1.length ≤ 1099511627776 ∧ v.2.2.length ≤ 1099511627776) : PCall Try.prog 62 [.rows false (VLs vs) n] (fun r => r = .bool (vvB vs)) := by
  subst hn
  obtain ⟨hb1,hb2⟩ := hb
  refine pcall_of l62_eq rfl ?_
  have hvl := VLs_length vs
  by_cases h8 : vs.length ≤ 8
  · (repeat' (first
 | (first | refine awp_seq ?_ | refine awp_block ?_)
 | ((first | refine awp_reg ?_ | refine awp_condB ?_ | refine awp_skip ?_ | refine awp_exit ?_); simp (disch := omega) only [push_cast,seval,l62r0,l62r1,l62r2,l62r3,l62r4,l62r5,l62r6,l62r7,l62r8,l62r9,innL_VLs])
 | ((first | refine condB_split (fun h => ?_) (fun h => ?_) | refine gIf_split (fun h => ?_) (fun h => ?_) | refine qIf_split (fun h => ?_) (fun h => ?_)) <;> (try simp only [h]) <;> (try simp only [bitvec_to_nat] at h) <;> (try simp only [h]) <;> (first | (exfalso; omega) | (focus (exfalso; simp_all; done)) | (simp (disch := omega) only [push_cast,seval,innL_VLs]) | skip))
 | ((first | refine callD_of false ?_ | refine qcallD_of false ?_); simp (disch := omega) only [push_cast,seval,innL_VLs])
 | ((first | ((first | refine call0D (BCall.ofP (iValidView_ok _ _ _ _ _ ?_ ?_ ?_)) ?_ | refine qcall0D (BCall.ofP (iValidView_ok _ _ _ _ _ ?_ ?_ ?_)) ⟨_,_,rfl,rfl⟩ ?_); (iterate 3 (exact sd)); rintro _ _ ⟨rfl,rfl⟩)) <;> (try simp (disch := omega) only [push_cast,seval,innL_VLs]))
 | (refine awp_ret ⟨.inr rfl,_,rfl,?_⟩; (try simp (disch := omega) only [push_cast,seval,innL_VLs]))))
    refine awp_loop (fun i : Nat => mkS [(8,.rows false (VLs vs) vs.length),(9,.int .i64 vs.length),(10,.int .i64 i)] []) (fun i => i ≤ vs.length ∧ ∀ k v,k < i → vs[k]? = some v → vV v.1 v.2.1 v.2.2 = true) (fun i => vs.length - i) 0 ⟨Nat.zero_le _,fun k v h => absurd h (Nat.not_lt_zero _)⟩ ?_ ?_
    · (refine Sub.of_lists ?_ ?_ ?_ ?_ ?_ <;> simp [Vw.mkS,Vw.lk,Vw.hk,AV.inn,innL,innL_ints,innL_append,innL_rep,-List.map_set,-List.getD_eq_getElem?_getD,innL_VLs])
    · rintro i ⟨hi,hall⟩
      by_cases hlt : i < vs.length
      · obtain ⟨⟨b,sh,st⟩,hv⟩ : ∃ v,vs[i]? = some v := ⟨_,List.getElem?_eq_getElem hlt⟩
        have hbb := hb2 _ (List.mem_of_getElem? hv)
        simp only at hbb
        have hd := VLs_drop vs i hv
        have hil : i * 3 + 3 ≤ vs.length * 3 := by omega
        have hno := fun h => vvB_no hv h
        simp only at hd hno
        cases hvv : vV b sh st with
        | false =>
          have hf := hno hvv
          (repeat' (first
 | (first | refine awp_seq ?_ | refine awp_block ?_)
 | ((first | refine awp_reg ?_ | refine awp_condB ?_ | refine awp_skip ?_ | refine awp_exit ?_); simp (disch := omega) only [push_cast,seval,l62r0,l62r1,l62r2,l62r3,l62r4,l62r5,l62r6,l62r7,l62r8,l62r9,hd,hvl,hil,hvv,innL_VLs])
 | ((first | refine condB_split (fun h => ?_) (fun h => ?_) | refine gIf_split (fun h => ?_) (fun h => ?_) | refine qIf_split (fun h => ?_) (fun h => ?_)) <;> (try simp only [h]) <;> (try simp only [bitvec_to_nat] at h) <;> (try simp only [h]) <;> (first | (exfalso; omega) | (focus (exfalso; simp_all; done)) | (simp (disch := omega) only [push_cast,seval,hd,hvl,hil,hvv,innL_VLs]) | skip))
 | ((first | refine callD_of false ?_ | refine qcallD_of false ?_); simp (disch := omega) only [push_cast,seval,hd,hvl,hil,hvv,innL_VLs])
 | ((first | ((first | refine call0D (BCall.ofP (iValidView_ok _ _ _ _ _ ?_ ?_ ?_)) ?_ | refine qcall0D (BCall.ofP (iValidView_ok _ _ _ _ _ ?_ ?_ ?_)) ⟨_,_,rfl,rfl⟩ ?_); (iterate 3 (exact sd)); rintro _ _ ⟨rfl,rfl⟩)) <;> (try simp (disch := omega) only [push_cast,seval,hd,hvl,hil,hvv,innL_VLs]))
 | (refine awp_ret ⟨.inr rfl,_,rfl,?_⟩; (try simp (disch := omega) only [push_cast,seval,hd,hvl,hil,hvv,innL_VLs]))))
          all_goals (rw [hf])
        | true =>
          clear hno
          (repeat' (first
 | (first | refine awp_seq ?_ | refine awp_block ?_)
 | ((first | refine awp_reg ?_ | refine awp_condB ?_ | refine awp_skip ?_ | refine awp_exit ?_); simp (disch := omega) only [push_cast,seval,l62r0,l62r1,l62r2,l62r3,l62r4,l62r5,l62r6,l62r7,l62r8,l62r9,hd,hvl,hil,hvv,innL_VLs])
 | ((first | refine condB_split (fun h => ?_) (fun h => ?_) | refine gIf_split (fun h => ?_) (fun h => ?_) | refine qIf_split (fun h => ?_) (fun h => ?_)) <;> (try simp only [h]) <;> (try simp only [bitvec_to_nat] at h) <;> (try simp only [h]) <;> (first | (exfalso; omega) | (focus (exfalso; simp_all; done)) | (simp (disch := omega) only [push_cast,seval,hd,hvl,hil,hvv,innL_VLs]) | skip))
 | ((first | refine callD_of false ?_ | refine qcallD_of false ?_); simp (disch := omega) only [push_cast,seval,hd,hvl,hil,hvv,innL_VLs])
 | ((first | ((first | refine call0D (BCall.ofP (iValidView_ok _ _ _ _ _ ?_ ?_ ?_)) ?_ | refine qcall0D (BCall.ofP (iValidView_ok _ _ _ _ _ ?_ ?_ ?_)) ⟨_,_,rfl,rfl⟩ ?_); (iterate 3 (exact sd)); rintro _ _ ⟨rfl,rfl⟩)) <;> (try simp (disch := omega) only [push_cast,seval,hd,hvl,hil,hvv,innL_VLs]))
 | (refine awp_ret ⟨.inr rfl,_,rfl,?_⟩; (try simp (disch := omega) only [push_cast,seval,hd,hvl,hil,hvv,innL_VLs]))))
          refine ⟨i + 1,⟨by omega,fun k v hk hkv => ?_⟩,by omega,?_⟩
          · by_cases e : k = i
            · subst e; rw [hv] at hkv; cases hkv; exact hvv
            · exact hall k v (by omega) hkv
          · (refine Sub.of_lists ?_ ?_ ?_ ?_ ?_ <;> simp [Vw.mkS,Vw.lk,Vw.hk,AV.inn,innL,innL_ints,innL_append,innL_rep,-List.map_set,-List.getD_eq_getElem?_getD,innL_VLs])
      · have hf : vvB vs = true := vvB_spec.2 ⟨h8,fun v hv => by
          obtain ⟨k,hk,e⟩ := List.mem_iff_getElem.1 hv
          exact hall k v (by omega) (by rw [List.getElem?_eq_getElem hk,e])⟩
        (repeat' (first
 | (first | refine awp_seq ?_ | refine awp_block ?_)
 | ((first | refine awp_reg ?_ | refine awp_condB ?_ | refine awp_skip ?_ | refine awp_exit ?_); simp (disch := omega) only [push_cast,seval,l62r0,l62r1,l62r2,l62r3,l62r4,l62r5,l62r6,l62r7,l62r8,l62r9,innL_VLs])
 | ((first | refine condB_split (fun h => ?_) (fun h => ?_) | refine gIf_split (fun h => ?_) (fun h => ?_) | refine qIf_split (fun h => ?_) (fun h => ?_)) <;> (try simp only [h]) <;> (try simp only [bitvec_to_nat] at h) <;> (try simp only [h]) <;> (first | (exfalso; omega) | (focus (exfalso; simp_all; done)) | (simp (disch := omega) only [push_cast,seval,innL_VLs]) | skip))
 | ((first | refine callD_of false ?_ | refine qcallD_of false ?_); simp (disch := omega) only [push_cast,seval,innL_VLs])
 | ((first | ((first | refine call0D (BCall.ofP (iValidView_ok _ _ _ _ _ ?_ ?_ ?_)) ?_ | refine qcall0D (BCall.ofP (iValidView_ok _ _ _ _ _ ?_ ?_ ?_)) ⟨_,_,rfl,rfl⟩ ?_); (iterate 3 (exact sd)); rintro _ _ ⟨rfl,rfl⟩)) <;> (try simp (disch := omega) only [push_cast,seval,innL_VLs]))
 | (refine awp_ret ⟨.inr rfl,_,rfl,?_⟩; (try simp (disch := omega) only [push_cast,seval,innL_VLs]))))
        all_goals (rw [hf])
  · have hf : vvB vs = false := Bool.eq_false_iff.2 fun h' => h8 (vvB_spec.1 h').1
    (repeat' (first
 | (first | refine awp_seq ?_ | refine awp_block ?_)
 | ((first | refine awp_reg ?_ | refine awp_condB ?_ | refine awp_skip ?_ | refine awp_exit ?_); simp (disch := omega) only [push_cast,seval,l62r0,l62r1,l62r2,l62r3,l62r4,l62r5,l62r6,l62r7,l62r8,l62r9,innL_VLs])
 | ((first | refine condB_split (fun h => ?_) (fun h => ?_) | refine gIf_split (fun h => ?_) (fun h => ?_) | refine qIf_split (fun h => ?_) (fun h => ?_)) <;> (try simp only [h]) <;> (try simp only [bitvec_to_nat] at h) <;> (try simp only [h]) <;> (first | (exfalso; omega) | (focus (exfalso; simp_all; done)) | (simp (disch := omega) only [push_cast,seval,innL_VLs]) | skip))
 | ((first | refine callD_of false ?_ | refine qcallD_of false ?_); simp (disch := omega) only [push_cast,seval,innL_VLs])
 | ((first | ((first | refine call0D (BCall.ofP (iValidView_ok _ _ _ _ _ ?_ ?_ ?_)) ?_ | refine qcall0D (BCall.ofP (iValidView_ok _ _ _ _ _ ?_ ?_ ?_)) ⟨_,_,rfl,rfl⟩ ?_); (iterate 3 (exact sd)); rintro _ _ ⟨rfl,rfl⟩)) <;> (try simp (disch := omega) only [push_cast,seval,innL_VLs]))
 | (refine awp_ret ⟨.inr rfl,_,rfl,?_⟩; (try simp (disch := omega) only [push_cast,seval,innL_VLs]))))
    all_goals (rw [hf])


set_option maxHeartbeats 8000000 in
theorem svv_ok (vs : List Vw3) (n : Nat) (hn : vs.length = n) (hb : n ≤ 1099511627776 ∧ ∀ v ∈ vs,v.2.1.length ≤ 1099511627776 ∧ v.2.2.length ≤ 1099511627776) : PCall Try.prog 69 [.rows false (VLs vs) n] (fun r => r = .bool (vvB vs)) := by
  subst hn
  obtain ⟨hb1,hb2⟩ := hb
  refine pcall_of l69_eq rfl ?_
  have hvl := VLs_length vs
  (repeat' (first
 | (first | refine awp_seq ?_ | refine awp_block ?_)
 | ((first | refine awp_reg ?_ | refine awp_condB ?_ | refine awp_skip ?_ | refine awp_exit ?_); simp (disch := omega) only [push_cast,seval,l69r0,l69r1,l69r2,l69r3,l69r4,l69r5,l69r6,innL_VLs])
 | ((first | refine condB_split (fun h => ?_) (fun h => ?_) | refine gIf_split (fun h => ?_) (fun h => ?_) | refine qIf_split (fun h => ?_) (fun h => ?_)) <;> (try simp only [h]) <;> (try simp only [bitvec_to_nat] at h) <;> (try simp only [h]) <;> (first | (exfalso; omega) | (focus (exfalso; simp_all; done)) | (simp (disch := omega) only [push_cast,seval,innL_VLs]) | skip))
 | ((first | refine callD_of false ?_ | refine qcallD_of false ?_); simp (disch := omega) only [push_cast,seval,innL_VLs])
 | ((first | ((first | refine call0D (BCall.ofP (svalidView_ok _ _ _ _ _ ?_ ?_ ?_)) ?_ | refine qcall0D (BCall.ofP (svalidView_ok _ _ _ _ _ ?_ ?_ ?_)) ⟨_,_,rfl,rfl⟩ ?_); (iterate 3 (exact sd)); rintro _ _ ⟨rfl,rfl⟩)) <;> (try simp (disch := omega) only [push_cast,seval,innL_VLs]))
 | (refine awp_ret ⟨.inr rfl,_,rfl,?_⟩; (try simp (disch := omega) only [push_cast,seval,innL_VLs]))))
  refine awp_loop (fun i : Nat => mkS [(0,.rows false (VLs vs) vs.length),(3,.int .i64 i)] []) (fun i => i ≤ vs.length ∧ ∀ k v,k < i → vs[k]? = some v → vV v.1 v.2.1 v.2.2 = true) (fun i => vs.length - i) 0 ⟨Nat.zero_le _,fun k v h => absurd h (Nat.not_lt_zero _)⟩ ?_ ?_
  · (refine Sub.of_lists ?_ ?_ ?_ ?_ ?_ <;> simp [Vw.mkS,Vw.lk,Vw.hk,AV.inn,innL,innL_ints,innL_append,innL_rep,-List.map_set,-List.getD_eq_getElem?_getD,innL_VLs])
  · rintro i ⟨hi,hall⟩
    by_cases hlt : i < vs.length
    · obtain ⟨⟨b,sh,st⟩,hv⟩ : ∃ v,vs[i]? = some v := ⟨_,List.getElem?_eq_getElem hlt⟩
      have hbb := hb2 _ (List.mem_of_getElem? hv)
      simp only at hbb
      have hd := VLs_drop vs i hv
      have hil : i * 3 + 3 ≤ vs.length * 3 := by omega
      have hno := fun h => vvB_no hv h
      simp only at hd hno
      cases hvv : vV b sh st with
 | false =>
        have hf := hno hvv
        (repeat' (first
 | (first | refine awp_seq ?_ | refine awp_block ?_)
 | ((first | refine awp_reg ?_ | refine awp_condB ?_ | refine awp_skip ?_ | refine awp_exit ?_); simp (disch := omega) only [push_cast,seval,l69r0,l69r1,l69r2,l69r3,l69r4,l69r5,l69r6,hd,hvl,hil,hvv,innL_VLs])
 | ((first | refine condB_split (fun h => ?_) (fun h => ?_) | refine gIf_split (fun h => ?_) (fun h => ?_) | refine qIf_split (fun h => ?_) (fun h => ?_)) <;> (try simp only [h]) <;> (try simp only [bitvec_to_nat] at h) <;> (try simp only [h]) <;> (first | (exfalso; omega) | (focus (exfalso; simp_all; done)) | (simp (disch := omega) only [push_cast,seval,hd,hvl,hil,hvv,innL_VLs]) | skip))
 | ((first | refine callD_of false ?_ | refine qcallD_of false ?_); simp (disch := omega) only [push_cast,seval,hd,hvl,hil,hvv,innL_VLs])
 | ((first | ((first | refine call0D (BCall.ofP (svalidView_ok _ _ _ _ _ ?_ ?_ ?_)) ?_ | refine qcall0D (BCall.ofP (svalidView_ok _ _ _ _ _ ?_ ?_ ?_)) ⟨_,_,rfl,rfl⟩ ?_); (iterate 3 (exact sd)); rintro _ _ ⟨rfl,rfl⟩)) <;> (try simp (disch := omega) only [push_cast,seval,hd,hvl,hil,hvv,innL_VLs]))
 | (refine awp_ret ⟨.inr rfl,_,rfl,?_⟩; (try simp (disch := omega) only [push_cast,seval,hd,hvl,hil,hvv,innL_VLs]))))
        all_goals (rw [hf])
 | true =>
        clear hno
        (repeat' (first
 | (first | refine awp_seq ?_ | refine awp_block ?_)
 | ((first | refine awp_reg ?_ | refine awp_condB ?_ | refine awp_skip ?_ | refine awp_exit ?_); simp (disch := omega) only [push_cast,seval,l69r0,l69r1,l69r2,l69r3,l69r4,l69r5,l69r6,hd,hvl,hil,hvv,innL_VLs])
 | ((first | refine condB_split (fun h => ?_) (fun h => ?_) | refine gIf_split (fun h => ?_) (fun h => ?_) | refine qIf_split (fun h => ?_) (fun h => ?_)) <;> (try simp only [h]) <;> (try simp only [bitvec_to_nat] at h) <;> (try simp only [h]) <;> (first | (exfalso; omega) | (focus (exfalso; simp_all; done)) | (simp (disch := omega) only [push_cast,seval,hd,hvl,hil,hvv,innL_VLs]) | skip))
 | ((first | refine callD_of false ?_ | refine qcallD_of false ?_); simp (disch := omega) only [push_cast,seval,hd,hvl,hil,hvv,innL_VLs])
 | ((first | ((first | refine call0D (BCall.ofP (svalidView_ok _ _ _ _ _ ?_ ?_ ?_)) ?_ | refine qcall0D (BCall.ofP (svalidView_ok _ _ _ _ _ ?_ ?_ ?_)) ⟨_,_,rfl,rfl⟩ ?_); (iterate 3 (exact sd)); rintro _ _ ⟨rfl,rfl⟩)) <;> (try simp (disch := omega) only [push_cast,seval,hd,hvl,hil,hvv,innL_VLs]))
 | (refine awp_ret ⟨.inr rfl,_,rfl,?_⟩; (try simp (disch := omega) only [push_cast,seval,hd,hvl,hil,hvv,innL_VLs]))))
        refine ⟨i + 1,⟨by omega,fun k v hk hkv => ?_⟩,by omega,?_⟩
        · by_cases e : k = i
          · subst e; rw [hv] at hkv; cases hkv; exact hvv
          · exact hall k v (by omega) hkv
        · (refine Sub.of_lists ?_ ?_ ?_ ?_ ?_ <;> simp [Vw.mkS,Vw.lk,Vw.hk,AV.inn,innL,innL_ints,innL_append,innL_rep,-List.map_set,-List.getD_eq_getElem?_getD,innL_VLs])
    · have hf : vvB vs = decide (vs.length ≤ 8) := by
        unfold vvB
        rw [List.all_eq_true.2 fun v hv => ?_,Bool.and_true]
        obtain ⟨k,hk,e⟩ := List.mem_iff_getElem.1 hv
        exact hall k v (by omega) (by rw [List.getElem?_eq_getElem hk,e])
      (repeat' (first
 | (first | refine awp_seq ?_ | refine awp_block ?_)
 | ((first | refine awp_reg ?_ | refine awp_condB ?_ | refine awp_skip ?_ | refine awp_exit ?_); simp (disch := omega) only [push_cast,seval,l69r0,l69r1,l69r2,l69r3,l69r4,l69r5,l69r6,innL_VLs])
 | ((first | refine condB_split (fun h => ?_) (fun h => ?_) | refine gIf_split (fun h => ?_) (fun h => ?_) | refine qIf_split (fun h => ?_) (fun h => ?_)) <;> (try simp only [h]) <;> (try simp only [bitvec_to_nat] at h) <;> (try simp only [h]) <;> (first | (exfalso; omega) | (focus (exfalso; simp_all; done)) | (simp (disch := omega) only [push_cast,seval,innL_VLs]) | skip))
 | ((first | refine callD_of false ?_ | refine qcallD_of false ?_); simp (disch := omega) only [push_cast,seval,innL_VLs])
 | ((first | ((first | refine call0D (BCall.ofP (svalidView_ok _ _ _ _ _ ?_ ?_ ?_)) ?_ | refine qcall0D (BCall.ofP (svalidView_ok _ _ _ _ _ ?_ ?_ ?_)) ⟨_,_,rfl,rfl⟩ ?_); (iterate 3 (exact sd)); rintro _ _ ⟨rfl,rfl⟩)) <;> (try simp (disch := omega) only [push_cast,seval,innL_VLs]))
 | (refine awp_ret ⟨.inr rfl,_,rfl,?_⟩; (try simp (disch := omega) only [push_cast,seval,innL_VLs]))))
      all_goals (rw [hf]; simp; try omega)


def tiB (vs : List Vw3) (n : Int) : Bool := vvB vs && (decide (0 ≤ n) && decide (n ≤ 60)) && (decide (atL (cnt (allO vs)) 1 = nums 0 1 n.toNat) && decide ((atL (cnt (allO vs)) 2).length = 0))
theorem ti_iff {O : List Int} {n : Nat} (hc : ∀ x ∈ O,0 ≤ x ∧ x ≤ 59) (hn : n ≤ 60) : (atL (cnt O) 1 = nums 0 1 n ∧ (atL (cnt O) 2).length = 0) ↔ (O.Nodup ∧ (∀ x ∈ O,0 ≤ x ∧ x ≤ (n : Int) - 1) ∧ O.length = n) := by
  have h2 : (atL (cnt O) 2).length = 0 ↔ O.Nodup := by
    rw [List.length_eq_zero_iff,List.nodup_iff_count]
    constructor
    · intro e a
      by_cases hca : O.count a ≤ 1
      · exact hca
      · have hm : a ∈ O := List.count_pos_iff.1 (by omega)
        have : a ∈ atL (cnt O) 2 := mem_atL.2 ⟨hc a hm,by show 2 ≤ O.count a; omega⟩
        rw [e] at this; cases this
    · intro h1
      refine List.eq_nil_iff_forall_not_mem.2 fun a ha => ?_
      have h2 : 2 ≤ O.count a := (mem_atL.1 ha).2
      have := h1 a
      omega
  have hm1 : ∀ x,x ∈ atL (cnt O) 1 ↔ x ∈ O := fun x => by
    rw [mem_atL]
    exact ⟨fun h => cnt_pos.1 (by omega),fun h => ⟨hc x h,cnt_pos.2 h⟩⟩
  have hmn : ∀ x : Int,x ∈ nums 0 1 n ↔ 0 ≤ x ∧ x ≤ (n : Int) - 1 := fun x => by
    rw [mem_nums]
    constructor
    · rintro ⟨i,hi,e⟩; omega
    · intro h; exact ⟨x.toNat,by omega,by omega⟩
  rw [h2]
  constructor
  · rintro ⟨h1,hd⟩
    have hin : ∀ x,x ∈ O ↔ x ∈ nums 0 1 n := fun x => by rw [← h1,hm1]
    refine ⟨hd,fun x hx => (hmn x).1 ((hin x).1 hx),?_⟩
    have hnn : (nums 0 1 n).Nodup := (nums_sorted (by omega) n).imp fun h => by omega
    have := ((List.perm_ext_iff_of_nodup hd hnn).2 hin).length_eq
    rwa [nums_length] at this
  · rintro ⟨hd,hb,hl⟩
    refine ⟨?_,hd⟩
    have hall := (pigeon (xs := nums 0 1 n) hd (fun y hy => (hmn y).2 (hb y hy)) (by rw [nums_length]; omega)).1
    refine sorted_ext (atL_sorted _ _) (nums_sorted (by omega) _) fun x => ?_
    rw [hm1]
    exact ⟨fun h => (hmn x).2 (hb x h),fun h => hall x h⟩

end Go.Proofs.Ytejbfjmiidofcaa
