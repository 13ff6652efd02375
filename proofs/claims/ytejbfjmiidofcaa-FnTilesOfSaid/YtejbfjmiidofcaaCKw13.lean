import Derived.Test.YtejbfjmiidofcaaCKv2
import Derived.Test.YtejbfjmiidofcaaCM1
set_option linter.unusedSimpArgs false
set_option linter.unusedVariables false
set_option maxRecDepth 4000
set_option maxHeartbeats 4000000
namespace Go.Proofs.Ytejbfjmiidofcaa
open VwM Vw Go

def vvB (vs : List Vw3) : Bool := decide (vs.length ≤ 8) && vs.all fun v => vV v.1 v.2.1 v.2.2
theorem vvB_spec {vs : List Vw3} : vvB vs = true ↔ vs.length ≤ 8 ∧ ∀ v ∈ vs,vV v.1 v.2.1 v.2.2 = true := by
  unfold vvB; simp [List.all_eq_true]
theorem vvB_no {vs : List Vw3} {i : Nat} {v : Vw3} (h : vs[i]? = some v) (hv : vV v.1 v.2.1 v.2.2 = false) : vvB vs = false := by
  refine Bool.eq_false_iff.2 fun h' => ?_
  have := (vvB_spec.1 h').2 v (List.mem_of_getElem? h)
  rw [hv] at this; cases this


set_option maxHeartbeats 8000000 in
theorem ivv_ok (vs : List Vw3) (n : Nat) (hn : vs.length = n) (hb : n ≤ 1099511627776 ∧ ∀ v ∈ vs,v.2.1.length ≤ 1099511627776 ∧ v.2.2.length ≤ 1099511627776) : PCall Try.prog 62 [.rows false (VLs vs) n] (fun r => r = .bool (vvB vs)) := by
  subst hn
  obtain ⟨hb1,hb2⟩ := hb
  refine pcall_of l62_eq rfl ?_
  have hvl := VLs_length vs
  by_cases h8 : vs.length ≤ 8
  · (repeat' (first
 | (first | refine awp_seq ?_ | refine awp_block ?_)
 | ((first | refine awp_reg ?_ | refine awp_condB ?_ | refine awp_skip ?_ | refine awp_exit ?_); simp (disch := omega) only [push_cast,seval,l62r0,l62r1,l62r2,l62r3,l62r4,l62r5,l62r6,l62r7,l62r8,l62r9,innL_VLs])
 | ((first | refine condB_split (fun h => ?_) (fun h => ?_) | refine gIf_split (fun h => ?_) (fun h => ?_) | refine qIf_split (fun h => ?_) (fun h => ?_)) <;> (try simp only [h]) <;> (try simp only [bitvec_to_nat] at h) <;> (try simp only [h]) <;> (first | (exfalso; omega) | (focus (exfalso; simp_all; done)) | (simp (disch := omega) only [push_cast,seval,innL_VLs]) | skip))
 | ((first | refine callD_of false ?_ | refine qcallD_of false ?_); simp (disch := omega) only [push_cast,seval,innL_VLs])
 | ((first | ((first | refine call0D (BCall.ofP (iValidView_ok _ _ _ _ _ ?_ ?_ ?_)) ?_ | refine qcall0D (BCall.ofP (iValidView_ok _ _ _ _ _ ?_ ?_ ?_)) ⟨_,_,rfl,rfl⟩ ?_); (iterate 3 (exact sd)); rintro _ _ ⟨rfl,rfl⟩)) <;> (try simp (disch := omega) only [push_cast,seval,innL_VLs]))
 | (refine awp_ret ⟨.inr rfl,_,rfl,?_⟩; (try simp (disch := omega) only [push_cast,seval,innL_VLs]))))
    refine awp_loop (fun i : Nat => mkS [(8,.rows false (VLs vs) vs.length),(9,.int .i64 vs.length),(10,.int .i64 i)] []) (fun i => i ≤ vs.length ∧ ∀ k v,k < i → vs[k]? = some v → vV v.1 v.2.1 v.2.2 = true) (fun i => vs.length - i) 0 ⟨Nat.zero_le _,fun k v h => absurd h (Nat.not_lt_zero _)⟩ ?_ ?_
    · (refine Sub.of_lists ?_ ?_ ?_ ?_ ?_ <;> simp [Vw.mkS,Vw.lk,Vw.hk,AV.inn,innL,innL_ints,innL_append,innL_rep,-List.map_set,-List.getD_eq_getElem?_getD,innL_VLs])
    · rintro i ⟨hi,hall⟩
      by_cases hlt : i < vs.length
      · obtain ⟨⟨b,sh,st⟩,hv⟩ : ∃ v,vs[i]? = some v := ⟨_,List.getElem?_eq_getElem hlt⟩
        have hbb := hb2 _ (List.mem_of_getElem? hv)
        simp only at hbb
        have hd := VLs_drop vs i hv
        have hil : i * 3 + 3 ≤ vs.length * 3 := by omega
        have hno := fun h => vvB_no hv h
        simp only at hd hno
        cases hvv : vV b sh st with
        | false =>
          have hf := hno hvv
          (repeat' (first
 | (first | refine awp_seq ?_ | refine awp_block ?_)
 | ((first | refine awp_reg ?_ | refine awp_condB ?_ | refine awp_skip ?_ | refine awp_exit ?_); simp (disch := omega) only [push_cast,seval,l62r0,l62r1,l62r2,l62r3,l62r4,l62r5,l62r6,l62r7,l62r8,l62r9,hd,hvl,hil,hvv,innL_VLs])
 | ((first | refine condB_split (fun h => ?_) (fun h => ?_) | refine gIf_split (fun h => ?_) (fun h => ?_) | refine qIf_split (fun h => ?_) (fun h => ?_)) <;> (try simp only [h]) <;> (try simp only [bitvec_to_nat] at h) <;> (try simp only [h]) <;> (first | (exfalso; omega) | (focus (exfalso; simp_all; done)) | (simp (disch := omega) only [push_cast,seval,hd,hvl,hil,hvv,innL_VLs]) | skip))
 | ((first | refine callD_of false ?_ | refine qcallD_of false ?_); simp (disch := omega) only [push_cast,seval,hd,hvl,hil,hvv,innL_VLs])
 | ((first | ((first | refine call0D (BCall.ofP (iValidView_ok _ _ _ _ _ ?_ ?_ ?_)) ?_ | refine qcall0D (BCall.ofP (iValidView_ok _ _ _ _ _ ?_ ?_ ?_)) ⟨_,_,rfl,rfl⟩ ?_); (iterate 3 (exact sd)); rintro _ _ ⟨rfl,rfl⟩)) <;> (try simp (disch := omega) only [push_cast,seval,hd,hvl,hil,hvv,innL_VLs]))
 | (refine awp_ret ⟨.inr rfl,_,rfl,?_⟩; (try simp (disch := omega) only [push_cast,seval,hd,hvl,hil,hvv,innL_VLs]))))
          all_goals (rw [hf])
        | true =>
          clear hno
          (repeat' (first
 | (first | refine awp_seq ?_ | refine awp_block ?_)
 | ((first | refine awp_reg ?_ | refine awp_condB ?_ | refine awp_skip ?_ | refine awp_exit ?_); simp (disch := omega) only [push_cast,seval,l62r0,l62r1,l62r2,l62r3,l62r4,l62r5,l62r6,l62r7,l62r8,l62r9,hd,hvl,hil,hvv,innL_VLs])
 | ((first | refine condB_split (fun h => ?_) (fun h => ?_) | refine gIf_split (fun h => ?_) (fun h => ?_) | refine qIf_split (fun h => ?_) (fun h => ?_)) <;> (try simp only [h]) <;> (try simp only [bitvec_to_nat] at h) <;> (try simp only [h]) <;> (first | (exfalso; omega) | (focus (exfalso; simp_all; done)) | (simp (disch := omega) only [push_cast,seval,hd,hvl,hil,hvv,innL_VLs]) | skip))
 | ((first | refine callD_of false ?_ | refine qcallD_of false ?_); simp (disch := omega) only [push_cast,seval,hd,hvl,hil,hvv,innL_VLs])
 | ((first | ((first | refine call0D (BCall.ofP (iValidView_ok _ _ _ _ _ ?_ ?_ ?_)) ?_ | refine qcall0D (BCall.ofP (iValidView_ok _ _ _ _ _ ?_ ?_ ?_)) ⟨_,_,rfl,rfl⟩ ?_); (iterate 3 (exact sd)); rintro _ _ ⟨rfl,rfl⟩)) <;> (try simp (disch := omega) only [push_cast,seval,hd,hvl,hil,hvv,innL_VLs]))
 | (refine awp_ret ⟨.inr rfl,_,rfl,?_⟩; (try simp (disch := omega) only [push_cast,seval,hd,hvl,hil,hvv,innL_VLs]))))
          refine ⟨i + 1,⟨by omega,fun k v hk hkv => ?_⟩,by omega,?_⟩
          · by_cases e : k = i
            · subst e; rw [hv] at hkv; cases hkv; exact hvv
            · exact hall k v (by omega) hkv
          · (refine Sub.of_lists ?_ ?_ ?_ ?_ ?_ <;> simp [Vw.mkS,Vw.lk,Vw.hk,AV.inn,innL,innL_ints,innL_append,innL_rep,-List.map_set,-List.getD_eq_getElem?_getD,innL_VLs])
      · have hf : vvB vs = true := vvB_spec.2 ⟨h8,fun v hv => by
          obtain ⟨k,hk,e⟩ := List.mem_iff_getElem.1 hv
          exact hall k v (by omega) (by rw [List.getElem?_eq_getElem hk,e])⟩
        (repeat' (first
 | (first | refine awp_seq ?_ | refine awp_block ?_)
 | ((first | refine awp_reg ?_ | refine awp_condB ?_ | refine awp_skip ?_ | refine awp_exit ?_); simp (disch := omega) only [push_cast,seval,l62r0,l62r1,l62r2,l62r3,l62r4,l62r5,l62r6,l62r7,l62r8,l62r9,innL_VLs])
 | ((first | refine condB_split (fun h => ?_) (fun h => ?_) | refine gIf_split (fun h => ?_) (fun h => ?_) | refine qIf_split (fun h => ?_) (fun h => ?_)) <;> (try simp only [h]) <;> (try simp only [bitvec_to_nat] at h) <;> (try simp only [h]) <;> (first | (exfalso; omega) | (focus (exfalso; simp_all; done)) | (simp (disch := omega) only [push_cast,seval,innL_VLs]) | skip))
 | ((first | refine callD_of false ?_ | refine qcallD_of false ?_); simp (disch := omega) only [push_cast,seval,innL_VLs])
 | ((first | ((first | refine call0D (BCall.ofP (iValidView_ok _ _ _ _ _ ?_ ?_ ?_)) ?_ | refine qcall0D (BCall.ofP (iValidView_ok _ _ _ _ _ ?_ ?_ ?_)) ⟨_,_,rfl,rfl⟩ ?_); (iterate 3 (exact sd)); rintro _ _ ⟨rfl,rfl⟩)) <;> (try simp (disch := omega) only [push_cast,seval,innL_VLs]))
 | (refine awp_ret ⟨.inr rfl,_,rfl,?_⟩; (try simp (disch := omega) only [push_cast,seval,innL_VLs]))))
        all_goals (rw [hf])
  · have hf : vvB vs = false := Bool.eq_false_iff.2 fun h' => h8 (vvB_spec.1 h').1
    (repeat' (first
 | (first | refine awp_seq ?_ | refine awp_block ?_)
 | ((first | refine awp_reg ?_ | refine awp_condB ?_ | refine awp_skip ?_ | refine awp_exit ?_); simp (disch := omega) only [push_cast,seval,l62r0,l62r1,l62r2,l62r3,l62r4,l62r5,l62r6,l62r7,l62r8,l62r9,innL_VLs])
 | ((first | refine condB_split (fun h => ?_) (fun h => ?_) | refine gIf_split (fun h => ?_) (fun h => ?_) | refine qIf_split (fun h => ?_) (fun h => ?_)) <;> (try simp only [h]) <;> (try simp only [bitvec_to_nat] at h) <;> (try simp only [h]) <;> (first | (exfalso; omega) | (focus (exfalso; simp_all; done)) | (simp (disch := omega) only [push_cast,seval,innL_VLs]) | skip))
 | ((first | refine callD_of false ?_ | refine qcallD_of false ?_); simp (disch := omega) only [push_cast,seval,innL_VLs])
 | ((first | ((first | refine call0D (BCall.ofP (iValidView_ok _ _ _ _ _ ?_ ?_ ?_)) ?_ | refine qcall0D (BCall.ofP (iValidView_ok _ _ _ _ _ ?_ ?_ ?_)) ⟨_,_,rfl,rfl⟩ ?_); (iterate 3 (exact sd)); rintro _ _ ⟨rfl,rfl⟩)) <;> (try simp (disch := omega) only [push_cast,seval,innL_VLs]))
 | (refine awp_ret ⟨.inr rfl,_,rfl,?_⟩; (try simp (disch := omega) only [push_cast,seval,innL_VLs]))))
    all_goals (rw [hf])


set_option maxHeartbeats 8000000 in
theorem svv_ok (vs : List Vw3) (n : Nat) (hn : vs.length = n) (hb : n ≤ 1099511627776 ∧ ∀ v ∈ vs,v.2.1.length ≤ 1099511627776 ∧ v.2.2.length ≤ 1099511627776) : PCall Try.prog 69 [.rows false (VLs vs) n] (fun r => r = .bool (vvB vs)) := by
  subst hn
  obtain ⟨hb1,hb2⟩ := hb
  refine pcall_of l69_eq rfl ?_
  have hvl := VLs_length vs
  (repeat' (first
 | (first | refine awp_seq ?_ | refine awp_block ?_)
 | ((first | refine awp_reg ?_ | refine awp_condB ?_ | refine awp_skip ?_ | refine awp_exit ?_); simp (disch := omega) only [push_cast,seval,l69r0,l69r1,l69r2,l69r3,l69r4,l69r5,l69r6,innL_VLs])
 | ((first | refine condB_split (fun h => ?_) (fun h => ?_) | refine gIf_split (fun h => ?_) (fun h => ?_) | refine qIf_split (fun h => ?_) (fun h => ?_)) <;> (try simp only [h]) <;> (try simp only [bitvec_to_nat] at h) <;> (try simp only [h]) <;> (first | (exfalso; omega) | (focus (exfalso; simp_all; done)) | (simp (disch := omega) only [push_cast,seval,innL_VLs]) | skip))
 | ((first | refine callD_of false ?_ | refine qcallD_of false ?_); simp (disch := omega) only [push_cast,seval,innL_VLs])
 | ((first | ((first | refine call0D (BCall.ofP (svalidView_ok _ _ _ _ _ ?_ ?_ ?_)) ?_ | refine qcall0D (BCall.ofP (svalidView_ok _ _ _ _ _ ?_ ?_ ?_)) ⟨_,_,rfl,rfl⟩ ?_); (iterate 3 (exact sd)); rintro _ _ ⟨rfl,rfl⟩)) <;> (try simp (disch := omega) only [push_cast,seval,innL_VLs]))
 | (refine awp_ret ⟨.inr rfl,_,rfl,?_⟩; (try simp (disch := omega) only [push_cast,seval,innL_VLs]))))
  refine awp_loop (fun i : Nat => mkS [(0,.rows false (VLs vs) vs.length),(3,.int .i64 i)] []) (fun i => i ≤ vs.length ∧ ∀ k v,k < i → vs[k]? = some v → vV v.1 v.2.1 v.2.2 = true) (fun i => vs.length - i) 0 ⟨Nat.zero_le _,fun k v h => absurd h (Nat.not_lt_zero _)⟩ ?_ ?_
  · (refine Sub.of_lists ?_ ?_ ?_ ?_ ?_ <;> simp [Vw.mkS,Vw.lk,Vw.hk,AV.inn,innL,innL_ints,innL_append,innL_rep,-List.map_set,-List.getD_eq_getElem?_getD,innL_VLs])
  · rintro i ⟨hi,hall⟩
    by_cases hlt : i < vs.length
    · obtain ⟨⟨b,sh,st⟩,hv⟩ : ∃ v,vs[i]? = some v := ⟨_,List.getElem?_eq_getElem hlt⟩
      have hbb := hb2 _ (List.mem_of_getElem? hv)
      simp only at hbb
      have hd := VLs_drop vs i hv
      have hil : i * 3 + 3 ≤ vs.length * 3 := by omega
      have hno := fun h => vvB_no hv h
      simp only at hd hno
      cases hvv : vV b sh st with
 | false =>
        have hf := hno hvv
        (repeat' (first
 | (first | refine awp_seq ?_ | refine awp_block ?_)
 | ((first | refine awp_reg ?_ | refine awp_condB ?_ | refine awp_skip ?_ | refine awp_exit ?_); simp (disch := omega) only [push_cast,seval,l69r0,l69r1,l69r2,l69r3,l69r4,l69r5,l69r6,hd,hvl,hil,hvv,innL_VLs])
 | ((first | refine condB_split (fun h => ?_) (fun h => ?_) | refine gIf_split (fun h => ?_) (fun h => ?_) | refine qIf_split (fun h => ?_) (fun h => ?_)) <;> (try simp only [h]) <;> (try simp only [bitvec_to_nat] at h) <;> (try simp only [h]) <;> (first | (exfalso; omega) | (focus (exfalso; simp_all; done)) | (simp (disch := omega) only [push_cast,seval,hd,hvl,hil,hvv,innL_VLs]) | skip))
 | ((first | refine callD_of false ?_ | refine qcallD_of false ?_); simp (disch := omega) only [push_cast,seval,hd,hvl,hil,hvv,innL_VLs])
 | ((first | ((first | refine call0D (BCall.ofP (svalidView_ok _ _ _ _ _ ?_ ?_ ?_)) ?_ | refine qcall0D (BCall.ofP (svalidView_ok _ _ _ _ _ ?_ ?_ ?_)) ⟨_,_,rfl,rfl⟩ ?_); (iterate 3 (exact sd)); rintro _ _ ⟨rfl,rfl⟩)) <;> (try simp (disch := omega) only [push_cast,seval,hd,hvl,hil,hvv,innL_VLs]))
 | (refine awp_ret ⟨.inr rfl,_,rfl,?_⟩; (try simp (disch := omega) only [push_cast,seval,hd,hvl,hil,hvv,innL_VLs]))))
        all_goals (rw [hf])
 | true =>
        clear hno
        (repeat' (first
 | (first | refine awp_seq ?_ | refine awp_block ?_)
 | ((first | refine awp_reg ?_ | refine awp_condB ?_ | refine awp_skip ?_ | refine awp_exit ?_); simp (disch := omega) only [push_cast,seval,l69r0,l69r1,l69r2,l69r3,l69r4,l69r5,l69r6,hd,hvl,hil,hvv,innL_VLs])
 | ((first | refine condB_split (fun h => ?_) (fun h => ?_) | refine gIf_split (fun h => ?_) (fun h => ?_) | refine qIf_split (fun h => ?_) (fun h => ?_)) <;> (try simp only [h]) <;> (try simp only [bitvec_to_nat] at h) <;> (try simp only [h]) <;> (first | (exfalso; omega) | (focus (exfalso; simp_all; done)) | (simp (disch := omega) only [push_cast,seval,hd,hvl,hil,hvv,innL_VLs]) | skip))
 | ((first | refine callD_of false ?_ | refine qcallD_of false ?_); simp (disch := omega) only [push_cast,seval,hd,hvl,hil,hvv,innL_VLs])
 | ((first | ((first | refine call0D (BCall.ofP (svalidView_ok _ _ _ _ _ ?_ ?_ ?_)) ?_ | refine qcall0D (BCall.ofP (svalidView_ok _ _ _ _ _ ?_ ?_ ?_)) ⟨_,_,rfl,rfl⟩ ?_); (iterate 3 (exact sd)); rintro _ _ ⟨rfl,rfl⟩)) <;> (try simp (disch := omega) only [push_cast,seval,hd,hvl,hil,hvv,innL_VLs]))
 | (refine awp_ret ⟨.inr rfl,_,rfl,?_⟩; (try simp (disch := omega) only [push_cast,seval,hd,hvl,hil,hvv,innL_VLs]))))
        refine ⟨i + 1,⟨by omega,fun k v hk hkv => ?_⟩,by omega,?_⟩
        · by_cases e : k = i
          · subst e; rw [hv] at hkv; cases hkv; exact hvv
          · exact hall k v (by omega) hkv
        · (refine Sub.of_lists ?_ ?_ ?_ ?_ ?_ <;> simp [Vw.mkS,Vw.lk,Vw.hk,AV.inn,innL,innL_ints,innL_append,innL_rep,-List.map_set,-List.getD_eq_getElem?_getD,innL_VLs])
    · have hf : vvB vs = decide (vs.length ≤ 8) := by
        unfold vvB
        rw [List.all_eq_true.2 fun v hv => ?_,Bool.and_true]
        obtain ⟨k,hk,e⟩ := List.mem_iff_getElem.1 hv
        exact hall k v (by omega) (by rw [List.getElem?_eq_getElem hk,e])
      (repeat' (first
 | (first | refine awp_seq ?_ | refine awp_block ?_)
 | ((first | refine awp_reg ?_ | refine awp_condB ?_ | refine awp_skip ?_ | refine awp_exit ?_); simp (disch := omega) only [push_cast,seval,l69r0,l69r1,l69r2,l69r3,l69r4,l69r5,l69r6,innL_VLs])
 | ((first | refine condB_split (fun h => ?_) (fun h => ?_) | refine gIf_split (fun h => ?_) (fun h => ?_) | refine qIf_split (fun h => ?_) (fun h => ?_)) <;> (try simp only [h]) <;> (try simp only [bitvec_to_nat] at h) <;> (try simp only [h]) <;> (first | (exfalso; omega) | (focus (exfalso; simp_all; done)) | (simp (disch := omega) only [push_cast,seval,innL_VLs]) | skip))
 | ((first | refine callD_of false ?_ | refine qcallD_of false ?_); simp (disch := omega) only [push_cast,seval,innL_VLs])
 | ((first | ((first | refine call0D (BCall.ofP (svalidView_ok _ _ _ _ _ ?_ ?_ ?_)) ?_ | refine qcall0D (BCall.ofP (svalidView_ok _ _ _ _ _ ?_ ?_ ?_)) ⟨_,_,rfl,rfl⟩ ?_); (iterate 3 (exact sd)); rintro _ _ ⟨rfl,rfl⟩)) <;> (try simp (disch := omega) only [push_cast,seval,innL_VLs]))
 | (refine awp_ret ⟨.inr rfl,_,rfl,?_⟩; (try simp (disch := omega) only [push_cast,seval,innL_VLs]))))
      all_goals (rw [hf]; simp; try omega)


def tiB (vs : List Vw3) (n : Int) : Bool := vvB vs && (decide (0 ≤ n) && decide (n ≤ 60)) && (decide (atL (cnt (allO vs)) 1 = nums 0 1 n.toNat) && decide ((atL (cnt (allO vs)) 2).length = 0))
theorem ti_iff {O : List Int} {n : Nat} (hc : ∀ x ∈ O,0 ≤ x ∧ x ≤ 59) (hn : n ≤ 60) : (atL (cnt O) 1 = nums 0 1 n ∧ (atL (cnt O) 2).length = 0) ↔ (O.Nodup ∧ (∀ x ∈ O,0 ≤ x ∧ x ≤ (n : Int) - 1) ∧ O.length = n) := by
  have h2 : (atL (cnt O) 2).length = 0 ↔ O.Nodup := by
    rw [List.length_eq_zero_iff,List.nodup_iff_count]
    constructor
    · intro e a
      by_cases hca : O.count a ≤ 1
      · exact hca
      · have hm : a ∈ O := List.count_pos_iff.1 (by omega)
        have : a ∈ atL (cnt O) 2 := mem_atL.2 ⟨hc a hm,by show 2 ≤ O.count a; omega⟩
        rw [e] at this; cases this
    · intro h1
      refine List.eq_nil_iff_forall_not_mem.2 fun a ha => ?_
      have h2 : 2 ≤ O.count a := (mem_atL.1 ha).2
      have := h1 a
      omega
  have hm1 : ∀ x,x ∈ atL (cnt O) 1 ↔ x ∈ O := fun x => by
    rw [mem_atL]
    exact ⟨fun h => cnt_pos.1 (by omega),fun h => ⟨hc x h,cnt_pos.2 h⟩⟩
  have hmn : ∀ x : Int,x ∈ nums 0 1 n ↔ 0 ≤ x ∧ x ≤ (n : Int) - 1 := fun x => by
    rw [mem_nums]
    constructor
    · rintro ⟨i,hi,e⟩; omega
    · intro h; exact ⟨x.toNat,by omega,by omega⟩
  rw [h2]
  constructor
  · rintro ⟨h1,hd⟩
    have hin : ∀ x,x ∈ O ↔ x ∈ nums 0 1 n := fun x => by rw [← h1,hm1]
    refine ⟨hd,fun x hx => (hmn x).1 ((hin x).1 hx),?_⟩
    have hnn : (nums 0 1 n).Nodup := (nums_sorted (by omega) n).imp fun h => by omega
    have := ((List.perm_ext_iff_of_nodup hd hnn).2 hin).length_eq
    rwa [nums_length] at this
  · rintro ⟨hd,hb,hl⟩
    refine ⟨?_,hd⟩
    have hall := (pigeon (xs := nums 0 1 n) hd (fun y hy => (hmn y).2 (hb y hy)) (by rw [nums_length]; omega)).1
    refine sorted_ext (atL_sorted _ _) (nums_sorted (by omega) _) fun x => ?_
    rw [hm1]
    exact ⟨fun h => (hmn x).2 (hb x h),fun h => hall x h⟩


set_option maxHeartbeats 16000000 in
theorem iTi_ok (vs : List Vw3) (n : Nat) (k : Int) (hn : vs.length = n) (hb : n ≤ 1099511627776 ∧ ∀ v ∈ vs,v.2.1.length ≤ 1099511627776 ∧ v.2.2.length ≤ 1099511627776) : PCall Try.prog 30 [.rows false (VLs vs) n,.int .i64 k] (fun r => r = .bool (tiB vs k)) := by
  subst hn
  refine pcall_of l30_eq rfl ?_
  have hvl := VLs_length vs
  cases hv : vvB vs with
  | false =>
    have hf : tiB vs k = false := by unfold tiB; rw [hv]; rfl
    (repeat' (first
 | (first | refine awp_seq ?_ | refine awp_block ?_)
 | ((first | refine awp_reg ?_ | refine awp_condB ?_ | refine awp_skip ?_ | refine awp_exit ?_); simp (disch := omega) only [push_cast,seval,l30r0,l30r1,l30r2,l30r3,l30r4,l30r5,hv,innL_VLs])
 | ((first | refine condB_split (fun h => ?_) (fun h => ?_) | refine gIf_split (fun h => ?_) (fun h => ?_) | refine qIf_split (fun h => ?_) (fun h => ?_)) <;> (try simp only [h]) <;> (try simp only [bitvec_to_nat] at h) <;> (try simp only [h]) <;> (first | (exfalso; omega) | (focus (exfalso; simp_all; done)) | (simp (disch := omega) only [push_cast,seval,hv,innL_VLs]) | skip))
 | ((first | ((with_reducible refine qcallI_of (f := 68) [256] false ?_); simp (disch := omega) only [push_cast,seval,hv,innL_VLs]; (refine qcall1D (id := 256) (atLeast_ok _ _ _ _ (by assumption) ?_ ?_) (by first | ((simp (disch := omega) only [push_cast,seval,hv,innL_VLs]); done) | ((simp (disch := omega) only [push_cast,seval,hv,innL_VLs]); rfl)) (by decide) ⟨_,_,rfl,rfl⟩ ?_; (iterate 2 (exact sd)); rintro _ _ ⟨rfl,rfl⟩)) | ((with_reducible refine callD_ids (f := 68) [256] false ?_); simp (disch := omega) only [push_cast,seval,hv,innL_VLs]; (refine call1D (id := 256) (atLeast_ok _ _ _ _ (by assumption) ?_ ?_) (by first | ((simp (disch := omega) only [push_cast,seval,hv,innL_VLs]); done) | ((simp (disch := omega) only [push_cast,seval,hv,innL_VLs]); rfl)) ?_; (iterate 2 (exact sd)); rintro _ _ ⟨rfl,rfl⟩))) <;> (try simp (disch := omega) only [push_cast,seval,hv,innL_VLs]))
 | ((first | refine callD_of false ?_ | refine qcallD_of false ?_); simp (disch := omega) only [push_cast,seval,hv,innL_VLs])
 | ((first | ((first | refine call0D (BCall.ofP (ivv_ok _ _ ?_ ?_)) ?_ | refine qcall0D (BCall.ofP (ivv_ok _ _ ?_ ?_)) ⟨_,_,rfl,rfl⟩ ?_); (iterate 2 (exact sd)); rintro _ _ ⟨rfl,rfl⟩) | ((first | refine call0D (BCall.ofP (validCount_ok _)) ?_ | refine qcall0D (BCall.ofP (validCount_ok _)) ⟨_,_,rfl,rfl⟩ ?_); rintro _ _ ⟨rfl,rfl⟩) | (refine call0D (tallyOf1_ok _ _ _ _ _ ?_ ?_ ?_) ?_; (iterate 3 (exact sd)); rintro _ _ ⟨rfl,L,c,hT,rfl⟩) | (refine call0D (tallyOf_ok _ _ ?_ ?_) ?_; (iterate 2 (exact sd)); rintro _ _ ⟨rfl,L,c,hT,rfl⟩) | ((first | refine call0D (BCall.ofP (progression_ok _ _ _ ?_ ?_)) ?_ | refine qcall0D (BCall.ofP (progression_ok _ _ _ ?_ ?_)) ⟨_,_,rfl,rfl⟩ ?_); (iterate 2 (exact sd)); rintro _ _ ⟨rfl,rfl⟩) | ((first | refine call0D (inumbers_ok _ _ _ ?_) ?_ | refine qcall0D (inumbers_ok _ _ _ ?_) ⟨_,_,rfl,rfl⟩ ?_); (exact sd); rintro _ _ ⟨rfl,rfl⟩) | ((first | refine call0D (BCall.ofP (sequal_ok _ _ _ _ ?_ ?_ ?_)) ?_ | refine qcall0D (BCall.ofP (sequal_ok _ _ _ _ ?_ ?_ ?_)) ⟨_,_,rfl,rfl⟩ ?_); (iterate 3 (exact sd)); rintro _ _ ⟨rfl,rfl⟩)) <;> (try simp (disch := omega) only [push_cast,seval,hv,innL_VLs]))
 | (refine awp_ret ⟨.inr rfl,_,rfl,?_⟩; (try simp (disch := omega) only [push_cast,seval,hv,innL_VLs]))))
    all_goals (rw [hf])
  | true =>
    obtain ⟨h8,hall⟩ := vvB_spec.1 hv
    have hok : vs.length ≤ 8 ∧ ∀ v ∈ vs,okV v.1 v.2.1 v.2.2 ∧ v.2.2.length = v.2.1.length := ⟨h8,fun v hv => okV_valid (hall v hv)⟩
    have hcs : ∀ x,0 < cnt (allO vs) x → 0 ≤ x ∧ x ≤ 59 := fun x hx => by
      obtain ⟨v,hv,hx⟩ := List.mem_flatMap.1 (cnt_pos.1 hx)
      have := vV_cells (hall v hv) x hx
      omega
    have l1 := atL_len (cnt (allO vs)) 1
    have l2 := atL_len (cnt (allO vs)) 2
    by_cases hk : 0 ≤ k ∧ k ≤ 60
    · obtain ⟨m,rfl⟩ : ∃ m : Nat,k = m := ⟨k.toNat,by omega⟩
      have hkk : (decide (0 ≤ (m : Int)) && decide ((m : Int) ≤ 60)) = true := by simp; omega
      have ht : tiB vs m = (decide (atL (cnt (allO vs)) 1 = nums 0 1 m) && decide ((atL (cnt (allO vs)) 2).length = 0)) := by unfold tiB; rw [hv,hkk,Int.toNat_natCast]; rfl
      rw [ht]
      generalize hA : atL (cnt (allO vs)) 1 = A at *
      generalize hB : atL (cnt (allO vs)) 2 = B at *
      have hbb : ∀ i : Nat,i < m → -100 ≤ (0 : Int) + (i : Int) * 1 ∧ (0 : Int) + (i : Int) * 1 ≤ 100 := fun i hi => by omega
      have v := PR_valid (s := 0) (c := 1) (n := m) (by omega) (by omega) hbb
      have v2 := cntN_PR (s := 0) (c := 1) (n := m) (by omega) (by omega) hbb
      have v3 := nums_PR 0 1 m
      have hnl := nums_length 0 1 m
      generalize hX : nums 0 1 m = X at *
      generalize hP1 : pS 0 ((m : Nat) : Int) = p1 at *
      generalize hP2 : pE 0 1 ((m : Nat) : Int) = p2 at *
      generalize hP3 : pC 1 ((m : Nat) : Int) = p3 at *
      have hAX : A.length ≤ 1099511627776 ∧ X.length ≤ 1099511627776 := by omega
      (repeat' (first
 | (first | refine awp_seq ?_ | refine awp_block ?_)
 | ((first | refine awp_reg ?_ | refine awp_condB ?_ | refine awp_skip ?_ | refine awp_exit ?_); simp (disch := omega) only [push_cast,seval,l30r0,l30r1,l30r2,l30r3,l30r4,l30r5,hv,hkk,hA,hB,hP1,hP2,hP3,v2,v3,hnl,innL_VLs])
 | ((first | refine condB_split (fun h => ?_) (fun h => ?_) | refine gIf_split (fun h => ?_) (fun h => ?_) | refine qIf_split (fun h => ?_) (fun h => ?_)) <;> (try simp only [h]) <;> (try simp only [bitvec_to_nat] at h) <;> (try simp only [h]) <;> (first | (exfalso; omega) | (focus (exfalso; simp_all; done)) | (simp (disch := omega) only [push_cast,seval,hv,hkk,hA,hB,hP1,hP2,hP3,v2,v3,hnl,innL_VLs]) | skip))
 | ((first | ((with_reducible refine qcallI_of (f := 68) [256] false ?_); simp (disch := omega) only [push_cast,seval,hv,hkk,hA,hB,hP1,hP2,hP3,v2,v3,hnl,innL_VLs]; (refine qcall1D (id := 256) (atLeast_ok _ _ _ _ (by assumption) ?_ ?_) (by first | ((simp (disch := omega) only [push_cast,seval,hv,hkk,hA,hB,hP1,hP2,hP3,v2,v3,hnl,innL_VLs]); done) | ((simp (disch := omega) only [push_cast,seval,hv,hkk,hA,hB,hP1,hP2,hP3,v2,v3,hnl,innL_VLs]); rfl)) (by decide) ⟨_,_,rfl,rfl⟩ ?_; (iterate 2 (exact sd)); rintro _ _ ⟨rfl,rfl⟩)) | ((with_reducible refine callD_ids (f := 68) [256] false ?_); simp (disch := omega) only [push_cast,seval,hv,hkk,hA,hB,hP1,hP2,hP3,v2,v3,hnl,innL_VLs]; (refine call1D (id := 256) (atLeast_ok _ _ _ _ (by assumption) ?_ ?_) (by first | ((simp (disch := omega) only [push_cast,seval,hv,hkk,hA,hB,hP1,hP2,hP3,v2,v3,hnl,innL_VLs]); done) | ((simp (disch := omega) only [push_cast,seval,hv,hkk,hA,hB,hP1,hP2,hP3,v2,v3,hnl,innL_VLs]); rfl)) ?_; (iterate 2 (exact sd)); rintro _ _ ⟨rfl,rfl⟩))) <;> (try simp (disch := omega) only [push_cast,seval,hv,hkk,hA,hB,hP1,hP2,hP3,v2,v3,hnl,innL_VLs]))
 | ((first | refine callD_of false ?_ | refine qcallD_of false ?_); simp (disch := omega) only [push_cast,seval,hv,hkk,hA,hB,hP1,hP2,hP3,v2,v3,hnl,innL_VLs])
 | ((first | ((first | refine call0D (BCall.ofP (ivv_ok _ _ ?_ ?_)) ?_ | refine qcall0D (BCall.ofP (ivv_ok _ _ ?_ ?_)) ⟨_,_,rfl,rfl⟩ ?_); (iterate 2 (exact sd)); rintro _ _ ⟨rfl,rfl⟩) | ((first | refine call0D (BCall.ofP (validCount_ok _)) ?_ | refine qcall0D (BCall.ofP (validCount_ok _)) ⟨_,_,rfl,rfl⟩ ?_); rintro _ _ ⟨rfl,rfl⟩) | (refine call0D (tallyOf1_ok _ _ _ _ _ ?_ ?_ ?_) ?_; (iterate 3 (exact sd)); rintro _ _ ⟨rfl,L,c,hT,rfl⟩) | (refine call0D (tallyOf_ok _ _ ?_ ?_) ?_; (iterate 2 (exact sd)); rintro _ _ ⟨rfl,L,c,hT,rfl⟩) | ((first | refine call0D (BCall.ofP (progression_ok _ _ _ ?_ ?_)) ?_ | refine qcall0D (BCall.ofP (progression_ok _ _ _ ?_ ?_)) ⟨_,_,rfl,rfl⟩ ?_); (iterate 2 (exact sd)); rintro _ _ ⟨rfl,rfl⟩) | ((first | refine call0D (inumbers_ok _ _ _ ?_) ?_ | refine qcall0D (BCall.ofP (plainI (inumbers_ok _ _ _ ?_))) ⟨_,_,rfl,rfl⟩ ?_); (exact sd); rintro _ _ ⟨rfl,rfl⟩) | ((first | refine call0D (BCall.ofP (sequal_ok _ _ _ _ ?_ ?_ ?_)) ?_ | refine qcall0D (BCall.ofP (sequal_ok _ _ _ _ ?_ ?_ ?_)) ⟨_,_,rfl,rfl⟩ ?_); (iterate 3 (exact sd)); rintro _ _ ⟨rfl,rfl⟩)) <;> (try simp (disch := omega) only [push_cast,seval,hv,hkk,hA,hB,hP1,hP2,hP3,v2,v3,hnl,innL_VLs]))
 | (refine awp_ret ⟨.inr rfl,_,rfl,?_⟩; (try simp (disch := omega) only [push_cast,seval,hv,hkk,hA,hB,hP1,hP2,hP3,v2,v3,hnl,innL_VLs]))))
      all_goals (simp [show ((B.length : Int) = 0) ↔ (B.length = 0) from by omega])
    · have hkk : (decide (0 ≤ k) && decide (k ≤ 60)) = false := by simp; omega
      have hf : tiB vs k = false := by unfold tiB; rw [hv,hkk]; rfl
      (repeat' (first
 | (first | refine awp_seq ?_ | refine awp_block ?_)
 | ((first | refine awp_reg ?_ | refine awp_condB ?_ | refine awp_skip ?_ | refine awp_exit ?_); simp (disch := omega) only [push_cast,seval,l30r0,l30r1,l30r2,l30r3,l30r4,l30r5,hv,hkk,innL_VLs])
 | ((first | refine condB_split (fun h => ?_) (fun h => ?_) | refine gIf_split (fun h => ?_) (fun h => ?_) | refine qIf_split (fun h => ?_) (fun h => ?_)) <;> (try simp only [h]) <;> (try simp only [bitvec_to_nat] at h) <;> (try simp only [h]) <;> (first | (exfalso; omega) | (focus (exfalso; simp_all; done)) | (simp (disch := omega) only [push_cast,seval,hv,hkk,innL_VLs]) | skip))
 | ((first | ((with_reducible refine qcallI_of (f := 68) [256] false ?_); simp (disch := omega) only [push_cast,seval,hv,hkk,innL_VLs]; (refine qcall1D (id := 256) (atLeast_ok _ _ _ _ (by assumption) ?_ ?_) (by first | ((simp (disch := omega) only [push_cast,seval,hv,hkk,innL_VLs]); done) | ((simp (disch := omega) only [push_cast,seval,hv,hkk,innL_VLs]); rfl)) (by decide) ⟨_,_,rfl,rfl⟩ ?_; (iterate 2 (exact sd)); rintro _ _ ⟨rfl,rfl⟩)) | ((with_reducible refine callD_ids (f := 68) [256] false ?_); simp (disch := omega) only [push_cast,seval,hv,hkk,innL_VLs]; (refine call1D (id := 256) (atLeast_ok _ _ _ _ (by assumption) ?_ ?_) (by first | ((simp (disch := omega) only [push_cast,seval,hv,hkk,innL_VLs]); done) | ((simp (disch := omega) only [push_cast,seval,hv,hkk,innL_VLs]); rfl)) ?_; (iterate 2 (exact sd)); rintro _ _ ⟨rfl,rfl⟩))) <;> (try simp (disch := omega) only [push_cast,seval,hv,hkk,innL_VLs]))
 | ((first | refine callD_of false ?_ | refine qcallD_of false ?_); simp (disch := omega) only [push_cast,seval,hv,hkk,innL_VLs])
 | ((first | ((first | refine call0D (BCall.ofP (ivv_ok _ _ ?_ ?_)) ?_ | refine qcall0D (BCall.ofP (ivv_ok _ _ ?_ ?_)) ⟨_,_,rfl,rfl⟩ ?_); (iterate 2 (exact sd)); rintro _ _ ⟨rfl,rfl⟩) | ((first | refine call0D (BCall.ofP (validCount_ok _)) ?_ | refine qcall0D (BCall.ofP (validCount_ok _)) ⟨_,_,rfl,rfl⟩ ?_); rintro _ _ ⟨rfl,rfl⟩) | (refine call0D (tallyOf1_ok _ _ _ _ _ ?_ ?_ ?_) ?_; (iterate 3 (exact sd)); rintro _ _ ⟨rfl,L,c,hT,rfl⟩) | (refine call0D (tallyOf_ok _ _ ?_ ?_) ?_; (iterate 2 (exact sd)); rintro _ _ ⟨rfl,L,c,hT,rfl⟩) | ((first | refine call0D (BCall.ofP (progression_ok _ _ _ ?_ ?_)) ?_ | refine qcall0D (BCall.ofP (progression_ok _ _ _ ?_ ?_)) ⟨_,_,rfl,rfl⟩ ?_); (iterate 2 (exact sd)); rintro _ _ ⟨rfl,rfl⟩) | ((first | refine call0D (inumbers_ok _ _ _ ?_) ?_ | refine qcall0D (inumbers_ok _ _ _ ?_) ⟨_,_,rfl,rfl⟩ ?_); (exact sd); rintro _ _ ⟨rfl,rfl⟩) | ((first | refine call0D (BCall.ofP (sequal_ok _ _ _ _ ?_ ?_ ?_)) ?_ | refine qcall0D (BCall.ofP (sequal_ok _ _ _ _ ?_ ?_ ?_)) ⟨_,_,rfl,rfl⟩ ?_); (iterate 3 (exact sd)); rintro _ _ ⟨rfl,rfl⟩)) <;> (try simp (disch := omega) only [push_cast,seval,hv,hkk,innL_VLs]))
 | (refine awp_ret ⟨.inr rfl,_,rfl,?_⟩; (try simp (disch := omega) only [push_cast,seval,hv,hkk,innL_VLs]))))
      all_goals (rw [hf])


set_option maxHeartbeats 16000000 in
theorem sTi_ok (vs : List Vw3) (n : Nat) (k : Int) (hn : vs.length = n) (hb : n ≤ 1099511627776 ∧ ∀ v ∈ vs,v.2.1.length ≤ 1099511627776 ∧ v.2.2.length ≤ 1099511627776) : PCall Try.prog 31 [.rows false (VLs vs) n,.int .i64 k] (fun r => r = .bool (tiB vs k)) := by
  subst hn
  refine pcall_of l31_eq rfl ?_
  have hvl := VLs_length vs
  cases hv : vvB vs with
  | false =>
    have hf : tiB vs k = false := by unfold tiB; rw [hv]; rfl
    (repeat' (first
 | (first | refine awp_seq ?_ | refine awp_block ?_)
 | ((first | refine awp_reg ?_ | refine awp_condB ?_ | refine awp_skip ?_ | refine awp_exit ?_); simp (disch := omega) only [push_cast,seval,l31r0,l31r1,l31r2,l31r3,l31r4,l31r5,l31r6,l31r7,l31r8,hv,innL_VLs])
 | ((first | refine condB_split (fun h => ?_) (fun h => ?_) | refine gIf_split (fun h => ?_) (fun h => ?_) | refine qIf_split (fun h => ?_) (fun h => ?_)) <;> (try simp only [h]) <;> (try simp only [bitvec_to_nat] at h) <;> (try simp only [h]) <;> (first | (exfalso; omega) | (focus (exfalso; simp_all; done)) | (simp (disch := omega) only [push_cast,seval,hv,innL_VLs]) | skip))
 | ((first | refine callD_of false ?_ | refine qcallD_of false ?_); simp (disch := omega) only [push_cast,seval,hv,innL_VLs])
 | ((first | ((first | refine call0D (BCall.ofP (svv_ok _ _ ?_ ?_)) ?_ | refine qcall0D (BCall.ofP (svv_ok _ _ ?_ ?_)) ⟨_,_,rfl,rfl⟩ ?_); (iterate 2 (exact sd)); rintro _ _ ⟨rfl,rfl⟩) | ((first | refine call0D (BCall.ofP (inRange_ok _ _ _)) ?_ | refine qcall0D (BCall.ofP (inRange_ok _ _ _)) ⟨_,_,rfl,rfl⟩ ?_); rintro _ _ ⟨rfl,rfl⟩) | ((first | refine call0D (soffsets_ok _ _ _ _ _ ?_ ?_ ?_) ?_ | refine qcall0D (soffsets_ok _ _ _ _ _ ?_ ?_ ?_) ⟨_,_,rfl,rfl⟩ ?_); (iterate 3 (exact sd)); rintro _ _ ⟨rfl,rfl⟩) | ((first | refine call0D (BCall.ofP (sdifferent_ok _ _ ?_ ?_)) ?_ | refine qcall0D (BCall.ofP (sdifferent_ok _ _ ?_ ?_)) ⟨_,_,rfl,rfl⟩ ?_); (iterate 2 (exact sd)); rintro _ _ ⟨rfl,rfl⟩) | ((first | refine call0D (BCall.ofP (allIn_ok _ _ _ _ ?_ ?_)) ?_ | refine qcall0D (BCall.ofP (allIn_ok _ _ _ _ ?_ ?_)) ⟨_,_,rfl,rfl⟩ ?_); (iterate 2 (exact sd)); rintro _ _ ⟨rfl,rfl⟩)) <;> (try simp (disch := omega) only [push_cast,seval,hv,innL_VLs]))
 | (refine awp_ret ⟨.inr rfl,_,rfl,?_⟩; (try simp (disch := omega) only [push_cast,seval,hv,innL_VLs]))))
    all_goals (rw [hf])
  | true =>
    obtain ⟨h8,hall⟩ := vvB_spec.1 hv
    by_cases hk : 0 ≤ k ∧ k ≤ 60
    · obtain ⟨m,rfl⟩ : ∃ m : Nat,k = m := ⟨k.toNat,by omega⟩
      have hkk : (decide (0 ≤ (m : Int)) && decide ((m : Int) ≤ 60)) = true := by simp; omega
      have hcs : ∀ x ∈ allO vs,0 ≤ x ∧ x ≤ 59 := fun x hx => by
        obtain ⟨v,hv,hx⟩ := List.mem_flatMap.1 hx
        have := vV_cells (hall v hv) x hx
        omega
      have hl60 : ∀ v ∈ vs,(offs v.1 v.2.1 v.2.2).length ≤ 60 := fun v hv => by
        have := (okV_valid (hall v hv)).1.1.2
        rw [offs_length]; omega
      have hOl := allO_len vs fun v hv => by have := hl60 v hv; omega
      have hti := ti_iff (n := m) hcs (by omega)
      have ht : tiB vs m = (decide (allO vs).Nodup && (allI (allO vs) 0 ((m : Int) - 1) && decide ((allO vs).length = m))) := by
        unfold tiB
        rw [hv,hkk,Int.toNat_natCast,Bool.true_and,Bool.true_and,Bool.eq_iff_iff]
        simp only [Bool.and_eq_true,decide_eq_true_eq,allI_iff]
        exact hti
      rw [ht]
      clear ht hti hcs
      (repeat' (first
 | (first | refine awp_seq ?_ | refine awp_block ?_)
 | ((first | refine awp_reg ?_ | refine awp_condB ?_ | refine awp_skip ?_ | refine awp_exit ?_); simp (disch := omega) only [push_cast,seval,l31r0,l31r1,l31r2,l31r3,l31r4,l31r5,l31r6,l31r7,l31r8,hv,hkk,innL_VLs])
 | ((first | refine condB_split (fun h => ?_) (fun h => ?_) | refine gIf_split (fun h => ?_) (fun h => ?_) | refine qIf_split (fun h => ?_) (fun h => ?_)) <;> (try simp only [h]) <;> (try simp only [bitvec_to_nat] at h) <;> (try simp only [h]) <;> (first | (exfalso; omega) | (focus (exfalso; simp_all; done)) | (simp (disch := omega) only [push_cast,seval,hv,hkk,innL_VLs]) | skip))
 | ((first | refine callD_of false ?_ | refine qcallD_of false ?_); simp (disch := omega) only [push_cast,seval,hv,hkk,innL_VLs])
 | ((first | ((first | refine call0D (BCall.ofP (svv_ok _ _ ?_ ?_)) ?_ | refine qcall0D (BCall.ofP (svv_ok _ _ ?_ ?_)) ⟨_,_,rfl,rfl⟩ ?_); (iterate 2 (exact sd)); rintro _ _ ⟨rfl,rfl⟩) | ((first | refine call0D (BCall.ofP (inRange_ok _ _ _)) ?_ | refine qcall0D (BCall.ofP (inRange_ok _ _ _)) ⟨_,_,rfl,rfl⟩ ?_); rintro _ _ ⟨rfl,rfl⟩) | ((first | refine call0D (soffsets_ok _ _ _ _ _ ?_ ?_ ?_) ?_ | refine qcall0D (soffsets_ok _ _ _ _ _ ?_ ?_ ?_) ⟨_,_,rfl,rfl⟩ ?_); (iterate 3 (exact sd)); rintro _ _ ⟨rfl,rfl⟩) | ((first | refine call0D (BCall.ofP (sdifferent_ok _ _ ?_ ?_)) ?_ | refine qcall0D (BCall.ofP (sdifferent_ok _ _ ?_ ?_)) ⟨_,_,rfl,rfl⟩ ?_); (iterate 2 (exact sd)); rintro _ _ ⟨rfl,rfl⟩) | ((first | refine call0D (BCall.ofP (allIn_ok _ _ _ _ ?_ ?_)) ?_ | refine qcall0D (BCall.ofP (allIn_ok _ _ _ _ ?_ ?_)) ⟨_,_,rfl,rfl⟩ ?_); (iterate 2 (exact sd)); rintro _ _ ⟨rfl,rfl⟩)) <;> (try simp (disch := omega) only [push_cast,seval,hv,hkk,innL_VLs]))
 | (refine awp_ret ⟨.inr rfl,_,rfl,?_⟩; (try simp (disch := omega) only [push_cast,seval,hv,hkk,innL_VLs]))))
      refine awp_loop (fun i : Nat => mkS [(0,.rows false (VLs vs) vs.length),(1,.int .i64 m),(5,.own 240 (allO (vs.take i)).length 1),(6,.int .i64 i)] [(240,IL (allO (vs.take i)))]) (fun i => i ≤ vs.length) (fun i => vs.length - i) 0 (Nat.zero_le _) ?_ ?_
      · (refine Sub.of_lists ?_ ?_ ?_ ?_ ?_ <;> simp [Vw.mkS,Vw.lk,Vw.hk,AV.inn,innL,innL_ints,innL_append,innL_rep,-List.map_set,-List.getD_eq_getElem?_getD,innL_VLs,allO])
      · intro i hi
        have hOi := allO_len (vs.take i) fun v hv => by have := hl60 v (List.mem_of_mem_take hv); omega
        rw [List.length_take] at hOi
        by_cases hlt : i < vs.length
        · obtain ⟨⟨b,sh,st⟩,hvi⟩ : ∃ v,vs[i]? = some v := ⟨_,List.getElem?_eq_getElem hlt⟩
          have hvv := hall _ (List.mem_of_getElem? hvi)
          have h60 := hl60 _ (List.mem_of_getElem? hvi)
          simp only at hvv h60
          have hok := okV_valid hvv
          have hd := VLs_drop vs i hvi
          have hil : i * 3 + 3 ≤ vs.length * 3 := by omega
          have hsn := allO_take_succ vs i hvi
          simp only at hd hsn
          generalize hO : offs b sh st = O at *
          generalize hU : allO (vs.take i) = U at *
          (repeat' (first
 | (first | refine awp_seq ?_ | refine awp_block ?_)
 | ((first | refine awp_reg ?_ | refine awp_condB ?_ | refine awp_skip ?_ | refine awp_exit ?_); simp (disch := omega) only [push_cast,seval,l31r0,l31r1,l31r2,l31r3,l31r4,l31r5,l31r6,l31r7,l31r8,hd,hvl,hil,hO,innL_VLs,List.length_map])
 | ((first | refine condB_split (fun h => ?_) (fun h => ?_) | refine gIf_split (fun h => ?_) (fun h => ?_) | refine qIf_split (fun h => ?_) (fun h => ?_)) <;> (try simp only [h]) <;> (try simp only [bitvec_to_nat] at h) <;> (try simp only [h]) <;> (first | (exfalso; omega) | (focus (exfalso; simp_all; done)) | (simp (disch := omega) only [push_cast,seval,hd,hvl,hil,hO,innL_VLs,List.length_map]) | skip))
 | ((first | refine callD_of false ?_ | refine qcallD_of false ?_); simp (disch := omega) only [push_cast,seval,hd,hvl,hil,hO,innL_VLs,List.length_map])
 | ((first | ((first | refine call0D (BCall.ofP (svv_ok _ _ ?_ ?_)) ?_ | refine qcall0D (BCall.ofP (svv_ok _ _ ?_ ?_)) ⟨_,_,rfl,rfl⟩ ?_); (iterate 2 (exact sd)); rintro _ _ ⟨rfl,rfl⟩) | ((first | refine call0D (BCall.ofP (inRange_ok _ _ _)) ?_ | refine qcall0D (BCall.ofP (inRange_ok _ _ _)) ⟨_,_,rfl,rfl⟩ ?_); rintro _ _ ⟨rfl,rfl⟩) | ((first | refine call0D (soffsets_ok _ _ _ _ _ ?_ ?_ ?_) ?_ | refine qcall0D (soffsets_ok _ _ _ _ _ ?_ ?_ ?_) ⟨_,_,rfl,rfl⟩ ?_); (iterate 3 (exact sd)); rintro _ _ ⟨rfl,rfl⟩) | ((first | refine call0D (BCall.ofP (sdifferent_ok _ _ ?_ ?_)) ?_ | refine qcall0D (BCall.ofP (sdifferent_ok _ _ ?_ ?_)) ⟨_,_,rfl,rfl⟩ ?_); (iterate 2 (exact sd)); rintro _ _ ⟨rfl,rfl⟩) | ((first | refine call0D (BCall.ofP (allIn_ok _ _ _ _ ?_ ?_)) ?_ | refine qcall0D (BCall.ofP (allIn_ok _ _ _ _ ?_ ?_)) ⟨_,_,rfl,rfl⟩ ?_); (iterate 2 (exact sd)); rintro _ _ ⟨rfl,rfl⟩)) <;> (try simp (disch := omega) only [push_cast,seval,hd,hvl,hil,hO,innL_VLs,List.length_map]))
 | (refine awp_ret ⟨.inr rfl,_,rfl,?_⟩; (try simp (disch := omega) only [push_cast,seval,hd,hvl,hil,hO,innL_VLs,List.length_map]))))
          refine ⟨i + 1,by omega,by omega,?_⟩
          (refine Sub.of_lists ?_ ?_ ?_ ?_ ?_ <;> simp [Vw.mkS,Vw.lk,Vw.hk,AV.inn,innL,innL_ints,innL_append,innL_rep,-List.map_set,-List.getD_eq_getElem?_getD,hsn,innL_VLs])
        · have e : i = vs.length := by omega
          subst e
          rw [List.take_length] at *
          generalize hU : allO vs = U at *
          have hU2 : U.length ≤ 1099511627776 := by omega
          (repeat' (first
 | (first | refine awp_seq ?_ | refine awp_block ?_)
 | ((first | refine awp_reg ?_ | refine awp_condB ?_ | refine awp_skip ?_ | refine awp_exit ?_); simp (disch := omega) only [push_cast,seval,l31r0,l31r1,l31r2,l31r3,l31r4,l31r5,l31r6,l31r7,l31r8,innL_VLs,List.length_map])
 | ((first | refine condB_split (fun h => ?_) (fun h => ?_) | refine gIf_split (fun h => ?_) (fun h => ?_) | refine qIf_split (fun h => ?_) (fun h => ?_)) <;> (try simp only [h]) <;> (try simp only [bitvec_to_nat] at h) <;> (try simp only [h]) <;> (first | (exfalso; omega) | (focus (exfalso; simp_all; done)) | (simp (disch := omega) only [push_cast,seval,innL_VLs,List.length_map]) | skip))
 | ((first | refine callD_of false ?_ | refine qcallD_of false ?_); simp (disch := omega) only [push_cast,seval,innL_VLs,List.length_map])
 | ((first | ((first | refine call0D (BCall.ofP (svv_ok _ _ ?_ ?_)) ?_ | refine qcall0D (BCall.ofP (svv_ok _ _ ?_ ?_)) ⟨_,_,rfl,rfl⟩ ?_); (iterate 2 (exact sd)); rintro _ _ ⟨rfl,rfl⟩) | ((first | refine call0D (BCall.ofP (inRange_ok _ _ _)) ?_ | refine qcall0D (BCall.ofP (inRange_ok _ _ _)) ⟨_,_,rfl,rfl⟩ ?_); rintro _ _ ⟨rfl,rfl⟩) | ((first | refine call0D (soffsets_ok _ _ _ _ _ ?_ ?_ ?_) ?_ | refine qcall0D (BCall.ofP (plainI (soffsets_ok _ _ _ _ _ ?_ ?_ ?_))) ⟨_,_,rfl,rfl⟩ ?_); (iterate 3 (exact sd)); rintro _ _ ⟨rfl,rfl⟩) | ((first | refine call0D (BCall.ofP (sdifferent_ok _ _ ?_ ?_)) ?_ | refine qcall0D (BCall.ofP (sdifferent_ok _ _ ?_ ?_)) ⟨_,_,rfl,rfl⟩ ?_); (iterate 2 (exact sd)); rintro _ _ ⟨rfl,rfl⟩) | ((first | refine call0D (BCall.ofP (allIn_ok _ _ _ _ ?_ ?_)) ?_ | refine qcall0D (BCall.ofP (allIn_ok _ _ _ _ ?_ ?_)) ⟨_,_,rfl,rfl⟩ ?_); (iterate 2 (exact sd)); rintro _ _ ⟨rfl,rfl⟩)) <;> (try simp (disch := omega) only [push_cast,seval,innL_VLs,List.length_map]))
 | (refine awp_ret ⟨.inr rfl,_,rfl,?_⟩; (try simp (disch := omega) only [push_cast,seval,innL_VLs,List.length_map]))))
          all_goals (simp [show ((U.length : Int) = (m : Int)) ↔ (U.length = m) from by omega])
    · have hkk : (decide (0 ≤ k) && decide (k ≤ 60)) = false := by simp; omega
      have hf : tiB vs k = false := by unfold tiB; rw [hv,hkk]; rfl
      (repeat' (first
 | (first | refine awp_seq ?_ | refine awp_block ?_)
 | ((first | refine awp_reg ?_ | refine awp_condB ?_ | refine awp_skip ?_ | refine awp_exit ?_); simp (disch := omega) only [push_cast,seval,l31r0,l31r1,l31r2,l31r3,l31r4,l31r5,l31r6,l31r7,l31r8,hv,hkk,innL_VLs])
 | ((first | refine condB_split (fun h => ?_) (fun h => ?_) | refine gIf_split (fun h => ?_) (fun h => ?_) | refine qIf_split (fun h => ?_) (fun h => ?_)) <;> (try simp only [h]) <;> (try simp only [bitvec_to_nat] at h) <;> (try simp only [h]) <;> (first | (exfalso; omega) | (focus (exfalso; simp_all; done)) | (simp (disch := omega) only [push_cast,seval,hv,hkk,innL_VLs]) | skip))
 | ((first | refine callD_of false ?_ | refine qcallD_of false ?_); simp (disch := omega) only [push_cast,seval,hv,hkk,innL_VLs])
 | ((first | ((first | refine call0D (BCall.ofP (svv_ok _ _ ?_ ?_)) ?_ | refine qcall0D (BCall.ofP (svv_ok _ _ ?_ ?_)) ⟨_,_,rfl,rfl⟩ ?_); (iterate 2 (exact sd)); rintro _ _ ⟨rfl,rfl⟩) | ((first | refine call0D (BCall.ofP (inRange_ok _ _ _)) ?_ | refine qcall0D (BCall.ofP (inRange_ok _ _ _)) ⟨_,_,rfl,rfl⟩ ?_); rintro _ _ ⟨rfl,rfl⟩) | ((first | refine call0D (soffsets_ok _ _ _ _ _ ?_ ?_ ?_) ?_ | refine qcall0D (soffsets_ok _ _ _ _ _ ?_ ?_ ?_) ⟨_,_,rfl,rfl⟩ ?_); (iterate 3 (exact sd)); rintro _ _ ⟨rfl,rfl⟩) | ((first | refine call0D (BCall.ofP (sdifferent_ok _ _ ?_ ?_)) ?_ | refine qcall0D (BCall.ofP (sdifferent_ok _ _ ?_ ?_)) ⟨_,_,rfl,rfl⟩ ?_); (iterate 2 (exact sd)); rintro _ _ ⟨rfl,rfl⟩) | ((first | refine call0D (BCall.ofP (allIn_ok _ _ _ _ ?_ ?_)) ?_ | refine qcall0D (BCall.ofP (allIn_ok _ _ _ _ ?_ ?_)) ⟨_,_,rfl,rfl⟩ ?_); (iterate 2 (exact sd)); rintro _ _ ⟨rfl,rfl⟩)) <;> (try simp (disch := omega) only [push_cast,seval,hv,hkk,innL_VLs]))
 | (refine awp_ret ⟨.inr rfl,_,rfl,?_⟩; (try simp (disch := omega) only [push_cast,seval,hv,hkk,innL_VLs]))))
      all_goals (rw [hf])

end Go.Proofs.Ytejbfjmiidofcaa
