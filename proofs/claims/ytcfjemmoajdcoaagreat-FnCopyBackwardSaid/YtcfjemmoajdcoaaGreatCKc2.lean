import Derived.Test.YtcfjemmoajdcoaaGreatCKc1
import Derived.Test.YtcfjemmoajdcoaaGreatCM1
set_option linter.unusedSimpArgs false
set_option linter.unusedVariables false
set_option maxRecDepth 4000
set_option maxHeartbeats 4000000
namespace Go.Proofs.YtcfjemmoajdcoaaGreat
open VwM Vw Go

/-- Facts of a slice of a dimension,for the walks. -/
theorem cut_facts {b : Int} {sh st : List Int} {j : Nat} {f t w : Int} {hf ht : Bool} (hv : vV b sh st = true) (hj : j < sh.length) (hs : vS f t w hf ht = true) :
    (0 ≤ sh.getD j 0 ∧ sh.getD j 0 ≤ 60) ∧
    vR (pS (sFrom f (sh.getD j 0) w hf) (cutK (sh.getD j 0) f t w hf ht)) (pE (sFrom f (sh.getD j 0) w hf) w (cutK (sh.getD j 0) f t w hf ht)) (pC w (cutK (sh.getD j 0) f t w hf ht)) = true ∧
    cntN (pS (sFrom f (sh.getD j 0) w hf) (cutK (sh.getD j 0) f t w hf ht)) (pE (sFrom f (sh.getD j 0) w hf) w (cutK (sh.getD j 0) f t w hf ht)) (pC w (cutK (sh.getD j 0) f t w hf ht)) = cutK (sh.getD j 0) f t w hf ht ∧
    (-12000 ≤ pS (sFrom f (sh.getD j 0) w hf) (cutK (sh.getD j 0) f t w hf ht) * st.getD j 0 ∧ pS (sFrom f (sh.getD j 0) w hf) (cutK (sh.getD j 0) f t w hf ht) * st.getD j 0 ≤ 12000) ∧
    (-12000 ≤ pC w (cutK (sh.getD j 0) f t w hf ht) * st.getD j 0 ∧ pC w (cutK (sh.getD j 0) f t w hf ht) * st.getD j 0 ≤ 12000) ∧
    (∀ i : Nat,i < cutK (sh.getD j 0) f t w hf ht → -1000 ≤ sFrom f (sh.getD j 0) w hf + (i : Int) * w ∧ sFrom f (sh.getD j 0) w hf + (i : Int) * w ≤ 1000) ∧
    (cutK (sh.getD j 0) f t w hf ht : Int) ≤ 60 := by
  obtain ⟨h1,h2,h3,-⟩ := vV_spec.1 hv
  have hg := (vSh_good h1).1
  have hn := good4_at hg hj
  have hw := vS_spec.1 hs
  have hk := cutK_le hn hs
  have hin := fun i hi => idx_in hn hs (i := i) hi
  have hst := vSt_at h2 hj
  have hb : ∀ i : Nat,i < cutK (sh.getD j 0) f t w hf ht → -100 ≤ sFrom f (sh.getD j 0) w hf + (i : Int) * w ∧ sFrom f (sh.getD j 0) w hf + (i : Int) * w ≤ 100 := fun i hi => by have := hin i hi; omega
  have v1 := PR_valid (s := sFrom f (sh.getD j 0) w hf) hw.2.2.2.1 hw.2.2.1 hb
  have v2 := cntN_PR (s := sFrom f (sh.getD j 0) w hf) hw.2.2.2.1 hw.2.2.1 hb
  have v3 := vR_spec.1 v1
  have m1 := mul_bd (p := 100) (q := 60) (x := pS (sFrom f (sh.getD j 0) w hf) (cutK (sh.getD j 0) f t w hf ht)) (y := st.getD j 0) (by omega) (by omega)
  have m2 := mul_bd (p := 200) (q := 60) (x := pC w (cutK (sh.getD j 0) f t w hf ht)) (y := st.getD j 0) (by omega) (by omega)
  exact ⟨hn,v1,v2,by omega,by omega,fun i hi => by have := hb i hi; omega,by omega⟩


set_option maxHeartbeats 16000000 in
theorem scutDim_ok (b : Int) (sh st : List Int) (n m : Nat) (j : Nat) (f t w : Int) (hf ht : Bool) (hn : sh.length = n) (hm : st.length = m) (hb : vV b sh st = true ∧ j < n) (hs : vS f t w hf ht = true) :
    BCall Tryz.prog 92 [.agg [.int .i64 b,.rows false (IL sh) n,.rows false (IL st) m],.int .i64 j,slc f t w hf ht] [] (OV (cutB b sh st j f t w hf ht) (cutSh sh j f t w hf ht) (cutSt sh st j f t w hf ht)) := by
  subst hn hm
  obtain ⟨hv,hj⟩ := hb
  obtain ⟨c1,c2,c3,c4,c5,c6,c7⟩ := cut_facts hv hj hs
  obtain ⟨hok,hl⟩ := okV_valid hv
  have hl4 := hok.1.1.2
  have hbb := (vV_spec.1 hv).2.2.1
  have hg := good4_cut hok.1.1 hj hs
  have hle : (sh.length ≤ 1099511627776 ∧ st.length ≤ 1099511627776) := by omega
  have q1 : cutK (sh.getD j 0) f t w hf ht ≤ 1000 := by omega
  have hj2 : j < st.length := by omega
  have hsl : (sh.set j (cutK (sh.getD j 0) f t w hf ht : Int)).length = sh.length := by simp
  have hK : cntN (sFrom f (sh.getD j 0) w hf) (sTo t (sh.getD j 0) w ht) w = cutK (sh.getD j 0) f t w hf ht := rfl
  refine bcall_of (pins := []) (pin := 0) l92_eq rfl rfl rfl ?_
  by_cases hz : pr (cutSh sh j f t w hf ht) = 0
  · have e1 : cutB b sh st j f t w hf ht = 0 := if_pos hz
    have e2 : cutSt sh st j f t w hf ht = List.replicate sh.length 0 := if_pos hz
    rw [e1,e2]
    unfold cutSh at hz hg ⊢
    generalize hkk : cutK (sh.getD j 0) f t w hf ht = k at *
    have hzg := And.intro hg hz
    by_cases hk1 : (k : Int) ≤ 1
    · (repeat' (first
 | (first | refine awp_seq ?_ | refine awp_block ?_)
 | ((first | refine awp_reg ?_ | refine awp_draw (mid := l92r2a) (post := l92r2b) mixed (by decide) ?_ | refine awp_draw (mid := l92r5a) (post := l92r5b) mixed (by decide) ?_ | refine awp_draw (mid := l92r6a) (post := l92r6b) mixed (by decide) ?_ | refine awp_condB ?_ | refine awp_skip ?_ | refine awp_exit ?_); simp (disch := omega) only [push_cast,seval,l92r0,l92r1,l92r2a,l92r2b,l92r2,l92r3,l92r4,l92r5a,l92r5b,l92r5,l92r6a,l92r6b,l92r6,l92r7,l92r8,l92r9,hK,c3,hk1,IL_set,List.length_set,List.set_set])
 | ((first | refine condB_split (fun h => ?_) (fun h => ?_) | refine gIf_split (fun h => ?_) (fun h => ?_) | refine qIf_split (fun h => ?_) (fun h => ?_)) <;> (try simp only [h]) <;> (try simp only [bitvec_to_nat] at h) <;> (try simp only [h]) <;> (first | (exfalso; omega) | (focus (exfalso; simp_all; done)) | (simp (disch := omega) only [push_cast,seval,hK,c3,hk1,IL_set,List.length_set,List.set_set]) | skip))
 | ((first | ((with_reducible refine callD_ids (f := 100) [176,177] false ?_); simp (disch := omega) only [push_cast,seval,hK,c3,hk1,IL_set,List.length_set,List.set_set]; (refine call2D (id := 176) (id' := 177) (by decide) (stidy0_ok _ _ _ _ _ ?_ ?_ ?_) (by (simp (disch := omega) only [push_cast,seval,hK,c3,hk1,IL_set,List.length_set,List.set_set]); rfl) (by (simp (disch := omega) only [push_cast,seval,hK,c3,hk1,IL_set,List.length_set,List.set_set]); rfl) ?_; (iterate 3 (exact sd)); rintro _ _ ⟨rfl,rfl⟩)) | ((with_reducible refine callD_ids (f := 100) [176,177] false ?_); simp (disch := omega) only [push_cast,seval,hK,c3,hk1,IL_set,List.length_set,List.set_set]; (refine call2D (id := 176) (id' := 177) (by decide) (stidy1_ok _ _ _ _ _ ?_ ?_ ?_) (by (simp (disch := omega) only [push_cast,seval,hK,c3,hk1,IL_set,List.length_set,List.set_set]); rfl) (by (simp (disch := omega) only [push_cast,seval,hK,c3,hk1,IL_set,List.length_set,List.set_set]); rfl) ?_; (iterate 3 (exact sd)); rintro _ _ ⟨rfl,rfl⟩))) <;> (try simp (disch := omega) only [push_cast,seval,hK,c3,hk1,IL_set,List.length_set,List.set_set]))
 | ((first | refine callD_of false ?_ | refine qcallD_of false ?_); simp (disch := omega) only [push_cast,seval,hK,c3,hk1,IL_set,List.length_set,List.set_set])
 | ((first | ((first | refine call0D (scopyView_ok _ _ _ _ _ ?_ ?_ ?_) ?_ | refine qcall0D (BCall.ofP (plainV (scopyView_ok _ _ _ _ _ ?_ ?_ ?_))) ⟨_,_,rfl,rfl⟩ ?_); (iterate 3 (exact sd)); rintro _ _ ⟨rfl,rfl⟩) | ((first | refine call0D (sindices_ok _ _ _ _ _ _ ?_ ?_) ?_ | refine qcall0D (BCall.ofP (plainI (sindices_ok _ _ _ _ _ _ ?_ ?_))) ⟨_,_,rfl,rfl⟩ ?_); (iterate 2 (exact sd)); rintro _ _ ⟨rfl,rfl⟩) | ((first | refine call0D (BCall.ofP (snormal_ok _ _ _ ?_ ?_)) ?_ | refine qcall0D (BCall.ofP (snormal_ok _ _ _ ?_ ?_)) ⟨_,_,rfl,rfl⟩ ?_); (iterate 2 (exact sd)); rintro _ _ ⟨rfl,rfl⟩) | ((first | refine call0D (BCall.ofP (snormal_ok _ _ _ ?_ ?_)) ?_ | refine qcall0D (BCall.ofP (snormal_ok _ _ _ ?_ ?_)) ⟨_,_,rfl,rfl⟩ ?_); (iterate 2 (exact sd)); rintro _ _ ⟨rfl,rfl⟩) | ((first | refine call0D (BCall.ofP (snormalG_ok _ _ ?_ ?_ ?_)) ?_ | refine qcall0D (BCall.ofP (snormalG_ok _ _ ?_ ?_ ?_)) ⟨_,_,rfl,rfl⟩ ?_); (iterate 3 (exact sd)); rintro _ _ ⟨rfl,rfl⟩) | ((first | refine call0D (snumbers_ok _ _ _ ?_) ?_ | refine qcall0D (BCall.ofP (plainI (snumbers_ok _ _ _ ?_))) ⟨_,_,rfl,rfl⟩ ?_); (exact sd); rintro _ _ ⟨rfl,rfl⟩)) <;> (try simp (disch := omega) only [push_cast,seval,hK,c3,hk1,IL_set,List.length_set,List.set_set]))
 | (refine awp_ret ⟨.inr rfl,[176,960],[],_,by decide,rfl,?_⟩; (try simp (disch := omega) only [push_cast,seval,↓allMem_nil,↓allMem_cons,↓List.map_cons,↓List.map_nil,hK,c3,hk1,IL_set,List.length_set,List.set_set]))))
      all_goals (try (simp [OV]; done))
    · (repeat' (first
 | (first | refine awp_seq ?_ | refine awp_block ?_)
 | ((first | refine awp_reg ?_ | refine awp_draw (mid := l92r2a) (post := l92r2b) mixed (by decide) ?_ | refine awp_draw (mid := l92r5a) (post := l92r5b) mixed (by decide) ?_ | refine awp_draw (mid := l92r6a) (post := l92r6b) mixed (by decide) ?_ | refine awp_condB ?_ | refine awp_skip ?_ | refine awp_exit ?_); simp (disch := omega) only [push_cast,seval,l92r0,l92r1,l92r2a,l92r2b,l92r2,l92r3,l92r4,l92r5a,l92r5b,l92r5,l92r6a,l92r6b,l92r6,l92r7,l92r8,l92r9,hK,c3,hk1,IL_set,List.length_set,List.set_set])
 | ((first | refine condB_split (fun h => ?_) (fun h => ?_) | refine gIf_split (fun h => ?_) (fun h => ?_) | refine qIf_split (fun h => ?_) (fun h => ?_)) <;> (try simp only [h]) <;> (try simp only [bitvec_to_nat] at h) <;> (try simp only [h]) <;> (first | (exfalso; omega) | (focus (exfalso; simp_all; done)) | (simp (disch := omega) only [push_cast,seval,hK,c3,hk1,IL_set,List.length_set,List.set_set]) | skip))
 | ((first | ((with_reducible refine callD_ids (f := 100) [176,177] false ?_); simp (disch := omega) only [push_cast,seval,hK,c3,hk1,IL_set,List.length_set,List.set_set]; (refine call2D (id := 176) (id' := 177) (by decide) (stidy0_ok _ _ _ _ _ ?_ ?_ ?_) (by (simp (disch := omega) only [push_cast,seval,hK,c3,hk1,IL_set,List.length_set,List.set_set]); rfl) (by (simp (disch := omega) only [push_cast,seval,hK,c3,hk1,IL_set,List.length_set,List.set_set]); rfl) ?_; (iterate 3 (exact sd)); rintro _ _ ⟨rfl,rfl⟩)) | ((with_reducible refine callD_ids (f := 100) [176,177] false ?_); simp (disch := omega) only [push_cast,seval,hK,c3,hk1,IL_set,List.length_set,List.set_set]; (refine call2D (id := 176) (id' := 177) (by decide) (stidy1_ok _ _ _ _ _ ?_ ?_ ?_) (by (simp (disch := omega) only [push_cast,seval,hK,c3,hk1,IL_set,List.length_set,List.set_set]); rfl) (by (simp (disch := omega) only [push_cast,seval,hK,c3,hk1,IL_set,List.length_set,List.set_set]); rfl) ?_; (iterate 3 (exact sd)); rintro _ _ ⟨rfl,rfl⟩))) <;> (try simp (disch := omega) only [push_cast,seval,hK,c3,hk1,IL_set,List.length_set,List.set_set]))
 | ((first | refine callD_of false ?_ | refine qcallD_of false ?_); simp (disch := omega) only [push_cast,seval,hK,c3,hk1,IL_set,List.length_set,List.set_set])
 | ((first | ((first | refine call0D (scopyView_ok _ _ _ _ _ ?_ ?_ ?_) ?_ | refine qcall0D (BCall.ofP (plainV (scopyView_ok _ _ _ _ _ ?_ ?_ ?_))) ⟨_,_,rfl,rfl⟩ ?_); (iterate 3 (exact sd)); rintro _ _ ⟨rfl,rfl⟩) | ((first | refine call0D (sindices_ok _ _ _ _ _ _ ?_ ?_) ?_ | refine qcall0D (BCall.ofP (plainI (sindices_ok _ _ _ _ _ _ ?_ ?_))) ⟨_,_,rfl,rfl⟩ ?_); (iterate 2 (exact sd)); rintro _ _ ⟨rfl,rfl⟩) | ((first | refine call0D (BCall.ofP (snormal_ok _ _ _ ?_ ?_)) ?_ | refine qcall0D (BCall.ofP (snormal_ok _ _ _ ?_ ?_)) ⟨_,_,rfl,rfl⟩ ?_); (iterate 2 (exact sd)); rintro _ _ ⟨rfl,rfl⟩) | ((first | refine call0D (BCall.ofP (snormal_ok _ _ _ ?_ ?_)) ?_ | refine qcall0D (BCall.ofP (snormal_ok _ _ _ ?_ ?_)) ⟨_,_,rfl,rfl⟩ ?_); (iterate 2 (exact sd)); rintro _ _ ⟨rfl,rfl⟩) | ((first | refine call0D (BCall.ofP (snormalG_ok _ _ ?_ ?_ ?_)) ?_ | refine qcall0D (BCall.ofP (snormalG_ok _ _ ?_ ?_ ?_)) ⟨_,_,rfl,rfl⟩ ?_); (iterate 3 (exact sd)); rintro _ _ ⟨rfl,rfl⟩) | ((first | refine call0D (snumbers_ok _ _ _ ?_) ?_ | refine qcall0D (BCall.ofP (plainI (snumbers_ok _ _ _ ?_))) ⟨_,_,rfl,rfl⟩ ?_); (exact sd); rintro _ _ ⟨rfl,rfl⟩)) <;> (try simp (disch := omega) only [push_cast,seval,hK,c3,hk1,IL_set,List.length_set,List.set_set]))
 | (refine awp_ret ⟨.inr rfl,[176,960],[],_,by decide,rfl,?_⟩; (try simp (disch := omega) only [push_cast,seval,↓allMem_nil,↓allMem_cons,↓List.map_cons,↓List.map_nil,hK,c3,hk1,IL_set,List.length_set,List.set_set]))))
      all_goals (try (simp [OV]; done))
  · have e1 : cutB b sh st j f t w hf ht = b + pS (sFrom f (sh.getD j 0) w hf) (cutK (sh.getD j 0) f t w hf ht) * st.getD j 0 := if_neg hz
    have e2 : cutSt sh st j f t w hf ht = st.set j (cutX sh st j f t w hf ht) := if_neg hz
    rw [e1,e2]
    unfold cutSh at hz hg ⊢
    unfold cutX
    generalize hkk : cutK (sh.getD j 0) f t w hf ht = k at *
    have hzg := And.intro hg hz
    by_cases hk1 : (k : Int) ≤ 1
    · (repeat' (first
 | (first | refine awp_seq ?_ | refine awp_block ?_)
 | ((first | refine awp_reg ?_ | refine awp_draw (mid := l92r2a) (post := l92r2b) mixed (by decide) ?_ | refine awp_draw (mid := l92r5a) (post := l92r5b) mixed (by decide) ?_ | refine awp_draw (mid := l92r6a) (post := l92r6b) mixed (by decide) ?_ | refine awp_condB ?_ | refine awp_skip ?_ | refine awp_exit ?_); simp (disch := omega) only [push_cast,seval,l92r0,l92r1,l92r2a,l92r2b,l92r2,l92r3,l92r4,l92r5a,l92r5b,l92r5,l92r6a,l92r6b,l92r6,l92r7,l92r8,l92r9,hK,c3,hk1,IL_set,List.length_set,List.set_set,List.length_replicate])
 | ((first | refine condB_split (fun h => ?_) (fun h => ?_) | refine gIf_split (fun h => ?_) (fun h => ?_) | refine qIf_split (fun h => ?_) (fun h => ?_)) <;> (try simp only [h]) <;> (try simp only [bitvec_to_nat] at h) <;> (try simp only [h]) <;> (first | (exfalso; omega) | (focus (exfalso; simp_all; done)) | (simp (disch := omega) only [push_cast,seval,hK,c3,hk1,IL_set,List.length_set,List.set_set,List.length_replicate]) | skip))
 | ((first | ((with_reducible refine callD_ids (f := 100) [176,177] false ?_); simp (disch := omega) only [push_cast,seval,hK,c3,hk1,IL_set,List.length_set,List.set_set,List.length_replicate]; (refine call2D (id := 176) (id' := 177) (by decide) (stidy0_ok _ _ _ _ _ ?_ ?_ ?_) (by (simp (disch := omega) only [push_cast,seval,hK,c3,hk1,IL_set,List.length_set,List.set_set,List.length_replicate]); rfl) (by (simp (disch := omega) only [push_cast,seval,hK,c3,hk1,IL_set,List.length_set,List.set_set,List.length_replicate]); rfl) ?_; (iterate 3 (exact sd)); rintro _ _ ⟨rfl,rfl⟩)) | ((with_reducible refine callD_ids (f := 100) [176,177] false ?_); simp (disch := omega) only [push_cast,seval,hK,c3,hk1,IL_set,List.length_set,List.set_set,List.length_replicate]; (refine call2D (id := 176) (id' := 177) (by decide) (stidy1_ok _ _ _ _ _ ?_ ?_ ?_) (by (simp (disch := omega) only [push_cast,seval,hK,c3,hk1,IL_set,List.length_set,List.set_set,List.length_replicate]); rfl) (by (simp (disch := omega) only [push_cast,seval,hK,c3,hk1,IL_set,List.length_set,List.set_set,List.length_replicate]); rfl) ?_; (iterate 3 (exact sd)); rintro _ _ ⟨rfl,rfl⟩))) <;> (try simp (disch := omega) only [push_cast,seval,hK,c3,hk1,IL_set,List.length_set,List.set_set,List.length_replicate]))
 | ((first | refine callD_of false ?_ | refine qcallD_of false ?_); simp (disch := omega) only [push_cast,seval,hK,c3,hk1,IL_set,List.length_set,List.set_set,List.length_replicate])
 | ((first | ((first | refine call0D (scopyView_ok _ _ _ _ _ ?_ ?_ ?_) ?_ | refine qcall0D (BCall.ofP (plainV (scopyView_ok _ _ _ _ _ ?_ ?_ ?_))) ⟨_,_,rfl,rfl⟩ ?_); (iterate 3 (exact sd)); rintro _ _ ⟨rfl,rfl⟩) | ((first | refine call0D (sindices_ok _ _ _ _ _ _ ?_ ?_) ?_ | refine qcall0D (BCall.ofP (plainI (sindices_ok _ _ _ _ _ _ ?_ ?_))) ⟨_,_,rfl,rfl⟩ ?_); (iterate 2 (exact sd)); rintro _ _ ⟨rfl,rfl⟩) | ((first | refine call0D (BCall.ofP (snormal_ok _ _ _ ?_ ?_)) ?_ | refine qcall0D (BCall.ofP (snormal_ok _ _ _ ?_ ?_)) ⟨_,_,rfl,rfl⟩ ?_); (iterate 2 (exact sd)); rintro _ _ ⟨rfl,rfl⟩) | ((first | refine call0D (BCall.ofP (snormal_ok _ _ _ ?_ ?_)) ?_ | refine qcall0D (BCall.ofP (snormal_ok _ _ _ ?_ ?_)) ⟨_,_,rfl,rfl⟩ ?_); (iterate 2 (exact sd)); rintro _ _ ⟨rfl,rfl⟩) | ((first | refine call0D (BCall.ofP (snormalG_ok _ _ ?_ ?_ ?_)) ?_ | refine qcall0D (BCall.ofP (snormalG_ok _ _ ?_ ?_ ?_)) ⟨_,_,rfl,rfl⟩ ?_); (iterate 3 (exact sd)); rintro _ _ ⟨rfl,rfl⟩) | ((first | refine call0D (snumbers_ok _ _ _ ?_) ?_ | refine qcall0D (BCall.ofP (plainI (snumbers_ok _ _ _ ?_))) ⟨_,_,rfl,rfl⟩ ?_); (exact sd); rintro _ _ ⟨rfl,rfl⟩)) <;> (try simp (disch := omega) only [push_cast,seval,hK,c3,hk1,IL_set,List.length_set,List.set_set,List.length_replicate]))
 | (refine awp_ret ⟨.inr rfl,[176,177],[],_,by decide,rfl,?_⟩; (try simp (disch := omega) only [push_cast,seval,↓allMem_nil,↓allMem_cons,↓List.map_cons,↓List.map_nil,hK,c3,hk1,IL_set,List.length_set,List.set_set,List.length_replicate]))))
      all_goals (try (simp [OV,hk1,hl]; done))
    · (repeat' (first
 | (first | refine awp_seq ?_ | refine awp_block ?_)
 | ((first | refine awp_reg ?_ | refine awp_draw (mid := l92r2a) (post := l92r2b) mixed (by decide) ?_ | refine awp_draw (mid := l92r5a) (post := l92r5b) mixed (by decide) ?_ | refine awp_draw (mid := l92r6a) (post := l92r6b) mixed (by decide) ?_ | refine awp_condB ?_ | refine awp_skip ?_ | refine awp_exit ?_); simp (disch := omega) only [push_cast,seval,l92r0,l92r1,l92r2a,l92r2b,l92r2,l92r3,l92r4,l92r5a,l92r5b,l92r5,l92r6a,l92r6b,l92r6,l92r7,l92r8,l92r9,hK,c3,hk1,IL_set,List.length_set,List.set_set,List.length_replicate])
 | ((first | refine condB_split (fun h => ?_) (fun h => ?_) | refine gIf_split (fun h => ?_) (fun h => ?_) | refine qIf_split (fun h => ?_) (fun h => ?_)) <;> (try simp only [h]) <;> (try simp only [bitvec_to_nat] at h) <;> (try simp only [h]) <;> (first | (exfalso; omega) | (focus (exfalso; simp_all; done)) | (simp (disch := omega) only [push_cast,seval,hK,c3,hk1,IL_set,List.length_set,List.set_set,List.length_replicate]) | skip))
 | ((first | ((with_reducible refine callD_ids (f := 100) [176,177] false ?_); simp (disch := omega) only [push_cast,seval,hK,c3,hk1,IL_set,List.length_set,List.set_set,List.length_replicate]; (refine call2D (id := 176) (id' := 177) (by decide) (stidy0_ok _ _ _ _ _ ?_ ?_ ?_) (by (simp (disch := omega) only [push_cast,seval,hK,c3,hk1,IL_set,List.length_set,List.set_set,List.length_replicate]); rfl) (by (simp (disch := omega) only [push_cast,seval,hK,c3,hk1,IL_set,List.length_set,List.set_set,List.length_replicate]); rfl) ?_; (iterate 3 (exact sd)); rintro _ _ ⟨rfl,rfl⟩)) | ((with_reducible refine callD_ids (f := 100) [176,177] false ?_); simp (disch := omega) only [push_cast,seval,hK,c3,hk1,IL_set,List.length_set,List.set_set,List.length_replicate]; (refine call2D (id := 176) (id' := 177) (by decide) (stidy1_ok _ _ _ _ _ ?_ ?_ ?_) (by (simp (disch := omega) only [push_cast,seval,hK,c3,hk1,IL_set,List.length_set,List.set_set,List.length_replicate]); rfl) (by (simp (disch := omega) only [push_cast,seval,hK,c3,hk1,IL_set,List.length_set,List.set_set,List.length_replicate]); rfl) ?_; (iterate 3 (exact sd)); rintro _ _ ⟨rfl,rfl⟩))) <;> (try simp (disch := omega) only [push_cast,seval,hK,c3,hk1,IL_set,List.length_set,List.set_set,List.length_replicate]))
 | ((first | refine callD_of false ?_ | refine qcallD_of false ?_); simp (disch := omega) only [push_cast,seval,hK,c3,hk1,IL_set,List.length_set,List.set_set,List.length_replicate])
 | ((first | ((first | refine call0D (scopyView_ok _ _ _ _ _ ?_ ?_ ?_) ?_ | refine qcall0D (BCall.ofP (plainV (scopyView_ok _ _ _ _ _ ?_ ?_ ?_))) ⟨_,_,rfl,rfl⟩ ?_); (iterate 3 (exact sd)); rintro _ _ ⟨rfl,rfl⟩) | ((first | refine call0D (sindices_ok _ _ _ _ _ _ ?_ ?_) ?_ | refine qcall0D (BCall.ofP (plainI (sindices_ok _ _ _ _ _ _ ?_ ?_))) ⟨_,_,rfl,rfl⟩ ?_); (iterate 2 (exact sd)); rintro _ _ ⟨rfl,rfl⟩) | ((first | refine call0D (BCall.ofP (snormal_ok _ _ _ ?_ ?_)) ?_ | refine qcall0D (BCall.ofP (snormal_ok _ _ _ ?_ ?_)) ⟨_,_,rfl,rfl⟩ ?_); (iterate 2 (exact sd)); rintro _ _ ⟨rfl,rfl⟩) | ((first | refine call0D (BCall.ofP (snormal_ok _ _ _ ?_ ?_)) ?_ | refine qcall0D (BCall.ofP (snormal_ok _ _ _ ?_ ?_)) ⟨_,_,rfl,rfl⟩ ?_); (iterate 2 (exact sd)); rintro _ _ ⟨rfl,rfl⟩) | ((first | refine call0D (BCall.ofP (snormalG_ok _ _ ?_ ?_ ?_)) ?_ | refine qcall0D (BCall.ofP (snormalG_ok _ _ ?_ ?_ ?_)) ⟨_,_,rfl,rfl⟩ ?_); (iterate 3 (exact sd)); rintro _ _ ⟨rfl,rfl⟩) | ((first | refine call0D (snumbers_ok _ _ _ ?_) ?_ | refine qcall0D (BCall.ofP (plainI (snumbers_ok _ _ _ ?_))) ⟨_,_,rfl,rfl⟩ ?_); (exact sd); rintro _ _ ⟨rfl,rfl⟩)) <;> (try simp (disch := omega) only [push_cast,seval,hK,c3,hk1,IL_set,List.length_set,List.set_set,List.length_replicate]))
 | (refine awp_ret ⟨.inr rfl,[176,177],[],_,by decide,rfl,?_⟩; (try simp (disch := omega) only [push_cast,seval,↓allMem_nil,↓allMem_cons,↓List.map_cons,↓List.map_nil,hK,c3,hk1,IL_set,List.length_set,List.set_set,List.length_replicate]))))
      all_goals (try (simp [OV,hk1,hl]; done))

end Go.Proofs.YtcfjemmoajdcoaaGreat
