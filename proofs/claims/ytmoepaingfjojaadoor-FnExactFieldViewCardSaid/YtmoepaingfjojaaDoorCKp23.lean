import Derived.Test.YtmoepaingfjojaaDoorCKi4
import Derived.Test.YtmoepaingfjojaaDoorCM1
import Derived.Test.YtmoepaingfjojaaDoorCW3
set_option linter.unusedSimpArgs false
set_option linter.unusedVariables false
set_option maxRecDepth 4000
set_option maxHeartbeats 4000000
namespace Go.Proofs.YtmoepaingfjojaaDoor
open VwM Vw Go

def fvb (al big : Bool) (s : List Int) (k : Int) : Int := fP al s k.toNat + (if big = true then s.getD k.toNat 0 - 1 else 0)
def fvh (s : List Int) (k many : Int) : List Int := [many,s.getD k.toNat 0]
def fvt (al big : Bool) (s : List Int) : List Int := [fN al s,if big = true then -1 else 1]
def fvB (al big : Bool) (s : List Int) (k many : Int) : Bool := (vF s && (decide (0 ≤ k) && decide (k ≤ (s.length : Int) - 1)) && decide (1 ≤ many)) && vV (fvb al big s k) (fvh s k many) (fvt al big s)
theorem fvB_f {al big : Bool} {s : List Int} {k many : Int} (h : vF s = false) : fvB al big s k many = false := by simp [fvB,h]
theorem fvB_k {al big : Bool} {s : List Int} {k many : Int} (h : ¬ (0 ≤ k ∧ k ≤ (s.length : Int) - 1)) : fvB al big s k many = false := by
  have : (decide (0 ≤ k) && decide (k ≤ (s.length : Int) - 1)) = false := by
    rw [Bool.and_eq_false_iff,decide_eq_false_iff_not,decide_eq_false_iff_not]; omega
  simp [fvB,this]
theorem fvB_m {al big : Bool} {s : List Int} {k many : Int} (h : ¬ (1 ≤ many ∧ many ≤ 60)) : fvB al big s k many = false := by
  by_cases h1 : 1 ≤ many
  · cases hv : vV (fvb al big s k) (fvh s k many) (fvt al big s) with
    | false => simp [fvB,hv]
    | true =>
      have := (vSh_good (vV_spec.1 hv).1).1.1 many (by simp [fvh])
      omega
  · simp [fvB,h1]
theorem fvB_in {al big : Bool} {s : List Int} {k many : Int} (h : vF s = true) (h1 : 0 ≤ k ∧ k ≤ (s.length : Int) - 1) (h2 : 1 ≤ many) : fvB al big s k many = vV (fvb al big s k) (fvh s k many) (fvt al big s) := by simp [fvB,h,h1.1,h1.2,h2]


theorem smade22_ok (b x y z u : Int) : BCall Tryd.prog 17 [.agg [.int .i64 b,.rows false [.int .i64 x,.int .i64 y] 2,.rows false [.int .i64 z,.int .i64 u] 2]] [] (MV (vV b [x,y] [z,u]) b [x,y] [z,u]) := smade_ok b [x,y] [z,u] 2 2 rfl rfl (by decide)


set_option maxHeartbeats 8000000 in
theorem sFV_ok (s : List Int) (n : Nat) (big al : Bool) (k many : Int) (hn : s.length = n) (hb : n ≤ 1099511627776) : BCall Tryd.prog 5 [.agg [.rows false (IL s) n,.bool big,.bool al],.int .i64 k,.int .i64 many] [] (MV (fvB al big s k many) (fvb al big s k) (fvh s k many) (fvt al big s)) := by
  subst hn
  refine bcall_of (pins := []) (pin := 0) l5_eq rfl rfl rfl ?_
  cases hv : vF s with
  | false =>
    rw [fvB_f hv]
    (repeat' (first
 | (first | refine awp_seq ?_ | refine awp_block ?_)
 | ((first | refine awp_reg ?_ | refine awp_draw (mid := l5r4a) (post := l5r4b) mixed (by decide) ?_ | refine awp_draw (mid := l5r6a) (post := l5r6b) mixed (by decide) ?_ | refine awp_condB ?_ | refine awp_skip ?_ | refine awp_exit ?_); simp (disch := omega) only [push_cast,seval,l5r0,l5r1,l5r2,l5r3,l5r4a,l5r4b,l5r4,l5r5,l5r6a,l5r6b,l5r6,l5r7,l5r8,hv])
 | ((first | refine condB_split (fun h => ?_) (fun h => ?_) | refine gIf_split (fun h => ?_) (fun h => ?_) | refine qIf_split (fun h => ?_) (fun h => ?_)) <;> (try simp only [h]) <;> (try simp only [bitvec_to_nat] at h) <;> (try simp only [h]) <;> (first | (exfalso; omega) | (focus (exfalso; simp_all; done)) | (simp (disch := omega) only [push_cast,seval,hv]) | skip))
 | ((first | refine callD_of false ?_ | refine qcallD_of false ?_); simp (disch := omega) only [push_cast,seval,hv])
 | ((first | ((first | refine call0D (BCall.ofP (svFmt_ok _ _ _ _ ?_ ?_)) ?_ | refine qcall0D (BCall.ofP (svFmt_ok _ _ _ _ ?_ ?_)) ⟨_,_,rfl,rfl⟩ ?_); (iterate 2 (exact sd)); rintro _ _ ⟨rfl,rfl⟩) | ((first | refine call0D (BCall.ofP (inRange_ok _ _ _)) ?_ | refine qcall0D (BCall.ofP (inRange_ok _ _ _)) ⟨_,_,rfl,rfl⟩ ?_); rintro _ _ ⟨rfl,rfl⟩) | ((first | refine call0D (splaces_ok _ _ _ _ ?_ ?_) ?_ | refine qcall0D (splaces_ok _ _ _ _ ?_ ?_) ⟨_,_,rfl,rfl⟩ ?_); (iterate 2 (exact sd)); rintro _ _ ⟨rfl,rfl⟩) | ((first | refine call0D (smade22_ok _ _ _ _ _) ?_ | refine qcall0D (smade22_ok _ _ _ _ _) ⟨_,_,rfl,rfl⟩ ?_); rintro _ _ ⟨rfl,rfl⟩)) <;> (try simp (disch := omega) only [push_cast,seval,hv]))
 | (refine awp_ret ⟨.inr rfl,[16000,16016],[(16000,1),(16016,1)],_,by decide,rfl,?_⟩; (try simp (disch := omega) only [push_cast,seval,↓allMem_nil,↓allMem_cons,↓List.map_cons,↓List.map_nil,hv]))))
    all_goals simp [MV,MVB,MVL]
  | true =>
    by_cases hk : 0 ≤ k ∧ k ≤ (s.length : Int) - 1
    · by_cases hm : 1 ≤ many ∧ many ≤ 60
      · rw [fvB_in hv hk hm.1]
        obtain ⟨j,rfl⟩ := Int.eq_ofNat_of_zero_le hk.1
        have hj : j < s.length := by omega
        obtain ⟨r1,r2,r3,r4,r5,r6,r7,r8⟩ := pk_room (al := al) hv hj
        obtain ⟨hm1,hm2⟩ := hm
        obtain ⟨hk1,hk2⟩ := hk
        have hfn := (fN_bound (al := al) hv).2
        have hpg : (fPL al s).getD j 0 = fP al s j := fPL_getD hj
        have hpl := fPL_length al s
        have hh : fvh s j many = [many,s.getD j 0] := by simp [fvh]
        cases big with
        | false =>
          have hbb : fvb al false s j = fP al s j := by simp [fvb]
          have ht : fvt al false s = [fN al s,1] := by simp [fvt]
          rw [hh,hbb,ht]
          generalize hP : fP al s j = P at *
          generalize hZ : s.getD j 0 = Z at *
          generalize hN : fN al s = N at *
          generalize hQ : fPL al s = Q at *
          (repeat' (first
 | (first | refine awp_seq ?_ | refine awp_block ?_)
 | ((first | refine awp_reg ?_ | refine awp_draw (mid := l5r4a) (post := l5r4b) mixed (by decide) ?_ | refine awp_draw (mid := l5r6a) (post := l5r6b) mixed (by decide) ?_ | refine awp_condB ?_ | refine awp_skip ?_ | refine awp_exit ?_); simp (disch := omega) only [push_cast,seval,l5r0,l5r1,l5r2,l5r3,l5r4a,l5r4b,l5r4,l5r5,l5r6a,l5r6b,l5r6,l5r7,l5r8,hv,hk1,hk2,hm1,hm2,hQ,hN,hpg,hpl,hZ])
 | ((first | refine condB_split (fun h => ?_) (fun h => ?_) | refine gIf_split (fun h => ?_) (fun h => ?_) | refine qIf_split (fun h => ?_) (fun h => ?_)) <;> (try simp only [h]) <;> (try simp only [bitvec_to_nat] at h) <;> (try simp only [h]) <;> (first | (exfalso; omega) | (focus (exfalso; simp_all; done)) | (simp (disch := omega) only [push_cast,seval,hv,hk1,hk2,hm1,hm2,hQ,hN,hpg,hpl,hZ]) | skip))
 | ((first | refine callD_of false ?_ | refine qcallD_of false ?_); simp (disch := omega) only [push_cast,seval,hv,hk1,hk2,hm1,hm2,hQ,hN,hpg,hpl,hZ])
 | ((first | ((first | refine call0D (BCall.ofP (svFmt_ok _ _ _ _ ?_ ?_)) ?_ | refine qcall0D (BCall.ofP (svFmt_ok _ _ _ _ ?_ ?_)) ⟨_,_,rfl,rfl⟩ ?_); (iterate 2 (exact sd)); rintro _ _ ⟨rfl,rfl⟩) | ((first | refine call0D (BCall.ofP (inRange_ok _ _ _)) ?_ | refine qcall0D (BCall.ofP (inRange_ok _ _ _)) ⟨_,_,rfl,rfl⟩ ?_); rintro _ _ ⟨rfl,rfl⟩) | ((first | refine call0D (splaces_ok _ _ _ _ ?_ ?_) ?_ | refine qcall0D (splaces_ok _ _ _ _ ?_ ?_) ⟨_,_,rfl,rfl⟩ ?_); (iterate 2 (exact sd)); rintro _ _ ⟨rfl,rfl⟩) | ((first | refine call0D (smade22_ok _ _ _ _ _) ?_ | refine qcall0D (smade22_ok _ _ _ _ _) ⟨_,_,rfl,rfl⟩ ?_); rintro _ _ ⟨rfl,rfl⟩)) <;> (try simp (disch := omega) only [push_cast,seval,hv,hk1,hk2,hm1,hm2,hQ,hN,hpg,hpl,hZ]))
 | (refine awp_ret ⟨.inr rfl,[1056,1057],[],_,by decide,rfl,?_⟩; (try simp (disch := omega) only [push_cast,seval,↓allMem_nil,↓allMem_cons,↓List.map_cons,↓List.map_nil,hv,hk1,hk2,hm1,hm2,hQ,hN,hpg,hpl,hZ]))))
          all_goals simp [MV,MVB,MVL]
        | true =>
          have hbb : fvb al true s j = fP al s j + s.getD j 0 - 1 := by simp [fvb]; omega
          have ht : fvt al true s = [fN al s,-1] := by simp [fvt]
          rw [hh,hbb,ht]
          generalize hP : fP al s j = P at *
          generalize hZ : s.getD j 0 = Z at *
          generalize hN : fN al s = N at *
          generalize hQ : fPL al s = Q at *
          (repeat' (first
 | (first | refine awp_seq ?_ | refine awp_block ?_)
 | ((first | refine awp_reg ?_ | refine awp_draw (mid := l5r4a) (post := l5r4b) mixed (by decide) ?_ | refine awp_draw (mid := l5r6a) (post := l5r6b) mixed (by decide) ?_ | refine awp_condB ?_ | refine awp_skip ?_ | refine awp_exit ?_); simp (disch := omega) only [push_cast,seval,l5r0,l5r1,l5r2,l5r3,l5r4a,l5r4b,l5r4,l5r5,l5r6a,l5r6b,l5r6,l5r7,l5r8,hv,hk1,hk2,hm1,hm2,hQ,hN,hpg,hpl,hZ])
 | ((first | refine condB_split (fun h => ?_) (fun h => ?_) | refine gIf_split (fun h => ?_) (fun h => ?_) | refine qIf_split (fun h => ?_) (fun h => ?_)) <;> (try simp only [h]) <;> (try simp only [bitvec_to_nat] at h) <;> (try simp only [h]) <;> (first | (exfalso; omega) | (focus (exfalso; simp_all; done)) | (simp (disch := omega) only [push_cast,seval,hv,hk1,hk2,hm1,hm2,hQ,hN,hpg,hpl,hZ]) | skip))
 | ((first | refine callD_of false ?_ | refine qcallD_of false ?_); simp (disch := omega) only [push_cast,seval,hv,hk1,hk2,hm1,hm2,hQ,hN,hpg,hpl,hZ])
 | ((first | ((first | refine call0D (BCall.ofP (svFmt_ok _ _ _ _ ?_ ?_)) ?_ | refine qcall0D (BCall.ofP (svFmt_ok _ _ _ _ ?_ ?_)) ⟨_,_,rfl,rfl⟩ ?_); (iterate 2 (exact sd)); rintro _ _ ⟨rfl,rfl⟩) | ((first | refine call0D (BCall.ofP (inRange_ok _ _ _)) ?_ | refine qcall0D (BCall.ofP (inRange_ok _ _ _)) ⟨_,_,rfl,rfl⟩ ?_); rintro _ _ ⟨rfl,rfl⟩) | ((first | refine call0D (splaces_ok _ _ _ _ ?_ ?_) ?_ | refine qcall0D (splaces_ok _ _ _ _ ?_ ?_) ⟨_,_,rfl,rfl⟩ ?_); (iterate 2 (exact sd)); rintro _ _ ⟨rfl,rfl⟩) | ((first | refine call0D (smade22_ok _ _ _ _ _) ?_ | refine qcall0D (smade22_ok _ _ _ _ _) ⟨_,_,rfl,rfl⟩ ?_); rintro _ _ ⟨rfl,rfl⟩)) <;> (try simp (disch := omega) only [push_cast,seval,hv,hk1,hk2,hm1,hm2,hQ,hN,hpg,hpl,hZ]))
 | (refine awp_ret ⟨.inr rfl,[1056,1057],[],_,by decide,rfl,?_⟩; (try simp (disch := omega) only [push_cast,seval,↓allMem_nil,↓allMem_cons,↓List.map_cons,↓List.map_nil,hv,hk1,hk2,hm1,hm2,hQ,hN,hpg,hpl,hZ]))))
          all_goals simp [MV,MVB,MVL]
      · rw [fvB_m hm]
        have hw : (decide (1 ≤ many) && decide (many ≤ 60)) = false := by
          rw [Bool.and_eq_false_iff,decide_eq_false_iff_not,decide_eq_false_iff_not]; omega
        obtain ⟨hk1,hk2⟩ := hk
        (repeat' (first
 | (first | refine awp_seq ?_ | refine awp_block ?_)
 | ((first | refine awp_reg ?_ | refine awp_draw (mid := l5r4a) (post := l5r4b) mixed (by decide) ?_ | refine awp_draw (mid := l5r6a) (post := l5r6b) mixed (by decide) ?_ | refine awp_condB ?_ | refine awp_skip ?_ | refine awp_exit ?_); simp (disch := omega) only [push_cast,seval,l5r0,l5r1,l5r2,l5r3,l5r4a,l5r4b,l5r4,l5r5,l5r6a,l5r6b,l5r6,l5r7,l5r8,hv,hk1,hk2,hw])
 | ((first | refine condB_split (fun h => ?_) (fun h => ?_) | refine gIf_split (fun h => ?_) (fun h => ?_) | refine qIf_split (fun h => ?_) (fun h => ?_)) <;> (try simp only [h]) <;> (try simp only [bitvec_to_nat] at h) <;> (try simp only [h]) <;> (first | (exfalso; omega) | (focus (exfalso; simp_all; done)) | (simp (disch := omega) only [push_cast,seval,hv,hk1,hk2,hw]) | skip))
 | ((first | refine callD_of false ?_ | refine qcallD_of false ?_); simp (disch := omega) only [push_cast,seval,hv,hk1,hk2,hw])
 | ((first | ((first | refine call0D (BCall.ofP (svFmt_ok _ _ _ _ ?_ ?_)) ?_ | refine qcall0D (BCall.ofP (svFmt_ok _ _ _ _ ?_ ?_)) ⟨_,_,rfl,rfl⟩ ?_); (iterate 2 (exact sd)); rintro _ _ ⟨rfl,rfl⟩) | ((first | refine call0D (BCall.ofP (inRange_ok _ _ _)) ?_ | refine qcall0D (BCall.ofP (inRange_ok _ _ _)) ⟨_,_,rfl,rfl⟩ ?_); rintro _ _ ⟨rfl,rfl⟩) | ((first | refine call0D (splaces_ok _ _ _ _ ?_ ?_) ?_ | refine qcall0D (splaces_ok _ _ _ _ ?_ ?_) ⟨_,_,rfl,rfl⟩ ?_); (iterate 2 (exact sd)); rintro _ _ ⟨rfl,rfl⟩) | ((first | refine call0D (smade22_ok _ _ _ _ _) ?_ | refine qcall0D (smade22_ok _ _ _ _ _) ⟨_,_,rfl,rfl⟩ ?_); rintro _ _ ⟨rfl,rfl⟩)) <;> (try simp (disch := omega) only [push_cast,seval,hv,hk1,hk2,hw]))
 | (refine awp_ret ⟨.inr rfl,[16000,16016],[(16000,1),(16016,1)],_,by decide,rfl,?_⟩; (try simp (disch := omega) only [push_cast,seval,↓allMem_nil,↓allMem_cons,↓List.map_cons,↓List.map_nil,hv,hk1,hk2,hw]))))
        all_goals simp [MV,MVB,MVL]
    · rw [fvB_k hk]
      have hw : (decide (0 ≤ k) && decide (k ≤ (s.length : Int) - 1)) = false := by
        rw [Bool.and_eq_false_iff,decide_eq_false_iff_not,decide_eq_false_iff_not]; omega
      (repeat' (first
 | (first | refine awp_seq ?_ | refine awp_block ?_)
 | ((first | refine awp_reg ?_ | refine awp_draw (mid := l5r4a) (post := l5r4b) mixed (by decide) ?_ | refine awp_draw (mid := l5r6a) (post := l5r6b) mixed (by decide) ?_ | refine awp_condB ?_ | refine awp_skip ?_ | refine awp_exit ?_); simp (disch := omega) only [push_cast,seval,l5r0,l5r1,l5r2,l5r3,l5r4a,l5r4b,l5r4,l5r5,l5r6a,l5r6b,l5r6,l5r7,l5r8,hv,hw])
 | ((first | refine condB_split (fun h => ?_) (fun h => ?_) | refine gIf_split (fun h => ?_) (fun h => ?_) | refine qIf_split (fun h => ?_) (fun h => ?_)) <;> (try simp only [h]) <;> (try simp only [bitvec_to_nat] at h) <;> (try simp only [h]) <;> (first | (exfalso; omega) | (focus (exfalso; simp_all; done)) | (simp (disch := omega) only [push_cast,seval,hv,hw]) | skip))
 | ((first | refine callD_of false ?_ | refine qcallD_of false ?_); simp (disch := omega) only [push_cast,seval,hv,hw])
 | ((first | ((first | refine call0D (BCall.ofP (svFmt_ok _ _ _ _ ?_ ?_)) ?_ | refine qcall0D (BCall.ofP (svFmt_ok _ _ _ _ ?_ ?_)) ⟨_,_,rfl,rfl⟩ ?_); (iterate 2 (exact sd)); rintro _ _ ⟨rfl,rfl⟩) | ((first | refine call0D (BCall.ofP (inRange_ok _ _ _)) ?_ | refine qcall0D (BCall.ofP (inRange_ok _ _ _)) ⟨_,_,rfl,rfl⟩ ?_); rintro _ _ ⟨rfl,rfl⟩) | ((first | refine call0D (splaces_ok _ _ _ _ ?_ ?_) ?_ | refine qcall0D (splaces_ok _ _ _ _ ?_ ?_) ⟨_,_,rfl,rfl⟩ ?_); (iterate 2 (exact sd)); rintro _ _ ⟨rfl,rfl⟩) | ((first | refine call0D (smade22_ok _ _ _ _ _) ?_ | refine qcall0D (smade22_ok _ _ _ _ _) ⟨_,_,rfl,rfl⟩ ?_); rintro _ _ ⟨rfl,rfl⟩)) <;> (try simp (disch := omega) only [push_cast,seval,hv,hw]))
 | (refine awp_ret ⟨.inr rfl,[16000,16016],[(16000,1),(16016,1)],_,by decide,rfl,?_⟩; (try simp (disch := omega) only [push_cast,seval,↓allMem_nil,↓allMem_cons,↓List.map_cons,↓List.map_nil,hv,hw]))))
      all_goals simp [MV,MVB,MVL]

end Go.Proofs.YtmoepaingfjojaaDoor
