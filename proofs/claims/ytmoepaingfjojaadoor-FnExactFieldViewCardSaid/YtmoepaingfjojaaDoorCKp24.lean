import Derived.Test.YtmoepaingfjojaaDoorCKp23
import Derived.Test.YtmoepaingfjojaaDoorCM1
import Derived.Test.YtmoepaingfjojaaDoorCW3
set_option linter.unusedSimpArgs false
set_option linter.unusedVariables false
set_option maxRecDepth 4000
set_option maxHeartbeats 4000000
namespace Go.Proofs.YtmoepaingfjojaaDoor
open VwM Vw Go

theorem shapeOf2_ok (x y : Int) : BCall Tryd.prog 24 [.rows false [.int .i64 x,.int .i64 y] 2] [] (OI [x,y]) := shapeOf_ok [x,y] 2 rfl (by decide)


theorem iVV22_ok (b x y z u : Int) : PCall Tryd.prog 26 [.agg [.int .i64 b,.rows false [.int .i64 x,.int .i64 y] 2,.rows false [.int .i64 z,.int .i64 u] 2]] (fun r => r = .bool (vV b [x,y] [z,u])) := iValidView_ok b [x,y] [z,u] 2 2 rfl rfl (by decide)


set_option maxRecDepth 20000 in
set_option maxHeartbeats 16000000 in
theorem iFV_ok (s : List Int) (n : Nat) (big al : Bool) (k many : Int) (hn : s.length = n) (hb : n ≤ 1099511627776) : BCall Tryd.prog 7 [.agg [.rows false (IL s) n,.bool big,.bool al],.int .i64 k,.int .i64 many] [] (MV (fvB al big s k many) (fvb al big s k) (fvh s k many) (fvt al big s)) := by
  subst hn
  refine bcall_of (pins := []) (pin := 0) l7_eq rfl rfl rfl ?_
  cases hv : vF s with
  | false =>
    rw [fvB_f hv]
    (repeat' (first
 | (first | refine awp_seq ?_ | refine awp_block ?_)
 | ((first | refine awp_reg ?_ | refine awp_draw (mid := l7r3a) (post := l7r3b) mixed (by decide) ?_ | refine awp_draw (mid := l7r5a) (post := l7r5b) mixed (by decide) ?_ | refine awp_condB ?_ | refine awp_skip ?_ | refine awp_exit ?_); simp (disch := omega) only [push_cast,seval,l7r0,l7r1,l7r2,l7r3a,l7r3b,l7r3,l7r4,l7r5a,l7r5b,l7r5,l7r6,l7r7,l7r8,hv])
 | ((first | refine condB_split (fun h => ?_) (fun h => ?_) | refine gIf_split (fun h => ?_) (fun h => ?_) | refine qIf_split (fun h => ?_) (fun h => ?_)) <;> (try simp only [h]) <;> (try simp only [bitvec_to_nat] at h) <;> (try simp only [h]) <;> (first | (exfalso; omega) | (focus (exfalso; simp_all; done)) | (simp (disch := omega) only [push_cast,seval,hv]) | skip))
 | ((first | refine callD_of false ?_ | refine qcallD_of false ?_); simp (disch := omega) only [push_cast,seval,hv])
 | ((first | ((first | refine call0D (BCall.ofP (iVFmt_ok _ _ _ _ ?_ ?_)) ?_ | refine qcall0D (BCall.ofP (iVFmt_ok _ _ _ _ ?_ ?_)) ⟨_,_,rfl,rfl⟩ ?_); (iterate 2 (exact sd)); rintro _ _ ⟨rfl,rfl⟩) | ((first | refine call0D (BCall.ofP (upTo_ok _ _)) ?_ | refine qcall0D (BCall.ofP (upTo_ok _ _)) ⟨_,_,rfl,rfl⟩ ?_); rintro _ _ ⟨rfl,rfl⟩) | ((first | refine call0D (ifields_ok _ _ _ _ ?_ ?_) ?_ | refine qcall0D (ifields_ok _ _ _ _ ?_ ?_) ⟨_,_,rfl,rfl⟩ ?_); (iterate 2 (exact sd)); rintro _ _ ⟨rfl,rfl⟩) | ((first | refine call0D (BCall.ofP (order_ok _ _ _ _)) ?_ | refine qcall0D (BCall.ofP (order_ok _ _ _ _)) ⟨_,_,rfl,rfl⟩ ?_); rintro _ _ ⟨rfl,rfl⟩) | ((first | refine call0D (BCall.ofP (cellH_ok _ _ _ ?_)) ?_ | refine qcall0D (BCall.ofP (cellH_ok _ _ _ ?_)) ⟨_,_,rfl,rfl⟩ ?_); (exact sd); rintro _ _ ⟨rfl,rfl⟩) | ((first | refine call0D (BCall.ofP (cellL_ok _ _ _ ?_)) ?_ | refine qcall0D (BCall.ofP (cellL_ok _ _ _ ?_)) ⟨_,_,rfl,rfl⟩ ?_); (exact sd); rintro _ _ ⟨rfl,rfl⟩) | ((first | refine call0D (shapeOf2_ok _ _) ?_ | refine qcall0D (shapeOf2_ok _ _) ⟨_,_,rfl,rfl⟩ ?_); rintro _ _ ⟨rfl,rfl⟩) | ((first | refine call0D (BCall.ofP (isz_ok _ _ _ _ ?_ ?_)) ?_ | refine qcall0D (BCall.ofP (isz_ok _ _ _ _ ?_ ?_)) ⟨_,_,rfl,rfl⟩ ?_); (iterate 2 (exact sd)); rintro _ _ ⟨rfl,rfl⟩) | ((first | refine call0D (BCall.ofP (iVV22_ok _ _ _ _ _)) ?_ | refine qcall0D (BCall.ofP (iVV22_ok _ _ _ _ _)) ⟨_,_,rfl,rfl⟩ ?_); rintro _ _ ⟨rfl,rfl⟩)) <;> (try simp (disch := omega) only [push_cast,seval,hv]))
 | (refine awp_ret ⟨.inr rfl,[16000,16016],[(16000,1),(16016,1)],_,by decide,rfl,?_⟩; (try simp (disch := omega) only [push_cast,seval,↓allMem_nil,↓allMem_cons,↓List.map_cons,↓List.map_nil,hv]))))
    all_goals simp [MV,MVB,MVL]
  | true =>
    by_cases hk : 0 ≤ k ∧ k ≤ (s.length : Int) - 1
    · by_cases hm : 1 ≤ many
      · rw [fvB_in hv hk hm]
        obtain ⟨j,rfl⟩ := Int.eq_ofNat_of_zero_le hk.1
        have hj : j < s.length := by omega
        obtain ⟨r1,r2,r3,r4,r5,r6,r7,r8⟩ := pk_room (al := al) hv hj
        obtain ⟨hk1,hk2⟩ := hk
        have hfn := (fN_bound (al := al) hv).2
        have g := fL2_get (al := al) (s := s) (n := s.length) (k := j) hj
        have hfl := fL2_length al s s.length
        have htd := td2 (by omega) g.1 g.2
        have hif : j * 2 + 2 ≤ s.length * 2 := by omega
        have hh : fvh s j many = [many,s.getD j 0] := by simp [fvh]
        cases big with
        | false =>
          have hbb : fvb al false s j = fP al s j := by simp [fvb]
          have ht : fvt al false s = [fN al s,1] := by simp [fvt]
          rw [hh,hbb,ht]
          clear g r6 r7 r8
          generalize hP : fP al s j = P at *
          generalize hZ : s.getD j 0 = Z at *
          generalize hN : fN al s = N at *
          generalize hQ : fL2 al s s.length = Q at *
          have e1 : P + 1 - (P + 0) = 1 := by omega
          have e2 : P + 1 - P = 1 := by omega
          cases hvv : vV P [many,Z] [N,1] with
          | false =>
            (repeat' (first
 | (first | refine awp_seq ?_ | refine awp_block ?_)
 | ((first | refine awp_reg ?_ | refine awp_draw (mid := l7r3a) (post := l7r3b) mixed (by decide) ?_ | refine awp_drawSX (mid := l7r5a) (post := l7r5b) 43 [] mixed (by decide) ?_ | refine awp_condB ?_ | refine awp_skip ?_ | refine awp_exit ?_); simp (disch := omega) only [push_cast,seval,l7r0,l7r1,l7r2,l7r3a,l7r3b,l7r3,l7r4,l7r5a,l7r5b,l7r5,l7r6,l7r7,l7r8,hv,hk1,hk2,hm,hQ,hN,htd,hif,hfl,hZ,hvv,e1,e2,Int.add_zero,List.length_map])
 | ((first | refine condB_split (fun h => ?_) (fun h => ?_) | refine gIf_split (fun h => ?_) (fun h => ?_) | refine qIf_split (fun h => ?_) (fun h => ?_)) <;> (try simp only [h]) <;> (try simp only [bitvec_to_nat] at h) <;> (try simp only [h]) <;> (first | (exfalso; omega) | (focus (exfalso; simp_all; done)) | (simp (disch := omega) only [push_cast,seval,hv,hk1,hk2,hm,hQ,hN,htd,hif,hfl,hZ,hvv,e1,e2,Int.add_zero,List.length_map]) | skip))
 | ((first | refine callD_of false ?_ | refine qcallD_of false ?_); simp (disch := omega) only [push_cast,seval,hv,hk1,hk2,hm,hQ,hN,htd,hif,hfl,hZ,hvv,e1,e2,Int.add_zero,List.length_map])
 | ((first | ((first | refine call0D (BCall.ofP (iVFmt_ok _ _ _ _ ?_ ?_)) ?_ | refine qcall0D (BCall.ofP (iVFmt_ok _ _ _ _ ?_ ?_)) ⟨_,_,rfl,rfl⟩ ?_); (iterate 2 (exact sd)); rintro _ _ ⟨rfl,rfl⟩) | ((first | refine call0D (BCall.ofP (upTo_ok _ _)) ?_ | refine qcall0D (BCall.ofP (upTo_ok _ _)) ⟨_,_,rfl,rfl⟩ ?_); rintro _ _ ⟨rfl,rfl⟩) | ((first | refine call0D (ifields_ok _ _ _ _ ?_ ?_) ?_ | refine qcall0D (BCall.ofP (plain2 (ifields_ok _ _ _ _ ?_ ?_) (fL2_length _ _ _))) ⟨_,_,rfl,rfl⟩ ?_); (iterate 2 (exact sd)); rintro _ _ ⟨rfl,rfl⟩) | ((first | refine call0D (BCall.ofP (order_ok _ _ _ _)) ?_ | refine qcall0D (BCall.ofP (order_ok _ _ _ _)) ⟨_,_,rfl,rfl⟩ ?_); rintro _ _ ⟨rfl,rfl⟩) | ((first | refine call0D (BCall.ofP (cellH_ok _ _ _ ?_)) ?_ | refine qcall0D (BCall.ofP (cellH_ok _ _ _ ?_)) ⟨_,_,rfl,rfl⟩ ?_); (exact sd); rintro _ _ ⟨rfl,rfl⟩) | ((first | refine call0D (BCall.ofP (cellL_ok _ _ _ ?_)) ?_ | refine qcall0D (BCall.ofP (cellL_ok _ _ _ ?_)) ⟨_,_,rfl,rfl⟩ ?_); (exact sd); rintro _ _ ⟨rfl,rfl⟩) | ((first | refine call0D (shapeOf2_ok _ _) ?_ | refine qcall0D (shapeOf2_ok _ _) ⟨_,_,rfl,rfl⟩ ?_); rintro _ _ ⟨rfl,rfl⟩) | ((first | refine call0D (BCall.ofP (isz_ok _ _ _ _ ?_ ?_)) ?_ | refine qcall0D (BCall.ofP (isz_ok _ _ _ _ ?_ ?_)) ⟨_,_,rfl,rfl⟩ ?_); (iterate 2 (exact sd)); rintro _ _ ⟨rfl,rfl⟩) | ((first | refine call0D (BCall.ofP (iVV22_ok _ _ _ _ _)) ?_ | refine qcall0D (BCall.ofP (iVV22_ok _ _ _ _ _)) ⟨_,_,rfl,rfl⟩ ?_); rintro _ _ ⟨rfl,rfl⟩)) <;> (try simp (disch := omega) only [push_cast,seval,hv,hk1,hk2,hm,hQ,hN,htd,hif,hfl,hZ,hvv,e1,e2,Int.add_zero,List.length_map]))
 | (refine awp_ret ⟨.inr rfl,[16000,16016],[(16000,1),(16016,1)],_,by decide,rfl,?_⟩; (try simp (disch := omega) only [push_cast,seval,↓allMem_nil,↓allMem_cons,↓List.map_cons,↓List.map_nil,hv,hk1,hk2,hm,hQ,hN,htd,hif,hfl,hZ,hvv,e1,e2,Int.add_zero,List.length_map]))))
            all_goals simp [MV,MVB,MVL]
          | true =>
            (repeat' (first
 | (first | refine awp_seq ?_ | refine awp_block ?_)
 | ((first | refine awp_reg ?_ | refine awp_draw (mid := l7r3a) (post := l7r3b) mixed (by decide) ?_ | refine awp_drawSX (mid := l7r5a) (post := l7r5b) 43 [] mixed (by decide) ?_ | refine awp_condB ?_ | refine awp_skip ?_ | refine awp_exit ?_); simp (disch := omega) only [push_cast,seval,l7r0,l7r1,l7r2,l7r3a,l7r3b,l7r3,l7r4,l7r5a,l7r5b,l7r5,l7r6,l7r7,l7r8,hv,hk1,hk2,hm,hQ,hN,htd,hif,hfl,hZ,hvv,e1,e2,Int.add_zero,List.length_map])
 | ((first | refine condB_split (fun h => ?_) (fun h => ?_) | refine gIf_split (fun h => ?_) (fun h => ?_) | refine qIf_split (fun h => ?_) (fun h => ?_)) <;> (try simp only [h]) <;> (try simp only [bitvec_to_nat] at h) <;> (try simp only [h]) <;> (first | (exfalso; omega) | (focus (exfalso; simp_all; done)) | (simp (disch := omega) only [push_cast,seval,hv,hk1,hk2,hm,hQ,hN,htd,hif,hfl,hZ,hvv,e1,e2,Int.add_zero,List.length_map]) | skip))
 | ((first | refine callD_of false ?_ | refine qcallD_of false ?_); simp (disch := omega) only [push_cast,seval,hv,hk1,hk2,hm,hQ,hN,htd,hif,hfl,hZ,hvv,e1,e2,Int.add_zero,List.length_map])
 | ((first | ((first | refine call0D (BCall.ofP (iVFmt_ok _ _ _ _ ?_ ?_)) ?_ | refine qcall0D (BCall.ofP (iVFmt_ok _ _ _ _ ?_ ?_)) ⟨_,_,rfl,rfl⟩ ?_); (iterate 2 (exact sd)); rintro _ _ ⟨rfl,rfl⟩) | ((first | refine call0D (BCall.ofP (upTo_ok _ _)) ?_ | refine qcall0D (BCall.ofP (upTo_ok _ _)) ⟨_,_,rfl,rfl⟩ ?_); rintro _ _ ⟨rfl,rfl⟩) | ((first | refine call0D (ifields_ok _ _ _ _ ?_ ?_) ?_ | refine qcall0D (BCall.ofP (plain2 (ifields_ok _ _ _ _ ?_ ?_) (fL2_length _ _ _))) ⟨_,_,rfl,rfl⟩ ?_); (iterate 2 (exact sd)); rintro _ _ ⟨rfl,rfl⟩) | ((first | refine call0D (BCall.ofP (order_ok _ _ _ _)) ?_ | refine qcall0D (BCall.ofP (order_ok _ _ _ _)) ⟨_,_,rfl,rfl⟩ ?_); rintro _ _ ⟨rfl,rfl⟩) | ((first | refine call0D (BCall.ofP (cellH_ok _ _ _ ?_)) ?_ | refine qcall0D (BCall.ofP (cellH_ok _ _ _ ?_)) ⟨_,_,rfl,rfl⟩ ?_); (exact sd); rintro _ _ ⟨rfl,rfl⟩) | ((first | refine call0D (BCall.ofP (cellL_ok _ _ _ ?_)) ?_ | refine qcall0D (BCall.ofP (cellL_ok _ _ _ ?_)) ⟨_,_,rfl,rfl⟩ ?_); (exact sd); rintro _ _ ⟨rfl,rfl⟩) | ((first | refine call0D (shapeOf2_ok _ _) ?_ | refine qcall0D (shapeOf2_ok _ _) ⟨_,_,rfl,rfl⟩ ?_); rintro _ _ ⟨rfl,rfl⟩) | ((first | refine call0D (BCall.ofP (isz_ok _ _ _ _ ?_ ?_)) ?_ | refine qcall0D (BCall.ofP (isz_ok _ _ _ _ ?_ ?_)) ⟨_,_,rfl,rfl⟩ ?_); (iterate 2 (exact sd)); rintro _ _ ⟨rfl,rfl⟩) | ((first | refine call0D (BCall.ofP (iVV22_ok _ _ _ _ _)) ?_ | refine qcall0D (BCall.ofP (iVV22_ok _ _ _ _ _)) ⟨_,_,rfl,rfl⟩ ?_); rintro _ _ ⟨rfl,rfl⟩)) <;> (try simp (disch := omega) only [push_cast,seval,hv,hk1,hk2,hm,hQ,hN,htd,hif,hfl,hZ,hvv,e1,e2,Int.add_zero,List.length_map]))
 | (refine awp_ret ⟨.inr rfl,[704,832],[],_,by decide,rfl,?_⟩; (try simp (disch := omega) only [push_cast,seval,↓allMem_nil,↓allMem_cons,↓List.map_cons,↓List.map_nil,hv,hk1,hk2,hm,hQ,hN,htd,hif,hfl,hZ,hvv,e1,e2,Int.add_zero,List.length_map]))))
            all_goals simp [MV,MVB,MVL]
        | true =>
          have hbb : fvb al true s j = fP al s j + s.getD j 0 - 1 := by simp [fvb]; omega
          have ht : fvt al true s = [fN al s,-1] := by simp [fvt]
          rw [hh,hbb,ht]
          clear g r6 r7 r8
          generalize hP : fP al s j = P at *
          generalize hZ : s.getD j 0 = Z at *
          generalize hN : fN al s = N at *
          generalize hQ : fL2 al s s.length = Q at *
          have e0 : P + (Z - 1 - 0) = P + Z - 1 := by omega
          have e1 : P + (Z - 1 - 1) - (P + (Z - 1 - 0)) = -1 := by omega
          have e2 : P + (Z - 1 - 1) - (P + Z - 1) = -1 := by omega
          have e3 : P + (Z - 1 - 1) - (P + (Z - 1)) = -1 := by omega
          have e4 : P + (Z - 1) = P + Z - 1 := by omega
          cases hvv : vV (P + Z - 1) [many,Z] [N,-1] with
          | false =>
            (repeat' (first
 | (first | refine awp_seq ?_ | refine awp_block ?_)
 | ((first | refine awp_reg ?_ | refine awp_draw (mid := l7r3a) (post := l7r3b) mixed (by decide) ?_ | refine awp_drawSX (mid := l7r5a) (post := l7r5b) 43 [] mixed (by decide) ?_ | refine awp_condB ?_ | refine awp_skip ?_ | refine awp_exit ?_); simp (disch := omega) only [push_cast,seval,l7r0,l7r1,l7r2,l7r3a,l7r3b,l7r3,l7r4,l7r5a,l7r5b,l7r5,l7r6,l7r7,l7r8,hv,hk1,hk2,hm,hQ,hN,htd,hif,hfl,hZ,hvv,e1,e2,e3,e0,e4,List.length_map])
 | ((first | refine condB_split (fun h => ?_) (fun h => ?_) | refine gIf_split (fun h => ?_) (fun h => ?_) | refine qIf_split (fun h => ?_) (fun h => ?_)) <;> (try simp only [h]) <;> (try simp only [bitvec_to_nat] at h) <;> (try simp only [h]) <;> (first | (exfalso; omega) | (focus (exfalso; simp_all; done)) | (simp (disch := omega) only [push_cast,seval,hv,hk1,hk2,hm,hQ,hN,htd,hif,hfl,hZ,hvv,e1,e2,e3,e0,e4,List.length_map]) | skip))
 | ((first | refine callD_of false ?_ | refine qcallD_of false ?_); simp (disch := omega) only [push_cast,seval,hv,hk1,hk2,hm,hQ,hN,htd,hif,hfl,hZ,hvv,e1,e2,e3,e0,e4,List.length_map])
 | ((first | ((first | refine call0D (BCall.ofP (iVFmt_ok _ _ _ _ ?_ ?_)) ?_ | refine qcall0D (BCall.ofP (iVFmt_ok _ _ _ _ ?_ ?_)) ⟨_,_,rfl,rfl⟩ ?_); (iterate 2 (exact sd)); rintro _ _ ⟨rfl,rfl⟩) | ((first | refine call0D (BCall.ofP (upTo_ok _ _)) ?_ | refine qcall0D (BCall.ofP (upTo_ok _ _)) ⟨_,_,rfl,rfl⟩ ?_); rintro _ _ ⟨rfl,rfl⟩) | ((first | refine call0D (ifields_ok _ _ _ _ ?_ ?_) ?_ | refine qcall0D (BCall.ofP (plain2 (ifields_ok _ _ _ _ ?_ ?_) (fL2_length _ _ _))) ⟨_,_,rfl,rfl⟩ ?_); (iterate 2 (exact sd)); rintro _ _ ⟨rfl,rfl⟩) | ((first | refine call0D (BCall.ofP (order_ok _ _ _ _)) ?_ | refine qcall0D (BCall.ofP (order_ok _ _ _ _)) ⟨_,_,rfl,rfl⟩ ?_); rintro _ _ ⟨rfl,rfl⟩) | ((first | refine call0D (BCall.ofP (cellH_ok _ _ _ ?_)) ?_ | refine qcall0D (BCall.ofP (cellH_ok _ _ _ ?_)) ⟨_,_,rfl,rfl⟩ ?_); (exact sd); rintro _ _ ⟨rfl,rfl⟩) | ((first | refine call0D (BCall.ofP (cellL_ok _ _ _ ?_)) ?_ | refine qcall0D (BCall.ofP (cellL_ok _ _ _ ?_)) ⟨_,_,rfl,rfl⟩ ?_); (exact sd); rintro _ _ ⟨rfl,rfl⟩) | ((first | refine call0D (shapeOf2_ok _ _) ?_ | refine qcall0D (shapeOf2_ok _ _) ⟨_,_,rfl,rfl⟩ ?_); rintro _ _ ⟨rfl,rfl⟩) | ((first | refine call0D (BCall.ofP (isz_ok _ _ _ _ ?_ ?_)) ?_ | refine qcall0D (BCall.ofP (isz_ok _ _ _ _ ?_ ?_)) ⟨_,_,rfl,rfl⟩ ?_); (iterate 2 (exact sd)); rintro _ _ ⟨rfl,rfl⟩) | ((first | refine call0D (BCall.ofP (iVV22_ok _ _ _ _ _)) ?_ | refine qcall0D (BCall.ofP (iVV22_ok _ _ _ _ _)) ⟨_,_,rfl,rfl⟩ ?_); rintro _ _ ⟨rfl,rfl⟩)) <;> (try simp (disch := omega) only [push_cast,seval,hv,hk1,hk2,hm,hQ,hN,htd,hif,hfl,hZ,hvv,e1,e2,e3,e0,e4,List.length_map]))
 | (refine awp_ret ⟨.inr rfl,[16000,16016],[(16000,1),(16016,1)],_,by decide,rfl,?_⟩; (try simp (disch := omega) only [push_cast,seval,↓allMem_nil,↓allMem_cons,↓List.map_cons,↓List.map_nil,hv,hk1,hk2,hm,hQ,hN,htd,hif,hfl,hZ,hvv,e1,e2,e3,e0,e4,List.length_map]))))
            all_goals simp [MV,MVB,MVL]
          | true =>
            (repeat' (first
 | (first | refine awp_seq ?_ | refine awp_block ?_)
 | ((first | refine awp_reg ?_ | refine awp_draw (mid := l7r3a) (post := l7r3b) mixed (by decide) ?_ | refine awp_drawSX (mid := l7r5a) (post := l7r5b) 43 [] mixed (by decide) ?_ | refine awp_condB ?_ | refine awp_skip ?_ | refine awp_exit ?_); simp (disch := omega) only [push_cast,seval,l7r0,l7r1,l7r2,l7r3a,l7r3b,l7r3,l7r4,l7r5a,l7r5b,l7r5,l7r6,l7r7,l7r8,hv,hk1,hk2,hm,hQ,hN,htd,hif,hfl,hZ,hvv,e1,e2,e3,e0,e4,List.length_map])
 | ((first | refine condB_split (fun h => ?_) (fun h => ?_) | refine gIf_split (fun h => ?_) (fun h => ?_) | refine qIf_split (fun h => ?_) (fun h => ?_)) <;> (try simp only [h]) <;> (try simp only [bitvec_to_nat] at h) <;> (try simp only [h]) <;> (first | (exfalso; omega) | (focus (exfalso; simp_all; done)) | (simp (disch := omega) only [push_cast,seval,hv,hk1,hk2,hm,hQ,hN,htd,hif,hfl,hZ,hvv,e1,e2,e3,e0,e4,List.length_map]) | skip))
 | ((first | refine callD_of false ?_ | refine qcallD_of false ?_); simp (disch := omega) only [push_cast,seval,hv,hk1,hk2,hm,hQ,hN,htd,hif,hfl,hZ,hvv,e1,e2,e3,e0,e4,List.length_map])
 | ((first | ((first | refine call0D (BCall.ofP (iVFmt_ok _ _ _ _ ?_ ?_)) ?_ | refine qcall0D (BCall.ofP (iVFmt_ok _ _ _ _ ?_ ?_)) ⟨_,_,rfl,rfl⟩ ?_); (iterate 2 (exact sd)); rintro _ _ ⟨rfl,rfl⟩) | ((first | refine call0D (BCall.ofP (upTo_ok _ _)) ?_ | refine qcall0D (BCall.ofP (upTo_ok _ _)) ⟨_,_,rfl,rfl⟩ ?_); rintro _ _ ⟨rfl,rfl⟩) | ((first | refine call0D (ifields_ok _ _ _ _ ?_ ?_) ?_ | refine qcall0D (BCall.ofP (plain2 (ifields_ok _ _ _ _ ?_ ?_) (fL2_length _ _ _))) ⟨_,_,rfl,rfl⟩ ?_); (iterate 2 (exact sd)); rintro _ _ ⟨rfl,rfl⟩) | ((first | refine call0D (BCall.ofP (order_ok _ _ _ _)) ?_ | refine qcall0D (BCall.ofP (order_ok _ _ _ _)) ⟨_,_,rfl,rfl⟩ ?_); rintro _ _ ⟨rfl,rfl⟩) | ((first | refine call0D (BCall.ofP (cellH_ok _ _ _ ?_)) ?_ | refine qcall0D (BCall.ofP (cellH_ok _ _ _ ?_)) ⟨_,_,rfl,rfl⟩ ?_); (exact sd); rintro _ _ ⟨rfl,rfl⟩) | ((first | refine call0D (BCall.ofP (cellL_ok _ _ _ ?_)) ?_ | refine qcall0D (BCall.ofP (cellL_ok _ _ _ ?_)) ⟨_,_,rfl,rfl⟩ ?_); (exact sd); rintro _ _ ⟨rfl,rfl⟩) | ((first | refine call0D (shapeOf2_ok _ _) ?_ | refine qcall0D (shapeOf2_ok _ _) ⟨_,_,rfl,rfl⟩ ?_); rintro _ _ ⟨rfl,rfl⟩) | ((first | refine call0D (BCall.ofP (isz_ok _ _ _ _ ?_ ?_)) ?_ | refine qcall0D (BCall.ofP (isz_ok _ _ _ _ ?_ ?_)) ⟨_,_,rfl,rfl⟩ ?_); (iterate 2 (exact sd)); rintro _ _ ⟨rfl,rfl⟩) | ((first | refine call0D (BCall.ofP (iVV22_ok _ _ _ _ _)) ?_ | refine qcall0D (BCall.ofP (iVV22_ok _ _ _ _ _)) ⟨_,_,rfl,rfl⟩ ?_); rintro _ _ ⟨rfl,rfl⟩)) <;> (try simp (disch := omega) only [push_cast,seval,hv,hk1,hk2,hm,hQ,hN,htd,hif,hfl,hZ,hvv,e1,e2,e3,e0,e4,List.length_map]))
 | (refine awp_ret ⟨.inr rfl,[704,832],[],_,by decide,rfl,?_⟩; (try simp (disch := omega) only [push_cast,seval,↓allMem_nil,↓allMem_cons,↓List.map_cons,↓List.map_nil,hv,hk1,hk2,hm,hQ,hN,htd,hif,hfl,hZ,hvv,e1,e2,e3,e0,e4,List.length_map]))))
            all_goals simp [MV,MVB,MVL]
      · rw [fvB_m (by omega)]
        obtain ⟨hk1,hk2⟩ := hk
        (repeat' (first
 | (first | refine awp_seq ?_ | refine awp_block ?_)
 | ((first | refine awp_reg ?_ | refine awp_draw (mid := l7r3a) (post := l7r3b) mixed (by decide) ?_ | refine awp_draw (mid := l7r5a) (post := l7r5b) mixed (by decide) ?_ | refine awp_condB ?_ | refine awp_skip ?_ | refine awp_exit ?_); simp (disch := omega) only [push_cast,seval,l7r0,l7r1,l7r2,l7r3a,l7r3b,l7r3,l7r4,l7r5a,l7r5b,l7r5,l7r6,l7r7,l7r8,hv,hk1,hk2,hm])
 | ((first | refine condB_split (fun h => ?_) (fun h => ?_) | refine gIf_split (fun h => ?_) (fun h => ?_) | refine qIf_split (fun h => ?_) (fun h => ?_)) <;> (try simp only [h]) <;> (try simp only [bitvec_to_nat] at h) <;> (try simp only [h]) <;> (first | (exfalso; omega) | (focus (exfalso; simp_all; done)) | (simp (disch := omega) only [push_cast,seval,hv,hk1,hk2,hm]) | skip))
 | ((first | refine callD_of false ?_ | refine qcallD_of false ?_); simp (disch := omega) only [push_cast,seval,hv,hk1,hk2,hm])
 | ((first | ((first | refine call0D (BCall.ofP (iVFmt_ok _ _ _ _ ?_ ?_)) ?_ | refine qcall0D (BCall.ofP (iVFmt_ok _ _ _ _ ?_ ?_)) ⟨_,_,rfl,rfl⟩ ?_); (iterate 2 (exact sd)); rintro _ _ ⟨rfl,rfl⟩) | ((first | refine call0D (BCall.ofP (upTo_ok _ _)) ?_ | refine qcall0D (BCall.ofP (upTo_ok _ _)) ⟨_,_,rfl,rfl⟩ ?_); rintro _ _ ⟨rfl,rfl⟩) | ((first | refine call0D (ifields_ok _ _ _ _ ?_ ?_) ?_ | refine qcall0D (ifields_ok _ _ _ _ ?_ ?_) ⟨_,_,rfl,rfl⟩ ?_); (iterate 2 (exact sd)); rintro _ _ ⟨rfl,rfl⟩) | ((first | refine call0D (BCall.ofP (order_ok _ _ _ _)) ?_ | refine qcall0D (BCall.ofP (order_ok _ _ _ _)) ⟨_,_,rfl,rfl⟩ ?_); rintro _ _ ⟨rfl,rfl⟩) | ((first | refine call0D (BCall.ofP (cellH_ok _ _ _ ?_)) ?_ | refine qcall0D (BCall.ofP (cellH_ok _ _ _ ?_)) ⟨_,_,rfl,rfl⟩ ?_); (exact sd); rintro _ _ ⟨rfl,rfl⟩) | ((first | refine call0D (BCall.ofP (cellL_ok _ _ _ ?_)) ?_ | refine qcall0D (BCall.ofP (cellL_ok _ _ _ ?_)) ⟨_,_,rfl,rfl⟩ ?_); (exact sd); rintro _ _ ⟨rfl,rfl⟩) | ((first | refine call0D (shapeOf2_ok _ _) ?_ | refine qcall0D (shapeOf2_ok _ _) ⟨_,_,rfl,rfl⟩ ?_); rintro _ _ ⟨rfl,rfl⟩) | ((first | refine call0D (BCall.ofP (isz_ok _ _ _ _ ?_ ?_)) ?_ | refine qcall0D (BCall.ofP (isz_ok _ _ _ _ ?_ ?_)) ⟨_,_,rfl,rfl⟩ ?_); (iterate 2 (exact sd)); rintro _ _ ⟨rfl,rfl⟩) | ((first | refine call0D (BCall.ofP (iVV22_ok _ _ _ _ _)) ?_ | refine qcall0D (BCall.ofP (iVV22_ok _ _ _ _ _)) ⟨_,_,rfl,rfl⟩ ?_); rintro _ _ ⟨rfl,rfl⟩)) <;> (try simp (disch := omega) only [push_cast,seval,hv,hk1,hk2,hm]))
 | (refine awp_ret ⟨.inr rfl,[16000,16016],[(16000,1),(16016,1)],_,by decide,rfl,?_⟩; (try simp (disch := omega) only [push_cast,seval,↓allMem_nil,↓allMem_cons,↓List.map_cons,↓List.map_nil,hv,hk1,hk2,hm]))))
        all_goals simp [MV,MVB,MVL]
    · rw [fvB_k hk]
      have hw : (decide (0 ≤ k) && decide (k ≤ (s.length : Int) - 1)) = false := by
        rw [Bool.and_eq_false_iff,decide_eq_false_iff_not,decide_eq_false_iff_not]; omega
      (repeat' (first
 | (first | refine awp_seq ?_ | refine awp_block ?_)
 | ((first | refine awp_reg ?_ | refine awp_draw (mid := l7r3a) (post := l7r3b) mixed (by decide) ?_ | refine awp_draw (mid := l7r5a) (post := l7r5b) mixed (by decide) ?_ | refine awp_condB ?_ | refine awp_skip ?_ | refine awp_exit ?_); simp (disch := omega) only [push_cast,seval,l7r0,l7r1,l7r2,l7r3a,l7r3b,l7r3,l7r4,l7r5a,l7r5b,l7r5,l7r6,l7r7,l7r8,hv,hw])
 | ((first | refine condB_split (fun h => ?_) (fun h => ?_) | refine gIf_split (fun h => ?_) (fun h => ?_) | refine qIf_split (fun h => ?_) (fun h => ?_)) <;> (try simp only [h]) <;> (try simp only [bitvec_to_nat] at h) <;> (try simp only [h]) <;> (first | (exfalso; omega) | (focus (exfalso; simp_all; done)) | (simp (disch := omega) only [push_cast,seval,hv,hw]) | skip))
 | ((first | refine callD_of false ?_ | refine qcallD_of false ?_); simp (disch := omega) only [push_cast,seval,hv,hw])
 | ((first | ((first | refine call0D (BCall.ofP (iVFmt_ok _ _ _ _ ?_ ?_)) ?_ | refine qcall0D (BCall.ofP (iVFmt_ok _ _ _ _ ?_ ?_)) ⟨_,_,rfl,rfl⟩ ?_); (iterate 2 (exact sd)); rintro _ _ ⟨rfl,rfl⟩) | ((first | refine call0D (BCall.ofP (upTo_ok _ _)) ?_ | refine qcall0D (BCall.ofP (upTo_ok _ _)) ⟨_,_,rfl,rfl⟩ ?_); rintro _ _ ⟨rfl,rfl⟩) | ((first | refine call0D (ifields_ok _ _ _ _ ?_ ?_) ?_ | refine qcall0D (ifields_ok _ _ _ _ ?_ ?_) ⟨_,_,rfl,rfl⟩ ?_); (iterate 2 (exact sd)); rintro _ _ ⟨rfl,rfl⟩) | ((first | refine call0D (BCall.ofP (order_ok _ _ _ _)) ?_ | refine qcall0D (BCall.ofP (order_ok _ _ _ _)) ⟨_,_,rfl,rfl⟩ ?_); rintro _ _ ⟨rfl,rfl⟩) | ((first | refine call0D (BCall.ofP (cellH_ok _ _ _ ?_)) ?_ | refine qcall0D (BCall.ofP (cellH_ok _ _ _ ?_)) ⟨_,_,rfl,rfl⟩ ?_); (exact sd); rintro _ _ ⟨rfl,rfl⟩) | ((first | refine call0D (BCall.ofP (cellL_ok _ _ _ ?_)) ?_ | refine qcall0D (BCall.ofP (cellL_ok _ _ _ ?_)) ⟨_,_,rfl,rfl⟩ ?_); (exact sd); rintro _ _ ⟨rfl,rfl⟩) | ((first | refine call0D (shapeOf2_ok _ _) ?_ | refine qcall0D (shapeOf2_ok _ _) ⟨_,_,rfl,rfl⟩ ?_); rintro _ _ ⟨rfl,rfl⟩) | ((first | refine call0D (BCall.ofP (isz_ok _ _ _ _ ?_ ?_)) ?_ | refine qcall0D (BCall.ofP (isz_ok _ _ _ _ ?_ ?_)) ⟨_,_,rfl,rfl⟩ ?_); (iterate 2 (exact sd)); rintro _ _ ⟨rfl,rfl⟩) | ((first | refine call0D (BCall.ofP (iVV22_ok _ _ _ _ _)) ?_ | refine qcall0D (BCall.ofP (iVV22_ok _ _ _ _ _)) ⟨_,_,rfl,rfl⟩ ?_); rintro _ _ ⟨rfl,rfl⟩)) <;> (try simp (disch := omega) only [push_cast,seval,hv,hw]))
 | (refine awp_ret ⟨.inr rfl,[16000,16016],[(16000,1),(16016,1)],_,by decide,rfl,?_⟩; (try simp (disch := omega) only [push_cast,seval,↓allMem_nil,↓allMem_cons,↓List.map_cons,↓List.map_nil,hv,hw]))))
      all_goals simp [MV,MVB,MVL]

end Go.Proofs.YtmoepaingfjojaaDoor
