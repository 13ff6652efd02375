import Derived.Test.YtceopplkfomalaaCKv5
import Derived.Test.YtceopplkfomalaaCM1
set_option linter.unusedSimpArgs false
set_option linter.unusedVariables false
set_option maxRecDepth 4000
set_option maxHeartbeats 4000000
namespace Go.Proofs.Ytceopplkfomalaa
open VwM Vw Go

set_option maxHeartbeats 16000000 in
theorem sGa_ok (b : Int) (sh st : List Int) (n m : Nat) (hn : sh.length = n) (hm : st.length = m) (hb : n ≤ 1099511627776 ∧ m ≤ 1099511627776) : BCall Try.prog 11 [.agg [.int .i64 b,.rows false (IL sh) n,.rows false (IL st) m]] [] (OI (MVL (vV b sh st) (gaL b sh st))) := by
  subst hn hm
  obtain ⟨hb1,hb2⟩ := hb
  refine bcall_of (pins := []) (pin := 0) l11_eq rfl rfl rfl ?_
  cases hv : vV b sh st with
  | false =>
    (repeat' (first
 | (first | refine awp_seq ?_ | refine awp_block ?_)
 | ((first | refine awp_reg ?_ | refine awp_condB ?_ | refine awp_skip ?_ | refine awp_exit ?_); simp (disch := omega) only [push_cast,seval,l11r0,l11r1,l11r2,l11r3,l11r4,l11r5,l11r6,l11r7,l11r8,l11r9,l11r10,l11r11,l11r12,hv])
 | ((first | refine condB_split (fun h => ?_) (fun h => ?_) | refine gIf_split (fun h => ?_) (fun h => ?_) | refine qIf_split (fun h => ?_) (fun h => ?_)) <;> (try simp only [h]) <;> (try simp only [bitvec_to_nat] at h) <;> (try simp only [h]) <;> (first | (exfalso; omega) | (focus (exfalso; simp_all; done)) | (simp (disch := omega) only [push_cast,seval,hv]) | skip))
 | ((first | refine callD_of false ?_ | refine qcallD_of false ?_); simp (disch := omega) only [push_cast,seval,hv])
 | ((first | ((first | refine call0D (BCall.ofP (svalidView_ok _ _ _ _ _ ?_ ?_ ?_)) ?_ | refine qcall0D (BCall.ofP (svalidView_ok _ _ _ _ _ ?_ ?_ ?_)) ⟨_,_,rfl,rfl⟩ ?_); (iterate 3 (exact sd)); rintro _ _ ⟨rfl,rfl⟩) | ((first | refine call0D (sused_ok _ _ _ _ _ ?_ ?_ ?_) ?_ | refine qcall0D (sused_ok _ _ _ _ _ ?_ ?_ ?_) ⟨_,_,rfl,rfl⟩ ?_); (iterate 3 (exact sd)); rintro _ _ ⟨rfl,rfl⟩)) <;> (try simp (disch := omega) only [push_cast,seval,hv]))
 | (refine awp_ret ⟨.inr rfl,[16000],[(16000,1)],_,by decide,rfl,?_⟩; (try simp (disch := omega) only [push_cast,seval,↓allMem_nil,↓allMem_cons,↓List.map_cons,↓List.map_nil,hv]))))
    all_goals simp [OI,MVL]
  | true =>
    have hok := (okV_valid hv).1
    have hul := bothL_le (offs b sh st) (offs b sh st)
    have hus := bothL_sorted (offs b sh st) (offs b sh st)
    have huc := bothL_cells (offs b sh st) (offs b sh st)
    have hfin : (¬ pr sh = 0 → (0 < (bothL (offs b sh st) (offs b sh st)).length ∧ gpT (bothL (offs b sh st) (offs b sh st)) ((bothL (offs b sh st) (offs b sh st)).getD ((bothL (offs b sh st) (offs b sh st)).length - 1) 0).toNat = gaL b sh st)) ∧ (pr sh = 0 → bothL (offs b sh st) (offs b sh st) = [] ∧ gaL b sh st = []) := by
      refine ⟨fun hz => ⟨(gaL_spec hv hz).1.1,(gaL_spec hv hz).2⟩,fun hz => ⟨?_,gaL_zero hz⟩⟩
      have : offs b sh st = [] := List.eq_nil_of_length_eq_zero (by rw [offs_length]; omega)
      rw [this]; rfl
    have hend : gpT (bothL (offs b sh st) (offs b sh st)) ((bothL (offs b sh st) (offs b sh st)).getD ((bothL (offs b sh st) (offs b sh st)).length - 1) 0).toNat = gaL b sh st := by
      by_cases hz : pr sh = 0
      · obtain ⟨e1,e2⟩ := hfin.2 hz
        rw [e1,e2]; rfl
      · exact (hfin.1 hz).2
    generalize hG : gaL b sh st = G at *
    generalize hU : bothL (offs b sh st) (offs b sh st) = U at *
    clear hfin
    have hpos : ∀ i,i < U.length → 0 ≤ U.getD i 0 ∧ U.getD i 0 ≤ 59 := fun i hi => huc _ (mem_getD.2 ⟨i,hi,rfl⟩)
    (repeat' (first
 | (first | refine awp_seq ?_ | refine awp_block ?_)
 | ((first | refine awp_reg ?_ | refine awp_condB ?_ | refine awp_skip ?_ | refine awp_exit ?_); simp (disch := omega) only [push_cast,seval,l11r0,l11r1,l11r2,l11r3,l11r4,l11r5,l11r6,l11r7,l11r8,l11r9,l11r10,l11r11,l11r12,hv,hU])
 | ((first | refine condB_split (fun h => ?_) (fun h => ?_) | refine gIf_split (fun h => ?_) (fun h => ?_) | refine qIf_split (fun h => ?_) (fun h => ?_)) <;> (try simp only [h]) <;> (try simp only [bitvec_to_nat] at h) <;> (try simp only [h]) <;> (first | (exfalso; omega) | (focus (exfalso; simp_all; done)) | (simp (disch := omega) only [push_cast,seval,hv,hU]) | skip))
 | ((first | refine callD_of false ?_ | refine qcallD_of false ?_); simp (disch := omega) only [push_cast,seval,hv,hU])
 | ((first | ((first | refine call0D (BCall.ofP (svalidView_ok _ _ _ _ _ ?_ ?_ ?_)) ?_ | refine qcall0D (BCall.ofP (svalidView_ok _ _ _ _ _ ?_ ?_ ?_)) ⟨_,_,rfl,rfl⟩ ?_); (iterate 3 (exact sd)); rintro _ _ ⟨rfl,rfl⟩) | ((first | refine call0D (sused_ok _ _ _ _ _ ?_ ?_ ?_) ?_ | refine qcall0D (sused_ok _ _ _ _ _ ?_ ?_ ?_) ⟨_,_,rfl,rfl⟩ ?_); (iterate 3 (exact sd)); rintro _ _ ⟨rfl,rfl⟩)) <;> (try simp (disch := omega) only [push_cast,seval,hv,hU]))
 | (refine awp_ret ⟨.inr rfl,[160],[],_,by decide,rfl,?_⟩; (try simp (disch := omega) only [push_cast,seval,↓allMem_nil,↓allMem_cons,↓List.map_cons,↓List.map_nil,hv,hU]))))
    refine awp_loop (fun i : Nat => mkS [(3,.own 160 (gpT U (U.getD (i - 1) 0).toNat).length 1),(4,.own 192 U.length 1),(5,.int .i64 i)] [(160,IL (gpT U (U.getD (i - 1) 0).toNat)),(192,IL U)]) (fun i => 1 ≤ i ∧ (i ≤ U.length ∨ (i = 1 ∧ U.length = 0))) (fun i => U.length + 1 - i) 1 ⟨by omega,by omega⟩ ?_ ?_
    · have e0 : gpT U (U.getD (1 - 1) 0).toNat = [] := by
        by_cases h : 0 < U.length
        · have := hpos 0 h
          exact gpT_first (by rw [Nat.sub_self]; omega)
        · have : U = [] := List.eq_nil_of_length_eq_zero (by omega)
          rw [this]; rfl
      rw [e0]
      (refine Sub.of_lists ?_ ?_ ?_ ?_ ?_ <;> simp [Vw.mkS,Vw.lk,Vw.hk,AV.inn,innL,innL_ints,innL_append,innL_rep,-List.map_set,-List.getD_eq_getElem?_getD])
    · rintro i ⟨hi1,hi2⟩
      have hgl := gpT_le U (U.getD (i - 1) 0).toNat
      by_cases hlt : i < U.length
      · obtain ⟨j,rfl⟩ : ∃ j,i = j + 1 := ⟨i - 1,by omega⟩
        have hj1 : ((j + 1 : Nat) : Int) - 1 = (j : Int) := by omega
        rw [Nat.add_sub_cancel] at hgl ⊢
        have p1 := hpos j (by omega)
        have p2 := hpos (j + 1) hlt
        have p3 := asc_get hus (show j < j + 1 by omega) hlt
        have pm : U.getD j 0 ∈ U := mem_getD.2 ⟨j,by omega,rfl⟩
        have p0 := asc_get_le hus (Nat.zero_le j) (by omega)
        have ebt : ∀ x : Int,U.getD j 0 < x → x < U.getD (j + 1) 0 → ¬ x ∈ U := fun x h h' => asc_between hus hlt h h'
        obtain ⟨a,ha⟩ : ∃ a : Nat,U.getD j 0 = (a : Int) := ⟨(U.getD j 0).toNat,by omega⟩
        obtain ⟨d,hd⟩ : ∃ d : Nat,U.getD (j + 1) 0 = (d : Int) := ⟨(U.getD (j + 1) 0).toNat,by omega⟩
        have e1 : gpT U (a + 1) = gpT U a := gpT_no (fun h => h.2 (ha ▸ pm))
        rw [ha] at p0 p1 p3 ebt hgl ⊢
        rw [hd] at p2 p3 ebt
        rw [Int.toNat_natCast] at hgl ⊢
        have hjl : (j : Int) < (U.length : Int) := by omega
        have hda : a + 1 ≤ d := by omega
        have hw : IntKind.i64.wrap (U.getD j 0 + 1) = ((a + 1 : Nat) : Int) := by rw [ha,IntWalk.i64_in _ (by omega)]; omega
        (repeat' (first
 | (first | refine awp_seq ?_ | refine awp_block ?_)
 | ((first | refine awp_reg ?_ | refine awp_condB ?_ | refine awp_skip ?_ | refine awp_exit ?_); simp (disch := omega) only [push_cast,seval,l11r0,l11r1,l11r2,l11r3,l11r4,l11r5,l11r6,l11r7,l11r8,l11r9,l11r10,l11r11,l11r12,hj1,hw,ha,hd])
 | ((first | refine condB_split (fun h => ?_) (fun h => ?_) | refine gIf_split (fun h => ?_) (fun h => ?_) | refine qIf_split (fun h => ?_) (fun h => ?_)) <;> (try simp only [h]) <;> (try simp only [bitvec_to_nat] at h) <;> (try simp only [h]) <;> (first | (exfalso; omega) | (focus (exfalso; simp_all; done)) | (simp (disch := omega) only [push_cast,seval,hj1,hw,ha,hd]) | skip))
 | ((first | refine callD_of false ?_ | refine qcallD_of false ?_); simp (disch := omega) only [push_cast,seval,hj1,hw,ha,hd])
 | ((first | ((first | refine call0D (BCall.ofP (svalidView_ok _ _ _ _ _ ?_ ?_ ?_)) ?_ | refine qcall0D (BCall.ofP (svalidView_ok _ _ _ _ _ ?_ ?_ ?_)) ⟨_,_,rfl,rfl⟩ ?_); (iterate 3 (exact sd)); rintro _ _ ⟨rfl,rfl⟩) | ((first | refine call0D (sused_ok _ _ _ _ _ ?_ ?_ ?_) ?_ | refine qcall0D (sused_ok _ _ _ _ _ ?_ ?_ ?_) ⟨_,_,rfl,rfl⟩ ?_); (iterate 3 (exact sd)); rintro _ _ ⟨rfl,rfl⟩)) <;> (try simp (disch := omega) only [push_cast,seval,hj1,hw,ha,hd]))
 | (refine awp_ret ⟨.inr rfl,[160],[],_,by decide,rfl,?_⟩; (try simp (disch := omega) only [push_cast,seval,↓allMem_nil,↓allMem_cons,↓List.map_cons,↓List.map_nil,hj1,hw,ha,hd]))))
        refine awp_loop (fun x : Nat => mkS [(3,.own 160 (gpT U x).length 1),(4,.own 192 U.length 1),(5,.int .i64 ((j + 1 : Nat) : Int)),(6,.int .i64 x)] [(160,IL (gpT U x)),(192,IL U)]) (fun x => a + 1 ≤ x ∧ x ≤ d) (fun x => d - x) (a + 1) ⟨by omega,by omega⟩ ?_ ?_
        · rw [e1]
          (refine Sub.of_lists ?_ ?_ ?_ ?_ ?_ <;> simp [Vw.mkS,Vw.lk,Vw.hk,AV.inn,innL,innL_ints,innL_append,innL_rep,-List.map_set,-List.getD_eq_getElem?_getD])
          all_goals (rw [ha,IntWalk.i64_in _ (by omega)])
        · rintro x ⟨hx1,hx2⟩
          have hxl := gpT_le U x
          by_cases hxd : x < d
          · have e2 := gpT_yes (U := U) (x := x) (by omega) (ebt x (by omega) (by omega))
            (repeat' (first
 | (first | refine awp_seq ?_ | refine awp_block ?_)
 | ((first | refine awp_reg ?_ | refine awp_condB ?_ | refine awp_skip ?_ | refine awp_exit ?_); simp (disch := omega) only [push_cast,seval,l11r0,l11r1,l11r2,l11r3,l11r4,l11r5,l11r6,l11r7,l11r8,l11r9,l11r10,l11r11,l11r12,hd])
 | ((first | refine condB_split (fun h => ?_) (fun h => ?_) | refine gIf_split (fun h => ?_) (fun h => ?_) | refine qIf_split (fun h => ?_) (fun h => ?_)) <;> (try simp only [h]) <;> (try simp only [bitvec_to_nat] at h) <;> (try simp only [h]) <;> (first | (exfalso; omega) | (focus (exfalso; simp_all; done)) | (simp (disch := omega) only [push_cast,seval,hd]) | skip))
 | ((first | refine callD_of false ?_ | refine qcallD_of false ?_); simp (disch := omega) only [push_cast,seval,hd])
 | ((first | ((first | refine call0D (BCall.ofP (svalidView_ok _ _ _ _ _ ?_ ?_ ?_)) ?_ | refine qcall0D (BCall.ofP (svalidView_ok _ _ _ _ _ ?_ ?_ ?_)) ⟨_,_,rfl,rfl⟩ ?_); (iterate 3 (exact sd)); rintro _ _ ⟨rfl,rfl⟩) | ((first | refine call0D (sused_ok _ _ _ _ _ ?_ ?_ ?_) ?_ | refine qcall0D (sused_ok _ _ _ _ _ ?_ ?_ ?_) ⟨_,_,rfl,rfl⟩ ?_); (iterate 3 (exact sd)); rintro _ _ ⟨rfl,rfl⟩)) <;> (try simp (disch := omega) only [push_cast,seval,hd]))
 | (refine awp_ret ⟨.inr rfl,[160],[],_,by decide,rfl,?_⟩; (try simp (disch := omega) only [push_cast,seval,↓allMem_nil,↓allMem_cons,↓List.map_cons,↓List.map_nil,hd]))))
            refine ⟨x + 1,⟨by omega,by omega⟩,by omega,?_⟩
            (refine Sub.of_lists ?_ ?_ ?_ ?_ ?_ <;> simp [Vw.mkS,Vw.lk,Vw.hk,AV.inn,innL,innL_ints,innL_append,innL_rep,-List.map_set,-List.getD_eq_getElem?_getD,e2])
          · have e3 : x = d := by omega
            subst e3
            (repeat' (first
 | (first | refine awp_seq ?_ | refine awp_block ?_)
 | ((first | refine awp_reg ?_ | refine awp_condB ?_ | refine awp_skip ?_ | refine awp_exit ?_); simp (disch := omega) only [push_cast,seval,l11r0,l11r1,l11r2,l11r3,l11r4,l11r5,l11r6,l11r7,l11r8,l11r9,l11r10,l11r11,l11r12,hd])
 | ((first | refine condB_split (fun h => ?_) (fun h => ?_) | refine gIf_split (fun h => ?_) (fun h => ?_) | refine qIf_split (fun h => ?_) (fun h => ?_)) <;> (try simp only [h]) <;> (try simp only [bitvec_to_nat] at h) <;> (try simp only [h]) <;> (first | (exfalso; omega) | (focus (exfalso; simp_all; done)) | (simp (disch := omega) only [push_cast,seval,hd]) | skip))
 | ((first | refine callD_of false ?_ | refine qcallD_of false ?_); simp (disch := omega) only [push_cast,seval,hd])
 | ((first | ((first | refine call0D (BCall.ofP (svalidView_ok _ _ _ _ _ ?_ ?_ ?_)) ?_ | refine qcall0D (BCall.ofP (svalidView_ok _ _ _ _ _ ?_ ?_ ?_)) ⟨_,_,rfl,rfl⟩ ?_); (iterate 3 (exact sd)); rintro _ _ ⟨rfl,rfl⟩) | ((first | refine call0D (sused_ok _ _ _ _ _ ?_ ?_ ?_) ?_ | refine qcall0D (sused_ok _ _ _ _ _ ?_ ?_ ?_) ⟨_,_,rfl,rfl⟩ ?_); (iterate 3 (exact sd)); rintro _ _ ⟨rfl,rfl⟩)) <;> (try simp (disch := omega) only [push_cast,seval,hd]))
 | (refine awp_ret ⟨.inr rfl,[160],[],_,by decide,rfl,?_⟩; (try simp (disch := omega) only [push_cast,seval,↓allMem_nil,↓allMem_cons,↓List.map_cons,↓List.map_nil,hd]))))
            refine ⟨j + 1 + 1,⟨by omega,by omega⟩,by omega,?_⟩
            rw [Nat.add_sub_cancel,hd,Int.toNat_natCast]
            (refine Sub.of_lists ?_ ?_ ?_ ?_ ?_ <;> simp [Vw.mkS,Vw.lk,Vw.hk,AV.inn,innL,innL_ints,innL_append,innL_rep,-List.map_set,-List.getD_eq_getElem?_getD])
      · have e : i - 1 = U.length - 1 := by omega
        rw [e] at hgl ⊢
        rw [hend] at hgl ⊢
        by_cases h0 : U.length = 0
        · have : i = 1 := by omega
          subst this
          (repeat' (first
 | (first | refine awp_seq ?_ | refine awp_block ?_)
 | ((first | refine awp_reg ?_ | refine awp_condB ?_ | refine awp_skip ?_ | refine awp_exit ?_); simp (disch := omega) only [push_cast,seval,l11r0,l11r1,l11r2,l11r3,l11r4,l11r5,l11r6,l11r7,l11r8,l11r9,l11r10,l11r11,l11r12,h0])
 | ((first | refine condB_split (fun h => ?_) (fun h => ?_) | refine gIf_split (fun h => ?_) (fun h => ?_) | refine qIf_split (fun h => ?_) (fun h => ?_)) <;> (try simp only [h]) <;> (try simp only [bitvec_to_nat] at h) <;> (try simp only [h]) <;> (first | (exfalso; omega) | (focus (exfalso; simp_all; done)) | (simp (disch := omega) only [push_cast,seval,h0]) | skip))
 | ((first | refine callD_of false ?_ | refine qcallD_of false ?_); simp (disch := omega) only [push_cast,seval,h0])
 | ((first | ((first | refine call0D (BCall.ofP (svalidView_ok _ _ _ _ _ ?_ ?_ ?_)) ?_ | refine qcall0D (BCall.ofP (svalidView_ok _ _ _ _ _ ?_ ?_ ?_)) ⟨_,_,rfl,rfl⟩ ?_); (iterate 3 (exact sd)); rintro _ _ ⟨rfl,rfl⟩) | ((first | refine call0D (sused_ok _ _ _ _ _ ?_ ?_ ?_) ?_ | refine qcall0D (sused_ok _ _ _ _ _ ?_ ?_ ?_) ⟨_,_,rfl,rfl⟩ ?_); (iterate 3 (exact sd)); rintro _ _ ⟨rfl,rfl⟩)) <;> (try simp (disch := omega) only [push_cast,seval,h0]))
 | (refine awp_ret ⟨.inr rfl,[160],[],_,by decide,rfl,?_⟩; (try simp (disch := omega) only [push_cast,seval,↓allMem_nil,↓allMem_cons,↓List.map_cons,↓List.map_nil,h0]))))
          all_goals simp [OI,MVL]
        · (repeat' (first
 | (first | refine awp_seq ?_ | refine awp_block ?_)
 | ((first | refine awp_reg ?_ | refine awp_condB ?_ | refine awp_skip ?_ | refine awp_exit ?_); simp (disch := omega) only [push_cast,seval,l11r0,l11r1,l11r2,l11r3,l11r4,l11r5,l11r6,l11r7,l11r8,l11r9,l11r10,l11r11,l11r12])
 | ((first | refine condB_split (fun h => ?_) (fun h => ?_) | refine gIf_split (fun h => ?_) (fun h => ?_) | refine qIf_split (fun h => ?_) (fun h => ?_)) <;> (try simp only [h]) <;> (try simp only [bitvec_to_nat] at h) <;> (try simp only [h]) <;> (first | (exfalso; omega) | (focus (exfalso; simp_all; done)) | (simp (disch := omega) only [push_cast,seval]) | skip))
 | ((first | refine callD_of false ?_ | refine qcallD_of false ?_); simp (disch := omega) only [push_cast,seval])
 | ((first | ((first | refine call0D (BCall.ofP (svalidView_ok _ _ _ _ _ ?_ ?_ ?_)) ?_ | refine qcall0D (BCall.ofP (svalidView_ok _ _ _ _ _ ?_ ?_ ?_)) ⟨_,_,rfl,rfl⟩ ?_); (iterate 3 (exact sd)); rintro _ _ ⟨rfl,rfl⟩) | ((first | refine call0D (sused_ok _ _ _ _ _ ?_ ?_ ?_) ?_ | refine qcall0D (sused_ok _ _ _ _ _ ?_ ?_ ?_) ⟨_,_,rfl,rfl⟩ ?_); (iterate 3 (exact sd)); rintro _ _ ⟨rfl,rfl⟩)) <;> (try simp (disch := omega) only [push_cast,seval]))
 | (refine awp_ret ⟨.inr rfl,[160],[],_,by decide,rfl,?_⟩; (try simp (disch := omega) only [push_cast,seval,↓allMem_nil,↓allMem_cons,↓List.map_cons,↓List.map_nil]))))
          all_goals simp [OI,MVL]


set_option maxHeartbeats 16000000 in
theorem iGa_ok (b : Int) (sh st : List Int) (n m : Nat) (hn : sh.length = n) (hm : st.length = m) (hb : n ≤ 1099511627776 ∧ m ≤ 1099511627776) (hz : vV b sh st = true ∧ ¬ pr sh = 0) : BCall Try.prog 9 [.agg [.int .i64 b,.rows false (IL sh) n,.rows false (IL st) m]] [] (fun r H' => r = .osl 0 (spN b sh st * 1) 0 (gaL b sh st).length 1 (spN b sh st) ∧ H' = [IL (gaL b sh st ++ List.replicate (spN b sh st - (gaL b sh st).length) 0)]) := by
  subst hn hm
  obtain ⟨hb1,hb2⟩ := hb
  obtain ⟨hv,hz⟩ := hz
  have hok := okV_valid hv
  have hsb := sp_bound hv
  obtain ⟨⟨f1,f2,f3⟩,f4,f5⟩ := ga_facts hv hz
  have hbb : ∀ i : Nat,i < spN b sh st → -100 ≤ spS b sh st + (i : Int) * 1 ∧ spS b sh st + (i : Int) * 1 ≤ 100 := fun i hi => by omega
  have v := PR_valid (s := spS b sh st) (c := 1) (n := spN b sh st) (by omega) (by omega) hbb
  have v2 := cntN_PR (s := spS b sh st) (c := 1) (n := spN b sh st) (by omega) (by omega) hbb
  have v3 := nums_PR (spS b sh st) 1 (spN b sh st)
  have hlen := nums_length (spS b sh st) 1 (spN b sh st)
  have hkept := gap_kept (offs b sh st) (spS b sh st) (spN b sh st)
  have hgl := gaL_le hv
  have hga : gapL (offs b sh st) (spS b sh st) (spN b sh st) = gaL b sh st := rfl
  rw [hga] at hkept
  have hb3 := f3 _ f2
  have hex : spN b sh st ≤ 1000 ∧ ∃ i,i < (nums (spS b sh st) 1 (spN b sh st)).length ∧ (∀ k,k < i → (fun x => decide (0 < cnt (offs b sh st) x)) ((nums (spS b sh st) 1 (spN b sh st)).getD k 0) = false) ∧ (fun x => decide (0 < cnt (offs b sh st) x)) ((nums (spS b sh st) 1 (spN b sh st)).getD i 0) = true := by
    refine ⟨by omega,0,by rw [hlen]; omega,fun k hk => absurd hk (Nat.not_lt_zero _),?_⟩
    rw [nums_getD _ _ _ _ (by omega)]
    refine decide_eq_true (cnt_pos.2 ?_)
    rw [f4]
    simpa using f1
  refine bcall_of (pins := []) (pin := 0) l9_eq rfl rfl rfl ?_
  generalize hO : offs b sh st = O at *
  generalize hS : spS b sh st = s0 at *
  generalize hN : spN b sh st = n0 at *
  generalize hX : nums s0 1 n0 = X at *
  generalize hG : gaL b sh st = G at *
  generalize hA : pS s0 n0 = A at *
  generalize hB : pE s0 1 n0 = B at *
  generalize hD : pC 1 n0 = D at *
  have hGl : G.length ≤ n0 := by
    have := List.length_filter_le (fun x => !decide (0 < cnt O x)) X
    rw [hkept] at this; omega
  have hG2 : (G ++ List.replicate (n0 - G.length) (0 : Int)).length = n0 := by rw [List.length_append,List.length_replicate]; omega
  (repeat' (first
 | (first | refine awp_seq ?_ | refine awp_block ?_)
 | ((first | refine awp_reg ?_ | refine awp_condB ?_ | refine awp_skip ?_ | refine awp_exit ?_); simp (disch := omega) only [push_cast,seval,l9r0,l9r1,l9r2,l9r3,l9r4,hv,hO,hS,hN,hA,hB,hD,v2,v3,hlen,hkept,hG2,Nat.le_refl])
 | ((first | refine condB_split (fun h => ?_) (fun h => ?_) | refine gIf_split (fun h => ?_) (fun h => ?_) | refine qIf_split (fun h => ?_) (fun h => ?_)) <;> (try simp only [h]) <;> (try simp only [bitvec_to_nat] at h) <;> (try simp only [h]) <;> (first | (exfalso; omega) | (focus (exfalso; simp_all; done)) | (simp (disch := omega) only [push_cast,seval,hv,hO,hS,hN,hA,hB,hD,v2,v3,hlen,hkept,hG2,Nat.le_refl]) | skip))
 | ((first | (refine rawW_capnil (by kernel_rfl) (by first | ((simp (disch := omega) only [push_cast,seval,hv,hO,hS,hN,hA,hB,hD,v2,v3,hlen,hkept,hG2,Nat.le_refl]); done) | ((simp (disch := omega) only [push_cast,seval,hv,hO,hS,hN,hA,hB,hD,v2,v3,hlen,hkept,hG2,Nat.le_refl]); rfl)) ?_) | (refine rawW_appz (t := 23) (sz := 1) (zs := [.int .i64 0]) (by kernel_rfl) (by first | ((simp (disch := omega) only [push_cast,seval,hv,hO,hS,hN,hA,hB,hD,v2,v3,hlen,hkept,hG2,Nat.le_refl]); done) | ((simp (disch := omega) only [push_cast,seval,hv,hO,hS,hN,hA,hB,hD,v2,v3,hlen,hkept,hG2,Nat.le_refl]); rfl)) (by first | ((simp (disch := omega) only [push_cast,seval,hv,hO,hS,hN,hA,hB,hD,v2,v3,hlen,hkept,hG2,Nat.le_refl]); done) | ((simp (disch := omega) only [push_cast,seval,hv,hO,hS,hN,hA,hB,hD,v2,v3,hlen,hkept,hG2,Nat.le_refl]); rfl)) (by first | assumption | omega | (constructor <;> omega)) (by first | ((simp (disch := omega) only [push_cast,seval,hv,hO,hS,hN,hA,hB,hD,v2,v3,hlen,hkept,hG2,Nat.le_refl]); done) | ((simp (disch := omega) only [push_cast,seval,hv,hO,hS,hN,hA,hB,hD,v2,v3,hlen,hkept,hG2,Nat.le_refl]); exact ⟨rfl,by omega⟩)) ?_) | (refine rawW_appz (t := 89) (sz := 2) (zs := [.int .i64 0,.int .i64 0]) (by kernel_rfl) (by first | ((simp (disch := omega) only [push_cast,seval,hv,hO,hS,hN,hA,hB,hD,v2,v3,hlen,hkept,hG2,Nat.le_refl]); done) | ((simp (disch := omega) only [push_cast,seval,hv,hO,hS,hN,hA,hB,hD,v2,v3,hlen,hkept,hG2,Nat.le_refl]); rfl)) (by first | ((simp (disch := omega) only [push_cast,seval,hv,hO,hS,hN,hA,hB,hD,v2,v3,hlen,hkept,hG2,Nat.le_refl]); done) | ((simp (disch := omega) only [push_cast,seval,hv,hO,hS,hN,hA,hB,hD,v2,v3,hlen,hkept,hG2,Nat.le_refl]); rfl)) (by first | assumption | omega | (constructor <;> omega)) (by first | ((simp (disch := omega) only [push_cast,seval,hv,hO,hS,hN,hA,hB,hD,v2,v3,hlen,hkept,hG2,Nat.le_refl]); done) | ((simp (disch := omega) only [push_cast,seval,hv,hO,hS,hN,hA,hB,hD,v2,v3,hlen,hkept,hG2,Nat.le_refl]); exact ⟨rfl,by omega⟩)) ?_) | (refine rawW_fcall (f := 51) (by first | ((simp (disch := omega) only [push_cast,seval,hv,hO,hS,hN,hA,hB,hD,v2,v3,hlen,hkept,hG2,Nat.le_refl]); done) | ((simp (disch := omega) only [push_cast,seval,hv,hO,hS,hN,hA,hB,hD,v2,v3,hlen,hkept,hG2,Nat.le_refl]); rfl)) (by kernel_rfl) ?_) | (refine rawW_idxV (len := 3) (by kernel_rfl) (by first | ((simp (disch := omega) only [push_cast,seval,hv,hO,hS,hN,hA,hB,hD,v2,v3,hlen,hkept,hG2,Nat.le_refl]); done) | ((simp (disch := omega) only [push_cast,seval,hv,hO,hS,hN,hA,hB,hD,v2,v3,hlen,hkept,hG2,Nat.le_refl]); rfl)) (by first | ((simp (disch := omega) only [push_cast,seval,hv,hO,hS,hN,hA,hB,hD,v2,v3,hlen,hkept,hG2,Nat.le_refl]); done) | ((simp (disch := omega) only [push_cast,seval,hv,hO,hS,hN,hA,hB,hD,v2,v3,hlen,hkept,hG2,Nat.le_refl]); rfl)) (by first | assumption | omega | (constructor <;> omega)) (by first | rfl | ((simp (disch := omega) only [push_cast,seval,hv,hO,hS,hN,hA,hB,hD,v2,v3,hlen,hkept,hG2,Nat.le_refl]); rfl)) ?_) | (refine raw_makeFunc ?_)) <;> (try simp (disch := omega) only [push_cast,seval,hv,hO,hS,hN,hA,hB,hD,v2,v3,hlen,hkept,hG2,Nat.le_refl]))
 | ((first | ((with_reducible refine callD_ids (f := 48) [192,48,144] false ?_); simp (disch := omega) only [push_cast,seval,hv,hO,hS,hN,hA,hB,hD,v2,v3,hlen,hkept,hG2,Nat.le_refl]; (refine callND (by decide) (delG_ok _ _ _ _ _ ?_ (by assumption) ?_) (by first | ((simp (disch := omega) only [push_cast,seval,hv,hO,hS,hN,hA,hB,hD,v2,v3,hlen,hkept,hG2,Nat.le_refl]); done) | ((simp (disch := omega) only [push_cast,seval,hv,hO,hS,hN,hA,hB,hD,v2,v3,hlen,hkept,hG2,Nat.le_refl]); rfl)) ?_; (iterate 2 (exact sd)); rintro _ _ ⟨rfl,rfl⟩)) | ((with_reducible refine callD_ids (f := 48) [192,48,144] false ?_); simp (disch := omega) only [push_cast,seval,hv,hO,hS,hN,hA,hB,hD,v2,v3,hlen,hkept,hG2,Nat.le_refl]; (refine callND (by decide) (delG0_ok _ _ _ (by assumption)) (by first | ((simp (disch := omega) only [push_cast,seval,hv,hO,hS,hN,hA,hB,hD,v2,v3,hlen,hkept,hG2,Nat.le_refl]); done) | ((simp (disch := omega) only [push_cast,seval,hv,hO,hS,hN,hA,hB,hD,v2,v3,hlen,hkept,hG2,Nat.le_refl]); rfl)) ?_; rintro _ _ ⟨rfl,rfl⟩))) <;> (try simp (disch := omega) only [push_cast,seval,hv,hO,hS,hN,hA,hB,hD,v2,v3,hlen,hkept,hG2,Nat.le_refl]))
 | ((first | refine callD_of false ?_ | refine qcallD_of false ?_); simp (disch := omega) only [push_cast,seval,hv,hO,hS,hN,hA,hB,hD,v2,v3,hlen,hkept,hG2,Nat.le_refl])
 | ((first | ((first | refine call0D (BCall.ofP (iValidView_ok _ _ _ _ _ ?_ ?_ ?_)) ?_ | refine qcall0D (BCall.ofP (iValidView_ok _ _ _ _ _ ?_ ?_ ?_)) ⟨_,_,rfl,rfl⟩ ?_); (iterate 3 (exact sd)); rintro _ _ ⟨rfl,rfl⟩) | (refine call0D (tallyOf1_ok _ _ _ _ _ ?_ ?_ ?_) ?_; (iterate 3 (exact sd)); rintro _ _ ⟨rfl,L,c,hT,rfl⟩) | (refine call0D (tallyOf_ok _ _ ?_ ?_) ?_; (iterate 2 (exact sd)); rintro _ _ ⟨rfl,L,c,hT,rfl⟩) | ((first | refine call0D (BCall.ofP (span_ok _ _ _ _ _ ?_ ?_ ?_)) ?_ | refine qcall0D (BCall.ofP (span_ok _ _ _ _ _ ?_ ?_ ?_)) ⟨_,_,rfl,rfl⟩ ?_); (iterate 3 (exact sd)); rintro _ _ ⟨rfl,rfl⟩) | ((first | refine call0D (inumbers_ok _ _ _ ?_) ?_ | refine qcall0D (inumbers_ok _ _ _ ?_) ⟨_,_,rfl,rfl⟩ ?_); (exact sd); rintro _ _ ⟨rfl,rfl⟩)) <;> (try simp (disch := omega) only [push_cast,seval,hv,hO,hS,hN,hA,hB,hD,v2,v3,hlen,hkept,hG2,Nat.le_refl]))
 | (refine awp_ret ⟨.inr rfl,[192],[],_,by decide,rfl,?_⟩; (try simp (disch := omega) only [push_cast,seval,↓allMem_nil,↓allMem_cons,↓List.map_cons,↓List.map_nil,hv,hO,hS,hN,hA,hB,hD,v2,v3,hlen,hkept,hG2,Nat.le_refl]))))
  all_goals (try exact ⟨rfl,rfl⟩)
set_option maxHeartbeats 16000000 in
theorem iGa0_ok (b : Int) (sh st : List Int) (n m : Nat) (hn : sh.length = n) (hm : st.length = m) (hb : n ≤ 1099511627776 ∧ m ≤ 1099511627776) (hz : vV b sh st = false ∨ pr sh = 0) : BCall Try.prog 9 [.agg [.int .i64 b,.rows false (IL sh) n,.rows false (IL st) m]] [] (OI (MVL (vV b sh st) (gaL b sh st))) := by
  have hM : MVL (vV b sh st) (gaL b sh st) = [] := by
    rcases hz with e | e
    · rw [e]; rfl
    · unfold MVL; rw [gaL_zero e]; split <;> rfl
  rw [hM]
  clear hM
  subst hn hm
  obtain ⟨hb1,hb2⟩ := hb
  refine bcall_of (pins := []) (pin := 0) l9_eq rfl rfl rfl ?_
  cases hv : vV b sh st with
  | false =>
    (repeat' (first
 | (first | refine awp_seq ?_ | refine awp_block ?_)
 | ((first | refine awp_reg ?_ | refine awp_condB ?_ | refine awp_skip ?_ | refine awp_exit ?_); simp (disch := omega) only [push_cast,seval,l9r0,l9r1,l9r2,l9r3,l9r4,hv])
 | ((first | refine condB_split (fun h => ?_) (fun h => ?_) | refine gIf_split (fun h => ?_) (fun h => ?_) | refine qIf_split (fun h => ?_) (fun h => ?_)) <;> (try simp only [h]) <;> (try simp only [bitvec_to_nat] at h) <;> (try simp only [h]) <;> (first | (exfalso; omega) | (focus (exfalso; simp_all; done)) | (simp (disch := omega) only [push_cast,seval,hv]) | skip))
 | ((first | (refine rawW_capnil (by kernel_rfl) (by first | ((simp (disch := omega) only [push_cast,seval,hv]); done) | ((simp (disch := omega) only [push_cast,seval,hv]); rfl)) ?_) | (refine rawW_appz (t := 23) (sz := 1) (zs := [.int .i64 0]) (by kernel_rfl) (by first | ((simp (disch := omega) only [push_cast,seval,hv]); done) | ((simp (disch := omega) only [push_cast,seval,hv]); rfl)) (by first | ((simp (disch := omega) only [push_cast,seval,hv]); done) | ((simp (disch := omega) only [push_cast,seval,hv]); rfl)) (by first | assumption | omega | (constructor <;> omega)) (by first | ((simp (disch := omega) only [push_cast,seval,hv]); done) | ((simp (disch := omega) only [push_cast,seval,hv]); exact ⟨rfl,by omega⟩)) ?_) | (refine rawW_appz (t := 89) (sz := 2) (zs := [.int .i64 0,.int .i64 0]) (by kernel_rfl) (by first | ((simp (disch := omega) only [push_cast,seval,hv]); done) | ((simp (disch := omega) only [push_cast,seval,hv]); rfl)) (by first | ((simp (disch := omega) only [push_cast,seval,hv]); done) | ((simp (disch := omega) only [push_cast,seval,hv]); rfl)) (by first | assumption | omega | (constructor <;> omega)) (by first | ((simp (disch := omega) only [push_cast,seval,hv]); done) | ((simp (disch := omega) only [push_cast,seval,hv]); exact ⟨rfl,by omega⟩)) ?_) | (refine rawW_fcall (f := 51) (by first | ((simp (disch := omega) only [push_cast,seval,hv]); done) | ((simp (disch := omega) only [push_cast,seval,hv]); rfl)) (by kernel_rfl) ?_) | (refine rawW_idxV (len := 3) (by kernel_rfl) (by first | ((simp (disch := omega) only [push_cast,seval,hv]); done) | ((simp (disch := omega) only [push_cast,seval,hv]); rfl)) (by first | ((simp (disch := omega) only [push_cast,seval,hv]); done) | ((simp (disch := omega) only [push_cast,seval,hv]); rfl)) (by first | assumption | omega | (constructor <;> omega)) (by first | rfl | ((simp (disch := omega) only [push_cast,seval,hv]); rfl)) ?_) | (refine raw_makeFunc ?_)) <;> (try simp (disch := omega) only [push_cast,seval,hv]))
 | ((first | ((with_reducible refine callD_ids (f := 48) [192] false ?_); simp (disch := omega) only [push_cast,seval,hv]; (refine callND (by decide) (delG_ok _ _ _ _ _ ?_ (by assumption) ?_) (by first | ((simp (disch := omega) only [push_cast,seval,hv]); done) | ((simp (disch := omega) only [push_cast,seval,hv]); rfl)) ?_; (iterate 2 (exact sd)); rintro _ _ ⟨rfl,rfl⟩)) | ((with_reducible refine callD_ids (f := 48) [192] false ?_); simp (disch := omega) only [push_cast,seval,hv]; (refine callND (by decide) (delG0_ok _ _ _ (by assumption)) (by first | ((simp (disch := omega) only [push_cast,seval,hv]); done) | ((simp (disch := omega) only [push_cast,seval,hv]); rfl)) ?_; rintro _ _ ⟨rfl,rfl⟩))) <;> (try simp (disch := omega) only [push_cast,seval,hv]))
 | ((first | refine callD_of false ?_ | refine qcallD_of false ?_); simp (disch := omega) only [push_cast,seval,hv])
 | ((first | ((first | refine call0D (BCall.ofP (iValidView_ok _ _ _ _ _ ?_ ?_ ?_)) ?_ | refine qcall0D (BCall.ofP (iValidView_ok _ _ _ _ _ ?_ ?_ ?_)) ⟨_,_,rfl,rfl⟩ ?_); (iterate 3 (exact sd)); rintro _ _ ⟨rfl,rfl⟩) | (refine call0D (tallyOf1_ok _ _ _ _ _ ?_ ?_ ?_) ?_; (iterate 3 (exact sd)); rintro _ _ ⟨rfl,L,c,hT,rfl⟩) | (refine call0D (tallyOf_ok _ _ ?_ ?_) ?_; (iterate 2 (exact sd)); rintro _ _ ⟨rfl,L,c,hT,rfl⟩) | ((first | refine call0D (BCall.ofP (span_ok _ _ _ _ _ ?_ ?_ ?_)) ?_ | refine qcall0D (BCall.ofP (span_ok _ _ _ _ _ ?_ ?_ ?_)) ⟨_,_,rfl,rfl⟩ ?_); (iterate 3 (exact sd)); rintro _ _ ⟨rfl,rfl⟩) | ((first | refine call0D (inumbers_ok _ _ _ ?_) ?_ | refine qcall0D (inumbers_ok _ _ _ ?_) ⟨_,_,rfl,rfl⟩ ?_); (exact sd); rintro _ _ ⟨rfl,rfl⟩)) <;> (try simp (disch := omega) only [push_cast,seval,hv]))
 | (refine awp_ret ⟨.inr rfl,[16000],[(16000,1)],_,by decide,rfl,?_⟩; (try simp (disch := omega) only [push_cast,seval,↓allMem_nil,↓allMem_cons,↓List.map_cons,↓List.map_nil,hv]))))
    all_goals simp [OI]
  | true =>
    have hz : pr sh = 0 := by rcases hz with h | h; (rw [hv] at h; cases h); exact h
    have hok := okV_valid hv
    have hN : spN b sh st = 0 := if_pos hz
    have hS : spS b sh st = 0 := if_pos hz
    have hbb : ∀ i : Nat,i < 0 → -100 ≤ (0 : Int) + (i : Int) * 1 ∧ (0 : Int) + (i : Int) * 1 ≤ 100 := fun i hi => absurd hi (Nat.not_lt_zero _)
    have v := PR_valid (s := 0) (c := 1) (n := 0) (by omega) (by omega) hbb
    have v2 := cntN_PR (s := 0) (c := 1) (n := 0) (by omega) (by omega) hbb
    have v3 : nums (pS 0 ((0 : Nat) : Int)) (pC 1 ((0 : Nat) : Int)) 0 = [] := rfl
    have hi0 : IL [] = [] := rfl
    generalize hA : pS 0 ((0 : Nat) : Int) = A at *
    generalize hB : pE 0 1 ((0 : Nat) : Int) = B at *
    generalize hD : pC 1 ((0 : Nat) : Int) = D at *
    (repeat' (first
 | (first | refine awp_seq ?_ | refine awp_block ?_)
 | ((first | refine awp_reg ?_ | refine awp_condB ?_ | refine awp_skip ?_ | refine awp_exit ?_); simp (disch := omega) only [push_cast,seval,l9r0,l9r1,l9r2,l9r3,l9r4,hv,hS,hN,hA,hB,hD,v2,v3,hi0,List.length_nil])
 | ((first | refine condB_split (fun h => ?_) (fun h => ?_) | refine gIf_split (fun h => ?_) (fun h => ?_) | refine qIf_split (fun h => ?_) (fun h => ?_)) <;> (try simp only [h]) <;> (try simp only [bitvec_to_nat] at h) <;> (try simp only [h]) <;> (first | (exfalso; omega) | (focus (exfalso; simp_all; done)) | (simp (disch := omega) only [push_cast,seval,hv,hS,hN,hA,hB,hD,v2,v3,hi0,List.length_nil]) | skip))
 | ((first | (refine rawW_capnil (by kernel_rfl) (by first | ((simp (disch := omega) only [push_cast,seval,hv,hS,hN,hA,hB,hD,v2,v3,hi0,List.length_nil]); done) | ((simp (disch := omega) only [push_cast,seval,hv,hS,hN,hA,hB,hD,v2,v3,hi0,List.length_nil]); rfl)) ?_) | (refine rawW_appz (t := 23) (sz := 1) (zs := [.int .i64 0]) (by kernel_rfl) (by first | ((simp (disch := omega) only [push_cast,seval,hv,hS,hN,hA,hB,hD,v2,v3,hi0,List.length_nil]); done) | ((simp (disch := omega) only [push_cast,seval,hv,hS,hN,hA,hB,hD,v2,v3,hi0,List.length_nil]); rfl)) (by first | ((simp (disch := omega) only [push_cast,seval,hv,hS,hN,hA,hB,hD,v2,v3,hi0,List.length_nil]); done) | ((simp (disch := omega) only [push_cast,seval,hv,hS,hN,hA,hB,hD,v2,v3,hi0,List.length_nil]); rfl)) (by first | assumption | omega | (constructor <;> omega)) (by first | ((simp (disch := omega) only [push_cast,seval,hv,hS,hN,hA,hB,hD,v2,v3,hi0,List.length_nil]); done) | ((simp (disch := omega) only [push_cast,seval,hv,hS,hN,hA,hB,hD,v2,v3,hi0,List.length_nil]); exact ⟨rfl,by omega⟩)) ?_) | (refine rawW_appz (t := 89) (sz := 2) (zs := [.int .i64 0,.int .i64 0]) (by kernel_rfl) (by first | ((simp (disch := omega) only [push_cast,seval,hv,hS,hN,hA,hB,hD,v2,v3,hi0,List.length_nil]); done) | ((simp (disch := omega) only [push_cast,seval,hv,hS,hN,hA,hB,hD,v2,v3,hi0,List.length_nil]); rfl)) (by first | ((simp (disch := omega) only [push_cast,seval,hv,hS,hN,hA,hB,hD,v2,v3,hi0,List.length_nil]); done) | ((simp (disch := omega) only [push_cast,seval,hv,hS,hN,hA,hB,hD,v2,v3,hi0,List.length_nil]); rfl)) (by first | assumption | omega | (constructor <;> omega)) (by first | ((simp (disch := omega) only [push_cast,seval,hv,hS,hN,hA,hB,hD,v2,v3,hi0,List.length_nil]); done) | ((simp (disch := omega) only [push_cast,seval,hv,hS,hN,hA,hB,hD,v2,v3,hi0,List.length_nil]); exact ⟨rfl,by omega⟩)) ?_) | (refine rawW_fcall (f := 51) (by first | ((simp (disch := omega) only [push_cast,seval,hv,hS,hN,hA,hB,hD,v2,v3,hi0,List.length_nil]); done) | ((simp (disch := omega) only [push_cast,seval,hv,hS,hN,hA,hB,hD,v2,v3,hi0,List.length_nil]); rfl)) (by kernel_rfl) ?_) | (refine rawW_idxV (len := 3) (by kernel_rfl) (by first | ((simp (disch := omega) only [push_cast,seval,hv,hS,hN,hA,hB,hD,v2,v3,hi0,List.length_nil]); done) | ((simp (disch := omega) only [push_cast,seval,hv,hS,hN,hA,hB,hD,v2,v3,hi0,List.length_nil]); rfl)) (by first | ((simp (disch := omega) only [push_cast,seval,hv,hS,hN,hA,hB,hD,v2,v3,hi0,List.length_nil]); done) | ((simp (disch := omega) only [push_cast,seval,hv,hS,hN,hA,hB,hD,v2,v3,hi0,List.length_nil]); rfl)) (by first | assumption | omega | (constructor <;> omega)) (by first | rfl | ((simp (disch := omega) only [push_cast,seval,hv,hS,hN,hA,hB,hD,v2,v3,hi0,List.length_nil]); rfl)) ?_) | (refine raw_makeFunc ?_)) <;> (try simp (disch := omega) only [push_cast,seval,hv,hS,hN,hA,hB,hD,v2,v3,hi0,List.length_nil]))
 | ((first | ((with_reducible refine callD_ids (f := 48) [192,48,144] false ?_); simp (disch := omega) only [push_cast,seval,hv,hS,hN,hA,hB,hD,v2,v3,hi0,List.length_nil]; (refine callND (by decide) (delG_ok _ _ _ _ _ ?_ (by assumption) ?_) (by first | ((simp (disch := omega) only [push_cast,seval,hv,hS,hN,hA,hB,hD,v2,v3,hi0,List.length_nil]); done) | ((simp (disch := omega) only [push_cast,seval,hv,hS,hN,hA,hB,hD,v2,v3,hi0,List.length_nil]); rfl)) ?_; (iterate 2 (exact sd)); rintro _ _ ⟨rfl,rfl⟩)) | ((with_reducible refine callD_ids (f := 48) [192,48,144] false ?_); simp (disch := omega) only [push_cast,seval,hv,hS,hN,hA,hB,hD,v2,v3,hi0,List.length_nil]; (refine callND (by decide) (delG0_ok _ _ _ (by assumption)) (by first | ((simp (disch := omega) only [push_cast,seval,hv,hS,hN,hA,hB,hD,v2,v3,hi0,List.length_nil]); done) | ((simp (disch := omega) only [push_cast,seval,hv,hS,hN,hA,hB,hD,v2,v3,hi0,List.length_nil]); rfl)) ?_; rintro _ _ ⟨rfl,rfl⟩))) <;> (try simp (disch := omega) only [push_cast,seval,hv,hS,hN,hA,hB,hD,v2,v3,hi0,List.length_nil]))
 | ((first | refine callD_of false ?_ | refine qcallD_of false ?_); simp (disch := omega) only [push_cast,seval,hv,hS,hN,hA,hB,hD,v2,v3,hi0,List.length_nil])
 | ((first | ((first | refine call0D (BCall.ofP (iValidView_ok _ _ _ _ _ ?_ ?_ ?_)) ?_ | refine qcall0D (BCall.ofP (iValidView_ok _ _ _ _ _ ?_ ?_ ?_)) ⟨_,_,rfl,rfl⟩ ?_); (iterate 3 (exact sd)); rintro _ _ ⟨rfl,rfl⟩) | (refine call0D (tallyOf1_ok _ _ _ _ _ ?_ ?_ ?_) ?_; (iterate 3 (exact sd)); rintro _ _ ⟨rfl,L,c,hT,rfl⟩) | (refine call0D (tallyOf_ok _ _ ?_ ?_) ?_; (iterate 2 (exact sd)); rintro _ _ ⟨rfl,L,c,hT,rfl⟩) | ((first | refine call0D (BCall.ofP (span_ok _ _ _ _ _ ?_ ?_ ?_)) ?_ | refine qcall0D (BCall.ofP (span_ok _ _ _ _ _ ?_ ?_ ?_)) ⟨_,_,rfl,rfl⟩ ?_); (iterate 3 (exact sd)); rintro _ _ ⟨rfl,rfl⟩) | ((first | refine call0D (inumbers_ok _ _ _ ?_) ?_ | refine qcall0D (inumbers_ok _ _ _ ?_) ⟨_,_,rfl,rfl⟩ ?_); (exact sd); rintro _ _ ⟨rfl,rfl⟩)) <;> (try simp (disch := omega) only [push_cast,seval,hv,hS,hN,hA,hB,hD,v2,v3,hi0,List.length_nil]))
 | (refine awp_ret ⟨.inr rfl,[192],[],_,by decide,rfl,?_⟩; (try simp (disch := omega) only [push_cast,seval,↓allMem_nil,↓allMem_cons,↓List.map_cons,↓List.map_nil,hv,hS,hN,hA,hB,hD,v2,v3,hi0,List.length_nil]))))
    all_goals (try exact ⟨rfl,rfl⟩)

end Go.Proofs.Ytceopplkfomalaa
