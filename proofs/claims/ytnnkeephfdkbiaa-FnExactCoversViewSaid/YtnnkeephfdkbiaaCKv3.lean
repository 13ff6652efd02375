import Derived.Test.YtnnkeephfdkbiaaCKv2
import Derived.Test.YtnnkeephfdkbiaaCM1
set_option linter.unusedSimpArgs false
set_option linter.unusedVariables false
set_option maxRecDepth 4000
set_option maxHeartbeats 4000000
namespace Go.Proofs.Ytnnkeephfdkbiaa
open VwM Vw Go

set_option maxHeartbeats 8000000 in
theorem sRp_ok (b : Int) (sh st : List Int) (n m : Nat) (hn : sh.length = n) (hm : st.length = m) (hb : n ≤ 1099511627776 ∧ m ≤ 1099511627776) : BCall Try.prog 29 [.agg [.int .i64 b,.rows false (IL sh) n,.rows false (IL st) m]] [] (OI (MVL (vV b sh st) (repL (offs b sh st)))) := by
  subst hn hm
  obtain ⟨hb1,hb2⟩ := hb
  refine bcall_of (pins := []) (pin := 0) l29_eq rfl rfl rfl ?_
  cases hv : vV b sh st with
  | false =>
    (repeat' (first
 | (first | refine awp_seq ?_ | refine awp_block ?_)
 | ((first | refine awp_reg ?_ | refine awp_condB ?_ | refine awp_skip ?_ | refine awp_exit ?_); simp (disch := omega) only [push_cast,seval,l29r0,l29r1,l29r2,l29r3,l29r4,l29r5,l29r6,l29r7,l29r8,l29r9,l29r10,l29r11,hv])
 | ((first | refine condB_split (fun h => ?_) (fun h => ?_) | refine gIf_split (fun h => ?_) (fun h => ?_) | refine qIf_split (fun h => ?_) (fun h => ?_)) <;> (try simp only [h]) <;> (try simp only [bitvec_to_nat] at h) <;> (try simp only [h]) <;> (first | (exfalso; omega) | (focus (exfalso; simp_all; done)) | (simp (disch := omega) only [push_cast,seval,hv]) | skip))
 | ((first | refine callD_of false ?_ | refine qcallD_of false ?_); simp (disch := omega) only [push_cast,seval,hv])
 | ((first | ((first | refine call0D (BCall.ofP (svalidView_ok _ _ _ _ _ ?_ ?_ ?_)) ?_ | refine qcall0D (BCall.ofP (svalidView_ok _ _ _ _ _ ?_ ?_ ?_)) ⟨_,_,rfl,rfl⟩ ?_); (iterate 3 (exact sd)); rintro _ _ ⟨rfl,rfl⟩) | ((first | refine call0D (soffsets_ok _ _ _ _ _ ?_ ?_ ?_) ?_ | refine qcall0D (soffsets_ok _ _ _ _ _ ?_ ?_ ?_) ⟨_,_,rfl,rfl⟩ ?_); (iterate 3 (exact sd)); rintro _ _ ⟨rfl,rfl⟩) | ((first | refine call0D (BCall.ofP (placeIn_ok _ _ _ ?_ ?_)) ?_ | refine qcall0D (BCall.ofP (placeIn_ok _ _ _ ?_ ?_)) ⟨_,_,rfl,rfl⟩ ?_); (iterate 2 (exact sd)); rintro _ _ ⟨rfl,rfl⟩)) <;> (try simp (disch := omega) only [push_cast,seval,hv]))
 | (refine awp_ret ⟨.inr rfl,[16000],[(16000,1)],_,by decide,rfl,?_⟩; (try simp (disch := omega) only [push_cast,seval,↓allMem_nil,↓allMem_cons,↓List.map_cons,↓List.map_nil,hv]))))
    all_goals simp [OI,MVL]
  | true =>
    have hok := (okV_valid hv).1
    have hol := offs_length b sh st
    have hp := hok.1.2
    generalize hO : offs b sh st = O at *
    (repeat' (first
 | (first | refine awp_seq ?_ | refine awp_block ?_)
 | ((first | refine awp_reg ?_ | refine awp_condB ?_ | refine awp_skip ?_ | refine awp_exit ?_); simp (disch := omega) only [push_cast,seval,l29r0,l29r1,l29r2,l29r3,l29r4,l29r5,l29r6,l29r7,l29r8,l29r9,l29r10,l29r11,hv,hO])
 | ((first | refine condB_split (fun h => ?_) (fun h => ?_) | refine gIf_split (fun h => ?_) (fun h => ?_) | refine qIf_split (fun h => ?_) (fun h => ?_)) <;> (try simp only [h]) <;> (try simp only [bitvec_to_nat] at h) <;> (try simp only [h]) <;> (first | (exfalso; omega) | (focus (exfalso; simp_all; done)) | (simp (disch := omega) only [push_cast,seval,hv,hO]) | skip))
 | ((first | refine callD_of false ?_ | refine qcallD_of false ?_); simp (disch := omega) only [push_cast,seval,hv,hO])
 | ((first | ((first | refine call0D (BCall.ofP (svalidView_ok _ _ _ _ _ ?_ ?_ ?_)) ?_ | refine qcall0D (BCall.ofP (svalidView_ok _ _ _ _ _ ?_ ?_ ?_)) ⟨_,_,rfl,rfl⟩ ?_); (iterate 3 (exact sd)); rintro _ _ ⟨rfl,rfl⟩) | ((first | refine call0D (soffsets_ok _ _ _ _ _ ?_ ?_ ?_) ?_ | refine qcall0D (soffsets_ok _ _ _ _ _ ?_ ?_ ?_) ⟨_,_,rfl,rfl⟩ ?_); (iterate 3 (exact sd)); rintro _ _ ⟨rfl,rfl⟩) | ((first | refine call0D (BCall.ofP (placeIn_ok _ _ _ ?_ ?_)) ?_ | refine qcall0D (BCall.ofP (placeIn_ok _ _ _ ?_ ?_)) ⟨_,_,rfl,rfl⟩ ?_); (iterate 2 (exact sd)); rintro _ _ ⟨rfl,rfl⟩)) <;> (try simp (disch := omega) only [push_cast,seval,hv,hO]))
 | (refine awp_ret ⟨.inr rfl,[160],[],_,by decide,rfl,?_⟩; (try simp (disch := omega) only [push_cast,seval,↓allMem_nil,↓allMem_cons,↓List.map_cons,↓List.map_nil,hv,hO]))))
    refine awp_loop (fun k : Nat => mkS [(3,.own 160 (atT (cnt O) 2 k).length 1),(4,.own 192 O.length 1),(5,.int .i64 k)] [(160,IL (atT (cnt O) 2 k)),(192,IL O)]) (fun k => k ≤ 60) (fun k => 60 - k) 0 (Nat.zero_le _) ?_ ?_
    · (refine Sub.of_lists ?_ ?_ ?_ ?_ ?_ <;> simp [Vw.mkS,Vw.lk,Vw.hk,AV.inn,innL,innL_ints,innL_append,innL_rep,-List.map_set,-List.getD_eq_getElem?_getD,atT_zero])
    · intro k hk
      have hle := atT_le (cnt O) 2 k
      by_cases hlt : k < 60
      · by_cases hm : (k : Int) ∈ O
        · have e1 : placeI O (k : Int) = ((O.idxOf (k : Int) : Nat) : Int) := if_pos hm
          have hix := List.idxOf_lt_length_of_mem hm
          have h2 := cnt_two hm
          generalize hi : O.idxOf (k : Int) = i at *
          have hcut := IL_cut O (i + 1)
          by_cases h3 : (k : Int) ∈ O.drop (i + 1)
          · have e2 : placeI (O.drop (i + 1)) (k : Int) = (((O.drop (i + 1)).idxOf (k : Int) : Nat) : Int) := if_pos h3
            have e3 := atT_yes (f := cnt O) (t := 2) (k := k) (h2.2 h3)
            (repeat' (first
 | (first | refine awp_seq ?_ | refine awp_block ?_)
 | ((first | refine awp_reg ?_ | refine awp_condB ?_ | refine awp_skip ?_ | refine awp_exit ?_); simp (disch := omega) only [push_cast,seval,l29r0,l29r1,l29r2,l29r3,l29r4,l29r5,l29r6,l29r7,l29r8,l29r9,l29r10,l29r11,e1,hcut,e2])
 | ((first | refine condB_split (fun h => ?_) (fun h => ?_) | refine gIf_split (fun h => ?_) (fun h => ?_) | refine qIf_split (fun h => ?_) (fun h => ?_)) <;> (try simp only [h]) <;> (try simp only [bitvec_to_nat] at h) <;> (try simp only [h]) <;> (first | (exfalso; omega) | (focus (exfalso; simp_all; done)) | (simp (disch := omega) only [push_cast,seval,e1,hcut,e2]) | skip))
 | ((first | refine callD_of false ?_ | refine qcallD_of false ?_); simp (disch := omega) only [push_cast,seval,e1,hcut,e2])
 | ((first | ((first | refine call0D (BCall.ofP (svalidView_ok _ _ _ _ _ ?_ ?_ ?_)) ?_ | refine qcall0D (BCall.ofP (svalidView_ok _ _ _ _ _ ?_ ?_ ?_)) ⟨_,_,rfl,rfl⟩ ?_); (iterate 3 (exact sd)); rintro _ _ ⟨rfl,rfl⟩) | ((first | refine call0D (soffsets_ok _ _ _ _ _ ?_ ?_ ?_) ?_ | refine qcall0D (soffsets_ok _ _ _ _ _ ?_ ?_ ?_) ⟨_,_,rfl,rfl⟩ ?_); (iterate 3 (exact sd)); rintro _ _ ⟨rfl,rfl⟩) | ((first | refine call0D (BCall.ofP (placeIn_ok _ _ _ ?_ ?_)) ?_ | refine qcall0D (BCall.ofP (placeIn_ok _ _ _ ?_ ?_)) ⟨_,_,rfl,rfl⟩ ?_); (iterate 2 (exact sd)); rintro _ _ ⟨rfl,rfl⟩)) <;> (try simp (disch := omega) only [push_cast,seval,e1,hcut,e2]))
 | (refine awp_ret ⟨.inr rfl,[160],[],_,by decide,rfl,?_⟩; (try simp (disch := omega) only [push_cast,seval,↓allMem_nil,↓allMem_cons,↓List.map_cons,↓List.map_nil,e1,hcut,e2]))))
            all_goals first | (refine ⟨k + 1,by omega,by omega,?_⟩; (refine Sub.of_lists ?_ ?_ ?_ ?_ ?_ <;> simp [Vw.mkS,Vw.lk,Vw.hk,AV.inn,innL,innL_ints,innL_append,innL_rep,-List.map_set,-List.getD_eq_getElem?_getD,e3])) | skip
          · have e2 : placeI (O.drop (i + 1)) (k : Int) = -1 := if_neg h3
            have e3 := atT_no (f := cnt O) (t := 2) (k := k) (fun h => h3 (h2.1 h))
            (repeat' (first
 | (first | refine awp_seq ?_ | refine awp_block ?_)
 | ((first | refine awp_reg ?_ | refine awp_condB ?_ | refine awp_skip ?_ | refine awp_exit ?_); simp (disch := omega) only [push_cast,seval,l29r0,l29r1,l29r2,l29r3,l29r4,l29r5,l29r6,l29r7,l29r8,l29r9,l29r10,l29r11,e1,hcut,e2])
 | ((first | refine condB_split (fun h => ?_) (fun h => ?_) | refine gIf_split (fun h => ?_) (fun h => ?_) | refine qIf_split (fun h => ?_) (fun h => ?_)) <;> (try simp only [h]) <;> (try simp only [bitvec_to_nat] at h) <;> (try simp only [h]) <;> (first | (exfalso; omega) | (focus (exfalso; simp_all; done)) | (simp (disch := omega) only [push_cast,seval,e1,hcut,e2]) | skip))
 | ((first | refine callD_of false ?_ | refine qcallD_of false ?_); simp (disch := omega) only [push_cast,seval,e1,hcut,e2])
 | ((first | ((first | refine call0D (BCall.ofP (svalidView_ok _ _ _ _ _ ?_ ?_ ?_)) ?_ | refine qcall0D (BCall.ofP (svalidView_ok _ _ _ _ _ ?_ ?_ ?_)) ⟨_,_,rfl,rfl⟩ ?_); (iterate 3 (exact sd)); rintro _ _ ⟨rfl,rfl⟩) | ((first | refine call0D (soffsets_ok _ _ _ _ _ ?_ ?_ ?_) ?_ | refine qcall0D (soffsets_ok _ _ _ _ _ ?_ ?_ ?_) ⟨_,_,rfl,rfl⟩ ?_); (iterate 3 (exact sd)); rintro _ _ ⟨rfl,rfl⟩) | ((first | refine call0D (BCall.ofP (placeIn_ok _ _ _ ?_ ?_)) ?_ | refine qcall0D (BCall.ofP (placeIn_ok _ _ _ ?_ ?_)) ⟨_,_,rfl,rfl⟩ ?_); (iterate 2 (exact sd)); rintro _ _ ⟨rfl,rfl⟩)) <;> (try simp (disch := omega) only [push_cast,seval,e1,hcut,e2]))
 | (refine awp_ret ⟨.inr rfl,[160],[],_,by decide,rfl,?_⟩; (try simp (disch := omega) only [push_cast,seval,↓allMem_nil,↓allMem_cons,↓List.map_cons,↓List.map_nil,e1,hcut,e2]))))
            all_goals first | (refine ⟨k + 1,by omega,by omega,?_⟩; (refine Sub.of_lists ?_ ?_ ?_ ?_ ?_ <;> simp [Vw.mkS,Vw.lk,Vw.hk,AV.inn,innL,innL_ints,innL_append,innL_rep,-List.map_set,-List.getD_eq_getElem?_getD,e3])) | skip
        · have e1 : placeI O (k : Int) = -1 := if_neg hm
          have e3 := atT_no (f := cnt O) (t := 2) (k := k) (fun h => hm (cnt_pos.1 (by omega)))
          (repeat' (first
 | (first | refine awp_seq ?_ | refine awp_block ?_)
 | ((first | refine awp_reg ?_ | refine awp_condB ?_ | refine awp_skip ?_ | refine awp_exit ?_); simp (disch := omega) only [push_cast,seval,l29r0,l29r1,l29r2,l29r3,l29r4,l29r5,l29r6,l29r7,l29r8,l29r9,l29r10,l29r11,e1])
 | ((first | refine condB_split (fun h => ?_) (fun h => ?_) | refine gIf_split (fun h => ?_) (fun h => ?_) | refine qIf_split (fun h => ?_) (fun h => ?_)) <;> (try simp only [h]) <;> (try simp only [bitvec_to_nat] at h) <;> (try simp only [h]) <;> (first | (exfalso; omega) | (focus (exfalso; simp_all; done)) | (simp (disch := omega) only [push_cast,seval,e1]) | skip))
 | ((first | refine callD_of false ?_ | refine qcallD_of false ?_); simp (disch := omega) only [push_cast,seval,e1])
 | ((first | ((first | refine call0D (BCall.ofP (svalidView_ok _ _ _ _ _ ?_ ?_ ?_)) ?_ | refine qcall0D (BCall.ofP (svalidView_ok _ _ _ _ _ ?_ ?_ ?_)) ⟨_,_,rfl,rfl⟩ ?_); (iterate 3 (exact sd)); rintro _ _ ⟨rfl,rfl⟩) | ((first | refine call0D (soffsets_ok _ _ _ _ _ ?_ ?_ ?_) ?_ | refine qcall0D (soffsets_ok _ _ _ _ _ ?_ ?_ ?_) ⟨_,_,rfl,rfl⟩ ?_); (iterate 3 (exact sd)); rintro _ _ ⟨rfl,rfl⟩) | ((first | refine call0D (BCall.ofP (placeIn_ok _ _ _ ?_ ?_)) ?_ | refine qcall0D (BCall.ofP (placeIn_ok _ _ _ ?_ ?_)) ⟨_,_,rfl,rfl⟩ ?_); (iterate 2 (exact sd)); rintro _ _ ⟨rfl,rfl⟩)) <;> (try simp (disch := omega) only [push_cast,seval,e1]))
 | (refine awp_ret ⟨.inr rfl,[160],[],_,by decide,rfl,?_⟩; (try simp (disch := omega) only [push_cast,seval,↓allMem_nil,↓allMem_cons,↓List.map_cons,↓List.map_nil,e1]))))
          all_goals first | (refine ⟨k + 1,by omega,by omega,?_⟩; (refine Sub.of_lists ?_ ?_ ?_ ?_ ?_ <;> simp [Vw.mkS,Vw.lk,Vw.hk,AV.inn,innL,innL_ints,innL_append,innL_rep,-List.map_set,-List.getD_eq_getElem?_getD,e3])) | skip
      · have e : k = 60 := by omega
        subst e
        rw [atT_all] at hle ⊢
        (repeat' (first
 | (first | refine awp_seq ?_ | refine awp_block ?_)
 | ((first | refine awp_reg ?_ | refine awp_condB ?_ | refine awp_skip ?_ | refine awp_exit ?_); simp (disch := omega) only [push_cast,seval,l29r0,l29r1,l29r2,l29r3,l29r4,l29r5,l29r6,l29r7,l29r8,l29r9,l29r10,l29r11])
 | ((first | refine condB_split (fun h => ?_) (fun h => ?_) | refine gIf_split (fun h => ?_) (fun h => ?_) | refine qIf_split (fun h => ?_) (fun h => ?_)) <;> (try simp only [h]) <;> (try simp only [bitvec_to_nat] at h) <;> (try simp only [h]) <;> (first | (exfalso; omega) | (focus (exfalso; simp_all; done)) | (simp (disch := omega) only [push_cast,seval]) | skip))
 | ((first | refine callD_of false ?_ | refine qcallD_of false ?_); simp (disch := omega) only [push_cast,seval])
 | ((first | ((first | refine call0D (BCall.ofP (svalidView_ok _ _ _ _ _ ?_ ?_ ?_)) ?_ | refine qcall0D (BCall.ofP (svalidView_ok _ _ _ _ _ ?_ ?_ ?_)) ⟨_,_,rfl,rfl⟩ ?_); (iterate 3 (exact sd)); rintro _ _ ⟨rfl,rfl⟩) | ((first | refine call0D (soffsets_ok _ _ _ _ _ ?_ ?_ ?_) ?_ | refine qcall0D (soffsets_ok _ _ _ _ _ ?_ ?_ ?_) ⟨_,_,rfl,rfl⟩ ?_); (iterate 3 (exact sd)); rintro _ _ ⟨rfl,rfl⟩) | ((first | refine call0D (BCall.ofP (placeIn_ok _ _ _ ?_ ?_)) ?_ | refine qcall0D (BCall.ofP (placeIn_ok _ _ _ ?_ ?_)) ⟨_,_,rfl,rfl⟩ ?_); (iterate 2 (exact sd)); rintro _ _ ⟨rfl,rfl⟩)) <;> (try simp (disch := omega) only [push_cast,seval]))
 | (refine awp_ret ⟨.inr rfl,[160],[],_,by decide,rfl,?_⟩; (try simp (disch := omega) only [push_cast,seval,↓allMem_nil,↓allMem_cons,↓List.map_cons,↓List.map_nil]))))
        all_goals simp [OI,MVL]


set_option maxHeartbeats 8000000 in
theorem lRepeatsOf_ok (b : Int) (sh st : List Int) (hn : sh.length ≤ 9223372036854775807) (hm : st.length ≤ 9223372036854775807) : PCall Try.prog 8 [RV b sh st] (fun r => r = .bool true) := by
  refine pcall_of l8_eq rfl ?_
  have hl := atL_len (cnt (offs b sh st)) 2
  have hwl : (MVL (vV b sh st) (repL (offs b sh st))).length ≤ 60 := by unfold MVL; split <;> first | omega | simp
  generalize hw : MVL (vV b sh st) (repL (offs b sh st)) = w at *
  by_cases h : 1048576 - (sh.length : Int) - st.length < 0
  · (repeat' (first
 | (first | refine awp_seq ?_ | refine awp_block ?_)
 | ((first | refine awp_reg ?_ | refine awp_draw (mid := l8r10a) (post := l8r10b) mixed (by decide) ?_ | refine awp_condB ?_ | refine awp_skip ?_ | refine awp_exit ?_); simp (disch := omega) only [push_cast,seval,l8r0,l8r1,l8r2,l8r3,l8r4,l8r5,l8r6,l8r7,l8r8,l8r9,l8r10a,l8r10b,l8r10,l8r11,l8r12,l8r13,l8r14,l8r15,l8r16,l8r17,l8r18,l8r19,l8r20,l8r21,l8r22,l8r23,l8r24,l8r25,l8r26,l8r27,l8r28,l8r29,l8r30,l8r31,l8r32,l8r33,h])
 | ((first | refine condB_split (fun h => ?_) (fun h => ?_) | refine gIf_split (fun h => ?_) (fun h => ?_) | refine qIf_split (fun h => ?_) (fun h => ?_)) <;> (try simp only [h]) <;> (try simp only [bitvec_to_nat] at h) <;> (try simp only [h]) <;> (first | (exfalso; omega) | (focus (exfalso; simp_all; done)) | (simp (disch := omega) only [push_cast,seval,h]) | skip))
 | ((first | ((with_reducible refine callD_ids (f := 18) [320,321] false ?_); simp (disch := omega) only [push_cast,seval,h]; (refine call2D (id := 320) (id' := 321) (by decide) (markViewW_ok _ _ _ _ _ _ ?_ ?_ ?_) (by first | ((simp (disch := omega) only [push_cast,seval,h]); done) | ((simp (disch := omega) only [push_cast,seval,h]); rfl)) (by first | ((simp (disch := omega) only [push_cast,seval,h]); done) | ((simp (disch := omega) only [push_cast,seval,h]); rfl)) ?_; (iterate 3 (exact sd)); rintro _ _ ⟨rfl,rfl⟩)) | ((with_reducible refine callD_ids (f := 18) [544,545] false ?_); simp (disch := omega) only [push_cast,seval,h]; (refine call2D (id := 544) (id' := 545) (by decide) (markViewW_ok _ _ _ _ _ _ ?_ ?_ ?_) (by first | ((simp (disch := omega) only [push_cast,seval,h]); done) | ((simp (disch := omega) only [push_cast,seval,h]); rfl)) (by first | ((simp (disch := omega) only [push_cast,seval,h]); done) | ((simp (disch := omega) only [push_cast,seval,h]); rfl)) ?_; (iterate 3 (exact sd)); rintro _ _ ⟨rfl,rfl⟩)) | ((with_reducible refine qcallI_of (f := 19) [352] false ?_); simp (disch := omega) only [push_cast,seval,h]; (refine qcall1D (id := 352) (markIntS_ok _ _ _ ?_ ?_) (by first | ((simp (disch := omega) only [push_cast,seval,h]); done) | ((simp (disch := omega) only [push_cast,seval,h]); rfl)) (by decide) ⟨_,_,rfl,rfl⟩ ?_; (iterate 2 (exact sd)); rintro _ _ ⟨rfl,rfl⟩)) | ((with_reducible refine qcallI_of (f := 19) [720] false ?_); simp (disch := omega) only [push_cast,seval,h]; (refine qcall1D (id := 720) (markIntS_ok _ _ _ ?_ ?_) (by first | ((simp (disch := omega) only [push_cast,seval,h]); done) | ((simp (disch := omega) only [push_cast,seval,h]); rfl)) (by decide) ⟨_,_,rfl,rfl⟩ ?_; (iterate 2 (exact sd)); rintro _ _ ⟨rfl,rfl⟩)) | ((with_reducible refine callD_ids (f := 19) [352] false ?_); simp (disch := omega) only [push_cast,seval,h]; (refine call1D (id := 352) (markIntS_ok _ _ _ ?_ ?_) (by first | ((simp (disch := omega) only [push_cast,seval,h]); done) | ((simp (disch := omega) only [push_cast,seval,h]); rfl)) ?_; (iterate 2 (exact sd)); rintro _ _ ⟨rfl,rfl⟩)) | ((with_reducible refine callD_ids (f := 19) [720] false ?_); simp (disch := omega) only [push_cast,seval,h]; (refine call1D (id := 720) (markIntS_ok _ _ _ ?_ ?_) (by first | ((simp (disch := omega) only [push_cast,seval,h]); done) | ((simp (disch := omega) only [push_cast,seval,h]); rfl)) ?_; (iterate 2 (exact sd)); rintro _ _ ⟨rfl,rfl⟩))) <;> (try simp (disch := omega) only [push_cast,seval,h]))
 | ((first | refine callD_of false ?_ | refine qcallD_of false ?_); simp (disch := omega) only [push_cast,seval,h])
 | ((first | ((first | refine call0D (BCall.ofP (szView_ok _ _ _ _ _ _ ?_ ?_)) ?_ | refine qcall0D (BCall.ofP (szView_ok _ _ _ _ _ _ ?_ ?_)) ⟨_,_,rfl,rfl⟩ ?_); (iterate 2 (exact sd)); rintro _ _ ⟨rfl,rfl⟩) | ((first | refine call0D (toView_ok _ _ _ _ _ ?_ ?_ ?_) ?_ | refine qcall0D (toView_ok _ _ _ _ _ ?_ ?_ ?_) ⟨_,_,rfl,rfl⟩ ?_); (iterate 3 (exact sd)); rintro _ _ ⟨rfl,rfl⟩) | ((first | refine call0D (sRp_ok _ _ _ _ _ ?_ ?_ ?_) ?_ | refine qcall0D (sRp_ok _ _ _ _ _ ?_ ?_ ?_) ⟨_,_,rfl,rfl⟩ ?_); (iterate 3 (exact sd)); rintro _ _ ⟨rfl,rfl⟩) | ((first | refine call0D (iRp_ok _ _ _ _ _ ?_ ?_ ?_) ?_ | refine qcall0D (iRp_ok _ _ _ _ _ ?_ ?_ ?_) ⟨_,_,rfl,rfl⟩ ?_); (iterate 3 (exact sd)); rintro _ _ ⟨rfl,rfl⟩) | ((first | refine call0D (BCall.ofP (eqIntS_ok _ _ _ _ ?_ ?_ ?_)) ?_ | refine qcall0D (BCall.ofP (eqIntS_ok _ _ _ _ ?_ ?_ ?_)) ⟨_,_,rfl,rfl⟩ ?_); (iterate 3 (exact sd)); rintro _ _ ⟨rfl,rfl⟩) | ((first | refine call0D (BCall.ofP (eqView_ok _ _ _ _ _ _ _ _ _ _ ?_ ?_ ?_ ?_ ?_)) ?_ | refine qcall0D (BCall.ofP (eqView_ok _ _ _ _ _ _ _ _ _ _ ?_ ?_ ?_ ?_ ?_)) ⟨_,_,rfl,rfl⟩ ?_); (iterate 5 (exact sd)); rintro _ _ ⟨rfl,rfl⟩) | ((first | refine call0D (BCall.ofP (heldIntS_ok _ _ ?_)) ?_ | refine qcall0D (BCall.ofP (heldIntS_ok _ _ ?_)) ⟨_,_,rfl,rfl⟩ ?_); (exact sd); rintro _ _ ⟨rfl,rfl⟩)) <;> (try simp (disch := omega) only [push_cast,seval,h]))
 | (refine awp_ret ⟨.inr rfl,_,rfl,?_⟩; (try simp (disch := omega) only [push_cast,seval,h]))))
  · have h' : sh.length + st.length ≤ 1048576 := by omega
    (repeat' (first
 | (first | refine awp_seq ?_ | refine awp_block ?_)
 | ((first | refine awp_reg ?_ | refine awp_draw (mid := l8r10a) (post := l8r10b) mixed (by decide) ?_ | refine awp_condB ?_ | refine awp_skip ?_ | refine awp_exit ?_); simp (disch := omega) only [push_cast,seval,l8r0,l8r1,l8r2,l8r3,l8r4,l8r5,l8r6,l8r7,l8r8,l8r9,l8r10a,l8r10b,l8r10,l8r11,l8r12,l8r13,l8r14,l8r15,l8r16,l8r17,l8r18,l8r19,l8r20,l8r21,l8r22,l8r23,l8r24,l8r25,l8r26,l8r27,l8r28,l8r29,l8r30,l8r31,l8r32,l8r33,h,hw])
 | ((first | refine condB_split (fun h => ?_) (fun h => ?_) | refine gIf_split (fun h => ?_) (fun h => ?_) | refine qIf_split (fun h => ?_) (fun h => ?_)) <;> (try simp only [h]) <;> (try simp only [bitvec_to_nat] at h) <;> (try simp only [h]) <;> (first | (exfalso; omega) | (focus (exfalso; simp_all; done)) | (simp (disch := omega) only [push_cast,seval,h,hw]) | skip))
 | ((first | ((with_reducible refine callD_ids (f := 18) [320,321] false ?_); simp (disch := omega) only [push_cast,seval,h,hw]; (refine call2D (id := 320) (id' := 321) (by decide) (markViewW_ok _ _ _ _ _ _ ?_ ?_ ?_) (by first | ((simp (disch := omega) only [push_cast,seval,h,hw]); done) | ((simp (disch := omega) only [push_cast,seval,h,hw]); rfl)) (by first | ((simp (disch := omega) only [push_cast,seval,h,hw]); done) | ((simp (disch := omega) only [push_cast,seval,h,hw]); rfl)) ?_; (iterate 3 (exact sd)); rintro _ _ ⟨rfl,rfl⟩)) | ((with_reducible refine callD_ids (f := 18) [544,545] false ?_); simp (disch := omega) only [push_cast,seval,h,hw]; (refine call2D (id := 544) (id' := 545) (by decide) (markViewW_ok _ _ _ _ _ _ ?_ ?_ ?_) (by first | ((simp (disch := omega) only [push_cast,seval,h,hw]); done) | ((simp (disch := omega) only [push_cast,seval,h,hw]); rfl)) (by first | ((simp (disch := omega) only [push_cast,seval,h,hw]); done) | ((simp (disch := omega) only [push_cast,seval,h,hw]); rfl)) ?_; (iterate 3 (exact sd)); rintro _ _ ⟨rfl,rfl⟩)) | ((with_reducible refine qcallI_of (f := 19) [352] false ?_); simp (disch := omega) only [push_cast,seval,h,hw]; (refine qcall1D (id := 352) (markIntS_ok _ _ _ ?_ ?_) (by first | ((simp (disch := omega) only [push_cast,seval,h,hw]); done) | ((simp (disch := omega) only [push_cast,seval,h,hw]); rfl)) (by decide) ⟨_,_,rfl,rfl⟩ ?_; (iterate 2 (exact sd)); rintro _ _ ⟨rfl,rfl⟩)) | ((with_reducible refine qcallI_of (f := 19) [720] false ?_); simp (disch := omega) only [push_cast,seval,h,hw]; (refine qcall1D (id := 720) (markIntS_ok _ _ _ ?_ ?_) (by first | ((simp (disch := omega) only [push_cast,seval,h,hw]); done) | ((simp (disch := omega) only [push_cast,seval,h,hw]); rfl)) (by decide) ⟨_,_,rfl,rfl⟩ ?_; (iterate 2 (exact sd)); rintro _ _ ⟨rfl,rfl⟩)) | ((with_reducible refine callD_ids (f := 19) [352] false ?_); simp (disch := omega) only [push_cast,seval,h,hw]; (refine call1D (id := 352) (markIntS_ok _ _ _ ?_ ?_) (by first | ((simp (disch := omega) only [push_cast,seval,h,hw]); done) | ((simp (disch := omega) only [push_cast,seval,h,hw]); rfl)) ?_; (iterate 2 (exact sd)); rintro _ _ ⟨rfl,rfl⟩)) | ((with_reducible refine callD_ids (f := 19) [720] false ?_); simp (disch := omega) only [push_cast,seval,h,hw]; (refine call1D (id := 720) (markIntS_ok _ _ _ ?_ ?_) (by first | ((simp (disch := omega) only [push_cast,seval,h,hw]); done) | ((simp (disch := omega) only [push_cast,seval,h,hw]); rfl)) ?_; (iterate 2 (exact sd)); rintro _ _ ⟨rfl,rfl⟩))) <;> (try simp (disch := omega) only [push_cast,seval,h,hw]))
 | ((first | refine callD_of false ?_ | refine qcallD_of false ?_); simp (disch := omega) only [push_cast,seval,h,hw])
 | ((first | ((first | refine call0D (BCall.ofP (szView_ok _ _ _ _ _ _ ?_ ?_)) ?_ | refine qcall0D (BCall.ofP (szView_ok _ _ _ _ _ _ ?_ ?_)) ⟨_,_,rfl,rfl⟩ ?_); (iterate 2 (exact sd)); rintro _ _ ⟨rfl,rfl⟩) | ((first | refine call0D (toView_ok _ _ _ _ _ ?_ ?_ ?_) ?_ | refine qcall0D (toView_ok _ _ _ _ _ ?_ ?_ ?_) ⟨_,_,rfl,rfl⟩ ?_); (iterate 3 (exact sd)); rintro _ _ ⟨rfl,rfl⟩) | ((first | refine call0D (sRp_ok _ _ _ _ _ ?_ ?_ ?_) ?_ | refine qcall0D (sRp_ok _ _ _ _ _ ?_ ?_ ?_) ⟨_,_,rfl,rfl⟩ ?_); (iterate 3 (exact sd)); rintro _ _ ⟨rfl,rfl⟩) | ((first | refine call0D (iRp_ok _ _ _ _ _ ?_ ?_ ?_) ?_ | refine qcall0D (iRp_ok _ _ _ _ _ ?_ ?_ ?_) ⟨_,_,rfl,rfl⟩ ?_); (iterate 3 (exact sd)); rintro _ _ ⟨rfl,rfl⟩) | ((first | refine call0D (BCall.ofP (eqIntS_ok _ _ _ _ ?_ ?_ ?_)) ?_ | refine qcall0D (BCall.ofP (eqIntS_ok _ _ _ _ ?_ ?_ ?_)) ⟨_,_,rfl,rfl⟩ ?_); (iterate 3 (exact sd)); rintro _ _ ⟨rfl,rfl⟩) | ((first | refine call0D (BCall.ofP (eqView_ok _ _ _ _ _ _ _ _ _ _ ?_ ?_ ?_ ?_ ?_)) ?_ | refine qcall0D (BCall.ofP (eqView_ok _ _ _ _ _ _ _ _ _ _ ?_ ?_ ?_ ?_ ?_)) ⟨_,_,rfl,rfl⟩ ?_); (iterate 5 (exact sd)); rintro _ _ ⟨rfl,rfl⟩) | ((first | refine call0D (BCall.ofP (heldIntS_ok _ _ ?_)) ?_ | refine qcall0D (BCall.ofP (heldIntS_ok _ _ ?_)) ⟨_,_,rfl,rfl⟩ ?_); (exact sd); rintro _ _ ⟨rfl,rfl⟩)) <;> (try simp (disch := omega) only [push_cast,seval,h,hw]))
 | (refine awp_ret ⟨.inr rfl,_,rfl,?_⟩; (try simp (disch := omega) only [push_cast,seval,h,hw]))))

end Go.Proofs.Ytnnkeephfdkbiaa
