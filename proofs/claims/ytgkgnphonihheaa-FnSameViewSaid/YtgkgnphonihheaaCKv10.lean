import Derived.Test.YtgkgnphonihheaaCKv9
import Derived.Test.YtgkgnphonihheaaCM1
import Derived.Test.YtgkgnphonihheaaCW3
set_option linter.unusedSimpArgs false
set_option linter.unusedVariables false
set_option maxRecDepth 4000
set_option maxHeartbeats 4000000
namespace Go.Proofs.Ytgkgnphonihheaa
open VwM Vw Go

theorem idx_getD {xs : List Int} {x : Int} (h : x ∈ xs) : xs.getD (xs.idxOf x) 0 = x := by
  rw [List.getD,List.getElem?_eq_getElem (List.idxOf_lt_length_of_mem h),Option.getD_some,List.getElem_idxOf]
theorem wi_true {O O' : List Int} (h : 0 < (bothL O O').length) : ∃ i j : Nat,wiP true O O' = .tup [.int .i64 i,.int .i64 j,.bool true] ∧ (i < O.length ∧ O.getD i 0 = (bothL O O').getD 0 0 ∧ placeI O ((bothL O O').getD 0 0) = i) ∧ j < O'.length ∧ O'.getD j 0 = (bothL O O').getD 0 0 := by
  have hm := getD_mem h
  unfold wiP
  generalize (bothL O O').getD 0 0 = x at *
  obtain ⟨_,x1,x2⟩ := mem_bothL.1 hm
  refine ⟨O.idxOf x,O'.idxOf x,?_,⟨List.idxOf_lt_length_of_mem x1,idx_getD x1,if_pos x1⟩,List.idxOf_lt_length_of_mem x2,idx_getD x2⟩
  rw [if_pos rfl,placeI,if_pos x1,placeI,if_pos x2]


set_option maxHeartbeats 32000000 in
theorem lFnWi_ok (bs : List Int) (hl : bs.length ≤ 9223372036854775807) (hb : ∀ x ∈ bs,0 ≤ x ∧ x ≤ 255) : PCall Try.prog 6 [.rows false (UL bs) bs.length] (fun r => r = .bool true) := by
  refine pcall_of l6_eq rfl ?_
  by_cases h : bs.length ≤ 1048576
  · have q : bs.length ≤ 1099511627776 ∧ ∀ x ∈ bs,0 ≤ x ∧ x ≤ 255 := ⟨by omega,hb⟩
    (repeat' (first
 | (refine awp_joinL (c1 := .reg l6r3) (fun x : Int × List Int × List Int × Int × List Int × List Int => mkS [(3,.ref 48 3 0),(4,.ref 64 3 0)] [(48,[.int .i64 x.1,.rows true (IL x.2.1) x.2.1.length,.rows true (IL x.2.2.1) x.2.2.1.length]),(64,[.int .i64 x.2.2.2.1,.rows true (IL x.2.2.2.2.1) x.2.2.2.2.1.length,.rows true (IL x.2.2.2.2.2) x.2.2.2.2.2.length])]) (fun x => x.2.1.length ≤ 1000 ∧ x.2.2.1.length ≤ 1000 ∧ x.2.2.2.2.1.length ≤ 1000 ∧ x.2.2.2.2.2.length ≤ 1000) ?_ ?_)
 | (first | refine awp_seq ?_ | refine awp_block ?_)
 | ((first | refine awp_reg ?_ | refine awp_condB ?_ | refine awp_skip ?_ | refine awp_exit ?_); simp (disch := omega) only [push_cast,seval,l6r0,l6r1,l6r2,l6r3,l6r4,l6r5,l6r6,l6r7,l6r8,l6r9])
 | ((first | refine condB_split (fun h => ?_) (fun h => ?_) | refine gIf_split (fun h => ?_) (fun h => ?_) | refine qIf_split (fun h => ?_) (fun h => ?_)) <;> (try simp only [h]) <;> (try simp only [bitvec_to_nat] at h) <;> (try simp only [h]) <;> (first | (exfalso; omega) | (focus (exfalso; simp_all; done)) | (simp (disch := omega) only [push_cast,seval]) | skip))
 | ((first | refine callD_of false ?_ | refine qcallD_of false ?_); simp (disch := omega) only [push_cast,seval])
 | ((first | (refine call0D (BCall.ofP (drawWi_ok _ _ ?_ ?_)) ?_; (iterate 2 (exact sd)); rintro _ _ ⟨⟨b,sh,st,b',sh',st',_,_,_,_,⟨rfl,rfl,rfl,rfl,hc1,hc2,hc3,hc4⟩,rfl⟩,rfl⟩) | ((first | refine call0D (BCall.ofP (iWi_ok _ _ _ _ _ _ _ _ _ _ ?_ ?_ ?_ ?_ ?_)) ?_ | refine qcall0D (BCall.ofP (iWi_ok _ _ _ _ _ _ _ _ _ _ ?_ ?_ ?_ ?_ ?_)) ⟨_,_,rfl,rfl⟩ ?_); (iterate 5 (exact sd)); rintro _ _ ⟨rfl,rfl⟩) | ((first | refine call0D (BCall.ofP (sWi_ok _ _ _ _ _ _ _ _ _ _ ?_ ?_ ?_ ?_ ?_)) ?_ | refine qcall0D (BCall.ofP (sWi_ok _ _ _ _ _ _ _ _ _ _ ?_ ?_ ?_ ?_ ?_)) ⟨_,_,rfl,rfl⟩ ?_); (iterate 5 (exact sd)); rintro _ _ ⟨rfl,rfl⟩) | ((first | refine call0D (iOv_ok _ _ _ _ _ _ _ _ _ _ ?_ ?_ ?_ ?_ ?_) ?_ | refine qcall0D (iOv_ok _ _ _ _ _ _ _ _ _ _ ?_ ?_ ?_ ?_ ?_) ⟨_,_,rfl,rfl⟩ ?_); (iterate 5 (exact sd)); rintro _ _ ⟨rfl,rfl⟩) | ((first | refine call0D (iOffsetsOf_ok _ _ _ _ _ ?_ ?_ ?_) ?_ | refine qcall0D (iOffsetsOf_ok _ _ _ _ _ ?_ ?_ ?_) ⟨_,_,rfl,rfl⟩ ?_); (iterate 3 (exact sd)); rintro _ _ ⟨rfl,rfl⟩) | ((first | refine call0D (BCall.ofP (lplace_ok _ _ _ ?_ ?_)) ?_ | refine qcall0D (BCall.ofP (lplace_ok _ _ _ ?_ ?_)) ⟨_,_,rfl,rfl⟩ ?_); (iterate 2 (exact sd)); rintro _ _ ⟨rfl,rfl⟩)) <;> (try simp (disch := omega) only [push_cast,seval]))
 | (refine awp_ret ⟨.inr rfl,_,rfl,?_⟩; (try simp (disch := omega) only [push_cast,seval]))))
    · (refine exSub6 (Sub.of_eqs rfl rfl ?_ ?_ ?_) ?_; (focus (simp [Vw.mkS,Vw.lk,Vw.hk,AV.inn,innL,innL_ints,innL_append,innL_rep,-List.map_set,-List.getD_eq_getElem?_getD,innL_ints]; done)); (focus (simp [AV.inn,innL,Vw.hk,innL_ints]; done)); (focus (simp [AV.inn,innL,innL_ints,innL_append,innL_rep,Vw.hk,innL_ints]; done)); (try simp only); (first | omega | (refine ⟨?_,?_⟩ <;> first | assumption | omega) | (refine ⟨?_,?_,?_⟩ <;> first | assumption | omega) | (refine ⟨?_,?_,?_,?_⟩ <;> first | assumption | omega)))
    · refine ⟨?_⟩
      rintro ⟨b,sh,st,b',sh',st'⟩ ⟨hc1,hc2,hc3,hc4⟩
      try simp only at hc1 hc2 hc3 hc4 ⊢
      have hq : (sh.length ≤ 1099511627776 ∧ st.length ≤ 1099511627776) ∧ sh'.length ≤ 1099511627776 ∧ st'.length ≤ 1099511627776 := by omega
      have hq' : (sh'.length ≤ 1099511627776 ∧ st'.length ≤ 1099511627776) ∧ sh.length ≤ 1099511627776 ∧ st.length ≤ 1099511627776 := by omega
      have hq1 : sh.length ≤ 1099511627776 ∧ st.length ≤ 1099511627776 := by omega
      have hq2 : sh'.length ≤ 1099511627776 ∧ st'.length ≤ 1099511627776 := by omega
      by_cases hvv : doB b sh st b' sh' st' = true
      · have hov : ovB b sh st b' sh' st' = true := by
          cases hx : ovB b sh st b' sh' st' with
          | true => rfl
          | false => unfold doB at hvv; rw [hx] at hvv; simp [MVL] at hvv
        obtain ⟨hv,hv'⟩ : vV b sh st = true ∧ vV b' sh' st' = true := by simpa [ovB] using hov
        have hov2 : ovB b' sh' st' b sh st = true := by simp [ovB,hv,hv']
        have hov3 : ovB b sh st b sh st = true := by simp [ovB,hv]
        have hcs : ∀ x ∈ offs b sh st,0 ≤ x ∧ x ≤ 59 := fun x hx => by have := vV_cells hv x hx; omega
        have hcs' : ∀ x ∈ offs b' sh' st',0 ≤ x ∧ x ≤ 59 := fun x hx => by have := vV_cells hv' x hx; omega
        have hol := offs_length b sh st
        have hol' := offs_length b' sh' st'
        have hpb := (vSh_good (vV_spec.1 hv).1).2
        have hpb' := (vSh_good (vV_spec.1 hv').1).2
        have e3 : (if vV b sh st = true then offs b sh st else []) = offs b sh st := if_pos hv
        have e3' : (if vV b' sh' st' = true then offs b' sh' st' else []) = offs b' sh' st' := if_pos hv'
        generalize hO : offs b sh st = O at *
        generalize hO' : offs b' sh' st' = O' at *
        have hO60 : O.length ≤ 60 := by omega
        have hO60' : O'.length ≤ 60 := by omega
        have hM : ∀ X : List Int,MVL true X = X := fun X => rfl
        have hd : 0 < (bothL O O').length := by
          have := hvv; rw [doB,hov,hO,hO',hM] at this; exact of_decide_eq_true this
        obtain ⟨i,j,hw,⟨hi,hi2,hi3⟩,hj,hj2⟩ := wi_true hd
        have hCl := bothL_le O O'
        generalize hC : bothL O O' = C at *
        have hij : (i : Int) ≤ 60 ∧ (j : Int) ≤ 60 := by omega
        generalize hx : C.getD 0 0 = x at *
        (repeat' (first
 | (first | refine awp_seq ?_ | refine awp_block ?_)
 | ((first | refine awp_reg ?_ | refine awp_condB ?_ | refine awp_skip ?_ | refine awp_exit ?_); simp (disch := omega) only [push_cast,seval,l6r0,l6r1,l6r2,l6r3,l6r4,l6r5,l6r6,l6r7,l6r8,l6r9,hvv,hw,hv,hv',hov,hO,hO',hM,hC,e3,e3',hi2,hi3,hj2,hx,decide_true])
 | ((first | refine condB_split (fun h => ?_) (fun h => ?_) | refine gIf_split (fun h => ?_) (fun h => ?_) | refine qIf_split (fun h => ?_) (fun h => ?_)) <;> (try simp only [h]) <;> (try simp only [bitvec_to_nat] at h) <;> (try simp only [h]) <;> (first | (exfalso; omega) | (focus (exfalso; simp_all; done)) | (simp (disch := omega) only [push_cast,seval,hvv,hw,hv,hv',hov,hO,hO',hM,hC,e3,e3',hi2,hi3,hj2,hx,decide_true]) | skip))
 | ((first | refine callD_of false ?_ | refine qcallD_of false ?_); simp (disch := omega) only [push_cast,seval,hvv,hw,hv,hv',hov,hO,hO',hM,hC,e3,e3',hi2,hi3,hj2,hx,decide_true])
 | ((first | (refine call0D (BCall.ofP (drawWi_ok _ _ ?_ ?_)) ?_; (iterate 2 (exact sd)); rintro _ _ ⟨⟨b,sh,st,b',sh',st',_,_,_,_,⟨rfl,rfl,rfl,rfl,hc1,hc2,hc3,hc4⟩,rfl⟩,rfl⟩) | ((first | refine call0D (BCall.ofP (iWi_ok _ _ _ _ _ _ _ _ _ _ ?_ ?_ ?_ ?_ ?_)) ?_ | refine qcall0D (BCall.ofP (iWi_ok _ _ _ _ _ _ _ _ _ _ ?_ ?_ ?_ ?_ ?_)) ⟨_,_,rfl,rfl⟩ ?_); (iterate 5 (exact sd)); rintro _ _ ⟨rfl,rfl⟩) | ((first | refine call0D (BCall.ofP (sWi_ok _ _ _ _ _ _ _ _ _ _ ?_ ?_ ?_ ?_ ?_)) ?_ | refine qcall0D (BCall.ofP (sWi_ok _ _ _ _ _ _ _ _ _ _ ?_ ?_ ?_ ?_ ?_)) ⟨_,_,rfl,rfl⟩ ?_); (iterate 5 (exact sd)); rintro _ _ ⟨rfl,rfl⟩) | ((first | refine call0D (iOv_ok _ _ _ _ _ _ _ _ _ _ ?_ ?_ ?_ ?_ ?_) ?_ | refine qcall0D (BCall.ofP (plainI (iOv_ok _ _ _ _ _ _ _ _ _ _ ?_ ?_ ?_ ?_ ?_))) ⟨_,_,rfl,rfl⟩ ?_); (iterate 5 (exact sd)); rintro _ _ ⟨rfl,rfl⟩) | ((first | refine call0D (iOffsetsOf_ok _ _ _ _ _ ?_ ?_ ?_) ?_ | refine qcall0D (BCall.ofP (plainI (iOffsetsOf_ok _ _ _ _ _ ?_ ?_ ?_))) ⟨_,_,rfl,rfl⟩ ?_); (iterate 3 (exact sd)); rintro _ _ ⟨rfl,rfl⟩) | ((first | refine call0D (BCall.ofP (lplace_ok _ _ _ ?_ ?_)) ?_ | refine qcall0D (BCall.ofP (lplace_ok _ _ _ ?_ ?_)) ⟨_,_,rfl,rfl⟩ ?_); (iterate 2 (exact sd)); rintro _ _ ⟨rfl,rfl⟩)) <;> (try simp (disch := omega) only [push_cast,seval,hvv,hw,hv,hv',hov,hO,hO',hM,hC,e3,e3',hi2,hi3,hj2,hx,decide_true]))
 | (refine awp_ret ⟨.inr rfl,_,rfl,?_⟩; (try simp (disch := omega) only [push_cast,seval,hvv,hw,hv,hv',hov,hO,hO',hM,hC,e3,e3',hi2,hi3,hj2,hx,decide_true]))))
        all_goals (try simp)
      · have hvf : doB b sh st b' sh' st' = false := by simpa using hvv
        clear hvv
        have hw : wiP false (offs b sh st) (offs b' sh' st') = .tup [.int .i64 (-1),.int .i64 (-1),.bool false] := rfl
        (repeat' (first
 | (first | refine awp_seq ?_ | refine awp_block ?_)
 | ((first | refine awp_reg ?_ | refine awp_condB ?_ | refine awp_skip ?_ | refine awp_exit ?_); simp (disch := omega) only [push_cast,seval,l6r0,l6r1,l6r2,l6r3,l6r4,l6r5,l6r6,l6r7,l6r8,l6r9,hvf,hw,decide_true])
 | ((first | refine condB_split (fun h => ?_) (fun h => ?_) | refine gIf_split (fun h => ?_) (fun h => ?_) | refine qIf_split (fun h => ?_) (fun h => ?_)) <;> (try simp only [h]) <;> (try simp only [bitvec_to_nat] at h) <;> (try simp only [h]) <;> (first | (exfalso; omega) | (focus (exfalso; simp_all; done)) | (simp (disch := omega) only [push_cast,seval,hvf,hw,decide_true]) | skip))
 | ((first | refine callD_of false ?_ | refine qcallD_of false ?_); simp (disch := omega) only [push_cast,seval,hvf,hw,decide_true])
 | ((first | (refine call0D (BCall.ofP (drawWi_ok _ _ ?_ ?_)) ?_; (iterate 2 (exact sd)); rintro _ _ ⟨⟨b,sh,st,b',sh',st',_,_,_,_,⟨rfl,rfl,rfl,rfl,hc1,hc2,hc3,hc4⟩,rfl⟩,rfl⟩) | ((first | refine call0D (BCall.ofP (iWi_ok _ _ _ _ _ _ _ _ _ _ ?_ ?_ ?_ ?_ ?_)) ?_ | refine qcall0D (BCall.ofP (iWi_ok _ _ _ _ _ _ _ _ _ _ ?_ ?_ ?_ ?_ ?_)) ⟨_,_,rfl,rfl⟩ ?_); (iterate 5 (exact sd)); rintro _ _ ⟨rfl,rfl⟩) | ((first | refine call0D (BCall.ofP (sWi_ok _ _ _ _ _ _ _ _ _ _ ?_ ?_ ?_ ?_ ?_)) ?_ | refine qcall0D (BCall.ofP (sWi_ok _ _ _ _ _ _ _ _ _ _ ?_ ?_ ?_ ?_ ?_)) ⟨_,_,rfl,rfl⟩ ?_); (iterate 5 (exact sd)); rintro _ _ ⟨rfl,rfl⟩) | ((first | refine call0D (iOv_ok _ _ _ _ _ _ _ _ _ _ ?_ ?_ ?_ ?_ ?_) ?_ | refine qcall0D (BCall.ofP (plainI (iOv_ok _ _ _ _ _ _ _ _ _ _ ?_ ?_ ?_ ?_ ?_))) ⟨_,_,rfl,rfl⟩ ?_); (iterate 5 (exact sd)); rintro _ _ ⟨rfl,rfl⟩) | ((first | refine call0D (iOffsetsOf_ok _ _ _ _ _ ?_ ?_ ?_) ?_ | refine qcall0D (BCall.ofP (plainI (iOffsetsOf_ok _ _ _ _ _ ?_ ?_ ?_))) ⟨_,_,rfl,rfl⟩ ?_); (iterate 3 (exact sd)); rintro _ _ ⟨rfl,rfl⟩) | ((first | refine call0D (BCall.ofP (lplace_ok _ _ _ ?_ ?_)) ?_ | refine qcall0D (BCall.ofP (lplace_ok _ _ _ ?_ ?_)) ⟨_,_,rfl,rfl⟩ ?_); (iterate 2 (exact sd)); rintro _ _ ⟨rfl,rfl⟩)) <;> (try simp (disch := omega) only [push_cast,seval,hvf,hw,decide_true]))
 | (refine awp_ret ⟨.inr rfl,_,rfl,?_⟩; (try simp (disch := omega) only [push_cast,seval,hvf,hw,decide_true]))))
        all_goals (try simp)
  · (repeat' (first
 | (first | refine awp_seq ?_ | refine awp_block ?_)
 | ((first | refine awp_reg ?_ | refine awp_condB ?_ | refine awp_skip ?_ | refine awp_exit ?_); simp (disch := omega) only [push_cast,seval,l6r0,l6r1,l6r2,l6r3,l6r4,l6r5,l6r6,l6r7,l6r8,l6r9])
 | ((first | refine condB_split (fun h => ?_) (fun h => ?_) | refine gIf_split (fun h => ?_) (fun h => ?_) | refine qIf_split (fun h => ?_) (fun h => ?_)) <;> (try simp only [h]) <;> (try simp only [bitvec_to_nat] at h) <;> (try simp only [h]) <;> (first | (exfalso; omega) | (focus (exfalso; simp_all; done)) | (simp (disch := omega) only [push_cast,seval]) | skip))
 | ((first | refine callD_of false ?_ | refine qcallD_of false ?_); simp (disch := omega) only [push_cast,seval])
 | ((first | (refine call0D (BCall.ofP (drawWi_ok _ _ ?_ ?_)) ?_; (iterate 2 (exact sd)); rintro _ _ ⟨⟨b,sh,st,b',sh',st',_,_,_,_,⟨rfl,rfl,rfl,rfl,hc1,hc2,hc3,hc4⟩,rfl⟩,rfl⟩) | ((first | refine call0D (BCall.ofP (iWi_ok _ _ _ _ _ _ _ _ _ _ ?_ ?_ ?_ ?_ ?_)) ?_ | refine qcall0D (BCall.ofP (iWi_ok _ _ _ _ _ _ _ _ _ _ ?_ ?_ ?_ ?_ ?_)) ⟨_,_,rfl,rfl⟩ ?_); (iterate 5 (exact sd)); rintro _ _ ⟨rfl,rfl⟩) | ((first | refine call0D (BCall.ofP (sWi_ok _ _ _ _ _ _ _ _ _ _ ?_ ?_ ?_ ?_ ?_)) ?_ | refine qcall0D (BCall.ofP (sWi_ok _ _ _ _ _ _ _ _ _ _ ?_ ?_ ?_ ?_ ?_)) ⟨_,_,rfl,rfl⟩ ?_); (iterate 5 (exact sd)); rintro _ _ ⟨rfl,rfl⟩) | ((first | refine call0D (iOv_ok _ _ _ _ _ _ _ _ _ _ ?_ ?_ ?_ ?_ ?_) ?_ | refine qcall0D (iOv_ok _ _ _ _ _ _ _ _ _ _ ?_ ?_ ?_ ?_ ?_) ⟨_,_,rfl,rfl⟩ ?_); (iterate 5 (exact sd)); rintro _ _ ⟨rfl,rfl⟩) | ((first | refine call0D (iOffsetsOf_ok _ _ _ _ _ ?_ ?_ ?_) ?_ | refine qcall0D (iOffsetsOf_ok _ _ _ _ _ ?_ ?_ ?_) ⟨_,_,rfl,rfl⟩ ?_); (iterate 3 (exact sd)); rintro _ _ ⟨rfl,rfl⟩) | ((first | refine call0D (BCall.ofP (lplace_ok _ _ _ ?_ ?_)) ?_ | refine qcall0D (BCall.ofP (lplace_ok _ _ _ ?_ ?_)) ⟨_,_,rfl,rfl⟩ ?_); (iterate 2 (exact sd)); rintro _ _ ⟨rfl,rfl⟩)) <;> (try simp (disch := omega) only [push_cast,seval]))
 | (refine awp_ret ⟨.inr rfl,_,rfl,?_⟩; (try simp (disch := omega) only [push_cast,seval]))))

end Go.Proofs.Ytgkgnphonihheaa
