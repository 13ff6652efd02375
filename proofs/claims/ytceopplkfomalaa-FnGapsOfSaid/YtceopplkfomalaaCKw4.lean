import Derived.Test.YtceopplkfomalaaCKv8
import Derived.Test.YtceopplkfomalaaCM1
import Derived.Test.YtceopplkfomalaaCW3
set_option linter.unusedSimpArgs false
set_option linter.unusedVariables false
set_option maxRecDepth 4000
set_option maxHeartbeats 4000000
namespace Go.Proofs.Ytceopplkfomalaa
open VwM Vw Go

theorem gap_asc {b : Int} {sh st : List Int} (hv : vV b sh st = true) : (gaL b sh st).length ≤ 1099511627776 ∧ ∀ i : Nat,1 ≤ i → i < (gaL b sh st).length → (gaL b sh st).getD (i - 1) 0 < (gaL b sh st).getD i 0 := by
  have hs : (gaL b sh st).Pairwise (· < ·) := by unfold gaL gapL; exact (nums_sorted (by omega) _).filter _
  exact ⟨by have := gaL_le hv; omega,fun i h1 h2 => asc_get hs (by omega) h2⟩
theorem gap_in {b : Int} {sh st : List Int} (hv : vV b sh st = true) (hz : ¬ pr sh = 0) {k : Nat} (hk : k < spN b sh st) : bdL b sh st + (k : Int) ∈ gaL b sh st ↔ ¬ bdL b sh st + (k : Int) ∈ bothL (offs b sh st) (offs b sh st) := by
  obtain ⟨-,e1,e2⟩ := ga_facts hv hz
  have hbd := bd_cells hv hz
  unfold gaL gapL
  rw [List.mem_filter,e1]
  constructor
  · rintro ⟨_,h2⟩ hm
    exact of_decide_eq_true h2 (mem_bothL.1 hm).2.1
  · intro hm
    refine ⟨List.mem_map.2 ⟨k,List.mem_range.2 hk,by omega⟩,decide_eq_true fun hx => hm (mem_bothL.2 ⟨by have := vV_cells hv _ hx; omega,hx,hx⟩)⟩
theorem gap_len {b : Int} {sh st : List Int} (hv : vV b sh st = true) (hz : ¬ pr sh = 0) : (gaL b sh st).length + (bothL (offs b sh st) (offs b sh st)).length = spN b sh st := by
  obtain ⟨⟨f1,f2,f3⟩,e1,e2⟩ := ga_facts hv hz
  have hbd := bd_cells hv hz
  have hC : bothL (offs b sh st) (offs b sh st) = (nums (bdL b sh st) 1 (spN b sh st)).filter fun x => decide (x ∈ offs b sh st) := by
    refine sorted_ext (bothL_sorted _ _) ((nums_sorted (by omega) _).filter _) fun x => ?_
    rw [mem_bothL,List.mem_filter]
    constructor
    · rintro ⟨_,h1,_⟩
      have := f3 x h1
      exact ⟨List.mem_map.2 ⟨(x - bdL b sh st).toNat,List.mem_range.2 (by omega),by omega⟩,decide_eq_true h1⟩
    · rintro ⟨_,h2⟩
      have hx := of_decide_eq_true h2
      exact ⟨by have := vV_cells hv _ hx; omega,hx,hx⟩
  rw [hC]
  unfold gaL gapL
  rw [e1]
  have h := List.length_eq_countP_add_countP (fun x => decide (x ∈ offs b sh st)) (l := nums (bdL b sh st) 1 (spN b sh st))
  rw [nums_length,List.countP_eq_length_filter,List.countP_eq_length_filter] at h
  have e : List.filter (fun x => decide (¬ x ∈ offs b sh st)) (nums (bdL b sh st) 1 (spN b sh st)) = List.filter (fun a => decide (¬ decide (a ∈ offs b sh st) = true)) (nums (bdL b sh st) 1 (spN b sh st)) := List.filter_congr fun x _ => by simp
  rw [e]
  omega


set_option maxHeartbeats 32000000 in
theorem drawGab_ok (bs : List Int) (n : Nat) (hn : bs.length = n) (hb : n ≤ 1099511627776 ∧ ∀ x ∈ bs,0 ≤ x ∧ x ≤ 255) : BCall Try.prog 8 [.rows false (UL bs) n] [] viewB := by
  refine bcall_of (pins := []) (pin := 0) l8_eq rfl rfl rfl ?_
  unfold viewB
  (repeat' (first
 | (first | refine awp_seq ?_ | refine awp_block ?_)
 | ((first | refine awp_reg ?_ | refine awp_condB ?_ | refine awp_skip ?_ | refine awp_exit ?_); simp (disch := omega) only [push_cast,seval,l8r0,l8r1])
 | ((first | refine condB_split (fun h => ?_) (fun h => ?_) | refine gIf_split (fun h => ?_) (fun h => ?_) | refine qIf_split (fun h => ?_) (fun h => ?_)) <;> (try simp only [h]) <;> (try simp only [bitvec_to_nat] at h) <;> (try simp only [h]) <;> (first | (exfalso; omega) | (focus (exfalso; simp_all; done)) | (simp (disch := omega) only [push_cast,seval]) | skip))
 | ((first | ((with_reducible refine callD_of (f := 46) true ?_); simp (disch := omega) only [push_cast,seval]; (refine call0D (newReader_ok _ _ ?_ ?_) ?_; (iterate 2 (exact sd)); rintro _ _ ⟨bs0,hbs0,rfl,rfl⟩)) | ((with_reducible refine callD_ids (f := 45) [64] true ?_); simp (disch := omega) only [push_cast,seval]; (refine call1D (id := 64) (someView_ok _ _ ?_ ?_) (by first | ((simp (disch := omega) only [push_cast,seval]); done) | ((simp (disch := omega) only [push_cast,seval]); rfl)) ?_; (iterate 2 (exact sd)); rintro _ _ ⟨b,sh,st,q,⟨hl1,hl9,hl2⟩,hq,rfl,rfl⟩))) <;> (try simp (disch := omega) only [push_cast,seval]))
 | (refine awp_ret ⟨.inr rfl,[80,81],[],_,by decide,rfl,?_⟩; (try simp (disch := omega) only [push_cast,seval,↓allMem_nil,↓allMem_cons,↓List.map_cons,↓List.map_nil]))))
  exact ⟨b,sh,st,⟨by have := hl1.2; omega,by omega⟩,rfl,rfl⟩
theorem drawGa_ok (bs : List Int) (n : Nat) (hn : bs.length = n) (hb : n ≤ 1099511627776 ∧ ∀ x ∈ bs,0 ≤ x ∧ x ≤ 255) : PCall Try.prog 8 [.rows false (UL bs) n] viewP := view_plain (drawGab_ok bs n hn hb)


set_option maxHeartbeats 32000000 in
theorem lFnGa_ok (bs : List Int) (hl : bs.length ≤ 9223372036854775807) (hb : ∀ x ∈ bs,0 ≤ x ∧ x ≤ 255) : PCall Try.prog 3 [.rows false (UL bs) bs.length] (fun r => r = .bool true) := by
  refine pcall_of l3_eq rfl ?_
  by_cases h : bs.length ≤ 1048576
  · have q : bs.length ≤ 1099511627776 ∧ ∀ x ∈ bs,0 ≤ x ∧ x ≤ 255 := ⟨by omega,hb⟩
    (repeat' (first
 | (refine awp_joinL (c1 := .reg l3r3) (fun x : Int × List Int × List Int => mkS [(3,.ref 48 3 0)] [(48,[.int .i64 x.1,.rows true (IL x.2.1) x.2.1.length,.rows true (IL x.2.2) x.2.2.length])]) (fun x => x.2.1.length ≤ 100 ∧ x.2.2.length ≤ 100) ?_ ?_)
 | (first | refine awp_seq ?_ | refine awp_block ?_)
 | ((first | refine awp_reg ?_ | refine awp_condB ?_ | refine awp_skip ?_ | refine awp_exit ?_); simp (disch := omega) only [push_cast,seval,l3r0,l3r1,l3r2,l3r3,l3r4,l3r5,l3r6,l3r7,l3r8,l3r9,l3r10,l3r11,l3r12,l3r13,l3r14,l3r15,l3r16])
 | ((first | refine condB_split (fun h => ?_) (fun h => ?_) | refine gIf_split (fun h => ?_) (fun h => ?_) | refine qIf_split (fun h => ?_) (fun h => ?_)) <;> (try simp only [h]) <;> (try simp only [bitvec_to_nat] at h) <;> (try simp only [h]) <;> (first | (exfalso; omega) | (focus (exfalso; simp_all; done)) | (simp (disch := omega) only [push_cast,seval]) | skip))
 | ((first | refine callD_of false ?_ | refine qcallD_of false ?_); simp (disch := omega) only [push_cast,seval])
 | ((first | (refine call0D (BCall.ofP (drawGa_ok _ _ ?_ ?_)) ?_; (iterate 2 (exact sd)); rintro _ _ ⟨⟨b,sh,st,_,_,⟨rfl,rfl,hl1,hl2⟩,rfl⟩,rfl⟩) | ((first | refine call0D (iGa_ok _ _ _ _ _ ?_ ?_ ?_ ?_) ?_ | refine qcall0D (iGa_ok _ _ _ _ _ ?_ ?_ ?_ ?_) ⟨_,_,rfl,rfl⟩ ?_); (iterate 4 (exact sd)); rintro _ _ ⟨rfl,rfl⟩) | ((first | refine call0D (iGa0_ok _ _ _ _ _ ?_ ?_ ?_ ?_) ?_ | refine qcall0D (iGa0_ok _ _ _ _ _ ?_ ?_ ?_ ?_) ⟨_,_,rfl,rfl⟩ ?_); (iterate 4 (exact sd)); rintro _ _ ⟨rfl,rfl⟩) | ((first | refine call0D (sGa_ok _ _ _ _ _ ?_ ?_ ?_) ?_ | refine qcall0D (sGa_ok _ _ _ _ _ ?_ ?_ ?_) ⟨_,_,rfl,rfl⟩ ?_); (iterate 3 (exact sd)); rintro _ _ ⟨rfl,rfl⟩) | ((first | refine call0D (BCall.ofP (equalInts_ok _ _ _ _ ?_ ?_ ?_)) ?_ | refine qcall0D (BCall.ofP (equalInts_ok _ _ _ _ ?_ ?_ ?_)) ⟨_,_,rfl,rfl⟩ ?_); (iterate 3 (exact sd)); rintro _ _ ⟨rfl,rfl⟩) | ((first | refine call0D (BCall.ofP (iValidView_ok _ _ _ _ _ ?_ ?_ ?_)) ?_ | refine qcall0D (BCall.ofP (iValidView_ok _ _ _ _ _ ?_ ?_ ?_)) ⟨_,_,rfl,rfl⟩ ?_); (iterate 3 (exact sd)); rintro _ _ ⟨rfl,rfl⟩) | ((first | refine call0D (iCe_ok _ _ _ _ _ ?_ ?_ ?_) ?_ | refine qcall0D (iCe_ok _ _ _ _ _ ?_ ?_ ?_) ⟨_,_,rfl,rfl⟩ ?_); (iterate 3 (exact sd)); rintro _ _ ⟨rfl,rfl⟩) | ((first | refine call0D (BCall.ofP (iBoundsOf_ok _ _ _ _ _ ?_ ?_ ?_)) ?_ | refine qcall0D (BCall.ofP (iBoundsOf_ok _ _ _ _ _ ?_ ?_ ?_)) ⟨_,_,rfl,rfl⟩ ?_); (iterate 3 (exact sd)); rintro _ _ ⟨rfl,rfl⟩) | ((first | refine call0D (BCall.ofP (isInL_ok _ _ _ ?_ ?_)) ?_ | refine qcall0D (BCall.ofP (isInL_ok _ _ _ ?_ ?_)) ⟨_,_,rfl,rfl⟩ ?_); (iterate 2 (exact sd)); rintro _ _ ⟨rfl,rfl⟩) | ((first | refine call0D (BCall.ofP (ascends_ok _ _ ?_ ?_)) ?_ | refine qcall0D (BCall.ofP (ascends_ok _ _ ?_ ?_)) ⟨_,_,rfl,rfl⟩ ?_); (iterate 2 (exact sd)); rintro _ _ ⟨rfl,rfl⟩)) <;> (try simp (disch := omega) only [push_cast,seval]))
 | (refine awp_ret ⟨.inr rfl,_,rfl,?_⟩; (try simp (disch := omega) only [push_cast,seval]))))
    · (refine exSub3 (Sub.of_eqs rfl rfl ?_ ?_ ?_) ?_; (focus (simp [Vw.mkS,Vw.lk,Vw.hk,AV.inn,innL,innL_ints,innL_append,innL_rep,-List.map_set,-List.getD_eq_getElem?_getD,innL_ints]; done)); (focus (simp [AV.inn,innL,Vw.hk,innL_ints]; done)); (focus (simp [AV.inn,innL,innL_ints,innL_append,innL_rep,Vw.hk,innL_ints]; done)); (try simp only); (first | omega | (refine ⟨?_,?_⟩ <;> first | assumption | omega) | (refine ⟨?_,?_,?_⟩ <;> first | assumption | omega) | (refine ⟨?_,?_,?_,?_⟩ <;> first | assumption | omega)))
    · refine ⟨?_⟩
      rintro ⟨b,sh,st⟩ ⟨hl1,hl2⟩
      try simp only at hl1 hl2 ⊢
      have hq : sh.length ≤ 1099511627776 ∧ st.length ≤ 1099511627776 := by omega
      cases hv : vV b sh st with
 | false =>
        have hzz : vV b sh st = false ∨ pr sh = 0 := .inl hv
        have hWl : (MVL false (gaL b sh st)).length = 0 := rfl
        generalize hW : MVL false (gaL b sh st) = W at *
        have hW2 : W.length ≤ 1099511627776 ∧ W.length ≤ 1099511627776 := by omega
        (repeat' (first
 | (first | refine awp_seq ?_ | refine awp_block ?_)
 | ((first | refine awp_reg ?_ | refine awp_condB ?_ | refine awp_skip ?_ | refine awp_exit ?_); simp (disch := omega) only [push_cast,seval,l3r0,l3r1,l3r2,l3r3,l3r4,l3r5,l3r6,l3r7,l3r8,l3r9,l3r10,l3r11,l3r12,l3r13,l3r14,l3r15,l3r16,hv,hW,decide_true])
 | ((first | refine condB_split (fun h => ?_) (fun h => ?_) | refine gIf_split (fun h => ?_) (fun h => ?_) | refine qIf_split (fun h => ?_) (fun h => ?_)) <;> (try simp only [h]) <;> (try simp only [bitvec_to_nat] at h) <;> (try simp only [h]) <;> (first | (exfalso; omega) | (focus (exfalso; simp_all; done)) | (simp (disch := omega) only [push_cast,seval,hv,hW,decide_true]) | skip))
 | ((first | refine callD_of false ?_ | refine qcallD_of false ?_); simp (disch := omega) only [push_cast,seval,hv,hW,decide_true])
 | ((first | (refine call0D (BCall.ofP (drawGa_ok _ _ ?_ ?_)) ?_; (iterate 2 (exact sd)); rintro _ _ ⟨⟨b,sh,st,_,_,⟨rfl,rfl,hl1,hl2⟩,rfl⟩,rfl⟩) | ((first | refine call0D (iGa_ok _ _ _ _ _ ?_ ?_ ?_ ?_) ?_ | refine qcall0D (iGa_ok _ _ _ _ _ ?_ ?_ ?_ ?_) ⟨_,_,rfl,rfl⟩ ?_); (iterate 4 (exact sd)); rintro _ _ ⟨rfl,rfl⟩) | ((first | refine call0D (iGa0_ok _ _ _ _ _ ?_ ?_ ?_ ?_) ?_ | refine qcall0D (iGa0_ok _ _ _ _ _ ?_ ?_ ?_ ?_) ⟨_,_,rfl,rfl⟩ ?_); (iterate 4 (exact sd)); rintro _ _ ⟨rfl,rfl⟩) | ((first | refine call0D (sGa_ok _ _ _ _ _ ?_ ?_ ?_) ?_ | refine qcall0D (sGa_ok _ _ _ _ _ ?_ ?_ ?_) ⟨_,_,rfl,rfl⟩ ?_); (iterate 3 (exact sd)); rintro _ _ ⟨rfl,rfl⟩) | ((first | refine call0D (BCall.ofP (equalInts_ok _ _ _ _ ?_ ?_ ?_)) ?_ | refine qcall0D (BCall.ofP (equalInts_ok _ _ _ _ ?_ ?_ ?_)) ⟨_,_,rfl,rfl⟩ ?_); (iterate 3 (exact sd)); rintro _ _ ⟨rfl,rfl⟩) | ((first | refine call0D (BCall.ofP (iValidView_ok _ _ _ _ _ ?_ ?_ ?_)) ?_ | refine qcall0D (BCall.ofP (iValidView_ok _ _ _ _ _ ?_ ?_ ?_)) ⟨_,_,rfl,rfl⟩ ?_); (iterate 3 (exact sd)); rintro _ _ ⟨rfl,rfl⟩) | ((first | refine call0D (iCe_ok _ _ _ _ _ ?_ ?_ ?_) ?_ | refine qcall0D (iCe_ok _ _ _ _ _ ?_ ?_ ?_) ⟨_,_,rfl,rfl⟩ ?_); (iterate 3 (exact sd)); rintro _ _ ⟨rfl,rfl⟩) | ((first | refine call0D (BCall.ofP (iBoundsOf_ok _ _ _ _ _ ?_ ?_ ?_)) ?_ | refine qcall0D (BCall.ofP (iBoundsOf_ok _ _ _ _ _ ?_ ?_ ?_)) ⟨_,_,rfl,rfl⟩ ?_); (iterate 3 (exact sd)); rintro _ _ ⟨rfl,rfl⟩) | ((first | refine call0D (BCall.ofP (isInL_ok _ _ _ ?_ ?_)) ?_ | refine qcall0D (BCall.ofP (isInL_ok _ _ _ ?_ ?_)) ⟨_,_,rfl,rfl⟩ ?_); (iterate 2 (exact sd)); rintro _ _ ⟨rfl,rfl⟩) | ((first | refine call0D (BCall.ofP (ascends_ok _ _ ?_ ?_)) ?_ | refine qcall0D (BCall.ofP (ascends_ok _ _ ?_ ?_)) ⟨_,_,rfl,rfl⟩ ?_); (iterate 2 (exact sd)); rintro _ _ ⟨rfl,rfl⟩)) <;> (try simp (disch := omega) only [push_cast,seval,hv,hW,decide_true]))
 | (refine awp_ret ⟨.inr rfl,_,rfl,?_⟩; (try simp (disch := omega) only [push_cast,seval,hv,hW,decide_true]))))
        all_goals (try simp)
 | true =>
        have hM : ∀ X : List Int,MVL true X = X := fun X => rfl
        have hgl := gaL_le hv
        have hsp := sp_bound hv
        have hbo : boL b sh st = bdL b sh st := if_pos hv
        have hbh : boH b sh st = bdH b sh st := if_pos hv
        have hCl := bothL_le (offs b sh st) (offs b sh st)
        by_cases hz : pr sh = 0
        · have hzz : vV b sh st = false ∨ pr sh = 0 := .inr hz
          have hG0 : (gaL b sh st).length = 0 := by rw [gaL_zero hz]; rfl
          have hb0 : bdL b sh st = -1 := if_pos hz
          have hG0' : ((gaL b sh st).length : Int) = 0 := by omega
          generalize hG : gaL b sh st = G at *
          have hG2 : G.length ≤ 1099511627776 ∧ G.length ≤ 1099511627776 := by omega
          (repeat' (first
 | (first | refine awp_seq ?_ | refine awp_block ?_)
 | ((first | refine awp_reg ?_ | refine awp_condB ?_ | refine awp_skip ?_ | refine awp_exit ?_); simp (disch := omega) only [push_cast,seval,l3r0,l3r1,l3r2,l3r3,l3r4,l3r5,l3r6,l3r7,l3r8,l3r9,l3r10,l3r11,l3r12,l3r13,l3r14,l3r15,l3r16,hv,hM,hG,hbo,hbh,hb0,hG0',decide_true,decide_false])
 | ((first | refine condB_split (fun h => ?_) (fun h => ?_) | refine gIf_split (fun h => ?_) (fun h => ?_) | refine qIf_split (fun h => ?_) (fun h => ?_)) <;> (try simp only [h]) <;> (try simp only [bitvec_to_nat] at h) <;> (try simp only [h]) <;> (first | (exfalso; omega) | (focus (exfalso; simp_all; done)) | (simp (disch := omega) only [push_cast,seval,hv,hM,hG,hbo,hbh,hb0,hG0',decide_true,decide_false]) | skip))
 | ((first | refine callD_of false ?_ | refine qcallD_of false ?_); simp (disch := omega) only [push_cast,seval,hv,hM,hG,hbo,hbh,hb0,hG0',decide_true,decide_false])
 | ((first | (refine call0D (BCall.ofP (drawGa_ok _ _ ?_ ?_)) ?_; (iterate 2 (exact sd)); rintro _ _ ⟨⟨b,sh,st,_,_,⟨rfl,rfl,hl1,hl2⟩,rfl⟩,rfl⟩) | ((first | refine call0D (iGa_ok _ _ _ _ _ ?_ ?_ ?_ ?_) ?_ | refine qcall0D (iGa_ok _ _ _ _ _ ?_ ?_ ?_ ?_) ⟨_,_,rfl,rfl⟩ ?_); (iterate 4 (exact sd)); rintro _ _ ⟨rfl,rfl⟩) | ((first | refine call0D (iGa0_ok _ _ _ _ _ ?_ ?_ ?_ ?_) ?_ | refine qcall0D (iGa0_ok _ _ _ _ _ ?_ ?_ ?_ ?_) ⟨_,_,rfl,rfl⟩ ?_); (iterate 4 (exact sd)); rintro _ _ ⟨rfl,rfl⟩) | ((first | refine call0D (sGa_ok _ _ _ _ _ ?_ ?_ ?_) ?_ | refine qcall0D (sGa_ok _ _ _ _ _ ?_ ?_ ?_) ⟨_,_,rfl,rfl⟩ ?_); (iterate 3 (exact sd)); rintro _ _ ⟨rfl,rfl⟩) | ((first | refine call0D (BCall.ofP (equalInts_ok _ _ _ _ ?_ ?_ ?_)) ?_ | refine qcall0D (BCall.ofP (equalInts_ok _ _ _ _ ?_ ?_ ?_)) ⟨_,_,rfl,rfl⟩ ?_); (iterate 3 (exact sd)); rintro _ _ ⟨rfl,rfl⟩) | ((first | refine call0D (BCall.ofP (iValidView_ok _ _ _ _ _ ?_ ?_ ?_)) ?_ | refine qcall0D (BCall.ofP (iValidView_ok _ _ _ _ _ ?_ ?_ ?_)) ⟨_,_,rfl,rfl⟩ ?_); (iterate 3 (exact sd)); rintro _ _ ⟨rfl,rfl⟩) | ((first | refine call0D (iCe_ok _ _ _ _ _ ?_ ?_ ?_) ?_ | refine qcall0D (iCe_ok _ _ _ _ _ ?_ ?_ ?_) ⟨_,_,rfl,rfl⟩ ?_); (iterate 3 (exact sd)); rintro _ _ ⟨rfl,rfl⟩) | ((first | refine call0D (BCall.ofP (iBoundsOf_ok _ _ _ _ _ ?_ ?_ ?_)) ?_ | refine qcall0D (BCall.ofP (iBoundsOf_ok _ _ _ _ _ ?_ ?_ ?_)) ⟨_,_,rfl,rfl⟩ ?_); (iterate 3 (exact sd)); rintro _ _ ⟨rfl,rfl⟩) | ((first | refine call0D (BCall.ofP (isInL_ok _ _ _ ?_ ?_)) ?_ | refine qcall0D (BCall.ofP (isInL_ok _ _ _ ?_ ?_)) ⟨_,_,rfl,rfl⟩ ?_); (iterate 2 (exact sd)); rintro _ _ ⟨rfl,rfl⟩) | ((first | refine call0D (BCall.ofP (ascends_ok _ _ ?_ ?_)) ?_ | refine qcall0D (BCall.ofP (ascends_ok _ _ ?_ ?_)) ⟨_,_,rfl,rfl⟩ ?_); (iterate 2 (exact sd)); rintro _ _ ⟨rfl,rfl⟩)) <;> (try simp (disch := omega) only [push_cast,seval,hv,hM,hG,hbo,hbh,hb0,hG0',decide_true,decide_false]))
 | (refine awp_ret ⟨.inr rfl,_,rfl,?_⟩; (try simp (disch := omega) only [push_cast,seval,hv,hM,hG,hbo,hbh,hb0,hG0',decide_true,decide_false]))))
          all_goals (try simp)
        · have hzz : vV b sh st = true ∧ ¬ pr sh = 0 := ⟨hv,hz⟩
          have hbd := bd_cells hv hz
          obtain ⟨-,-,hN0⟩ := ga_facts hv hz
          have hasc := gap_asc hv
          have hgin := fun k => @gap_in b sh st hv hz k
          have hgle := gap_len hv hz
          generalize hG : gaL b sh st = G at *
          generalize hC : bothL (offs b sh st) (offs b sh st) = C at *
          generalize hN : spN b sh st = N at *
          obtain ⟨y,hyl⟩ : ∃ y,N = G.length + y := ⟨N - G.length,by omega⟩
          subst hyl
          have hzz2 : G.length + y - G.length = y := by omega
          have hrl : (List.replicate y (0 : Int)).length = y := List.length_replicate
          generalize hR : List.replicate y (0 : Int) = R at *
          have hc1 : List.take G.length (IL (G ++ R)) = IL G := by rw [IL,IL,List.map_append,List.take_left' (by simp)]
          have hal : (G ++ R).length = G.length + y := by rw [List.length_append,hrl]
          have hG2 : G.length ≤ 1099511627776 ∧ G.length ≤ 1099511627776 := by omega
          obtain ⟨lo,hlo⟩ : ∃ lo : Nat,bdL b sh st = (lo : Int) := ⟨(bdL b sh st).toNat,by omega⟩
          obtain ⟨hi,hhi⟩ : ∃ hi : Nat,bdH b sh st = (hi : Int) := ⟨(bdH b sh st).toNat,by omega⟩
          rw [hlo] at hbo hN0 hbd hgin
          rw [hhi] at hbh hN0 hbd
          have hnl : ¬ (lo : Int) < 0 := by omega
          (repeat' (first
 | (first | refine awp_seq ?_ | refine awp_block ?_)
 | ((first | refine awp_reg ?_ | refine awp_condB ?_ | refine awp_skip ?_ | refine awp_exit ?_); simp (disch := omega) only [push_cast,seval,l3r0,l3r1,l3r2,l3r3,l3r4,l3r5,l3r6,l3r7,l3r8,l3r9,l3r10,l3r11,l3r12,l3r13,l3r14,l3r15,l3r16,hv,hM,hG,hN,hC,hzz2,hR,hc1,hal,hbo,hbh,hnl,Nat.mul_one,List.drop_zero,List.length_map,decide_true,decide_false])
 | ((first | refine condB_split (fun h => ?_) (fun h => ?_) | refine gIf_split (fun h => ?_) (fun h => ?_) | refine qIf_split (fun h => ?_) (fun h => ?_)) <;> (try simp only [h]) <;> (try simp only [bitvec_to_nat] at h) <;> (try simp only [h]) <;> (first | (exfalso; omega) | (focus (exfalso; simp_all; done)) | (simp (disch := omega) only [push_cast,seval,hv,hM,hG,hN,hC,hzz2,hR,hc1,hal,hbo,hbh,hnl,Nat.mul_one,List.drop_zero,List.length_map,decide_true,decide_false]) | skip))
 | ((first | refine callD_of false ?_ | refine qcallD_of false ?_); simp (disch := omega) only [push_cast,seval,hv,hM,hG,hN,hC,hzz2,hR,hc1,hal,hbo,hbh,hnl,Nat.mul_one,List.drop_zero,List.length_map,decide_true,decide_false])
 | ((first | (refine call0D (BCall.ofP (drawGa_ok _ _ ?_ ?_)) ?_; (iterate 2 (exact sd)); rintro _ _ ⟨⟨b,sh,st,_,_,⟨rfl,rfl,hl1,hl2⟩,rfl⟩,rfl⟩) | ((first | refine call0D (iGa_ok _ _ _ _ _ ?_ ?_ ?_ ?_) ?_ | refine qcall0D (iGa_ok _ _ _ _ _ ?_ ?_ ?_ ?_) ⟨_,_,rfl,rfl⟩ ?_); (iterate 4 (exact sd)); rintro _ _ ⟨rfl,rfl⟩) | ((first | refine call0D (iGa0_ok _ _ _ _ _ ?_ ?_ ?_ ?_) ?_ | refine qcall0D (iGa0_ok _ _ _ _ _ ?_ ?_ ?_ ?_) ⟨_,_,rfl,rfl⟩ ?_); (iterate 4 (exact sd)); rintro _ _ ⟨rfl,rfl⟩) | ((first | refine call0D (sGa_ok _ _ _ _ _ ?_ ?_ ?_) ?_ | refine qcall0D (sGa_ok _ _ _ _ _ ?_ ?_ ?_) ⟨_,_,rfl,rfl⟩ ?_); (iterate 3 (exact sd)); rintro _ _ ⟨rfl,rfl⟩) | ((first | refine call0D (BCall.ofP (equalInts_ok _ _ _ _ ?_ ?_ ?_)) ?_ | refine qcall0D (BCall.ofP (equalInts_ok _ _ _ _ ?_ ?_ ?_)) ⟨_,_,rfl,rfl⟩ ?_); (iterate 3 (exact sd)); rintro _ _ ⟨rfl,rfl⟩) | ((first | refine call0D (BCall.ofP (iValidView_ok _ _ _ _ _ ?_ ?_ ?_)) ?_ | refine qcall0D (BCall.ofP (iValidView_ok _ _ _ _ _ ?_ ?_ ?_)) ⟨_,_,rfl,rfl⟩ ?_); (iterate 3 (exact sd)); rintro _ _ ⟨rfl,rfl⟩) | ((first | refine call0D (iCe_ok _ _ _ _ _ ?_ ?_ ?_) ?_ | refine qcall0D (iCe_ok _ _ _ _ _ ?_ ?_ ?_) ⟨_,_,rfl,rfl⟩ ?_); (iterate 3 (exact sd)); rintro _ _ ⟨rfl,rfl⟩) | ((first | refine call0D (BCall.ofP (iBoundsOf_ok _ _ _ _ _ ?_ ?_ ?_)) ?_ | refine qcall0D (BCall.ofP (iBoundsOf_ok _ _ _ _ _ ?_ ?_ ?_)) ⟨_,_,rfl,rfl⟩ ?_); (iterate 3 (exact sd)); rintro _ _ ⟨rfl,rfl⟩) | ((first | refine call0D (BCall.ofP (isInL_ok _ _ _ ?_ ?_)) ?_ | refine qcall0D (BCall.ofP (isInL_ok _ _ _ ?_ ?_)) ⟨_,_,rfl,rfl⟩ ?_); (iterate 2 (exact sd)); rintro _ _ ⟨rfl,rfl⟩) | ((first | refine call0D (BCall.ofP (ascends_ok _ _ ?_ ?_)) ?_ | refine qcall0D (BCall.ofP (ascends_ok _ _ ?_ ?_)) ⟨_,_,rfl,rfl⟩ ?_); (iterate 2 (exact sd)); rintro _ _ ⟨rfl,rfl⟩)) <;> (try simp (disch := omega) only [push_cast,seval,hv,hM,hG,hN,hC,hzz2,hR,hc1,hal,hbo,hbh,hnl,Nat.mul_one,List.drop_zero,List.length_map,decide_true,decide_false]))
 | (refine awp_ret ⟨.inr rfl,_,rfl,?_⟩; (try simp (disch := omega) only [push_cast,seval,hv,hM,hG,hN,hC,hzz2,hR,hc1,hal,hbo,hbh,hnl,Nat.mul_one,List.drop_zero,List.length_map,decide_true,decide_false]))))
          refine awp_loop (fun k : Nat => mkS [(3,.ref 48 3 0),(4,.osl 240 (G.length + y) 0 G.length 1 (G.length + y)),(5,.own 496 C.length 1),(6,.int .i64 lo),(7,.int .i64 hi),(8,.int .i64 ((lo + k : Nat) : Int))] [(48,[.int .i64 b,.rows true (IL sh) sh.length,.rows true (IL st) st.length]),(240,IL (G ++ R)),(496,IL C)]) (fun k => k ≤ G.length + y) (fun k => G.length + y - k) 0 (Nat.zero_le _) ?_ ?_
          · (refine Sub.of_lists ?_ ?_ ?_ ?_ ?_ <;> simp [Vw.mkS,Vw.lk,Vw.hk,AV.inn,innL,innL_ints,innL_append,innL_rep,-List.map_set,-List.getD_eq_getElem?_getD])
          · intro k hk
            by_cases hlt : k < G.length + y
            · have hm := hgin k hlt
              rw [← Int.natCast_add] at hm
              obtain ⟨p,hp⟩ : ∃ p,lo + k = p := ⟨_,rfl⟩
              rw [hp] at hm ⊢
              by_cases h3 : (p : Int) ∈ C
              · have d1 : decide ((p : Int) ∈ G) = false := decide_eq_false fun h => hm.1 h h3
                have d2 : decide ((p : Int) ∈ C) = true := decide_eq_true h3
                (repeat' (first
 | (first | refine awp_seq ?_ | refine awp_block ?_)
 | ((first | refine awp_reg ?_ | refine awp_condB ?_ | refine awp_skip ?_ | refine awp_exit ?_); simp (disch := omega) only [push_cast,seval,l3r0,l3r1,l3r2,l3r3,l3r4,l3r5,l3r6,l3r7,l3r8,l3r9,l3r10,l3r11,l3r12,l3r13,l3r14,l3r15,l3r16,d1,d2,hc1,hal,Nat.mul_one,List.drop_zero,List.length_map])
 | ((first | refine condB_split (fun h => ?_) (fun h => ?_) | refine gIf_split (fun h => ?_) (fun h => ?_) | refine qIf_split (fun h => ?_) (fun h => ?_)) <;> (try simp only [h]) <;> (try simp only [bitvec_to_nat] at h) <;> (try simp only [h]) <;> (first | (exfalso; omega) | (focus (exfalso; simp_all; done)) | (simp (disch := omega) only [push_cast,seval,d1,d2,hc1,hal,Nat.mul_one,List.drop_zero,List.length_map]) | skip))
 | ((first | refine callD_of false ?_ | refine qcallD_of false ?_); simp (disch := omega) only [push_cast,seval,d1,d2,hc1,hal,Nat.mul_one,List.drop_zero,List.length_map])
 | ((first | (refine call0D (BCall.ofP (drawGa_ok _ _ ?_ ?_)) ?_; (iterate 2 (exact sd)); rintro _ _ ⟨⟨b,sh,st,_,_,⟨rfl,rfl,hl1,hl2⟩,rfl⟩,rfl⟩) | ((first | refine call0D (iGa_ok _ _ _ _ _ ?_ ?_ ?_ ?_) ?_ | refine qcall0D (iGa_ok _ _ _ _ _ ?_ ?_ ?_ ?_) ⟨_,_,rfl,rfl⟩ ?_); (iterate 4 (exact sd)); rintro _ _ ⟨rfl,rfl⟩) | ((first | refine call0D (iGa0_ok _ _ _ _ _ ?_ ?_ ?_ ?_) ?_ | refine qcall0D (iGa0_ok _ _ _ _ _ ?_ ?_ ?_ ?_) ⟨_,_,rfl,rfl⟩ ?_); (iterate 4 (exact sd)); rintro _ _ ⟨rfl,rfl⟩) | ((first | refine call0D (sGa_ok _ _ _ _ _ ?_ ?_ ?_) ?_ | refine qcall0D (sGa_ok _ _ _ _ _ ?_ ?_ ?_) ⟨_,_,rfl,rfl⟩ ?_); (iterate 3 (exact sd)); rintro _ _ ⟨rfl,rfl⟩) | ((first | refine call0D (BCall.ofP (equalInts_ok _ _ _ _ ?_ ?_ ?_)) ?_ | refine qcall0D (BCall.ofP (equalInts_ok _ _ _ _ ?_ ?_ ?_)) ⟨_,_,rfl,rfl⟩ ?_); (iterate 3 (exact sd)); rintro _ _ ⟨rfl,rfl⟩) | ((first | refine call0D (BCall.ofP (iValidView_ok _ _ _ _ _ ?_ ?_ ?_)) ?_ | refine qcall0D (BCall.ofP (iValidView_ok _ _ _ _ _ ?_ ?_ ?_)) ⟨_,_,rfl,rfl⟩ ?_); (iterate 3 (exact sd)); rintro _ _ ⟨rfl,rfl⟩) | ((first | refine call0D (iCe_ok _ _ _ _ _ ?_ ?_ ?_) ?_ | refine qcall0D (iCe_ok _ _ _ _ _ ?_ ?_ ?_) ⟨_,_,rfl,rfl⟩ ?_); (iterate 3 (exact sd)); rintro _ _ ⟨rfl,rfl⟩) | ((first | refine call0D (BCall.ofP (iBoundsOf_ok _ _ _ _ _ ?_ ?_ ?_)) ?_ | refine qcall0D (BCall.ofP (iBoundsOf_ok _ _ _ _ _ ?_ ?_ ?_)) ⟨_,_,rfl,rfl⟩ ?_); (iterate 3 (exact sd)); rintro _ _ ⟨rfl,rfl⟩) | ((first | refine call0D (BCall.ofP (isInL_ok _ _ _ ?_ ?_)) ?_ | refine qcall0D (BCall.ofP (isInL_ok _ _ _ ?_ ?_)) ⟨_,_,rfl,rfl⟩ ?_); (iterate 2 (exact sd)); rintro _ _ ⟨rfl,rfl⟩) | ((first | refine call0D (BCall.ofP (ascends_ok _ _ ?_ ?_)) ?_ | refine qcall0D (BCall.ofP (ascends_ok _ _ ?_ ?_)) ⟨_,_,rfl,rfl⟩ ?_); (iterate 2 (exact sd)); rintro _ _ ⟨rfl,rfl⟩)) <;> (try simp (disch := omega) only [push_cast,seval,d1,d2,hc1,hal,Nat.mul_one,List.drop_zero,List.length_map]))
 | (refine awp_ret ⟨.inr rfl,_,rfl,?_⟩; (try simp (disch := omega) only [push_cast,seval,d1,d2,hc1,hal,Nat.mul_one,List.drop_zero,List.length_map]))))
                refine ⟨k + 1,by omega,by omega,?_⟩
                have e : (lo : Int) + ((k + 1 : Nat) : Int) = (p : Int) + 1 := by omega
                rw [e]
                (refine Sub.of_lists ?_ ?_ ?_ ?_ ?_ <;> simp [Vw.mkS,Vw.lk,Vw.hk,AV.inn,innL,innL_ints,innL_append,innL_rep,-List.map_set,-List.getD_eq_getElem?_getD])
              · have d1 : decide ((p : Int) ∈ G) = true := decide_eq_true (hm.2 h3)
                have d2 : decide ((p : Int) ∈ C) = false := decide_eq_false h3
                (repeat' (first
 | (first | refine awp_seq ?_ | refine awp_block ?_)
 | ((first | refine awp_reg ?_ | refine awp_condB ?_ | refine awp_skip ?_ | refine awp_exit ?_); simp (disch := omega) only [push_cast,seval,l3r0,l3r1,l3r2,l3r3,l3r4,l3r5,l3r6,l3r7,l3r8,l3r9,l3r10,l3r11,l3r12,l3r13,l3r14,l3r15,l3r16,d1,d2,hc1,hal,Nat.mul_one,List.drop_zero,List.length_map])
 | ((first | refine condB_split (fun h => ?_) (fun h => ?_) | refine gIf_split (fun h => ?_) (fun h => ?_) | refine qIf_split (fun h => ?_) (fun h => ?_)) <;> (try simp only [h]) <;> (try simp only [bitvec_to_nat] at h) <;> (try simp only [h]) <;> (first | (exfalso; omega) | (focus (exfalso; simp_all; done)) | (simp (disch := omega) only [push_cast,seval,d1,d2,hc1,hal,Nat.mul_one,List.drop_zero,List.length_map]) | skip))
 | ((first | refine callD_of false ?_ | refine qcallD_of false ?_); simp (disch := omega) only [push_cast,seval,d1,d2,hc1,hal,Nat.mul_one,List.drop_zero,List.length_map])
 | ((first | (refine call0D (BCall.ofP (drawGa_ok _ _ ?_ ?_)) ?_; (iterate 2 (exact sd)); rintro _ _ ⟨⟨b,sh,st,_,_,⟨rfl,rfl,hl1,hl2⟩,rfl⟩,rfl⟩) | ((first | refine call0D (iGa_ok _ _ _ _ _ ?_ ?_ ?_ ?_) ?_ | refine qcall0D (iGa_ok _ _ _ _ _ ?_ ?_ ?_ ?_) ⟨_,_,rfl,rfl⟩ ?_); (iterate 4 (exact sd)); rintro _ _ ⟨rfl,rfl⟩) | ((first | refine call0D (iGa0_ok _ _ _ _ _ ?_ ?_ ?_ ?_) ?_ | refine qcall0D (iGa0_ok _ _ _ _ _ ?_ ?_ ?_ ?_) ⟨_,_,rfl,rfl⟩ ?_); (iterate 4 (exact sd)); rintro _ _ ⟨rfl,rfl⟩) | ((first | refine call0D (sGa_ok _ _ _ _ _ ?_ ?_ ?_) ?_ | refine qcall0D (sGa_ok _ _ _ _ _ ?_ ?_ ?_) ⟨_,_,rfl,rfl⟩ ?_); (iterate 3 (exact sd)); rintro _ _ ⟨rfl,rfl⟩) | ((first | refine call0D (BCall.ofP (equalInts_ok _ _ _ _ ?_ ?_ ?_)) ?_ | refine qcall0D (BCall.ofP (equalInts_ok _ _ _ _ ?_ ?_ ?_)) ⟨_,_,rfl,rfl⟩ ?_); (iterate 3 (exact sd)); rintro _ _ ⟨rfl,rfl⟩) | ((first | refine call0D (BCall.ofP (iValidView_ok _ _ _ _ _ ?_ ?_ ?_)) ?_ | refine qcall0D (BCall.ofP (iValidView_ok _ _ _ _ _ ?_ ?_ ?_)) ⟨_,_,rfl,rfl⟩ ?_); (iterate 3 (exact sd)); rintro _ _ ⟨rfl,rfl⟩) | ((first | refine call0D (iCe_ok _ _ _ _ _ ?_ ?_ ?_) ?_ | refine qcall0D (iCe_ok _ _ _ _ _ ?_ ?_ ?_) ⟨_,_,rfl,rfl⟩ ?_); (iterate 3 (exact sd)); rintro _ _ ⟨rfl,rfl⟩) | ((first | refine call0D (BCall.ofP (iBoundsOf_ok _ _ _ _ _ ?_ ?_ ?_)) ?_ | refine qcall0D (BCall.ofP (iBoundsOf_ok _ _ _ _ _ ?_ ?_ ?_)) ⟨_,_,rfl,rfl⟩ ?_); (iterate 3 (exact sd)); rintro _ _ ⟨rfl,rfl⟩) | ((first | refine call0D (BCall.ofP (isInL_ok _ _ _ ?_ ?_)) ?_ | refine qcall0D (BCall.ofP (isInL_ok _ _ _ ?_ ?_)) ⟨_,_,rfl,rfl⟩ ?_); (iterate 2 (exact sd)); rintro _ _ ⟨rfl,rfl⟩) | ((first | refine call0D (BCall.ofP (ascends_ok _ _ ?_ ?_)) ?_ | refine qcall0D (BCall.ofP (ascends_ok _ _ ?_ ?_)) ⟨_,_,rfl,rfl⟩ ?_); (iterate 2 (exact sd)); rintro _ _ ⟨rfl,rfl⟩)) <;> (try simp (disch := omega) only [push_cast,seval,d1,d2,hc1,hal,Nat.mul_one,List.drop_zero,List.length_map]))
 | (refine awp_ret ⟨.inr rfl,_,rfl,?_⟩; (try simp (disch := omega) only [push_cast,seval,d1,d2,hc1,hal,Nat.mul_one,List.drop_zero,List.length_map]))))
                refine ⟨k + 1,by omega,by omega,?_⟩
                have e : (lo : Int) + ((k + 1 : Nat) : Int) = (p : Int) + 1 := by omega
                rw [e]
                (refine Sub.of_lists ?_ ?_ ?_ ?_ ?_ <;> simp [Vw.mkS,Vw.lk,Vw.hk,AV.inn,innL,innL_ints,innL_append,innL_rep,-List.map_set,-List.getD_eq_getElem?_getD])
            · have hp : lo + k = hi + 1 := by omega
              rw [hp]
              have hsum : (G.length : Int) + C.length = (hi : Int) - lo + 1 := by omega
              (repeat' (first
 | (first | refine awp_seq ?_ | refine awp_block ?_)
 | ((first | refine awp_reg ?_ | refine awp_condB ?_ | refine awp_skip ?_ | refine awp_exit ?_); simp (disch := omega) only [push_cast,seval,l3r0,l3r1,l3r2,l3r3,l3r4,l3r5,l3r6,l3r7,l3r8,l3r9,l3r10,l3r11,l3r12,l3r13,l3r14,l3r15,l3r16,hsum,hc1,hal,Nat.mul_one,List.drop_zero,List.length_map,decide_true])
 | ((first | refine condB_split (fun h => ?_) (fun h => ?_) | refine gIf_split (fun h => ?_) (fun h => ?_) | refine qIf_split (fun h => ?_) (fun h => ?_)) <;> (try simp only [h]) <;> (try simp only [bitvec_to_nat] at h) <;> (try simp only [h]) <;> (first | (exfalso; omega) | (focus (exfalso; simp_all; done)) | (simp (disch := omega) only [push_cast,seval,hsum,hc1,hal,Nat.mul_one,List.drop_zero,List.length_map,decide_true]) | skip))
 | ((first | refine callD_of false ?_ | refine qcallD_of false ?_); simp (disch := omega) only [push_cast,seval,hsum,hc1,hal,Nat.mul_one,List.drop_zero,List.length_map,decide_true])
 | ((first | (refine call0D (BCall.ofP (drawGa_ok _ _ ?_ ?_)) ?_; (iterate 2 (exact sd)); rintro _ _ ⟨⟨b,sh,st,_,_,⟨rfl,rfl,hl1,hl2⟩,rfl⟩,rfl⟩) | ((first | refine call0D (iGa_ok _ _ _ _ _ ?_ ?_ ?_ ?_) ?_ | refine qcall0D (iGa_ok _ _ _ _ _ ?_ ?_ ?_ ?_) ⟨_,_,rfl,rfl⟩ ?_); (iterate 4 (exact sd)); rintro _ _ ⟨rfl,rfl⟩) | ((first | refine call0D (iGa0_ok _ _ _ _ _ ?_ ?_ ?_ ?_) ?_ | refine qcall0D (iGa0_ok _ _ _ _ _ ?_ ?_ ?_ ?_) ⟨_,_,rfl,rfl⟩ ?_); (iterate 4 (exact sd)); rintro _ _ ⟨rfl,rfl⟩) | ((first | refine call0D (sGa_ok _ _ _ _ _ ?_ ?_ ?_) ?_ | refine qcall0D (sGa_ok _ _ _ _ _ ?_ ?_ ?_) ⟨_,_,rfl,rfl⟩ ?_); (iterate 3 (exact sd)); rintro _ _ ⟨rfl,rfl⟩) | ((first | refine call0D (BCall.ofP (equalInts_ok _ _ _ _ ?_ ?_ ?_)) ?_ | refine qcall0D (BCall.ofP (equalInts_ok _ _ _ _ ?_ ?_ ?_)) ⟨_,_,rfl,rfl⟩ ?_); (iterate 3 (exact sd)); rintro _ _ ⟨rfl,rfl⟩) | ((first | refine call0D (BCall.ofP (iValidView_ok _ _ _ _ _ ?_ ?_ ?_)) ?_ | refine qcall0D (BCall.ofP (iValidView_ok _ _ _ _ _ ?_ ?_ ?_)) ⟨_,_,rfl,rfl⟩ ?_); (iterate 3 (exact sd)); rintro _ _ ⟨rfl,rfl⟩) | ((first | refine call0D (iCe_ok _ _ _ _ _ ?_ ?_ ?_) ?_ | refine qcall0D (iCe_ok _ _ _ _ _ ?_ ?_ ?_) ⟨_,_,rfl,rfl⟩ ?_); (iterate 3 (exact sd)); rintro _ _ ⟨rfl,rfl⟩) | ((first | refine call0D (BCall.ofP (iBoundsOf_ok _ _ _ _ _ ?_ ?_ ?_)) ?_ | refine qcall0D (BCall.ofP (iBoundsOf_ok _ _ _ _ _ ?_ ?_ ?_)) ⟨_,_,rfl,rfl⟩ ?_); (iterate 3 (exact sd)); rintro _ _ ⟨rfl,rfl⟩) | ((first | refine call0D (BCall.ofP (isInL_ok _ _ _ ?_ ?_)) ?_ | refine qcall0D (BCall.ofP (isInL_ok _ _ _ ?_ ?_)) ⟨_,_,rfl,rfl⟩ ?_); (iterate 2 (exact sd)); rintro _ _ ⟨rfl,rfl⟩) | ((first | refine call0D (BCall.ofP (ascends_ok _ _ ?_ ?_)) ?_ | refine qcall0D (BCall.ofP (ascends_ok _ _ ?_ ?_)) ⟨_,_,rfl,rfl⟩ ?_); (iterate 2 (exact sd)); rintro _ _ ⟨rfl,rfl⟩)) <;> (try simp (disch := omega) only [push_cast,seval,hsum,hc1,hal,Nat.mul_one,List.drop_zero,List.length_map,decide_true]))
 | (refine awp_ret ⟨.inr rfl,_,rfl,?_⟩; (try simp (disch := omega) only [push_cast,seval,hsum,hc1,hal,Nat.mul_one,List.drop_zero,List.length_map,decide_true]))))
              all_goals (try simp [hsum])
  · (repeat' (first
 | (first | refine awp_seq ?_ | refine awp_block ?_)
 | ((first | refine awp_reg ?_ | refine awp_condB ?_ | refine awp_skip ?_ | refine awp_exit ?_); simp (disch := omega) only [push_cast,seval,l3r0,l3r1,l3r2,l3r3,l3r4,l3r5,l3r6,l3r7,l3r8,l3r9,l3r10,l3r11,l3r12,l3r13,l3r14,l3r15,l3r16])
 | ((first | refine condB_split (fun h => ?_) (fun h => ?_) | refine gIf_split (fun h => ?_) (fun h => ?_) | refine qIf_split (fun h => ?_) (fun h => ?_)) <;> (try simp only [h]) <;> (try simp only [bitvec_to_nat] at h) <;> (try simp only [h]) <;> (first | (exfalso; omega) | (focus (exfalso; simp_all; done)) | (simp (disch := omega) only [push_cast,seval]) | skip))
 | ((first | refine callD_of false ?_ | refine qcallD_of false ?_); simp (disch := omega) only [push_cast,seval])
 | ((first | (refine call0D (BCall.ofP (drawGa_ok _ _ ?_ ?_)) ?_; (iterate 2 (exact sd)); rintro _ _ ⟨⟨b,sh,st,_,_,⟨rfl,rfl,hl1,hl2⟩,rfl⟩,rfl⟩) | ((first | refine call0D (iGa_ok _ _ _ _ _ ?_ ?_ ?_ ?_) ?_ | refine qcall0D (iGa_ok _ _ _ _ _ ?_ ?_ ?_ ?_) ⟨_,_,rfl,rfl⟩ ?_); (iterate 4 (exact sd)); rintro _ _ ⟨rfl,rfl⟩) | ((first | refine call0D (iGa0_ok _ _ _ _ _ ?_ ?_ ?_ ?_) ?_ | refine qcall0D (iGa0_ok _ _ _ _ _ ?_ ?_ ?_ ?_) ⟨_,_,rfl,rfl⟩ ?_); (iterate 4 (exact sd)); rintro _ _ ⟨rfl,rfl⟩) | ((first | refine call0D (sGa_ok _ _ _ _ _ ?_ ?_ ?_) ?_ | refine qcall0D (sGa_ok _ _ _ _ _ ?_ ?_ ?_) ⟨_,_,rfl,rfl⟩ ?_); (iterate 3 (exact sd)); rintro _ _ ⟨rfl,rfl⟩) | ((first | refine call0D (BCall.ofP (equalInts_ok _ _ _ _ ?_ ?_ ?_)) ?_ | refine qcall0D (BCall.ofP (equalInts_ok _ _ _ _ ?_ ?_ ?_)) ⟨_,_,rfl,rfl⟩ ?_); (iterate 3 (exact sd)); rintro _ _ ⟨rfl,rfl⟩) | ((first | refine call0D (BCall.ofP (iValidView_ok _ _ _ _ _ ?_ ?_ ?_)) ?_ | refine qcall0D (BCall.ofP (iValidView_ok _ _ _ _ _ ?_ ?_ ?_)) ⟨_,_,rfl,rfl⟩ ?_); (iterate 3 (exact sd)); rintro _ _ ⟨rfl,rfl⟩) | ((first | refine call0D (iCe_ok _ _ _ _ _ ?_ ?_ ?_) ?_ | refine qcall0D (iCe_ok _ _ _ _ _ ?_ ?_ ?_) ⟨_,_,rfl,rfl⟩ ?_); (iterate 3 (exact sd)); rintro _ _ ⟨rfl,rfl⟩) | ((first | refine call0D (BCall.ofP (iBoundsOf_ok _ _ _ _ _ ?_ ?_ ?_)) ?_ | refine qcall0D (BCall.ofP (iBoundsOf_ok _ _ _ _ _ ?_ ?_ ?_)) ⟨_,_,rfl,rfl⟩ ?_); (iterate 3 (exact sd)); rintro _ _ ⟨rfl,rfl⟩) | ((first | refine call0D (BCall.ofP (isInL_ok _ _ _ ?_ ?_)) ?_ | refine qcall0D (BCall.ofP (isInL_ok _ _ _ ?_ ?_)) ⟨_,_,rfl,rfl⟩ ?_); (iterate 2 (exact sd)); rintro _ _ ⟨rfl,rfl⟩) | ((first | refine call0D (BCall.ofP (ascends_ok _ _ ?_ ?_)) ?_ | refine qcall0D (BCall.ofP (ascends_ok _ _ ?_ ?_)) ⟨_,_,rfl,rfl⟩ ?_); (iterate 2 (exact sd)); rintro _ _ ⟨rfl,rfl⟩)) <;> (try simp (disch := omega) only [push_cast,seval]))
 | (refine awp_ret ⟨.inr rfl,_,rfl,?_⟩; (try simp (disch := omega) only [push_cast,seval]))))

end Go.Proofs.Ytceopplkfomalaa
