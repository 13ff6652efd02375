import Derived.Test.YtfphjgmkpgoomaaCKj5
import Derived.Test.YtfphjgmkpgoomaaCM1
import Derived.Test.YtfphjgmkpgoomaaCW3
set_option linter.unusedSimpArgs false
set_option linter.unusedVariables false
set_option maxRecDepth 4000
set_option maxHeartbeats 4000000
namespace Go.Proofs.Ytfphjgmkpgoomaa
open VwM Vw Go

def pairWB (r : AV) (H' : List (List AV)) : Prop := ∃ b sh st b' sh' st',(sh.length ≤ 1000 ∧ st.length ≤ 1000 ∧ sh'.length ≤ 1000 ∧ st'.length ≤ 1000) ∧
    ((r = .tup [.agg [.int .i64 b,.own 0 sh.length 1,.own 1 st.length 1],.agg [.int .i64 b',.own 2 sh'.length 1,.own 3 st'.length 1]] ∧ H' = [IL sh,IL st,IL sh',IL st']) ∨
     (r = .tup [.agg [.int .i64 b,.own 0 sh.length 1,.own 1 st.length 1],.agg [.int .i64 b',.rows true (IL sh') sh'.length,.rows true (IL st') st'.length]] ∧ H' = [IL sh,IL st]))
theorem pairW_plain {P : Program} {f : Nat} {args : List AV} (h : BCall P f args [] pairWB) : PCall P f args pairVP := by
  refine (BCall.plain h).mono ?_
  rintro r ⟨r0,H',⟨b,sh,st,b',sh',st',⟨h1,h2,h3,h4⟩,(⟨rfl,rfl⟩ | ⟨rfl,rfl⟩)⟩,rfl⟩
  · exact ⟨b,sh,st,b',sh',st',_,_,_,_,⟨rfl,rfl,rfl,rfl,h1,h2,h3,h4⟩,by simp [AV.ren,nthH,List.map_map,Function.comp_def]⟩
  · exact ⟨b,sh,st,b',sh',st',_,_,_,_,⟨rfl,rfl,rfl,rfl,h1,h2,h3,h4⟩,by simp [AV.ren,nthH,List.map_map,Function.comp_def]⟩
theorem way_neg {b : Int} {sh st : List Int} {b' : Int} {sh' st' : List Int} (h : ¬ wayI b sh st b' sh' st' < 0) : vV b sh st = true ∧ vV b' sh' st' = true ∧ sh = sh' := by
  unfold wayI at h
  by_cases hc : (vV b sh st && vV b' sh' st' && decide (sh = sh')) = true
  · simpa [and_assoc] using hc
  · rw [if_neg hc] at h; exact absurd (by omega) h
theorem way_val {b : Int} {sh st : List Int} {b' : Int} {st' : List Int} (hv : vV b sh st = true) (hv' : vV b' sh st' = true) : wayI b sh st b' sh st' = (if mtL (offs b sh st) (offs b' sh st') = false then 0 else if (!mtL (offs b' sh st') (offs b sh st) && decide (offs b sh st).Nodup) = true then 1 else 2) := if_pos (by simp [hv,hv'])
theorem mt_do {b : Int} {sh st : List Int} {b' : Int} {st' : List Int} (hv : vV b sh st = true) (hv' : vV b' sh st' = true) (hd : doB b sh st b' sh st' = false) : mtL (offs b sh st) (offs b' sh st') = false := by
  refine Bool.eq_false_iff.2 fun hm => ?_
  obtain ⟨i,k,h1,h2,h3,h4⟩ := mtL_spec.1 hm
  have hx : (offs b sh st).getD i 0 ∈ bothL (offs b sh st) (offs b' sh st') := by
    have hmi := getD_mem h1
    exact mem_bothL.2 ⟨by have := vV_cells hv _ hmi; omega,hmi,h4 ▸ getD_mem h3⟩
  have h0 := of_decide_eq_false hd
  rw [show ovB b sh st b' sh st' = true by simp [ovB,hv,hv']] at h0
  exact h0 (List.length_pos_of_mem hx)
theorem way_do {b : Int} {sh st : List Int} {b' : Int} {st' : List Int} (hv : vV b sh st = true) (hv' : vV b' sh st' = true) (hd : doB b sh st b' sh st' = false) : wayI b sh st b' sh st' = 0 := by rw [way_val hv hv',if_pos (mt_do hv hv' hd)]
theorem way_self {b : Int} {sh st : List Int} (hv : vV b sh st = true) (ho : oneB b sh st = true) : wayI b sh st b sh st = 0 := by
  rw [way_val hv hv,if_pos]
  have hn : (offs b sh st).Nodup := by unfold oneB at ho; exact of_decide_eq_true (Bool.and_eq_true_iff.1 ho).2
  refine Bool.eq_false_iff.2 fun hm => ?_
  obtain ⟨i,k,h1,h2,h3,h4⟩ := mtL_spec.1 hm
  exact nodup_ne hn h1 h3 (by omega) h4
theorem one_list {xs : List Int} (h : xs.length = 1) : xs = [xs.getD 0 0] := by
  match xs,h with
  | [x],_ => rfl
theorem way_lines {b : Int} {sh st : List Int} {b' : Int} {st' : List Int} (hv : vV b sh st = true) (hv' : vV b' sh st' = true) (h1 : sh.length = 1) (h2 : 1 ≤ sh.getD 0 0) (h3 : st.getD 0 0 = st'.getD 0 0) (h4 : 1 ≤ st.getD 0 0) :
    (b ≤ b' → wayI b sh st b' sh st' = 0) ∧ (b' < b → doB b sh st b' sh st' = true → wayI b sh st b' sh st' = 1) := by
  have e1 := one_list h1
  have e2 := one_list (xs := st) (by rw [(okV_valid hv).2,h1])
  have e3 := one_list (xs := st') (by rw [(okV_valid hv').2,h1])
  have O1 : offs b sh st = nums b (st.getD 0 0) (sh.getD 0 0).toNat := by
    conv => lhs; rw [e1,e2]
    exact offs_line _ _ _ (by omega)
  have O2 : offs b' sh st' = nums b' (st.getD 0 0) (sh.getD 0 0).toNat := by
    conv => lhs; rw [e1,e3]
    rw [h3]
    exact offs_line _ _ _ (by omega)
  rw [way_val hv hv']
  unfold doB
  rw [show ovB b sh st b' sh st' = true by simp [ovB,hv,hv'],O1,O2]
  generalize st.getD 0 0 = c at *
  generalize (sh.getD 0 0).toNat = n at *
  have hmt : ∀ a a' : Int,mtL (nums a c n) (nums a' c n) = true → a' < a := by
    intro a a' hm
    obtain ⟨i,k,k1,k2,k3,k4⟩ := mtL_spec.1 hm
    rw [nums_length] at k1 k3
    rw [nums_getD _ _ _ _ k1,nums_getD _ _ _ _ k3] at k4
    have : (i : Int) * c < (k : Int) * c := Int.mul_lt_mul_of_pos_right (by omega) (by omega)
    omega
  constructor
  · intro hle
    rw [if_pos]
    refine Bool.eq_false_iff.2 fun hm => ?_
    have := hmt _ _ hm
    omega
  · intro hlt hd
    have hnd : (nums b c n).Nodup := (nums_sorted h4 n).imp fun h => by omega
    have hr : mtL (nums b' c n) (nums b c n) = false := Bool.eq_false_iff.2 fun hm => by have := hmt _ _ hm; omega
    have hm : mtL (nums b c n) (nums b' c n) = true := by
      have h0 := of_decide_eq_true hd
      have h1 : 0 < (bothL (nums b c n) (nums b' c n)).length := h0
      obtain ⟨x,hx⟩ := List.exists_mem_of_length_pos h1
      obtain ⟨_,x1,x2⟩ := mem_bothL.1 hx
      obtain ⟨i,hi,rfl⟩ := mem_getD.1 x1
      obtain ⟨k,hk,e⟩ := mem_getD.1 x2
      rw [nums_length] at hi hk
      refine mtL_spec.2 ⟨i,k,by rw [nums_length]; exact hi,?_,by rw [nums_length]; exact hk,e.symm⟩
      rw [nums_getD _ _ _ _ hi,nums_getD _ _ _ _ hk] at e
      refine Nat.lt_of_not_le fun hki => ?_
      have : (k : Int) * c ≤ (i : Int) * c := Int.mul_le_mul_of_nonneg_right (by omega) (by omega)
      omega
    rw [if_neg (by rw [hm]; simp),if_pos (by rw [hr]; simpa using hnd)]


set_option maxHeartbeats 32000000 in
theorem drawWyb_ok (bs : List Int) (n : Nat) (hn : bs.length = n) (hb : n ≤ 1099511627776 ∧ ∀ x ∈ bs,0 ≤ x ∧ x ≤ 255) : BCall Try.prog 20 [.rows false (UL bs) n] [] pairWB := by
  refine bcall_of (pins := []) (pin := 0) l20_eq rfl rfl rfl ?_
  unfold pairWB
  (repeat' (first
 | (first | refine awp_seq ?_ | refine awp_block ?_)
 | ((first | refine awp_reg ?_ | refine awp_condB ?_ | refine awp_skip ?_ | refine awp_exit ?_); simp (disch := omega) only [push_cast,seval,l20r0,l20r1])
 | ((first | refine condB_split (fun h => ?_) (fun h => ?_) | refine gIf_split (fun h => ?_) (fun h => ?_) | refine qIf_split (fun h => ?_) (fun h => ?_)) <;> (try simp only [h]) <;> (try simp only [bitvec_to_nat] at h) <;> (try simp only [h]) <;> (first | (exfalso; omega) | (focus (exfalso; simp_all; done)) | (simp (disch := omega) only [push_cast,seval]) | skip))
 | ((first | ((with_reducible refine callD_of (f := 25) true ?_); simp (disch := omega) only [push_cast,seval]; (refine call0D (newReader_ok _ _ ?_ ?_) ?_; (iterate 2 (exact sd)); rintro _ _ ⟨bs0,hbs0,rfl,rfl⟩)) | ((with_reducible refine callD_ids (f := 46) [80] true ?_); simp (disch := omega) only [push_cast,seval]; (refine call1D (id := 80) (copyOf_ok _ _ ?_ ?_) (by first | ((simp (disch := omega) only [push_cast,seval]); done) | ((simp (disch := omega) only [push_cast,seval]); rfl)) ?_; (iterate 2 (exact sd)); rintro _ _ ⟨b,sh,st,b',sh',st',q,⟨hc1,hc2,hc3,hc4⟩,hq,(⟨rfl,rfl⟩ | ⟨rfl,rfl⟩)⟩))) <;> (try simp (disch := omega) only [push_cast,seval]))))
  all_goals first
    | ((refine awp_ret ⟨.inr rfl,[96,97,98,99],[],_,by decide,rfl,?_⟩; (try simp (disch := omega) only [push_cast,seval,↓allMem_nil,↓allMem_cons,↓List.map_cons,↓List.map_nil])); exact ⟨_,_,_,_,_,_,⟨by omega,by omega,by omega,by omega⟩,.inl ⟨rfl,rfl⟩⟩)
    | ((refine awp_ret ⟨.inr rfl,[96,97],[],_,by decide,rfl,?_⟩; (try simp (disch := omega) only [push_cast,seval,↓allMem_nil,↓allMem_cons,↓List.map_cons,↓List.map_nil])); exact ⟨_,_,_,_,_,_,⟨by omega,by omega,by omega,by omega⟩,.inr ⟨rfl,rfl⟩⟩)
theorem drawWy_ok (bs : List Int) (n : Nat) (hn : bs.length = n) (hb : n ≤ 1099511627776 ∧ ∀ x ∈ bs,0 ≤ x ∧ x ≤ 255) : PCall Try.prog 20 [.rows false (UL bs) n] pairVP := pairW_plain (drawWyb_ok bs n hn hb)


set_option maxHeartbeats 32000000 in
theorem lFnWy_ok (bs : List Int) (hl : bs.length ≤ 9223372036854775807) (hb : ∀ x ∈ bs,0 ≤ x ∧ x ≤ 255) : PCall Try.prog 5 [.rows false (UL bs) bs.length] (fun r => r = .bool true) := by
  refine pcall_of l5_eq rfl ?_
  by_cases h : bs.length ≤ 1048576
  · have q : bs.length ≤ 1099511627776 ∧ ∀ x ∈ bs,0 ≤ x ∧ x ≤ 255 := ⟨by omega,hb⟩
    (repeat' (first
 | (refine awp_joinL (c1 := .reg l5r3) (fun x : Int × List Int × List Int × Int × List Int × List Int => mkS [(3,.ref 48 3 0),(4,.ref 64 3 0)] [(48,[.int .i64 x.1,.rows true (IL x.2.1) x.2.1.length,.rows true (IL x.2.2.1) x.2.2.1.length]),(64,[.int .i64 x.2.2.2.1,.rows true (IL x.2.2.2.2.1) x.2.2.2.2.1.length,.rows true (IL x.2.2.2.2.2) x.2.2.2.2.2.length])]) (fun x => x.2.1.length ≤ 1000 ∧ x.2.2.1.length ≤ 1000 ∧ x.2.2.2.2.1.length ≤ 1000 ∧ x.2.2.2.2.2.length ≤ 1000) ?_ ?_)
 | (first | refine awp_seq ?_ | refine awp_block ?_)
 | ((first | refine awp_reg ?_ | refine awp_condB ?_ | refine awp_skip ?_ | refine awp_exit ?_); simp (disch := omega) only [push_cast,seval,l5r0,l5r1,l5r2,l5r3,l5r4,l5r5,l5r6,l5r7,l5r8,l5r9])
 | ((first | refine condB_split (fun h => ?_) (fun h => ?_) | refine gIf_split (fun h => ?_) (fun h => ?_) | refine qIf_split (fun h => ?_) (fun h => ?_)) <;> (try simp only [h]) <;> (try simp only [bitvec_to_nat] at h) <;> (try simp only [h]) <;> (first | (exfalso; omega) | (focus (exfalso; simp_all; done)) | (simp (disch := omega) only [push_cast,seval]) | skip))
 | ((first | refine callD_of false ?_ | refine qcallD_of false ?_); simp (disch := omega) only [push_cast,seval])
 | ((first | (refine call0D (BCall.ofP (drawWy_ok _ _ ?_ ?_)) ?_; (iterate 2 (exact sd)); rintro _ _ ⟨⟨b,sh,st,b',sh',st',_,_,_,_,⟨rfl,rfl,rfl,rfl,hc1,hc2,hc3,hc4⟩,rfl⟩,rfl⟩) | ((first | refine call0D (BCall.ofP (iWayOf_ok _ _ _ _ _ _ _ _ _ _ ?_ ?_ ?_ ?_ ?_)) ?_ | refine qcall0D (BCall.ofP (iWayOf_ok _ _ _ _ _ _ _ _ _ _ ?_ ?_ ?_ ?_ ?_)) ⟨_,_,rfl,rfl⟩ ?_); (iterate 5 (exact sd)); rintro _ _ ⟨rfl,rfl⟩) | ((first | refine call0D (BCall.ofP (sWayOf_ok _ _ _ _ _ _ _ _ _ _ ?_ ?_ ?_ ?_ ?_)) ?_ | refine qcall0D (BCall.ofP (sWayOf_ok _ _ _ _ _ _ _ _ _ _ ?_ ?_ ?_ ?_ ?_)) ⟨_,_,rfl,rfl⟩ ?_); (iterate 5 (exact sd)); rintro _ _ ⟨rfl,rfl⟩) | ((first | refine call0D (BCall.ofP (iDo_ok _ _ _ _ _ _ _ _ _ _ ?_ ?_ ?_ ?_ ?_)) ?_ | refine qcall0D (BCall.ofP (iDo_ok _ _ _ _ _ _ _ _ _ _ ?_ ?_ ?_ ?_ ?_)) ⟨_,_,rfl,rfl⟩ ?_); (iterate 5 (exact sd)); rintro _ _ ⟨rfl,rfl⟩) | ((first | refine call0D (BCall.ofP (iIsOneToOne_ok _ _ _ _ _ ?_ ?_ ?_)) ?_ | refine qcall0D (BCall.ofP (iIsOneToOne_ok _ _ _ _ _ ?_ ?_ ?_)) ⟨_,_,rfl,rfl⟩ ?_); (iterate 3 (exact sd)); rintro _ _ ⟨rfl,rfl⟩)) <;> (try simp (disch := omega) only [push_cast,seval]))
 | (refine awp_ret ⟨.inr rfl,_,rfl,?_⟩; (try simp (disch := omega) only [push_cast,seval]))))
    · (refine exSub6 (Sub.of_eqs rfl rfl ?_ ?_ ?_) ?_; (focus (simp [Vw.mkS,Vw.lk,Vw.hk,AV.inn,innL,innL_ints,innL_append,innL_rep,-List.map_set,-List.getD_eq_getElem?_getD,innL_ints]; done)); (focus (simp [AV.inn,innL,Vw.hk,innL_ints]; done)); (focus (simp [AV.inn,innL,innL_ints,innL_append,innL_rep,Vw.hk,innL_ints]; done)); (try simp only); (first | omega | (refine ⟨?_,?_⟩ <;> first | assumption | omega) | (refine ⟨?_,?_,?_⟩ <;> first | assumption | omega) | (refine ⟨?_,?_,?_,?_⟩ <;> first | assumption | omega)))
    · refine ⟨?_⟩
      rintro ⟨b,sh,st,b',sh',st'⟩ ⟨hc1,hc2,hc3,hc4⟩
      try simp only at hc1 hc2 hc3 hc4 ⊢
      have hq : (sh.length ≤ 1099511627776 ∧ st.length ≤ 1099511627776) ∧ sh'.length ≤ 1099511627776 ∧ st'.length ≤ 1099511627776 := by omega
      have hq' : (sh'.length ≤ 1099511627776 ∧ st'.length ≤ 1099511627776) ∧ sh.length ≤ 1099511627776 ∧ st.length ≤ 1099511627776 := by omega
      have hq1 : sh.length ≤ 1099511627776 ∧ st.length ≤ 1099511627776 := by omega
      have hq2 : sh'.length ≤ 1099511627776 ∧ st'.length ≤ 1099511627776 := by omega
      by_cases hw : wayI b sh st b' sh' st' < 0
      · generalize hW : wayI b sh st b' sh' st' = W at *
        (repeat' (first
 | (first | refine awp_seq ?_ | refine awp_block ?_)
 | ((first | refine awp_reg ?_ | refine awp_condB ?_ | refine awp_skip ?_ | refine awp_exit ?_); simp (disch := omega) only [push_cast,seval,l5r0,l5r1,l5r2,l5r3,l5r4,l5r5,l5r6,l5r7,l5r8,l5r9,hW,hw,decide_true])
 | ((first | refine condB_split (fun h => ?_) (fun h => ?_) | refine gIf_split (fun h => ?_) (fun h => ?_) | refine qIf_split (fun h => ?_) (fun h => ?_)) <;> (try simp only [h]) <;> (try simp only [bitvec_to_nat] at h) <;> (try simp only [h]) <;> (first | (exfalso; omega) | (focus (exfalso; simp_all; done)) | (simp (disch := omega) only [push_cast,seval,hW,hw,decide_true]) | skip))
 | ((first | refine callD_of false ?_ | refine qcallD_of false ?_); simp (disch := omega) only [push_cast,seval,hW,hw,decide_true])
 | ((first | (refine call0D (BCall.ofP (drawWy_ok _ _ ?_ ?_)) ?_; (iterate 2 (exact sd)); rintro _ _ ⟨⟨b,sh,st,b',sh',st',_,_,_,_,⟨rfl,rfl,rfl,rfl,hc1,hc2,hc3,hc4⟩,rfl⟩,rfl⟩) | ((first | refine call0D (BCall.ofP (iWayOf_ok _ _ _ _ _ _ _ _ _ _ ?_ ?_ ?_ ?_ ?_)) ?_ | refine qcall0D (BCall.ofP (iWayOf_ok _ _ _ _ _ _ _ _ _ _ ?_ ?_ ?_ ?_ ?_)) ⟨_,_,rfl,rfl⟩ ?_); (iterate 5 (exact sd)); rintro _ _ ⟨rfl,rfl⟩) | ((first | refine call0D (BCall.ofP (sWayOf_ok _ _ _ _ _ _ _ _ _ _ ?_ ?_ ?_ ?_ ?_)) ?_ | refine qcall0D (BCall.ofP (sWayOf_ok _ _ _ _ _ _ _ _ _ _ ?_ ?_ ?_ ?_ ?_)) ⟨_,_,rfl,rfl⟩ ?_); (iterate 5 (exact sd)); rintro _ _ ⟨rfl,rfl⟩) | ((first | refine call0D (BCall.ofP (iDo_ok _ _ _ _ _ _ _ _ _ _ ?_ ?_ ?_ ?_ ?_)) ?_ | refine qcall0D (BCall.ofP (iDo_ok _ _ _ _ _ _ _ _ _ _ ?_ ?_ ?_ ?_ ?_)) ⟨_,_,rfl,rfl⟩ ?_); (iterate 5 (exact sd)); rintro _ _ ⟨rfl,rfl⟩) | ((first | refine call0D (BCall.ofP (iIsOneToOne_ok _ _ _ _ _ ?_ ?_ ?_)) ?_ | refine qcall0D (BCall.ofP (iIsOneToOne_ok _ _ _ _ _ ?_ ?_ ?_)) ⟨_,_,rfl,rfl⟩ ?_); (iterate 3 (exact sd)); rintro _ _ ⟨rfl,rfl⟩)) <;> (try simp (disch := omega) only [push_cast,seval,hW,hw,decide_true]))
 | (refine awp_ret ⟨.inr rfl,_,rfl,?_⟩; (try simp (disch := omega) only [push_cast,seval,hW,hw,decide_true]))))
        all_goals (try simp)
      · obtain ⟨hv,hv',rfl⟩ := way_neg hw
        have hd0 := @way_do b sh st b' st' hv hv'
        have hs0 := @way_self b sh st hv
        generalize hW : wayI b sh st b' sh st' = W at *
        generalize hX : wayI b sh st b sh st = X at *
        cases hd : doB b sh st b' sh st' with
        | false =>
          have hW0 := hd0 hd
          clear hd0
          subst hW0
          cases ho : oneB b sh st with
          | false =>
            clear hs0
            (repeat' (first
 | (first | refine awp_seq ?_ | refine awp_block ?_)
 | ((first | refine awp_reg ?_ | refine awp_condB ?_ | refine awp_skip ?_ | refine awp_exit ?_); simp (disch := omega) only [push_cast,seval,l5r0,l5r1,l5r2,l5r3,l5r4,l5r5,l5r6,l5r7,l5r8,l5r9,hW,hX,hd,ho,decide_true])
 | ((first | refine condB_split (fun h => ?_) (fun h => ?_) | refine gIf_split (fun h => ?_) (fun h => ?_) | refine qIf_split (fun h => ?_) (fun h => ?_)) <;> (try simp only [h]) <;> (try simp only [bitvec_to_nat] at h) <;> (try simp only [h]) <;> (first | (exfalso; omega) | (focus (exfalso; simp_all; done)) | (simp (disch := omega) only [push_cast,seval,hW,hX,hd,ho,decide_true]) | skip))
 | ((first | refine callD_of false ?_ | refine qcallD_of false ?_); simp (disch := omega) only [push_cast,seval,hW,hX,hd,ho,decide_true])
 | ((first | (refine call0D (BCall.ofP (drawWy_ok _ _ ?_ ?_)) ?_; (iterate 2 (exact sd)); rintro _ _ ⟨⟨b,sh,st,b',sh',st',_,_,_,_,⟨rfl,rfl,rfl,rfl,hc1,hc2,hc3,hc4⟩,rfl⟩,rfl⟩) | ((first | refine call0D (BCall.ofP (iWayOf_ok _ _ _ _ _ _ _ _ _ _ ?_ ?_ ?_ ?_ ?_)) ?_ | refine qcall0D (BCall.ofP (iWayOf_ok _ _ _ _ _ _ _ _ _ _ ?_ ?_ ?_ ?_ ?_)) ⟨_,_,rfl,rfl⟩ ?_); (iterate 5 (exact sd)); rintro _ _ ⟨rfl,rfl⟩) | ((first | refine call0D (BCall.ofP (sWayOf_ok _ _ _ _ _ _ _ _ _ _ ?_ ?_ ?_ ?_ ?_)) ?_ | refine qcall0D (BCall.ofP (sWayOf_ok _ _ _ _ _ _ _ _ _ _ ?_ ?_ ?_ ?_ ?_)) ⟨_,_,rfl,rfl⟩ ?_); (iterate 5 (exact sd)); rintro _ _ ⟨rfl,rfl⟩) | ((first | refine call0D (BCall.ofP (iDo_ok _ _ _ _ _ _ _ _ _ _ ?_ ?_ ?_ ?_ ?_)) ?_ | refine qcall0D (BCall.ofP (iDo_ok _ _ _ _ _ _ _ _ _ _ ?_ ?_ ?_ ?_ ?_)) ⟨_,_,rfl,rfl⟩ ?_); (iterate 5 (exact sd)); rintro _ _ ⟨rfl,rfl⟩) | ((first | refine call0D (BCall.ofP (iIsOneToOne_ok _ _ _ _ _ ?_ ?_ ?_)) ?_ | refine qcall0D (BCall.ofP (iIsOneToOne_ok _ _ _ _ _ ?_ ?_ ?_)) ⟨_,_,rfl,rfl⟩ ?_); (iterate 3 (exact sd)); rintro _ _ ⟨rfl,rfl⟩)) <;> (try simp (disch := omega) only [push_cast,seval,hW,hX,hd,ho,decide_true]))
 | (refine awp_ret ⟨.inr rfl,_,rfl,?_⟩; (try simp (disch := omega) only [push_cast,seval,hW,hX,hd,ho,decide_true]))))
            all_goals (try simp)
          | true =>
            have hX0 := hs0 ho
            clear hs0
            subst hX0
            (repeat' (first
 | (first | refine awp_seq ?_ | refine awp_block ?_)
 | ((first | refine awp_reg ?_ | refine awp_condB ?_ | refine awp_skip ?_ | refine awp_exit ?_); simp (disch := omega) only [push_cast,seval,l5r0,l5r1,l5r2,l5r3,l5r4,l5r5,l5r6,l5r7,l5r8,l5r9,hW,hX,hd,ho,decide_true])
 | ((first | refine condB_split (fun h => ?_) (fun h => ?_) | refine gIf_split (fun h => ?_) (fun h => ?_) | refine qIf_split (fun h => ?_) (fun h => ?_)) <;> (try simp only [h]) <;> (try simp only [bitvec_to_nat] at h) <;> (try simp only [h]) <;> (first | (exfalso; omega) | (focus (exfalso; simp_all; done)) | (simp (disch := omega) only [push_cast,seval,hW,hX,hd,ho,decide_true]) | skip))
 | ((first | refine callD_of false ?_ | refine qcallD_of false ?_); simp (disch := omega) only [push_cast,seval,hW,hX,hd,ho,decide_true])
 | ((first | (refine call0D (BCall.ofP (drawWy_ok _ _ ?_ ?_)) ?_; (iterate 2 (exact sd)); rintro _ _ ⟨⟨b,sh,st,b',sh',st',_,_,_,_,⟨rfl,rfl,rfl,rfl,hc1,hc2,hc3,hc4⟩,rfl⟩,rfl⟩) | ((first | refine call0D (BCall.ofP (iWayOf_ok _ _ _ _ _ _ _ _ _ _ ?_ ?_ ?_ ?_ ?_)) ?_ | refine qcall0D (BCall.ofP (iWayOf_ok _ _ _ _ _ _ _ _ _ _ ?_ ?_ ?_ ?_ ?_)) ⟨_,_,rfl,rfl⟩ ?_); (iterate 5 (exact sd)); rintro _ _ ⟨rfl,rfl⟩) | ((first | refine call0D (BCall.ofP (sWayOf_ok _ _ _ _ _ _ _ _ _ _ ?_ ?_ ?_ ?_ ?_)) ?_ | refine qcall0D (BCall.ofP (sWayOf_ok _ _ _ _ _ _ _ _ _ _ ?_ ?_ ?_ ?_ ?_)) ⟨_,_,rfl,rfl⟩ ?_); (iterate 5 (exact sd)); rintro _ _ ⟨rfl,rfl⟩) | ((first | refine call0D (BCall.ofP (iDo_ok _ _ _ _ _ _ _ _ _ _ ?_ ?_ ?_ ?_ ?_)) ?_ | refine qcall0D (BCall.ofP (iDo_ok _ _ _ _ _ _ _ _ _ _ ?_ ?_ ?_ ?_ ?_)) ⟨_,_,rfl,rfl⟩ ?_); (iterate 5 (exact sd)); rintro _ _ ⟨rfl,rfl⟩) | ((first | refine call0D (BCall.ofP (iIsOneToOne_ok _ _ _ _ _ ?_ ?_ ?_)) ?_ | refine qcall0D (BCall.ofP (iIsOneToOne_ok _ _ _ _ _ ?_ ?_ ?_)) ⟨_,_,rfl,rfl⟩ ?_); (iterate 3 (exact sd)); rintro _ _ ⟨rfl,rfl⟩)) <;> (try simp (disch := omega) only [push_cast,seval,hW,hX,hd,ho,decide_true]))
 | (refine awp_ret ⟨.inr rfl,_,rfl,?_⟩; (try simp (disch := omega) only [push_cast,seval,hW,hX,hd,ho,decide_true]))))
            all_goals (try simp)
        | true =>
          clear hd0
          cases ho : oneB b sh st with
          | false =>
            clear hs0
            (repeat' (first
 | (first | refine awp_seq ?_ | refine awp_block ?_)
 | ((first | refine awp_reg ?_ | refine awp_condB ?_ | refine awp_skip ?_ | refine awp_exit ?_); simp (disch := omega) only [push_cast,seval,l5r0,l5r1,l5r2,l5r3,l5r4,l5r5,l5r6,l5r7,l5r8,l5r9,hW,hX,hw,hd,ho,decide_true])
 | ((first | refine condB_split (fun h => ?_) (fun h => ?_) | refine gIf_split (fun h => ?_) (fun h => ?_) | refine qIf_split (fun h => ?_) (fun h => ?_)) <;> (try simp only [h]) <;> (try simp only [bitvec_to_nat] at h) <;> (try simp only [h]) <;> (first | (exfalso; omega) | (focus (exfalso; simp_all; done)) | (simp (disch := omega) only [push_cast,seval,hW,hX,hw,hd,ho,decide_true]) | skip))
 | ((first | refine callD_of false ?_ | refine qcallD_of false ?_); simp (disch := omega) only [push_cast,seval,hW,hX,hw,hd,ho,decide_true])
 | ((first | (refine call0D (BCall.ofP (drawWy_ok _ _ ?_ ?_)) ?_; (iterate 2 (exact sd)); rintro _ _ ⟨⟨b,sh,st,b',sh',st',_,_,_,_,⟨rfl,rfl,rfl,rfl,hc1,hc2,hc3,hc4⟩,rfl⟩,rfl⟩) | ((first | refine call0D (BCall.ofP (iWayOf_ok _ _ _ _ _ _ _ _ _ _ ?_ ?_ ?_ ?_ ?_)) ?_ | refine qcall0D (BCall.ofP (iWayOf_ok _ _ _ _ _ _ _ _ _ _ ?_ ?_ ?_ ?_ ?_)) ⟨_,_,rfl,rfl⟩ ?_); (iterate 5 (exact sd)); rintro _ _ ⟨rfl,rfl⟩) | ((first | refine call0D (BCall.ofP (sWayOf_ok _ _ _ _ _ _ _ _ _ _ ?_ ?_ ?_ ?_ ?_)) ?_ | refine qcall0D (BCall.ofP (sWayOf_ok _ _ _ _ _ _ _ _ _ _ ?_ ?_ ?_ ?_ ?_)) ⟨_,_,rfl,rfl⟩ ?_); (iterate 5 (exact sd)); rintro _ _ ⟨rfl,rfl⟩) | ((first | refine call0D (BCall.ofP (iDo_ok _ _ _ _ _ _ _ _ _ _ ?_ ?_ ?_ ?_ ?_)) ?_ | refine qcall0D (BCall.ofP (iDo_ok _ _ _ _ _ _ _ _ _ _ ?_ ?_ ?_ ?_ ?_)) ⟨_,_,rfl,rfl⟩ ?_); (iterate 5 (exact sd)); rintro _ _ ⟨rfl,rfl⟩) | ((first | refine call0D (BCall.ofP (iIsOneToOne_ok _ _ _ _ _ ?_ ?_ ?_)) ?_ | refine qcall0D (BCall.ofP (iIsOneToOne_ok _ _ _ _ _ ?_ ?_ ?_)) ⟨_,_,rfl,rfl⟩ ?_); (iterate 3 (exact sd)); rintro _ _ ⟨rfl,rfl⟩)) <;> (try simp (disch := omega) only [push_cast,seval,hW,hX,hw,hd,ho,decide_true]))
 | (refine awp_ret ⟨.inr rfl,_,rfl,?_⟩; (try simp (disch := omega) only [push_cast,seval,hW,hX,hw,hd,ho,decide_true]))))
            all_goals (try simp)
          | true =>
            have hX0 := hs0 ho
            clear hs0
            subst hX0
            (repeat' (first
 | (first | refine awp_seq ?_ | refine awp_block ?_)
 | ((first | refine awp_reg ?_ | refine awp_condB ?_ | refine awp_skip ?_ | refine awp_exit ?_); simp (disch := omega) only [push_cast,seval,l5r0,l5r1,l5r2,l5r3,l5r4,l5r5,l5r6,l5r7,l5r8,l5r9,hW,hX,hw,hd,ho,decide_true])
 | ((first | refine condB_split (fun h => ?_) (fun h => ?_) | refine gIf_split (fun h => ?_) (fun h => ?_) | refine qIf_split (fun h => ?_) (fun h => ?_)) <;> (try simp only [h]) <;> (try simp only [bitvec_to_nat] at h) <;> (try simp only [h]) <;> (first | (exfalso; omega) | (focus (exfalso; simp_all; done)) | (simp (disch := omega) only [push_cast,seval,hW,hX,hw,hd,ho,decide_true]) | skip))
 | ((first | refine callD_of false ?_ | refine qcallD_of false ?_); simp (disch := omega) only [push_cast,seval,hW,hX,hw,hd,ho,decide_true])
 | ((first | (refine call0D (BCall.ofP (drawWy_ok _ _ ?_ ?_)) ?_; (iterate 2 (exact sd)); rintro _ _ ⟨⟨b,sh,st,b',sh',st',_,_,_,_,⟨rfl,rfl,rfl,rfl,hc1,hc2,hc3,hc4⟩,rfl⟩,rfl⟩) | ((first | refine call0D (BCall.ofP (iWayOf_ok _ _ _ _ _ _ _ _ _ _ ?_ ?_ ?_ ?_ ?_)) ?_ | refine qcall0D (BCall.ofP (iWayOf_ok _ _ _ _ _ _ _ _ _ _ ?_ ?_ ?_ ?_ ?_)) ⟨_,_,rfl,rfl⟩ ?_); (iterate 5 (exact sd)); rintro _ _ ⟨rfl,rfl⟩) | ((first | refine call0D (BCall.ofP (sWayOf_ok _ _ _ _ _ _ _ _ _ _ ?_ ?_ ?_ ?_ ?_)) ?_ | refine qcall0D (BCall.ofP (sWayOf_ok _ _ _ _ _ _ _ _ _ _ ?_ ?_ ?_ ?_ ?_)) ⟨_,_,rfl,rfl⟩ ?_); (iterate 5 (exact sd)); rintro _ _ ⟨rfl,rfl⟩) | ((first | refine call0D (BCall.ofP (iDo_ok _ _ _ _ _ _ _ _ _ _ ?_ ?_ ?_ ?_ ?_)) ?_ | refine qcall0D (BCall.ofP (iDo_ok _ _ _ _ _ _ _ _ _ _ ?_ ?_ ?_ ?_ ?_)) ⟨_,_,rfl,rfl⟩ ?_); (iterate 5 (exact sd)); rintro _ _ ⟨rfl,rfl⟩) | ((first | refine call0D (BCall.ofP (iIsOneToOne_ok _ _ _ _ _ ?_ ?_ ?_)) ?_ | refine qcall0D (BCall.ofP (iIsOneToOne_ok _ _ _ _ _ ?_ ?_ ?_)) ⟨_,_,rfl,rfl⟩ ?_); (iterate 3 (exact sd)); rintro _ _ ⟨rfl,rfl⟩)) <;> (try simp (disch := omega) only [push_cast,seval,hW,hX,hw,hd,ho,decide_true]))
 | (refine awp_ret ⟨.inr rfl,_,rfl,?_⟩; (try simp (disch := omega) only [push_cast,seval,hW,hX,hw,hd,ho,decide_true]))))
            all_goals (try simp)
  · (repeat' (first
 | (first | refine awp_seq ?_ | refine awp_block ?_)
 | ((first | refine awp_reg ?_ | refine awp_condB ?_ | refine awp_skip ?_ | refine awp_exit ?_); simp (disch := omega) only [push_cast,seval,l5r0,l5r1,l5r2,l5r3,l5r4,l5r5,l5r6,l5r7,l5r8,l5r9])
 | ((first | refine condB_split (fun h => ?_) (fun h => ?_) | refine gIf_split (fun h => ?_) (fun h => ?_) | refine qIf_split (fun h => ?_) (fun h => ?_)) <;> (try simp only [h]) <;> (try simp only [bitvec_to_nat] at h) <;> (try simp only [h]) <;> (first | (exfalso; omega) | (focus (exfalso; simp_all; done)) | (simp (disch := omega) only [push_cast,seval]) | skip))
 | ((first | refine callD_of false ?_ | refine qcallD_of false ?_); simp (disch := omega) only [push_cast,seval])
 | ((first | (refine call0D (BCall.ofP (drawWy_ok _ _ ?_ ?_)) ?_; (iterate 2 (exact sd)); rintro _ _ ⟨⟨b,sh,st,b',sh',st',_,_,_,_,⟨rfl,rfl,rfl,rfl,hc1,hc2,hc3,hc4⟩,rfl⟩,rfl⟩) | ((first | refine call0D (BCall.ofP (iWayOf_ok _ _ _ _ _ _ _ _ _ _ ?_ ?_ ?_ ?_ ?_)) ?_ | refine qcall0D (BCall.ofP (iWayOf_ok _ _ _ _ _ _ _ _ _ _ ?_ ?_ ?_ ?_ ?_)) ⟨_,_,rfl,rfl⟩ ?_); (iterate 5 (exact sd)); rintro _ _ ⟨rfl,rfl⟩) | ((first | refine call0D (BCall.ofP (sWayOf_ok _ _ _ _ _ _ _ _ _ _ ?_ ?_ ?_ ?_ ?_)) ?_ | refine qcall0D (BCall.ofP (sWayOf_ok _ _ _ _ _ _ _ _ _ _ ?_ ?_ ?_ ?_ ?_)) ⟨_,_,rfl,rfl⟩ ?_); (iterate 5 (exact sd)); rintro _ _ ⟨rfl,rfl⟩) | ((first | refine call0D (BCall.ofP (iDo_ok _ _ _ _ _ _ _ _ _ _ ?_ ?_ ?_ ?_ ?_)) ?_ | refine qcall0D (BCall.ofP (iDo_ok _ _ _ _ _ _ _ _ _ _ ?_ ?_ ?_ ?_ ?_)) ⟨_,_,rfl,rfl⟩ ?_); (iterate 5 (exact sd)); rintro _ _ ⟨rfl,rfl⟩) | ((first | refine call0D (BCall.ofP (iIsOneToOne_ok _ _ _ _ _ ?_ ?_ ?_)) ?_ | refine qcall0D (BCall.ofP (iIsOneToOne_ok _ _ _ _ _ ?_ ?_ ?_)) ⟨_,_,rfl,rfl⟩ ?_); (iterate 3 (exact sd)); rintro _ _ ⟨rfl,rfl⟩)) <;> (try simp (disch := omega) only [push_cast,seval]))
 | (refine awp_ret ⟨.inr rfl,_,rfl,?_⟩; (try simp (disch := omega) only [push_cast,seval]))))


set_option maxHeartbeats 32000000 in
theorem lFnWl_ok (bs : List Int) (hl : bs.length ≤ 9223372036854775807) (hb : ∀ x ∈ bs,0 ≤ x ∧ x ≤ 255) : PCall Try.prog 6 [.rows false (UL bs) bs.length] (fun r => r = .bool true) := by
  refine pcall_of l6_eq rfl ?_
  by_cases h : bs.length ≤ 1048576
  · have q : bs.length ≤ 1099511627776 ∧ ∀ x ∈ bs,0 ≤ x ∧ x ≤ 255 := ⟨by omega,hb⟩
    (repeat' (first
 | (refine awp_joinL (c1 := .reg l6r3) (fun x : Int × List Int × List Int × Int × List Int × List Int => mkS [(3,.ref 48 3 0),(4,.ref 64 3 0)] [(48,[.int .i64 x.1,.rows true (IL x.2.1) x.2.1.length,.rows true (IL x.2.2.1) x.2.2.1.length]),(64,[.int .i64 x.2.2.2.1,.rows true (IL x.2.2.2.2.1) x.2.2.2.2.1.length,.rows true (IL x.2.2.2.2.2) x.2.2.2.2.2.length])]) (fun x => x.2.1.length ≤ 1000 ∧ x.2.2.1.length ≤ 1000 ∧ x.2.2.2.2.1.length ≤ 1000 ∧ x.2.2.2.2.2.length ≤ 1000) ?_ ?_)
 | (first | refine awp_seq ?_ | refine awp_block ?_)
 | ((first | refine awp_reg ?_ | refine awp_draw (mid := l6r7a) (post := l6r7b) mixed (by decide) ?_ | refine awp_condB ?_ | refine awp_skip ?_ | refine awp_exit ?_); simp (disch := omega) only [push_cast,seval,l6r0,l6r1,l6r2,l6r3,l6r4,l6r5,l6r6,l6r7a,l6r7b,l6r7,l6r8,l6r9])
 | ((first | refine condB_split (fun h => ?_) (fun h => ?_) | refine gIf_split (fun h => ?_) (fun h => ?_) | refine qIf_split (fun h => ?_) (fun h => ?_)) <;> (try simp only [h]) <;> (try simp only [bitvec_to_nat] at h) <;> (try simp only [h]) <;> (first | (exfalso; omega) | (focus (exfalso; simp_all; done)) | (simp (disch := omega) only [push_cast,seval]) | skip))
 | ((first | refine callD_of false ?_ | refine qcallD_of false ?_); simp (disch := omega) only [push_cast,seval])
 | ((first | (refine call0D (BCall.ofP (drawWy_ok _ _ ?_ ?_)) ?_; (iterate 2 (exact sd)); rintro _ _ ⟨⟨b,sh,st,b',sh',st',_,_,_,_,⟨rfl,rfl,rfl,rfl,hc1,hc2,hc3,hc4⟩,rfl⟩,rfl⟩) | ((first | refine call0D (BCall.ofP (iWayOf_ok _ _ _ _ _ _ _ _ _ _ ?_ ?_ ?_ ?_ ?_)) ?_ | refine qcall0D (BCall.ofP (iWayOf_ok _ _ _ _ _ _ _ _ _ _ ?_ ?_ ?_ ?_ ?_)) ⟨_,_,rfl,rfl⟩ ?_); (iterate 5 (exact sd)); rintro _ _ ⟨rfl,rfl⟩) | ((first | refine call0D (BCall.ofP (sWayOf_ok _ _ _ _ _ _ _ _ _ _ ?_ ?_ ?_ ?_ ?_)) ?_ | refine qcall0D (BCall.ofP (sWayOf_ok _ _ _ _ _ _ _ _ _ _ ?_ ?_ ?_ ?_ ?_)) ⟨_,_,rfl,rfl⟩ ?_); (iterate 5 (exact sd)); rintro _ _ ⟨rfl,rfl⟩) | ((first | refine call0D (BCall.ofP (iDo_ok _ _ _ _ _ _ _ _ _ _ ?_ ?_ ?_ ?_ ?_)) ?_ | refine qcall0D (BCall.ofP (iDo_ok _ _ _ _ _ _ _ _ _ _ ?_ ?_ ?_ ?_ ?_)) ⟨_,_,rfl,rfl⟩ ?_); (iterate 5 (exact sd)); rintro _ _ ⟨rfl,rfl⟩)) <;> (try simp (disch := omega) only [push_cast,seval]))
 | (refine awp_ret ⟨.inr rfl,_,rfl,?_⟩; (try simp (disch := omega) only [push_cast,seval]))))
    · (refine exSub6 (Sub.of_eqs rfl rfl ?_ ?_ ?_) ?_; (focus (simp [Vw.mkS,Vw.lk,Vw.hk,AV.inn,innL,innL_ints,innL_append,innL_rep,-List.map_set,-List.getD_eq_getElem?_getD,innL_ints]; done)); (focus (simp [AV.inn,innL,Vw.hk,innL_ints]; done)); (focus (simp [AV.inn,innL,innL_ints,innL_append,innL_rep,Vw.hk,innL_ints]; done)); (try simp only); (first | omega | (refine ⟨?_,?_⟩ <;> first | assumption | omega) | (refine ⟨?_,?_,?_⟩ <;> first | assumption | omega) | (refine ⟨?_,?_,?_,?_⟩ <;> first | assumption | omega)))
    · refine ⟨?_⟩
      rintro ⟨b,sh,st,b',sh',st'⟩ ⟨hc1,hc2,hc3,hc4⟩
      try simp only at hc1 hc2 hc3 hc4 ⊢
      have hq : (sh.length ≤ 1099511627776 ∧ st.length ≤ 1099511627776) ∧ sh'.length ≤ 1099511627776 ∧ st'.length ≤ 1099511627776 := by omega
      have hq' : (sh'.length ≤ 1099511627776 ∧ st'.length ≤ 1099511627776) ∧ sh.length ≤ 1099511627776 ∧ st.length ≤ 1099511627776 := by omega
      have hq1 : sh.length ≤ 1099511627776 ∧ st.length ≤ 1099511627776 := by omega
      have hq2 : sh'.length ≤ 1099511627776 ∧ st'.length ≤ 1099511627776 := by omega
      by_cases hw : wayI b sh st b' sh' st' < 0
      · generalize hW : wayI b sh st b' sh' st' = W at *
        (repeat' (first
 | (first | refine awp_seq ?_ | refine awp_block ?_)
 | ((first | refine awp_reg ?_ | refine awp_draw (mid := l6r7a) (post := l6r7b) mixed (by decide) ?_ | refine awp_condB ?_ | refine awp_skip ?_ | refine awp_exit ?_); simp (disch := omega) only [push_cast,seval,l6r0,l6r1,l6r2,l6r3,l6r4,l6r5,l6r6,l6r7a,l6r7b,l6r7,l6r8,l6r9,hW,hw,decide_true])
 | ((first | refine condB_split (fun h => ?_) (fun h => ?_) | refine gIf_split (fun h => ?_) (fun h => ?_) | refine qIf_split (fun h => ?_) (fun h => ?_)) <;> (try simp only [h]) <;> (try simp only [bitvec_to_nat] at h) <;> (try simp only [h]) <;> (first | (exfalso; omega) | (focus (exfalso; simp_all; done)) | (simp (disch := omega) only [push_cast,seval,hW,hw,decide_true]) | skip))
 | ((first | refine callD_of false ?_ | refine qcallD_of false ?_); simp (disch := omega) only [push_cast,seval,hW,hw,decide_true])
 | ((first | (refine call0D (BCall.ofP (drawWy_ok _ _ ?_ ?_)) ?_; (iterate 2 (exact sd)); rintro _ _ ⟨⟨b,sh,st,b',sh',st',_,_,_,_,⟨rfl,rfl,rfl,rfl,hc1,hc2,hc3,hc4⟩,rfl⟩,rfl⟩) | ((first | refine call0D (BCall.ofP (iWayOf_ok _ _ _ _ _ _ _ _ _ _ ?_ ?_ ?_ ?_ ?_)) ?_ | refine qcall0D (BCall.ofP (iWayOf_ok _ _ _ _ _ _ _ _ _ _ ?_ ?_ ?_ ?_ ?_)) ⟨_,_,rfl,rfl⟩ ?_); (iterate 5 (exact sd)); rintro _ _ ⟨rfl,rfl⟩) | ((first | refine call0D (BCall.ofP (sWayOf_ok _ _ _ _ _ _ _ _ _ _ ?_ ?_ ?_ ?_ ?_)) ?_ | refine qcall0D (BCall.ofP (sWayOf_ok _ _ _ _ _ _ _ _ _ _ ?_ ?_ ?_ ?_ ?_)) ⟨_,_,rfl,rfl⟩ ?_); (iterate 5 (exact sd)); rintro _ _ ⟨rfl,rfl⟩) | ((first | refine call0D (BCall.ofP (iDo_ok _ _ _ _ _ _ _ _ _ _ ?_ ?_ ?_ ?_ ?_)) ?_ | refine qcall0D (BCall.ofP (iDo_ok _ _ _ _ _ _ _ _ _ _ ?_ ?_ ?_ ?_ ?_)) ⟨_,_,rfl,rfl⟩ ?_); (iterate 5 (exact sd)); rintro _ _ ⟨rfl,rfl⟩)) <;> (try simp (disch := omega) only [push_cast,seval,hW,hw,decide_true]))
 | (refine awp_ret ⟨.inr rfl,_,rfl,?_⟩; (try simp (disch := omega) only [push_cast,seval,hW,hw,decide_true]))))
        all_goals (try simp)
      · obtain ⟨hv,hv',rfl⟩ := way_neg hw
        have hlst := (okV_valid hv).2
        have hlst' := (okV_valid hv').2
        have hwl := @way_lines b sh st b' st' hv hv'
        generalize hW : wayI b sh st b' sh st' = W at *
        generalize hdv : doB b sh st b' sh st' = D at *
        by_cases h1 : sh.length = 1
        · have h1' : (sh.length : Int) = 1 := by omega
          by_cases h2 : 1 ≤ sh.getD 0 0
          · by_cases h3 : st.getD 0 0 = st'.getD 0 0
            · by_cases h4 : 1 ≤ st.getD 0 0
              · obtain ⟨w1,w2⟩ := hwl h1 h2 h3 h4
                clear hwl
                have h4' : ¬ st.getD 0 0 < 1 := by omega
                have h2' : ¬ sh.getD 0 0 < 1 := by omega
                have h4'' : ¬ st'.getD 0 0 < 1 := by omega
                by_cases hb1 : b ≤ b'
                · have hW0 := w1 hb1
                  clear w1 w2
                  subst hW0
                  have hb2 : ¬ b > b' := by omega
                  (repeat' (first
 | (first | refine awp_seq ?_ | refine awp_block ?_)
 | ((first | refine awp_reg ?_ | refine awp_draw (mid := l6r7a) (post := l6r7b) mixed (by decide) ?_ | refine awp_condB ?_ | refine awp_skip ?_ | refine awp_exit ?_); simp (disch := omega) only [push_cast,seval,l6r0,l6r1,l6r2,l6r3,l6r4,l6r5,l6r6,l6r7a,l6r7b,l6r7,l6r8,l6r9,hW,hdv,h1',h2',h3,h4',h4'',hb1,hb2,decide_true,decide_false])
 | ((first | refine condB_split (fun h => ?_) (fun h => ?_) | refine gIf_split (fun h => ?_) (fun h => ?_) | refine qIf_split (fun h => ?_) (fun h => ?_)) <;> (try simp only [h]) <;> (try simp only [bitvec_to_nat] at h) <;> (try simp only [h]) <;> (first | (exfalso; omega) | (focus (exfalso; simp_all; done)) | (simp (disch := omega) only [push_cast,seval,hW,hdv,h1',h2',h3,h4',h4'',hb1,hb2,decide_true,decide_false]) | skip))
 | ((first | refine callD_of false ?_ | refine qcallD_of false ?_); simp (disch := omega) only [push_cast,seval,hW,hdv,h1',h2',h3,h4',h4'',hb1,hb2,decide_true,decide_false])
 | ((first | (refine call0D (BCall.ofP (drawWy_ok _ _ ?_ ?_)) ?_; (iterate 2 (exact sd)); rintro _ _ ⟨⟨b,sh,st,b',sh',st',_,_,_,_,⟨rfl,rfl,rfl,rfl,hc1,hc2,hc3,hc4⟩,rfl⟩,rfl⟩) | ((first | refine call0D (BCall.ofP (iWayOf_ok _ _ _ _ _ _ _ _ _ _ ?_ ?_ ?_ ?_ ?_)) ?_ | refine qcall0D (BCall.ofP (iWayOf_ok _ _ _ _ _ _ _ _ _ _ ?_ ?_ ?_ ?_ ?_)) ⟨_,_,rfl,rfl⟩ ?_); (iterate 5 (exact sd)); rintro _ _ ⟨rfl,rfl⟩) | ((first | refine call0D (BCall.ofP (sWayOf_ok _ _ _ _ _ _ _ _ _ _ ?_ ?_ ?_ ?_ ?_)) ?_ | refine qcall0D (BCall.ofP (sWayOf_ok _ _ _ _ _ _ _ _ _ _ ?_ ?_ ?_ ?_ ?_)) ⟨_,_,rfl,rfl⟩ ?_); (iterate 5 (exact sd)); rintro _ _ ⟨rfl,rfl⟩) | ((first | refine call0D (BCall.ofP (iDo_ok _ _ _ _ _ _ _ _ _ _ ?_ ?_ ?_ ?_ ?_)) ?_ | refine qcall0D (BCall.ofP (iDo_ok _ _ _ _ _ _ _ _ _ _ ?_ ?_ ?_ ?_ ?_)) ⟨_,_,rfl,rfl⟩ ?_); (iterate 5 (exact sd)); rintro _ _ ⟨rfl,rfl⟩)) <;> (try simp (disch := omega) only [push_cast,seval,hW,hdv,h1',h2',h3,h4',h4'',hb1,hb2,decide_true,decide_false]))
 | (refine awp_ret ⟨.inr rfl,_,rfl,?_⟩; (try simp (disch := omega) only [push_cast,seval,hW,hdv,h1',h2',h3,h4',h4'',hb1,hb2,decide_true,decide_false]))))
                  all_goals (try simp)
                · have hb2 : b > b' := by omega
                  cases hDc : D with
                  | true =>
                    have hW0 := w2 (by omega) hDc
                    clear w1 w2
                    subst hW0
                    subst hDc
                    (repeat' (first
 | (first | refine awp_seq ?_ | refine awp_block ?_)
 | ((first | refine awp_reg ?_ | refine awp_draw (mid := l6r7a) (post := l6r7b) mixed (by decide) ?_ | refine awp_condB ?_ | refine awp_skip ?_ | refine awp_exit ?_); simp (disch := omega) only [push_cast,seval,l6r0,l6r1,l6r2,l6r3,l6r4,l6r5,l6r6,l6r7a,l6r7b,l6r7,l6r8,l6r9,hW,hdv,h1',h2',h3,h4',h4'',hb1,hb2,decide_true,decide_false])
 | ((first | refine condB_split (fun h => ?_) (fun h => ?_) | refine gIf_split (fun h => ?_) (fun h => ?_) | refine qIf_split (fun h => ?_) (fun h => ?_)) <;> (try simp only [h]) <;> (try simp only [bitvec_to_nat] at h) <;> (try simp only [h]) <;> (first | (exfalso; omega) | (focus (exfalso; simp_all; done)) | (simp (disch := omega) only [push_cast,seval,hW,hdv,h1',h2',h3,h4',h4'',hb1,hb2,decide_true,decide_false]) | skip))
 | ((first | refine callD_of false ?_ | refine qcallD_of false ?_); simp (disch := omega) only [push_cast,seval,hW,hdv,h1',h2',h3,h4',h4'',hb1,hb2,decide_true,decide_false])
 | ((first | (refine call0D (BCall.ofP (drawWy_ok _ _ ?_ ?_)) ?_; (iterate 2 (exact sd)); rintro _ _ ⟨⟨b,sh,st,b',sh',st',_,_,_,_,⟨rfl,rfl,rfl,rfl,hc1,hc2,hc3,hc4⟩,rfl⟩,rfl⟩) | ((first | refine call0D (BCall.ofP (iWayOf_ok _ _ _ _ _ _ _ _ _ _ ?_ ?_ ?_ ?_ ?_)) ?_ | refine qcall0D (BCall.ofP (iWayOf_ok _ _ _ _ _ _ _ _ _ _ ?_ ?_ ?_ ?_ ?_)) ⟨_,_,rfl,rfl⟩ ?_); (iterate 5 (exact sd)); rintro _ _ ⟨rfl,rfl⟩) | ((first | refine call0D (BCall.ofP (sWayOf_ok _ _ _ _ _ _ _ _ _ _ ?_ ?_ ?_ ?_ ?_)) ?_ | refine qcall0D (BCall.ofP (sWayOf_ok _ _ _ _ _ _ _ _ _ _ ?_ ?_ ?_ ?_ ?_)) ⟨_,_,rfl,rfl⟩ ?_); (iterate 5 (exact sd)); rintro _ _ ⟨rfl,rfl⟩) | ((first | refine call0D (BCall.ofP (iDo_ok _ _ _ _ _ _ _ _ _ _ ?_ ?_ ?_ ?_ ?_)) ?_ | refine qcall0D (BCall.ofP (iDo_ok _ _ _ _ _ _ _ _ _ _ ?_ ?_ ?_ ?_ ?_)) ⟨_,_,rfl,rfl⟩ ?_); (iterate 5 (exact sd)); rintro _ _ ⟨rfl,rfl⟩)) <;> (try simp (disch := omega) only [push_cast,seval,hW,hdv,h1',h2',h3,h4',h4'',hb1,hb2,decide_true,decide_false]))
 | (refine awp_ret ⟨.inr rfl,_,rfl,?_⟩; (try simp (disch := omega) only [push_cast,seval,hW,hdv,h1',h2',h3,h4',h4'',hb1,hb2,decide_true,decide_false]))))
                    all_goals (try simp)
                  | false =>
                    clear w1 w2
                    subst hDc
                    (repeat' (first
 | (first | refine awp_seq ?_ | refine awp_block ?_)
 | ((first | refine awp_reg ?_ | refine awp_draw (mid := l6r7a) (post := l6r7b) mixed (by decide) ?_ | refine awp_condB ?_ | refine awp_skip ?_ | refine awp_exit ?_); simp (disch := omega) only [push_cast,seval,l6r0,l6r1,l6r2,l6r3,l6r4,l6r5,l6r6,l6r7a,l6r7b,l6r7,l6r8,l6r9,hW,hw,hdv,h1',h2',h3,h4',h4'',hb1,hb2,decide_true,decide_false])
 | ((first | refine condB_split (fun h => ?_) (fun h => ?_) | refine gIf_split (fun h => ?_) (fun h => ?_) | refine qIf_split (fun h => ?_) (fun h => ?_)) <;> (try simp only [h]) <;> (try simp only [bitvec_to_nat] at h) <;> (try simp only [h]) <;> (first | (exfalso; omega) | (focus (exfalso; simp_all; done)) | (simp (disch := omega) only [push_cast,seval,hW,hw,hdv,h1',h2',h3,h4',h4'',hb1,hb2,decide_true,decide_false]) | skip))
 | ((first | refine callD_of false ?_ | refine qcallD_of false ?_); simp (disch := omega) only [push_cast,seval,hW,hw,hdv,h1',h2',h3,h4',h4'',hb1,hb2,decide_true,decide_false])
 | ((first | (refine call0D (BCall.ofP (drawWy_ok _ _ ?_ ?_)) ?_; (iterate 2 (exact sd)); rintro _ _ ⟨⟨b,sh,st,b',sh',st',_,_,_,_,⟨rfl,rfl,rfl,rfl,hc1,hc2,hc3,hc4⟩,rfl⟩,rfl⟩) | ((first | refine call0D (BCall.ofP (iWayOf_ok _ _ _ _ _ _ _ _ _ _ ?_ ?_ ?_ ?_ ?_)) ?_ | refine qcall0D (BCall.ofP (iWayOf_ok _ _ _ _ _ _ _ _ _ _ ?_ ?_ ?_ ?_ ?_)) ⟨_,_,rfl,rfl⟩ ?_); (iterate 5 (exact sd)); rintro _ _ ⟨rfl,rfl⟩) | ((first | refine call0D (BCall.ofP (sWayOf_ok _ _ _ _ _ _ _ _ _ _ ?_ ?_ ?_ ?_ ?_)) ?_ | refine qcall0D (BCall.ofP (sWayOf_ok _ _ _ _ _ _ _ _ _ _ ?_ ?_ ?_ ?_ ?_)) ⟨_,_,rfl,rfl⟩ ?_); (iterate 5 (exact sd)); rintro _ _ ⟨rfl,rfl⟩) | ((first | refine call0D (BCall.ofP (iDo_ok _ _ _ _ _ _ _ _ _ _ ?_ ?_ ?_ ?_ ?_)) ?_ | refine qcall0D (BCall.ofP (iDo_ok _ _ _ _ _ _ _ _ _ _ ?_ ?_ ?_ ?_ ?_)) ⟨_,_,rfl,rfl⟩ ?_); (iterate 5 (exact sd)); rintro _ _ ⟨rfl,rfl⟩)) <;> (try simp (disch := omega) only [push_cast,seval,hW,hw,hdv,h1',h2',h3,h4',h4'',hb1,hb2,decide_true,decide_false]))
 | (refine awp_ret ⟨.inr rfl,_,rfl,?_⟩; (try simp (disch := omega) only [push_cast,seval,hW,hw,hdv,h1',h2',h3,h4',h4'',hb1,hb2,decide_true,decide_false]))))
                    all_goals (try simp)
              · clear hwl
                have h4' : st.getD 0 0 < 1 := by omega
                have h2' : ¬ sh.getD 0 0 < 1 := by omega
                have h4'' : st'.getD 0 0 < 1 := by omega
                (repeat' (first
 | (first | refine awp_seq ?_ | refine awp_block ?_)
 | ((first | refine awp_reg ?_ | refine awp_draw (mid := l6r7a) (post := l6r7b) mixed (by decide) ?_ | refine awp_condB ?_ | refine awp_skip ?_ | refine awp_exit ?_); simp (disch := omega) only [push_cast,seval,l6r0,l6r1,l6r2,l6r3,l6r4,l6r5,l6r6,l6r7a,l6r7b,l6r7,l6r8,l6r9,hW,hw,h1',h2',h3,h4',h4'',decide_true,decide_false])
 | ((first | refine condB_split (fun h => ?_) (fun h => ?_) | refine gIf_split (fun h => ?_) (fun h => ?_) | refine qIf_split (fun h => ?_) (fun h => ?_)) <;> (try simp only [h]) <;> (try simp only [bitvec_to_nat] at h) <;> (try simp only [h]) <;> (first | (exfalso; omega) | (focus (exfalso; simp_all; done)) | (simp (disch := omega) only [push_cast,seval,hW,hw,h1',h2',h3,h4',h4'',decide_true,decide_false]) | skip))
 | ((first | refine callD_of false ?_ | refine qcallD_of false ?_); simp (disch := omega) only [push_cast,seval,hW,hw,h1',h2',h3,h4',h4'',decide_true,decide_false])
 | ((first | (refine call0D (BCall.ofP (drawWy_ok _ _ ?_ ?_)) ?_; (iterate 2 (exact sd)); rintro _ _ ⟨⟨b,sh,st,b',sh',st',_,_,_,_,⟨rfl,rfl,rfl,rfl,hc1,hc2,hc3,hc4⟩,rfl⟩,rfl⟩) | ((first | refine call0D (BCall.ofP (iWayOf_ok _ _ _ _ _ _ _ _ _ _ ?_ ?_ ?_ ?_ ?_)) ?_ | refine qcall0D (BCall.ofP (iWayOf_ok _ _ _ _ _ _ _ _ _ _ ?_ ?_ ?_ ?_ ?_)) ⟨_,_,rfl,rfl⟩ ?_); (iterate 5 (exact sd)); rintro _ _ ⟨rfl,rfl⟩) | ((first | refine call0D (BCall.ofP (sWayOf_ok _ _ _ _ _ _ _ _ _ _ ?_ ?_ ?_ ?_ ?_)) ?_ | refine qcall0D (BCall.ofP (sWayOf_ok _ _ _ _ _ _ _ _ _ _ ?_ ?_ ?_ ?_ ?_)) ⟨_,_,rfl,rfl⟩ ?_); (iterate 5 (exact sd)); rintro _ _ ⟨rfl,rfl⟩) | ((first | refine call0D (BCall.ofP (iDo_ok _ _ _ _ _ _ _ _ _ _ ?_ ?_ ?_ ?_ ?_)) ?_ | refine qcall0D (BCall.ofP (iDo_ok _ _ _ _ _ _ _ _ _ _ ?_ ?_ ?_ ?_ ?_)) ⟨_,_,rfl,rfl⟩ ?_); (iterate 5 (exact sd)); rintro _ _ ⟨rfl,rfl⟩)) <;> (try simp (disch := omega) only [push_cast,seval,hW,hw,h1',h2',h3,h4',h4'',decide_true,decide_false]))
 | (refine awp_ret ⟨.inr rfl,_,rfl,?_⟩; (try simp (disch := omega) only [push_cast,seval,hW,hw,h1',h2',h3,h4',h4'',decide_true,decide_false]))))
                all_goals (try simp)
            · clear hwl
              have h2' : ¬ sh.getD 0 0 < 1 := by omega
              (repeat' (first
 | (first | refine awp_seq ?_ | refine awp_block ?_)
 | ((first | refine awp_reg ?_ | refine awp_draw (mid := l6r7a) (post := l6r7b) mixed (by decide) ?_ | refine awp_condB ?_ | refine awp_skip ?_ | refine awp_exit ?_); simp (disch := omega) only [push_cast,seval,l6r0,l6r1,l6r2,l6r3,l6r4,l6r5,l6r6,l6r7a,l6r7b,l6r7,l6r8,l6r9,hW,hw,h1',h2',h3,decide_true,decide_false])
 | ((first | refine condB_split (fun h => ?_) (fun h => ?_) | refine gIf_split (fun h => ?_) (fun h => ?_) | refine qIf_split (fun h => ?_) (fun h => ?_)) <;> (try simp only [h]) <;> (try simp only [bitvec_to_nat] at h) <;> (try simp only [h]) <;> (first | (exfalso; omega) | (focus (exfalso; simp_all; done)) | (simp (disch := omega) only [push_cast,seval,hW,hw,h1',h2',h3,decide_true,decide_false]) | skip))
 | ((first | refine callD_of false ?_ | refine qcallD_of false ?_); simp (disch := omega) only [push_cast,seval,hW,hw,h1',h2',h3,decide_true,decide_false])
 | ((first | (refine call0D (BCall.ofP (drawWy_ok _ _ ?_ ?_)) ?_; (iterate 2 (exact sd)); rintro _ _ ⟨⟨b,sh,st,b',sh',st',_,_,_,_,⟨rfl,rfl,rfl,rfl,hc1,hc2,hc3,hc4⟩,rfl⟩,rfl⟩) | ((first | refine call0D (BCall.ofP (iWayOf_ok _ _ _ _ _ _ _ _ _ _ ?_ ?_ ?_ ?_ ?_)) ?_ | refine qcall0D (BCall.ofP (iWayOf_ok _ _ _ _ _ _ _ _ _ _ ?_ ?_ ?_ ?_ ?_)) ⟨_,_,rfl,rfl⟩ ?_); (iterate 5 (exact sd)); rintro _ _ ⟨rfl,rfl⟩) | ((first | refine call0D (BCall.ofP (sWayOf_ok _ _ _ _ _ _ _ _ _ _ ?_ ?_ ?_ ?_ ?_)) ?_ | refine qcall0D (BCall.ofP (sWayOf_ok _ _ _ _ _ _ _ _ _ _ ?_ ?_ ?_ ?_ ?_)) ⟨_,_,rfl,rfl⟩ ?_); (iterate 5 (exact sd)); rintro _ _ ⟨rfl,rfl⟩) | ((first | refine call0D (BCall.ofP (iDo_ok _ _ _ _ _ _ _ _ _ _ ?_ ?_ ?_ ?_ ?_)) ?_ | refine qcall0D (BCall.ofP (iDo_ok _ _ _ _ _ _ _ _ _ _ ?_ ?_ ?_ ?_ ?_)) ⟨_,_,rfl,rfl⟩ ?_); (iterate 5 (exact sd)); rintro _ _ ⟨rfl,rfl⟩)) <;> (try simp (disch := omega) only [push_cast,seval,hW,hw,h1',h2',h3,decide_true,decide_false]))
 | (refine awp_ret ⟨.inr rfl,_,rfl,?_⟩; (try simp (disch := omega) only [push_cast,seval,hW,hw,h1',h2',h3,decide_true,decide_false]))))
              all_goals (try simp)
          · clear hwl
            have h2' : sh.getD 0 0 < 1 := by omega
            (repeat' (first
 | (first | refine awp_seq ?_ | refine awp_block ?_)
 | ((first | refine awp_reg ?_ | refine awp_draw (mid := l6r7a) (post := l6r7b) mixed (by decide) ?_ | refine awp_condB ?_ | refine awp_skip ?_ | refine awp_exit ?_); simp (disch := omega) only [push_cast,seval,l6r0,l6r1,l6r2,l6r3,l6r4,l6r5,l6r6,l6r7a,l6r7b,l6r7,l6r8,l6r9,hW,hw,h1',h2',decide_true,decide_false])
 | ((first | refine condB_split (fun h => ?_) (fun h => ?_) | refine gIf_split (fun h => ?_) (fun h => ?_) | refine qIf_split (fun h => ?_) (fun h => ?_)) <;> (try simp only [h]) <;> (try simp only [bitvec_to_nat] at h) <;> (try simp only [h]) <;> (first | (exfalso; omega) | (focus (exfalso; simp_all; done)) | (simp (disch := omega) only [push_cast,seval,hW,hw,h1',h2',decide_true,decide_false]) | skip))
 | ((first | refine callD_of false ?_ | refine qcallD_of false ?_); simp (disch := omega) only [push_cast,seval,hW,hw,h1',h2',decide_true,decide_false])
 | ((first | (refine call0D (BCall.ofP (drawWy_ok _ _ ?_ ?_)) ?_; (iterate 2 (exact sd)); rintro _ _ ⟨⟨b,sh,st,b',sh',st',_,_,_,_,⟨rfl,rfl,rfl,rfl,hc1,hc2,hc3,hc4⟩,rfl⟩,rfl⟩) | ((first | refine call0D (BCall.ofP (iWayOf_ok _ _ _ _ _ _ _ _ _ _ ?_ ?_ ?_ ?_ ?_)) ?_ | refine qcall0D (BCall.ofP (iWayOf_ok _ _ _ _ _ _ _ _ _ _ ?_ ?_ ?_ ?_ ?_)) ⟨_,_,rfl,rfl⟩ ?_); (iterate 5 (exact sd)); rintro _ _ ⟨rfl,rfl⟩) | ((first | refine call0D (BCall.ofP (sWayOf_ok _ _ _ _ _ _ _ _ _ _ ?_ ?_ ?_ ?_ ?_)) ?_ | refine qcall0D (BCall.ofP (sWayOf_ok _ _ _ _ _ _ _ _ _ _ ?_ ?_ ?_ ?_ ?_)) ⟨_,_,rfl,rfl⟩ ?_); (iterate 5 (exact sd)); rintro _ _ ⟨rfl,rfl⟩) | ((first | refine call0D (BCall.ofP (iDo_ok _ _ _ _ _ _ _ _ _ _ ?_ ?_ ?_ ?_ ?_)) ?_ | refine qcall0D (BCall.ofP (iDo_ok _ _ _ _ _ _ _ _ _ _ ?_ ?_ ?_ ?_ ?_)) ⟨_,_,rfl,rfl⟩ ?_); (iterate 5 (exact sd)); rintro _ _ ⟨rfl,rfl⟩)) <;> (try simp (disch := omega) only [push_cast,seval,hW,hw,h1',h2',decide_true,decide_false]))
 | (refine awp_ret ⟨.inr rfl,_,rfl,?_⟩; (try simp (disch := omega) only [push_cast,seval,hW,hw,h1',h2',decide_true,decide_false]))))
            all_goals (try simp)
        · clear hwl
          have h1' : ¬ (sh.length : Int) = 1 := by omega
          (repeat' (first
 | (first | refine awp_seq ?_ | refine awp_block ?_)
 | ((first | refine awp_reg ?_ | refine awp_draw (mid := l6r7a) (post := l6r7b) mixed (by decide) ?_ | refine awp_condB ?_ | refine awp_skip ?_ | refine awp_exit ?_); simp (disch := omega) only [push_cast,seval,l6r0,l6r1,l6r2,l6r3,l6r4,l6r5,l6r6,l6r7a,l6r7b,l6r7,l6r8,l6r9,hW,hw,h1',decide_true,decide_false])
 | ((first | refine condB_split (fun h => ?_) (fun h => ?_) | refine gIf_split (fun h => ?_) (fun h => ?_) | refine qIf_split (fun h => ?_) (fun h => ?_)) <;> (try simp only [h]) <;> (try simp only [bitvec_to_nat] at h) <;> (try simp only [h]) <;> (first | (exfalso; omega) | (focus (exfalso; simp_all; done)) | (simp (disch := omega) only [push_cast,seval,hW,hw,h1',decide_true,decide_false]) | skip))
 | ((first | refine callD_of false ?_ | refine qcallD_of false ?_); simp (disch := omega) only [push_cast,seval,hW,hw,h1',decide_true,decide_false])
 | ((first | (refine call0D (BCall.ofP (drawWy_ok _ _ ?_ ?_)) ?_; (iterate 2 (exact sd)); rintro _ _ ⟨⟨b,sh,st,b',sh',st',_,_,_,_,⟨rfl,rfl,rfl,rfl,hc1,hc2,hc3,hc4⟩,rfl⟩,rfl⟩) | ((first | refine call0D (BCall.ofP (iWayOf_ok _ _ _ _ _ _ _ _ _ _ ?_ ?_ ?_ ?_ ?_)) ?_ | refine qcall0D (BCall.ofP (iWayOf_ok _ _ _ _ _ _ _ _ _ _ ?_ ?_ ?_ ?_ ?_)) ⟨_,_,rfl,rfl⟩ ?_); (iterate 5 (exact sd)); rintro _ _ ⟨rfl,rfl⟩) | ((first | refine call0D (BCall.ofP (sWayOf_ok _ _ _ _ _ _ _ _ _ _ ?_ ?_ ?_ ?_ ?_)) ?_ | refine qcall0D (BCall.ofP (sWayOf_ok _ _ _ _ _ _ _ _ _ _ ?_ ?_ ?_ ?_ ?_)) ⟨_,_,rfl,rfl⟩ ?_); (iterate 5 (exact sd)); rintro _ _ ⟨rfl,rfl⟩) | ((first | refine call0D (BCall.ofP (iDo_ok _ _ _ _ _ _ _ _ _ _ ?_ ?_ ?_ ?_ ?_)) ?_ | refine qcall0D (BCall.ofP (iDo_ok _ _ _ _ _ _ _ _ _ _ ?_ ?_ ?_ ?_ ?_)) ⟨_,_,rfl,rfl⟩ ?_); (iterate 5 (exact sd)); rintro _ _ ⟨rfl,rfl⟩)) <;> (try simp (disch := omega) only [push_cast,seval,hW,hw,h1',decide_true,decide_false]))
 | (refine awp_ret ⟨.inr rfl,_,rfl,?_⟩; (try simp (disch := omega) only [push_cast,seval,hW,hw,h1',decide_true,decide_false]))))
          all_goals (try simp)
  · (repeat' (first
 | (first | refine awp_seq ?_ | refine awp_block ?_)
 | ((first | refine awp_reg ?_ | refine awp_draw (mid := l6r7a) (post := l6r7b) mixed (by decide) ?_ | refine awp_condB ?_ | refine awp_skip ?_ | refine awp_exit ?_); simp (disch := omega) only [push_cast,seval,l6r0,l6r1,l6r2,l6r3,l6r4,l6r5,l6r6,l6r7a,l6r7b,l6r7,l6r8,l6r9])
 | ((first | refine condB_split (fun h => ?_) (fun h => ?_) | refine gIf_split (fun h => ?_) (fun h => ?_) | refine qIf_split (fun h => ?_) (fun h => ?_)) <;> (try simp only [h]) <;> (try simp only [bitvec_to_nat] at h) <;> (try simp only [h]) <;> (first | (exfalso; omega) | (focus (exfalso; simp_all; done)) | (simp (disch := omega) only [push_cast,seval]) | skip))
 | ((first | refine callD_of false ?_ | refine qcallD_of false ?_); simp (disch := omega) only [push_cast,seval])
 | ((first | (refine call0D (BCall.ofP (drawWy_ok _ _ ?_ ?_)) ?_; (iterate 2 (exact sd)); rintro _ _ ⟨⟨b,sh,st,b',sh',st',_,_,_,_,⟨rfl,rfl,rfl,rfl,hc1,hc2,hc3,hc4⟩,rfl⟩,rfl⟩) | ((first | refine call0D (BCall.ofP (iWayOf_ok _ _ _ _ _ _ _ _ _ _ ?_ ?_ ?_ ?_ ?_)) ?_ | refine qcall0D (BCall.ofP (iWayOf_ok _ _ _ _ _ _ _ _ _ _ ?_ ?_ ?_ ?_ ?_)) ⟨_,_,rfl,rfl⟩ ?_); (iterate 5 (exact sd)); rintro _ _ ⟨rfl,rfl⟩) | ((first | refine call0D (BCall.ofP (sWayOf_ok _ _ _ _ _ _ _ _ _ _ ?_ ?_ ?_ ?_ ?_)) ?_ | refine qcall0D (BCall.ofP (sWayOf_ok _ _ _ _ _ _ _ _ _ _ ?_ ?_ ?_ ?_ ?_)) ⟨_,_,rfl,rfl⟩ ?_); (iterate 5 (exact sd)); rintro _ _ ⟨rfl,rfl⟩) | ((first | refine call0D (BCall.ofP (iDo_ok _ _ _ _ _ _ _ _ _ _ ?_ ?_ ?_ ?_ ?_)) ?_ | refine qcall0D (BCall.ofP (iDo_ok _ _ _ _ _ _ _ _ _ _ ?_ ?_ ?_ ?_ ?_)) ⟨_,_,rfl,rfl⟩ ?_); (iterate 5 (exact sd)); rintro _ _ ⟨rfl,rfl⟩)) <;> (try simp (disch := omega) only [push_cast,seval]))
 | (refine awp_ret ⟨.inr rfl,_,rfl,?_⟩; (try simp (disch := omega) only [push_cast,seval]))))

end Go.Proofs.Ytfphjgmkpgoomaa
