import Derived.Test.YtfphjgmkpgoomaaCKv9
import Derived.Test.YtfphjgmkpgoomaaCM1
import Derived.Test.YtfphjgmkpgoomaaCW3
set_option linter.unusedSimpArgs false
set_option linter.unusedVariables false
set_option maxRecDepth 4000
set_option maxHeartbeats 4000000
namespace Go.Proofs.Ytfphjgmkpgoomaa
open VwM Vw Go

theorem no_gap_in {b : Int} {sh st : List Int} (hv : vV b sh st = true) (hz : ¬ pr sh = 0) (hg : (gaL b sh st).length = 0) {x : Int} (h1 : bdL b sh st ≤ x) (h2 : x ≤ bdH b sh st) : x ∈ offs b sh st := by
  obtain ⟨-,e1,e2⟩ := ga_facts hv hz
  refine Classical.byContradiction fun hx => ?_
  have : x ∈ gaL b sh st := by
    unfold gaL gapL
    refine List.mem_filter.2 ⟨?_,by simpa using hx⟩
    rw [e1,e2]
    refine List.mem_map.2 ⟨(x - bdL b sh st).toNat,List.mem_range.2 (by omega),by omega⟩
  rw [List.length_eq_zero_iff.1 hg] at this
  cases this
theorem no_gap {b : Int} {sh st : List Int} {b' : Int} {sh' st' : List Int} (hv : vV b sh st = true) (hv' : vV b' sh' st' = true) (hg : (gaL b sh st).length = 0) (hg' : (gaL b' sh' st').length = 0) : mayB b sh st b' sh' st' = doB b sh st b' sh' st' := by
  cases hd : doB b sh st b' sh' st' with
  | true => exact do_may hd
  | false =>
    refine Bool.eq_false_iff.2 fun hm => ?_
    rw [may_iff hv hv'] at hm
    simp only [Bool.and_eq_true,decide_eq_true_eq] at hm
    obtain ⟨⟨⟨m1,m2⟩,m3⟩,m4⟩ := hm
    have z : ¬ pr sh = 0 := fun e => by rw [bdL,if_pos e] at m1; omega
    have z' : ¬ pr sh' = 0 := fun e => by rw [bdL,if_pos e] at m2; omega
    have k := bd_cells hv z
    have k' := bd_cells hv' z'
    have x1 := no_gap_in hv z hg (x := max (bdL b sh st) (bdL b' sh' st')) (by omega) (by omega)
    have x2 := no_gap_in hv' z' hg' (x := max (bdL b sh st) (bdL b' sh' st')) (by omega) (by omega)
    have hm : max (bdL b sh st) (bdL b' sh' st') ∈ bothL (offs b sh st) (offs b' sh' st') := mem_bothL.2 ⟨by omega,x1,x2⟩
    have hov : ovB b sh st b' sh' st' = true := by simp [ovB,hv,hv']
    have h0 := of_decide_eq_false hd
    rw [hov] at h0
    exact h0 (List.length_pos_of_mem hm)


set_option maxHeartbeats 32000000 in
theorem drawMob_ok (bs : List Int) (n : Nat) (hn : bs.length = n) (hb : n ≤ 1099511627776 ∧ ∀ x ∈ bs,0 ≤ x ∧ x ≤ 255) : BCall Try.prog 14 [.rows false (UL bs) n] [] pairVB := by
  refine bcall_of (pins := []) (pin := 0) l14_eq rfl rfl rfl ?_
  unfold pairVB
  (repeat' (first
 | (first | refine awp_seq ?_ | refine awp_block ?_)
 | ((first | refine awp_reg ?_ | refine awp_condB ?_ | refine awp_skip ?_ | refine awp_exit ?_); simp (disch := omega) only [push_cast,seval,l14r0,l14r1])
 | ((first | refine condB_split (fun h => ?_) (fun h => ?_) | refine gIf_split (fun h => ?_) (fun h => ?_) | refine qIf_split (fun h => ?_) (fun h => ?_)) <;> (try simp only [h]) <;> (try simp only [bitvec_to_nat] at h) <;> (try simp only [h]) <;> (first | (exfalso; omega) | (focus (exfalso; simp_all; done)) | (simp (disch := omega) only [push_cast,seval]) | skip))
 | ((first | ((with_reducible refine callD_of (f := 25) true ?_); simp (disch := omega) only [push_cast,seval]; (refine call0D (newReader_ok _ _ ?_ ?_) ?_; (iterate 2 (exact sd)); rintro _ _ ⟨bs0,hbs0,rfl,rfl⟩)) | ((with_reducible refine callD_ids (f := 31) [80] true ?_); simp (disch := omega) only [push_cast,seval]; (refine call1D (id := 80) (viewsOf_ok _ _ ?_ ?_) (by first | ((simp (disch := omega) only [push_cast,seval]); done) | ((simp (disch := omega) only [push_cast,seval]); rfl)) ?_; (iterate 2 (exact sd)); rintro _ _ ⟨b,sh,st,b',sh',st',q,⟨hc1,hc2,hc3,hc4⟩,hq,rfl,rfl⟩))) <;> (try simp (disch := omega) only [push_cast,seval]))
 | (refine awp_ret ⟨.inr rfl,[96,97,98,99],[],_,by decide,rfl,?_⟩; (try simp (disch := omega) only [push_cast,seval,↓allMem_nil,↓allMem_cons,↓List.map_cons,↓List.map_nil]))))
  exact ⟨b,sh,st,b',sh',st',⟨by assumption,by assumption,by assumption,by assumption⟩,rfl,rfl⟩
theorem drawMo_ok (bs : List Int) (n : Nat) (hn : bs.length = n) (hb : n ≤ 1099511627776 ∧ ∀ x ∈ bs,0 ≤ x ∧ x ≤ 255) : PCall Try.prog 14 [.rows false (UL bs) n] pairVP := pairV_plain (drawMob_ok bs n hn hb)


set_option maxHeartbeats 32000000 in
theorem lFnMo_ok (bs : List Int) (hl : bs.length ≤ 9223372036854775807) (hb : ∀ x ∈ bs,0 ≤ x ∧ x ≤ 255) : PCall Try.prog 4 [.rows false (UL bs) bs.length] (fun r => r = .bool true) := by
  refine pcall_of l4_eq rfl ?_
  by_cases h : bs.length ≤ 1048576
  · have q : bs.length ≤ 1099511627776 ∧ ∀ x ∈ bs,0 ≤ x ∧ x ≤ 255 := ⟨by omega,hb⟩
    (repeat' (first
 | (refine awp_joinL (c1 := .reg l4r3) (fun x : Int × List Int × List Int × Int × List Int × List Int => mkS [(3,.ref 48 3 0),(4,.ref 64 3 0)] [(48,[.int .i64 x.1,.rows true (IL x.2.1) x.2.1.length,.rows true (IL x.2.2.1) x.2.2.1.length]),(64,[.int .i64 x.2.2.2.1,.rows true (IL x.2.2.2.2.1) x.2.2.2.2.1.length,.rows true (IL x.2.2.2.2.2) x.2.2.2.2.2.length])]) (fun x => x.2.1.length ≤ 1000 ∧ x.2.2.1.length ≤ 1000 ∧ x.2.2.2.2.1.length ≤ 1000 ∧ x.2.2.2.2.2.length ≤ 1000) ?_ ?_)
 | (first | refine awp_seq ?_ | refine awp_block ?_)
 | ((first | refine awp_reg ?_ | refine awp_condB ?_ | refine awp_skip ?_ | refine awp_exit ?_); simp (disch := omega) only [push_cast,seval,l4r0,l4r1,l4r2,l4r3,l4r4,l4r5,l4r6,l4r7,l4r8,l4r9])
 | ((first | refine condB_split (fun h => ?_) (fun h => ?_) | refine gIf_split (fun h => ?_) (fun h => ?_) | refine qIf_split (fun h => ?_) (fun h => ?_)) <;> (try simp only [h]) <;> (try simp only [bitvec_to_nat] at h) <;> (try simp only [h]) <;> (first | (exfalso; omega) | (focus (exfalso; simp_all; done)) | (simp (disch := omega) only [push_cast,seval]) | skip))
 | ((first | refine callD_of false ?_ | refine qcallD_of false ?_); simp (disch := omega) only [push_cast,seval])
 | ((first | (refine call0D (BCall.ofP (drawMo_ok _ _ ?_ ?_)) ?_; (iterate 2 (exact sd)); rintro _ _ ⟨⟨b,sh,st,b',sh',st',_,_,_,_,⟨rfl,rfl,rfl,rfl,hc1,hc2,hc3,hc4⟩,rfl⟩,rfl⟩) | ((first | refine call0D (BCall.ofP (iMayOverlap_ok _ _ _ _ _ _ _ _ _ _ ?_ ?_ ?_ ?_ ?_)) ?_ | refine qcall0D (BCall.ofP (iMayOverlap_ok _ _ _ _ _ _ _ _ _ _ ?_ ?_ ?_ ?_ ?_)) ⟨_,_,rfl,rfl⟩ ?_); (iterate 5 (exact sd)); rintro _ _ ⟨rfl,rfl⟩) | ((first | refine call0D (BCall.ofP (sMayOverlap_ok _ _ _ _ _ _ _ _ _ _ ?_ ?_ ?_ ?_ ?_)) ?_ | refine qcall0D (BCall.ofP (sMayOverlap_ok _ _ _ _ _ _ _ _ _ _ ?_ ?_ ?_ ?_ ?_)) ⟨_,_,rfl,rfl⟩ ?_); (iterate 5 (exact sd)); rintro _ _ ⟨rfl,rfl⟩) | ((first | refine call0D (BCall.ofP (iValidView_ok _ _ _ _ _ ?_ ?_ ?_)) ?_ | refine qcall0D (BCall.ofP (iValidView_ok _ _ _ _ _ ?_ ?_ ?_)) ⟨_,_,rfl,rfl⟩ ?_); (iterate 3 (exact sd)); rintro _ _ ⟨rfl,rfl⟩) | ((first | refine call0D (iGa_ok _ _ _ _ _ ?_ ?_ ?_ ?_) ?_ | refine qcall0D (iGa_ok _ _ _ _ _ ?_ ?_ ?_ ?_) ⟨_,_,rfl,rfl⟩ ?_); (iterate 4 (exact sd)); rintro _ _ ⟨rfl,rfl⟩) | ((first | refine call0D (iGa0_ok _ _ _ _ _ ?_ ?_ ?_ ?_) ?_ | refine qcall0D (iGa0_ok _ _ _ _ _ ?_ ?_ ?_ ?_) ⟨_,_,rfl,rfl⟩ ?_); (iterate 4 (exact sd)); rintro _ _ ⟨rfl,rfl⟩) | ((first | refine call0D (BCall.ofP (iDo_ok _ _ _ _ _ _ _ _ _ _ ?_ ?_ ?_ ?_ ?_)) ?_ | refine qcall0D (BCall.ofP (iDo_ok _ _ _ _ _ _ _ _ _ _ ?_ ?_ ?_ ?_ ?_)) ⟨_,_,rfl,rfl⟩ ?_); (iterate 5 (exact sd)); rintro _ _ ⟨rfl,rfl⟩)) <;> (try simp (disch := omega) only [push_cast,seval]))
 | (refine awp_ret ⟨.inr rfl,_,rfl,?_⟩; (try simp (disch := omega) only [push_cast,seval]))))
    · (refine exSub6 (Sub.of_eqs rfl rfl ?_ ?_ ?_) ?_; (focus (simp [Vw.mkS,Vw.lk,Vw.hk,AV.inn,innL,innL_ints,innL_append,innL_rep,-List.map_set,-List.getD_eq_getElem?_getD,innL_ints]; done)); (focus (simp [AV.inn,innL,Vw.hk,innL_ints]; done)); (focus (simp [AV.inn,innL,innL_ints,innL_append,innL_rep,Vw.hk,innL_ints]; done)); (try simp only); (first | omega | (refine ⟨?_,?_⟩ <;> first | assumption | omega) | (refine ⟨?_,?_,?_⟩ <;> first | assumption | omega) | (refine ⟨?_,?_,?_,?_⟩ <;> first | assumption | omega)))
    · refine ⟨?_⟩
      rintro ⟨b,sh,st,b',sh',st'⟩ ⟨hc1,hc2,hc3,hc4⟩
      try simp only at hc1 hc2 hc3 hc4 ⊢
      have hq : (sh.length ≤ 1099511627776 ∧ st.length ≤ 1099511627776) ∧ sh'.length ≤ 1099511627776 ∧ st'.length ≤ 1099511627776 := by omega
      have hq' : (sh'.length ≤ 1099511627776 ∧ st'.length ≤ 1099511627776) ∧ sh.length ≤ 1099511627776 ∧ st.length ≤ 1099511627776 := by omega
      have hq1 : sh.length ≤ 1099511627776 ∧ st.length ≤ 1099511627776 := by omega
      have hq2 : sh'.length ≤ 1099511627776 ∧ st'.length ≤ 1099511627776 := by omega
      by_cases hvv : vV b sh st = true ∧ vV b' sh' st' = true
      · obtain ⟨hv,hv'⟩ := hvv
        have hM : ∀ X : List Int,MVL true X = X := fun X => rfl
        have hgl := gaL_le hv
        have hgl' := gaL_le hv'
        have hsp := sp_bound hv
        have hsp' := sp_bound hv'
        have hdm := @do_may b sh st b' sh' st'
        have hng := @no_gap b sh st b' sh' st' hv hv'
        have hz0 := @gaL_zero b sh st
        have hz0' := @gaL_zero b' sh' st'
        have hnl : (gaL b sh st).length ≤ spN b sh st := by
          unfold gaL gapL
          have := List.length_filter_le (fun x => decide (¬ x ∈ offs b sh st)) (nums (spS b sh st) 1 (spN b sh st))
          rwa [nums_length] at this
        have hnl' : (gaL b' sh' st').length ≤ spN b' sh' st' := by
          unfold gaL gapL
          have := List.length_filter_le (fun x => decide (¬ x ∈ offs b' sh' st')) (nums (spS b' sh' st') 1 (spN b' sh' st'))
          rwa [nums_length] at this
        generalize hG : gaL b sh st = G at *
        generalize hG' : gaL b' sh' st' = G' at *
        generalize hN : spN b sh st = N at *
        generalize hN' : spN b' sh' st' = N' at *
        generalize hmv : mayB b sh st b' sh' st' = V at *
        generalize hdv : doB b sh st b' sh' st' = D at *
        clear hsp hsp'
        obtain ⟨y,hyl⟩ : ∃ y,N = G.length + y := ⟨N - G.length,by omega⟩
        obtain ⟨y',hyl'⟩ : ∃ y',N' = G'.length + y' := ⟨N' - G'.length,by omega⟩
        subst hyl hyl'
        have hnn : G.length + y - G.length = y := by omega
        have hnn' : G'.length + y' - G'.length = y' := by omega
        by_cases z : pr sh = 0
        · have hzz : vV b sh st = false ∨ pr sh = 0 := .inr z
          have hgz : ¬ (G.length : Int) > 0 := by rw [hz0 z]; simp
          clear hz0
          by_cases z' : pr sh' = 0
          · have hzz' : vV b' sh' st' = false ∨ pr sh' = 0 := .inr z'
            have hgz' : ¬ (G'.length : Int) > 0 := by rw [hz0' z']; simp
            clear hz0'
            have hVD : V = D := hng (by omega) (by omega)
            clear hng hdm
            subst hVD
            (repeat' (first
 | (first | refine awp_seq ?_ | refine awp_block ?_)
 | ((first | refine awp_reg ?_ | refine awp_condB ?_ | refine awp_skip ?_ | refine awp_exit ?_); simp (disch := omega) only [push_cast,seval,l4r0,l4r1,l4r2,l4r3,l4r4,l4r5,l4r6,l4r7,l4r8,l4r9,hv,hv',hM,hnn,hnn',hG,hG',hN,hN',hmv,hdv,hgz,hgz',decide_true,decide_false,List.length_map,List.length_append])
 | ((first | refine condB_split (fun h => ?_) (fun h => ?_) | refine gIf_split (fun h => ?_) (fun h => ?_) | refine qIf_split (fun h => ?_) (fun h => ?_)) <;> (try simp only [h]) <;> (try simp only [bitvec_to_nat] at h) <;> (try simp only [h]) <;> (first | (exfalso; omega) | (focus (exfalso; simp_all; done)) | (simp (disch := omega) only [push_cast,seval,hv,hv',hM,hnn,hnn',hG,hG',hN,hN',hmv,hdv,hgz,hgz',decide_true,decide_false,List.length_map,List.length_append]) | skip))
 | ((first | refine callD_of false ?_ | refine qcallD_of false ?_); simp (disch := omega) only [push_cast,seval,hv,hv',hM,hnn,hnn',hG,hG',hN,hN',hmv,hdv,hgz,hgz',decide_true,decide_false,List.length_map,List.length_append])
 | ((first | (refine call0D (BCall.ofP (drawMo_ok _ _ ?_ ?_)) ?_; (iterate 2 (exact sd)); rintro _ _ ⟨⟨b,sh,st,b',sh',st',_,_,_,_,⟨rfl,rfl,rfl,rfl,hc1,hc2,hc3,hc4⟩,rfl⟩,rfl⟩) | ((first | refine call0D (BCall.ofP (iMayOverlap_ok _ _ _ _ _ _ _ _ _ _ ?_ ?_ ?_ ?_ ?_)) ?_ | refine qcall0D (BCall.ofP (iMayOverlap_ok _ _ _ _ _ _ _ _ _ _ ?_ ?_ ?_ ?_ ?_)) ⟨_,_,rfl,rfl⟩ ?_); (iterate 5 (exact sd)); rintro _ _ ⟨rfl,rfl⟩) | ((first | refine call0D (BCall.ofP (sMayOverlap_ok _ _ _ _ _ _ _ _ _ _ ?_ ?_ ?_ ?_ ?_)) ?_ | refine qcall0D (BCall.ofP (sMayOverlap_ok _ _ _ _ _ _ _ _ _ _ ?_ ?_ ?_ ?_ ?_)) ⟨_,_,rfl,rfl⟩ ?_); (iterate 5 (exact sd)); rintro _ _ ⟨rfl,rfl⟩) | ((first | refine call0D (BCall.ofP (iValidView_ok _ _ _ _ _ ?_ ?_ ?_)) ?_ | refine qcall0D (BCall.ofP (iValidView_ok _ _ _ _ _ ?_ ?_ ?_)) ⟨_,_,rfl,rfl⟩ ?_); (iterate 3 (exact sd)); rintro _ _ ⟨rfl,rfl⟩) | ((first | refine call0D (iGa_ok _ _ _ _ _ ?_ ?_ ?_ ?_) ?_ | refine qcall0D (iGa_ok _ _ _ _ _ ?_ ?_ ?_ ?_) ⟨_,_,rfl,rfl⟩ ?_); (iterate 4 (exact sd)); rintro _ _ ⟨rfl,rfl⟩) | ((first | refine call0D (iGa0_ok _ _ _ _ _ ?_ ?_ ?_ ?_) ?_ | refine qcall0D (iGa0_ok _ _ _ _ _ ?_ ?_ ?_ ?_) ⟨_,_,rfl,rfl⟩ ?_); (iterate 4 (exact sd)); rintro _ _ ⟨rfl,rfl⟩) | ((first | refine call0D (BCall.ofP (iDo_ok _ _ _ _ _ _ _ _ _ _ ?_ ?_ ?_ ?_ ?_)) ?_ | refine qcall0D (BCall.ofP (iDo_ok _ _ _ _ _ _ _ _ _ _ ?_ ?_ ?_ ?_ ?_)) ⟨_,_,rfl,rfl⟩ ?_); (iterate 5 (exact sd)); rintro _ _ ⟨rfl,rfl⟩)) <;> (try simp (disch := omega) only [push_cast,seval,hv,hv',hM,hnn,hnn',hG,hG',hN,hN',hmv,hdv,hgz,hgz',decide_true,decide_false,List.length_map,List.length_append]))
 | (refine awp_ret ⟨.inr rfl,_,rfl,?_⟩; (try simp (disch := omega) only [push_cast,seval,hv,hv',hM,hnn,hnn',hG,hG',hN,hN',hmv,hdv,hgz,hgz',decide_true,decide_false,List.length_map,List.length_append]))))
            all_goals (try simp)
          · have hzz' : vV b' sh' st' = true ∧ ¬ pr sh' = 0 := ⟨hv',z'⟩
            clear hz0'
            by_cases hgz' : (G'.length : Int) > 0
            · clear hng
              cases hDc : D with
              | true =>
                have hVt := hdm hDc
                clear hdm
                subst hDc
                subst hVt
                (repeat' (first
 | (first | refine awp_seq ?_ | refine awp_block ?_)
 | ((first | refine awp_reg ?_ | refine awp_condB ?_ | refine awp_skip ?_ | refine awp_exit ?_); simp (disch := omega) only [push_cast,seval,l4r0,l4r1,l4r2,l4r3,l4r4,l4r5,l4r6,l4r7,l4r8,l4r9,hv,hv',hM,hnn,hnn',hG,hG',hN,hN',hmv,hdv,hgz,hgz',decide_true,decide_false,List.length_map,List.length_append])
 | ((first | refine condB_split (fun h => ?_) (fun h => ?_) | refine gIf_split (fun h => ?_) (fun h => ?_) | refine qIf_split (fun h => ?_) (fun h => ?_)) <;> (try simp only [h]) <;> (try simp only [bitvec_to_nat] at h) <;> (try simp only [h]) <;> (first | (exfalso; omega) | (focus (exfalso; simp_all; done)) | (simp (disch := omega) only [push_cast,seval,hv,hv',hM,hnn,hnn',hG,hG',hN,hN',hmv,hdv,hgz,hgz',decide_true,decide_false,List.length_map,List.length_append]) | skip))
 | ((first | refine callD_of false ?_ | refine qcallD_of false ?_); simp (disch := omega) only [push_cast,seval,hv,hv',hM,hnn,hnn',hG,hG',hN,hN',hmv,hdv,hgz,hgz',decide_true,decide_false,List.length_map,List.length_append])
 | ((first | (refine call0D (BCall.ofP (drawMo_ok _ _ ?_ ?_)) ?_; (iterate 2 (exact sd)); rintro _ _ ⟨⟨b,sh,st,b',sh',st',_,_,_,_,⟨rfl,rfl,rfl,rfl,hc1,hc2,hc3,hc4⟩,rfl⟩,rfl⟩) | ((first | refine call0D (BCall.ofP (iMayOverlap_ok _ _ _ _ _ _ _ _ _ _ ?_ ?_ ?_ ?_ ?_)) ?_ | refine qcall0D (BCall.ofP (iMayOverlap_ok _ _ _ _ _ _ _ _ _ _ ?_ ?_ ?_ ?_ ?_)) ⟨_,_,rfl,rfl⟩ ?_); (iterate 5 (exact sd)); rintro _ _ ⟨rfl,rfl⟩) | ((first | refine call0D (BCall.ofP (sMayOverlap_ok _ _ _ _ _ _ _ _ _ _ ?_ ?_ ?_ ?_ ?_)) ?_ | refine qcall0D (BCall.ofP (sMayOverlap_ok _ _ _ _ _ _ _ _ _ _ ?_ ?_ ?_ ?_ ?_)) ⟨_,_,rfl,rfl⟩ ?_); (iterate 5 (exact sd)); rintro _ _ ⟨rfl,rfl⟩) | ((first | refine call0D (BCall.ofP (iValidView_ok _ _ _ _ _ ?_ ?_ ?_)) ?_ | refine qcall0D (BCall.ofP (iValidView_ok _ _ _ _ _ ?_ ?_ ?_)) ⟨_,_,rfl,rfl⟩ ?_); (iterate 3 (exact sd)); rintro _ _ ⟨rfl,rfl⟩) | ((first | refine call0D (iGa_ok _ _ _ _ _ ?_ ?_ ?_ ?_) ?_ | refine qcall0D (iGa_ok _ _ _ _ _ ?_ ?_ ?_ ?_) ⟨_,_,rfl,rfl⟩ ?_); (iterate 4 (exact sd)); rintro _ _ ⟨rfl,rfl⟩) | ((first | refine call0D (iGa0_ok _ _ _ _ _ ?_ ?_ ?_ ?_) ?_ | refine qcall0D (iGa0_ok _ _ _ _ _ ?_ ?_ ?_ ?_) ⟨_,_,rfl,rfl⟩ ?_); (iterate 4 (exact sd)); rintro _ _ ⟨rfl,rfl⟩) | ((first | refine call0D (BCall.ofP (iDo_ok _ _ _ _ _ _ _ _ _ _ ?_ ?_ ?_ ?_ ?_)) ?_ | refine qcall0D (BCall.ofP (iDo_ok _ _ _ _ _ _ _ _ _ _ ?_ ?_ ?_ ?_ ?_)) ⟨_,_,rfl,rfl⟩ ?_); (iterate 5 (exact sd)); rintro _ _ ⟨rfl,rfl⟩)) <;> (try simp (disch := omega) only [push_cast,seval,hv,hv',hM,hnn,hnn',hG,hG',hN,hN',hmv,hdv,hgz,hgz',decide_true,decide_false,List.length_map,List.length_append]))
 | (refine awp_ret ⟨.inr rfl,_,rfl,?_⟩; (try simp (disch := omega) only [push_cast,seval,hv,hv',hM,hnn,hnn',hG,hG',hN,hN',hmv,hdv,hgz,hgz',decide_true,decide_false,List.length_map,List.length_append]))))
                all_goals (try simp)
              | false =>
                clear hdm
                subst hDc
                cases hVc : V <;> subst hVc
                all_goals ((repeat' (first
 | (first | refine awp_seq ?_ | refine awp_block ?_)
 | ((first | refine awp_reg ?_ | refine awp_condB ?_ | refine awp_skip ?_ | refine awp_exit ?_); simp (disch := omega) only [push_cast,seval,l4r0,l4r1,l4r2,l4r3,l4r4,l4r5,l4r6,l4r7,l4r8,l4r9,hv,hv',hM,hnn,hnn',hG,hG',hN,hN',hmv,hdv,hgz,hgz',decide_true,decide_false,List.length_map,List.length_append])
 | ((first | refine condB_split (fun h => ?_) (fun h => ?_) | refine gIf_split (fun h => ?_) (fun h => ?_) | refine qIf_split (fun h => ?_) (fun h => ?_)) <;> (try simp only [h]) <;> (try simp only [bitvec_to_nat] at h) <;> (try simp only [h]) <;> (first | (exfalso; omega) | (focus (exfalso; simp_all; done)) | (simp (disch := omega) only [push_cast,seval,hv,hv',hM,hnn,hnn',hG,hG',hN,hN',hmv,hdv,hgz,hgz',decide_true,decide_false,List.length_map,List.length_append]) | skip))
 | ((first | refine callD_of false ?_ | refine qcallD_of false ?_); simp (disch := omega) only [push_cast,seval,hv,hv',hM,hnn,hnn',hG,hG',hN,hN',hmv,hdv,hgz,hgz',decide_true,decide_false,List.length_map,List.length_append])
 | ((first | (refine call0D (BCall.ofP (drawMo_ok _ _ ?_ ?_)) ?_; (iterate 2 (exact sd)); rintro _ _ ⟨⟨b,sh,st,b',sh',st',_,_,_,_,⟨rfl,rfl,rfl,rfl,hc1,hc2,hc3,hc4⟩,rfl⟩,rfl⟩) | ((first | refine call0D (BCall.ofP (iMayOverlap_ok _ _ _ _ _ _ _ _ _ _ ?_ ?_ ?_ ?_ ?_)) ?_ | refine qcall0D (BCall.ofP (iMayOverlap_ok _ _ _ _ _ _ _ _ _ _ ?_ ?_ ?_ ?_ ?_)) ⟨_,_,rfl,rfl⟩ ?_); (iterate 5 (exact sd)); rintro _ _ ⟨rfl,rfl⟩) | ((first | refine call0D (BCall.ofP (sMayOverlap_ok _ _ _ _ _ _ _ _ _ _ ?_ ?_ ?_ ?_ ?_)) ?_ | refine qcall0D (BCall.ofP (sMayOverlap_ok _ _ _ _ _ _ _ _ _ _ ?_ ?_ ?_ ?_ ?_)) ⟨_,_,rfl,rfl⟩ ?_); (iterate 5 (exact sd)); rintro _ _ ⟨rfl,rfl⟩) | ((first | refine call0D (BCall.ofP (iValidView_ok _ _ _ _ _ ?_ ?_ ?_)) ?_ | refine qcall0D (BCall.ofP (iValidView_ok _ _ _ _ _ ?_ ?_ ?_)) ⟨_,_,rfl,rfl⟩ ?_); (iterate 3 (exact sd)); rintro _ _ ⟨rfl,rfl⟩) | ((first | refine call0D (iGa_ok _ _ _ _ _ ?_ ?_ ?_ ?_) ?_ | refine qcall0D (iGa_ok _ _ _ _ _ ?_ ?_ ?_ ?_) ⟨_,_,rfl,rfl⟩ ?_); (iterate 4 (exact sd)); rintro _ _ ⟨rfl,rfl⟩) | ((first | refine call0D (iGa0_ok _ _ _ _ _ ?_ ?_ ?_ ?_) ?_ | refine qcall0D (iGa0_ok _ _ _ _ _ ?_ ?_ ?_ ?_) ⟨_,_,rfl,rfl⟩ ?_); (iterate 4 (exact sd)); rintro _ _ ⟨rfl,rfl⟩) | ((first | refine call0D (BCall.ofP (iDo_ok _ _ _ _ _ _ _ _ _ _ ?_ ?_ ?_ ?_ ?_)) ?_ | refine qcall0D (BCall.ofP (iDo_ok _ _ _ _ _ _ _ _ _ _ ?_ ?_ ?_ ?_ ?_)) ⟨_,_,rfl,rfl⟩ ?_); (iterate 5 (exact sd)); rintro _ _ ⟨rfl,rfl⟩)) <;> (try simp (disch := omega) only [push_cast,seval,hv,hv',hM,hnn,hnn',hG,hG',hN,hN',hmv,hdv,hgz,hgz',decide_true,decide_false,List.length_map,List.length_append]))
 | (refine awp_ret ⟨.inr rfl,_,rfl,?_⟩; (try simp (disch := omega) only [push_cast,seval,hv,hv',hM,hnn,hnn',hG,hG',hN,hN',hmv,hdv,hgz,hgz',decide_true,decide_false,List.length_map,List.length_append])))))
                all_goals (try simp)
            · have hVD : V = D := hng (by omega) (by omega)
              clear hng hdm
              subst hVD
              (repeat' (first
 | (first | refine awp_seq ?_ | refine awp_block ?_)
 | ((first | refine awp_reg ?_ | refine awp_condB ?_ | refine awp_skip ?_ | refine awp_exit ?_); simp (disch := omega) only [push_cast,seval,l4r0,l4r1,l4r2,l4r3,l4r4,l4r5,l4r6,l4r7,l4r8,l4r9,hv,hv',hM,hnn,hnn',hG,hG',hN,hN',hmv,hdv,hgz,hgz',decide_true,decide_false,List.length_map,List.length_append])
 | ((first | refine condB_split (fun h => ?_) (fun h => ?_) | refine gIf_split (fun h => ?_) (fun h => ?_) | refine qIf_split (fun h => ?_) (fun h => ?_)) <;> (try simp only [h]) <;> (try simp only [bitvec_to_nat] at h) <;> (try simp only [h]) <;> (first | (exfalso; omega) | (focus (exfalso; simp_all; done)) | (simp (disch := omega) only [push_cast,seval,hv,hv',hM,hnn,hnn',hG,hG',hN,hN',hmv,hdv,hgz,hgz',decide_true,decide_false,List.length_map,List.length_append]) | skip))
 | ((first | refine callD_of false ?_ | refine qcallD_of false ?_); simp (disch := omega) only [push_cast,seval,hv,hv',hM,hnn,hnn',hG,hG',hN,hN',hmv,hdv,hgz,hgz',decide_true,decide_false,List.length_map,List.length_append])
 | ((first | (refine call0D (BCall.ofP (drawMo_ok _ _ ?_ ?_)) ?_; (iterate 2 (exact sd)); rintro _ _ ⟨⟨b,sh,st,b',sh',st',_,_,_,_,⟨rfl,rfl,rfl,rfl,hc1,hc2,hc3,hc4⟩,rfl⟩,rfl⟩) | ((first | refine call0D (BCall.ofP (iMayOverlap_ok _ _ _ _ _ _ _ _ _ _ ?_ ?_ ?_ ?_ ?_)) ?_ | refine qcall0D (BCall.ofP (iMayOverlap_ok _ _ _ _ _ _ _ _ _ _ ?_ ?_ ?_ ?_ ?_)) ⟨_,_,rfl,rfl⟩ ?_); (iterate 5 (exact sd)); rintro _ _ ⟨rfl,rfl⟩) | ((first | refine call0D (BCall.ofP (sMayOverlap_ok _ _ _ _ _ _ _ _ _ _ ?_ ?_ ?_ ?_ ?_)) ?_ | refine qcall0D (BCall.ofP (sMayOverlap_ok _ _ _ _ _ _ _ _ _ _ ?_ ?_ ?_ ?_ ?_)) ⟨_,_,rfl,rfl⟩ ?_); (iterate 5 (exact sd)); rintro _ _ ⟨rfl,rfl⟩) | ((first | refine call0D (BCall.ofP (iValidView_ok _ _ _ _ _ ?_ ?_ ?_)) ?_ | refine qcall0D (BCall.ofP (iValidView_ok _ _ _ _ _ ?_ ?_ ?_)) ⟨_,_,rfl,rfl⟩ ?_); (iterate 3 (exact sd)); rintro _ _ ⟨rfl,rfl⟩) | ((first | refine call0D (iGa_ok _ _ _ _ _ ?_ ?_ ?_ ?_) ?_ | refine qcall0D (iGa_ok _ _ _ _ _ ?_ ?_ ?_ ?_) ⟨_,_,rfl,rfl⟩ ?_); (iterate 4 (exact sd)); rintro _ _ ⟨rfl,rfl⟩) | ((first | refine call0D (iGa0_ok _ _ _ _ _ ?_ ?_ ?_ ?_) ?_ | refine qcall0D (iGa0_ok _ _ _ _ _ ?_ ?_ ?_ ?_) ⟨_,_,rfl,rfl⟩ ?_); (iterate 4 (exact sd)); rintro _ _ ⟨rfl,rfl⟩) | ((first | refine call0D (BCall.ofP (iDo_ok _ _ _ _ _ _ _ _ _ _ ?_ ?_ ?_ ?_ ?_)) ?_ | refine qcall0D (BCall.ofP (iDo_ok _ _ _ _ _ _ _ _ _ _ ?_ ?_ ?_ ?_ ?_)) ⟨_,_,rfl,rfl⟩ ?_); (iterate 5 (exact sd)); rintro _ _ ⟨rfl,rfl⟩)) <;> (try simp (disch := omega) only [push_cast,seval,hv,hv',hM,hnn,hnn',hG,hG',hN,hN',hmv,hdv,hgz,hgz',decide_true,decide_false,List.length_map,List.length_append]))
 | (refine awp_ret ⟨.inr rfl,_,rfl,?_⟩; (try simp (disch := omega) only [push_cast,seval,hv,hv',hM,hnn,hnn',hG,hG',hN,hN',hmv,hdv,hgz,hgz',decide_true,decide_false,List.length_map,List.length_append]))))
              all_goals (try simp)
        · have hzz : vV b sh st = true ∧ ¬ pr sh = 0 := ⟨hv,z⟩
          clear hz0
          by_cases hgz : (G.length : Int) > 0
          · clear hz0'
            clear hng
            cases hDc : D with
            | true =>
              have hVt := hdm hDc
              clear hdm
              subst hDc
              subst hVt
              (repeat' (first
 | (first | refine awp_seq ?_ | refine awp_block ?_)
 | ((first | refine awp_reg ?_ | refine awp_condB ?_ | refine awp_skip ?_ | refine awp_exit ?_); simp (disch := omega) only [push_cast,seval,l4r0,l4r1,l4r2,l4r3,l4r4,l4r5,l4r6,l4r7,l4r8,l4r9,hv,hv',hM,hnn,hnn',hG,hG',hN,hN',hmv,hdv,hgz,decide_true,decide_false,List.length_map,List.length_append])
 | ((first | refine condB_split (fun h => ?_) (fun h => ?_) | refine gIf_split (fun h => ?_) (fun h => ?_) | refine qIf_split (fun h => ?_) (fun h => ?_)) <;> (try simp only [h]) <;> (try simp only [bitvec_to_nat] at h) <;> (try simp only [h]) <;> (first | (exfalso; omega) | (focus (exfalso; simp_all; done)) | (simp (disch := omega) only [push_cast,seval,hv,hv',hM,hnn,hnn',hG,hG',hN,hN',hmv,hdv,hgz,decide_true,decide_false,List.length_map,List.length_append]) | skip))
 | ((first | refine callD_of false ?_ | refine qcallD_of false ?_); simp (disch := omega) only [push_cast,seval,hv,hv',hM,hnn,hnn',hG,hG',hN,hN',hmv,hdv,hgz,decide_true,decide_false,List.length_map,List.length_append])
 | ((first | (refine call0D (BCall.ofP (drawMo_ok _ _ ?_ ?_)) ?_; (iterate 2 (exact sd)); rintro _ _ ⟨⟨b,sh,st,b',sh',st',_,_,_,_,⟨rfl,rfl,rfl,rfl,hc1,hc2,hc3,hc4⟩,rfl⟩,rfl⟩) | ((first | refine call0D (BCall.ofP (iMayOverlap_ok _ _ _ _ _ _ _ _ _ _ ?_ ?_ ?_ ?_ ?_)) ?_ | refine qcall0D (BCall.ofP (iMayOverlap_ok _ _ _ _ _ _ _ _ _ _ ?_ ?_ ?_ ?_ ?_)) ⟨_,_,rfl,rfl⟩ ?_); (iterate 5 (exact sd)); rintro _ _ ⟨rfl,rfl⟩) | ((first | refine call0D (BCall.ofP (sMayOverlap_ok _ _ _ _ _ _ _ _ _ _ ?_ ?_ ?_ ?_ ?_)) ?_ | refine qcall0D (BCall.ofP (sMayOverlap_ok _ _ _ _ _ _ _ _ _ _ ?_ ?_ ?_ ?_ ?_)) ⟨_,_,rfl,rfl⟩ ?_); (iterate 5 (exact sd)); rintro _ _ ⟨rfl,rfl⟩) | ((first | refine call0D (BCall.ofP (iValidView_ok _ _ _ _ _ ?_ ?_ ?_)) ?_ | refine qcall0D (BCall.ofP (iValidView_ok _ _ _ _ _ ?_ ?_ ?_)) ⟨_,_,rfl,rfl⟩ ?_); (iterate 3 (exact sd)); rintro _ _ ⟨rfl,rfl⟩) | ((first | refine call0D (iGa_ok _ _ _ _ _ ?_ ?_ ?_ ?_) ?_ | refine qcall0D (iGa_ok _ _ _ _ _ ?_ ?_ ?_ ?_) ⟨_,_,rfl,rfl⟩ ?_); (iterate 4 (exact sd)); rintro _ _ ⟨rfl,rfl⟩) | ((first | refine call0D (iGa0_ok _ _ _ _ _ ?_ ?_ ?_ ?_) ?_ | refine qcall0D (iGa0_ok _ _ _ _ _ ?_ ?_ ?_ ?_) ⟨_,_,rfl,rfl⟩ ?_); (iterate 4 (exact sd)); rintro _ _ ⟨rfl,rfl⟩) | ((first | refine call0D (BCall.ofP (iDo_ok _ _ _ _ _ _ _ _ _ _ ?_ ?_ ?_ ?_ ?_)) ?_ | refine qcall0D (BCall.ofP (iDo_ok _ _ _ _ _ _ _ _ _ _ ?_ ?_ ?_ ?_ ?_)) ⟨_,_,rfl,rfl⟩ ?_); (iterate 5 (exact sd)); rintro _ _ ⟨rfl,rfl⟩)) <;> (try simp (disch := omega) only [push_cast,seval,hv,hv',hM,hnn,hnn',hG,hG',hN,hN',hmv,hdv,hgz,decide_true,decide_false,List.length_map,List.length_append]))
 | (refine awp_ret ⟨.inr rfl,_,rfl,?_⟩; (try simp (disch := omega) only [push_cast,seval,hv,hv',hM,hnn,hnn',hG,hG',hN,hN',hmv,hdv,hgz,decide_true,decide_false,List.length_map,List.length_append]))))
              all_goals (try simp)
            | false =>
              clear hdm
              subst hDc
              cases hVc : V <;> subst hVc
              all_goals ((repeat' (first
 | (first | refine awp_seq ?_ | refine awp_block ?_)
 | ((first | refine awp_reg ?_ | refine awp_condB ?_ | refine awp_skip ?_ | refine awp_exit ?_); simp (disch := omega) only [push_cast,seval,l4r0,l4r1,l4r2,l4r3,l4r4,l4r5,l4r6,l4r7,l4r8,l4r9,hv,hv',hM,hnn,hnn',hG,hG',hN,hN',hmv,hdv,hgz,decide_true,decide_false,List.length_map,List.length_append])
 | ((first | refine condB_split (fun h => ?_) (fun h => ?_) | refine gIf_split (fun h => ?_) (fun h => ?_) | refine qIf_split (fun h => ?_) (fun h => ?_)) <;> (try simp only [h]) <;> (try simp only [bitvec_to_nat] at h) <;> (try simp only [h]) <;> (first | (exfalso; omega) | (focus (exfalso; simp_all; done)) | (simp (disch := omega) only [push_cast,seval,hv,hv',hM,hnn,hnn',hG,hG',hN,hN',hmv,hdv,hgz,decide_true,decide_false,List.length_map,List.length_append]) | skip))
 | ((first | refine callD_of false ?_ | refine qcallD_of false ?_); simp (disch := omega) only [push_cast,seval,hv,hv',hM,hnn,hnn',hG,hG',hN,hN',hmv,hdv,hgz,decide_true,decide_false,List.length_map,List.length_append])
 | ((first | (refine call0D (BCall.ofP (drawMo_ok _ _ ?_ ?_)) ?_; (iterate 2 (exact sd)); rintro _ _ ⟨⟨b,sh,st,b',sh',st',_,_,_,_,⟨rfl,rfl,rfl,rfl,hc1,hc2,hc3,hc4⟩,rfl⟩,rfl⟩) | ((first | refine call0D (BCall.ofP (iMayOverlap_ok _ _ _ _ _ _ _ _ _ _ ?_ ?_ ?_ ?_ ?_)) ?_ | refine qcall0D (BCall.ofP (iMayOverlap_ok _ _ _ _ _ _ _ _ _ _ ?_ ?_ ?_ ?_ ?_)) ⟨_,_,rfl,rfl⟩ ?_); (iterate 5 (exact sd)); rintro _ _ ⟨rfl,rfl⟩) | ((first | refine call0D (BCall.ofP (sMayOverlap_ok _ _ _ _ _ _ _ _ _ _ ?_ ?_ ?_ ?_ ?_)) ?_ | refine qcall0D (BCall.ofP (sMayOverlap_ok _ _ _ _ _ _ _ _ _ _ ?_ ?_ ?_ ?_ ?_)) ⟨_,_,rfl,rfl⟩ ?_); (iterate 5 (exact sd)); rintro _ _ ⟨rfl,rfl⟩) | ((first | refine call0D (BCall.ofP (iValidView_ok _ _ _ _ _ ?_ ?_ ?_)) ?_ | refine qcall0D (BCall.ofP (iValidView_ok _ _ _ _ _ ?_ ?_ ?_)) ⟨_,_,rfl,rfl⟩ ?_); (iterate 3 (exact sd)); rintro _ _ ⟨rfl,rfl⟩) | ((first | refine call0D (iGa_ok _ _ _ _ _ ?_ ?_ ?_ ?_) ?_ | refine qcall0D (iGa_ok _ _ _ _ _ ?_ ?_ ?_ ?_) ⟨_,_,rfl,rfl⟩ ?_); (iterate 4 (exact sd)); rintro _ _ ⟨rfl,rfl⟩) | ((first | refine call0D (iGa0_ok _ _ _ _ _ ?_ ?_ ?_ ?_) ?_ | refine qcall0D (iGa0_ok _ _ _ _ _ ?_ ?_ ?_ ?_) ⟨_,_,rfl,rfl⟩ ?_); (iterate 4 (exact sd)); rintro _ _ ⟨rfl,rfl⟩) | ((first | refine call0D (BCall.ofP (iDo_ok _ _ _ _ _ _ _ _ _ _ ?_ ?_ ?_ ?_ ?_)) ?_ | refine qcall0D (BCall.ofP (iDo_ok _ _ _ _ _ _ _ _ _ _ ?_ ?_ ?_ ?_ ?_)) ⟨_,_,rfl,rfl⟩ ?_); (iterate 5 (exact sd)); rintro _ _ ⟨rfl,rfl⟩)) <;> (try simp (disch := omega) only [push_cast,seval,hv,hv',hM,hnn,hnn',hG,hG',hN,hN',hmv,hdv,hgz,decide_true,decide_false,List.length_map,List.length_append]))
 | (refine awp_ret ⟨.inr rfl,_,rfl,?_⟩; (try simp (disch := omega) only [push_cast,seval,hv,hv',hM,hnn,hnn',hG,hG',hN,hN',hmv,hdv,hgz,decide_true,decide_false,List.length_map,List.length_append])))))
              all_goals (try simp)
          · by_cases z' : pr sh' = 0
            · have hzz' : vV b' sh' st' = false ∨ pr sh' = 0 := .inr z'
              have hgz' : ¬ (G'.length : Int) > 0 := by rw [hz0' z']; simp
              clear hz0'
              have hVD : V = D := hng (by omega) (by omega)
              clear hng hdm
              subst hVD
              (repeat' (first
 | (first | refine awp_seq ?_ | refine awp_block ?_)
 | ((first | refine awp_reg ?_ | refine awp_condB ?_ | refine awp_skip ?_ | refine awp_exit ?_); simp (disch := omega) only [push_cast,seval,l4r0,l4r1,l4r2,l4r3,l4r4,l4r5,l4r6,l4r7,l4r8,l4r9,hv,hv',hM,hnn,hnn',hG,hG',hN,hN',hmv,hdv,hgz,hgz',decide_true,decide_false,List.length_map,List.length_append])
 | ((first | refine condB_split (fun h => ?_) (fun h => ?_) | refine gIf_split (fun h => ?_) (fun h => ?_) | refine qIf_split (fun h => ?_) (fun h => ?_)) <;> (try simp only [h]) <;> (try simp only [bitvec_to_nat] at h) <;> (try simp only [h]) <;> (first | (exfalso; omega) | (focus (exfalso; simp_all; done)) | (simp (disch := omega) only [push_cast,seval,hv,hv',hM,hnn,hnn',hG,hG',hN,hN',hmv,hdv,hgz,hgz',decide_true,decide_false,List.length_map,List.length_append]) | skip))
 | ((first | refine callD_of false ?_ | refine qcallD_of false ?_); simp (disch := omega) only [push_cast,seval,hv,hv',hM,hnn,hnn',hG,hG',hN,hN',hmv,hdv,hgz,hgz',decide_true,decide_false,List.length_map,List.length_append])
 | ((first | (refine call0D (BCall.ofP (drawMo_ok _ _ ?_ ?_)) ?_; (iterate 2 (exact sd)); rintro _ _ ⟨⟨b,sh,st,b',sh',st',_,_,_,_,⟨rfl,rfl,rfl,rfl,hc1,hc2,hc3,hc4⟩,rfl⟩,rfl⟩) | ((first | refine call0D (BCall.ofP (iMayOverlap_ok _ _ _ _ _ _ _ _ _ _ ?_ ?_ ?_ ?_ ?_)) ?_ | refine qcall0D (BCall.ofP (iMayOverlap_ok _ _ _ _ _ _ _ _ _ _ ?_ ?_ ?_ ?_ ?_)) ⟨_,_,rfl,rfl⟩ ?_); (iterate 5 (exact sd)); rintro _ _ ⟨rfl,rfl⟩) | ((first | refine call0D (BCall.ofP (sMayOverlap_ok _ _ _ _ _ _ _ _ _ _ ?_ ?_ ?_ ?_ ?_)) ?_ | refine qcall0D (BCall.ofP (sMayOverlap_ok _ _ _ _ _ _ _ _ _ _ ?_ ?_ ?_ ?_ ?_)) ⟨_,_,rfl,rfl⟩ ?_); (iterate 5 (exact sd)); rintro _ _ ⟨rfl,rfl⟩) | ((first | refine call0D (BCall.ofP (iValidView_ok _ _ _ _ _ ?_ ?_ ?_)) ?_ | refine qcall0D (BCall.ofP (iValidView_ok _ _ _ _ _ ?_ ?_ ?_)) ⟨_,_,rfl,rfl⟩ ?_); (iterate 3 (exact sd)); rintro _ _ ⟨rfl,rfl⟩) | ((first | refine call0D (iGa_ok _ _ _ _ _ ?_ ?_ ?_ ?_) ?_ | refine qcall0D (iGa_ok _ _ _ _ _ ?_ ?_ ?_ ?_) ⟨_,_,rfl,rfl⟩ ?_); (iterate 4 (exact sd)); rintro _ _ ⟨rfl,rfl⟩) | ((first | refine call0D (iGa0_ok _ _ _ _ _ ?_ ?_ ?_ ?_) ?_ | refine qcall0D (iGa0_ok _ _ _ _ _ ?_ ?_ ?_ ?_) ⟨_,_,rfl,rfl⟩ ?_); (iterate 4 (exact sd)); rintro _ _ ⟨rfl,rfl⟩) | ((first | refine call0D (BCall.ofP (iDo_ok _ _ _ _ _ _ _ _ _ _ ?_ ?_ ?_ ?_ ?_)) ?_ | refine qcall0D (BCall.ofP (iDo_ok _ _ _ _ _ _ _ _ _ _ ?_ ?_ ?_ ?_ ?_)) ⟨_,_,rfl,rfl⟩ ?_); (iterate 5 (exact sd)); rintro _ _ ⟨rfl,rfl⟩)) <;> (try simp (disch := omega) only [push_cast,seval,hv,hv',hM,hnn,hnn',hG,hG',hN,hN',hmv,hdv,hgz,hgz',decide_true,decide_false,List.length_map,List.length_append]))
 | (refine awp_ret ⟨.inr rfl,_,rfl,?_⟩; (try simp (disch := omega) only [push_cast,seval,hv,hv',hM,hnn,hnn',hG,hG',hN,hN',hmv,hdv,hgz,hgz',decide_true,decide_false,List.length_map,List.length_append]))))
              all_goals (try simp)
            · have hzz' : vV b' sh' st' = true ∧ ¬ pr sh' = 0 := ⟨hv',z'⟩
              clear hz0'
              by_cases hgz' : (G'.length : Int) > 0
              · clear hng
                cases hDc : D with
                | true =>
                  have hVt := hdm hDc
                  clear hdm
                  subst hDc
                  subst hVt
                  (repeat' (first
 | (first | refine awp_seq ?_ | refine awp_block ?_)
 | ((first | refine awp_reg ?_ | refine awp_condB ?_ | refine awp_skip ?_ | refine awp_exit ?_); simp (disch := omega) only [push_cast,seval,l4r0,l4r1,l4r2,l4r3,l4r4,l4r5,l4r6,l4r7,l4r8,l4r9,hv,hv',hM,hnn,hnn',hG,hG',hN,hN',hmv,hdv,hgz,hgz',decide_true,decide_false,List.length_map,List.length_append])
 | ((first | refine condB_split (fun h => ?_) (fun h => ?_) | refine gIf_split (fun h => ?_) (fun h => ?_) | refine qIf_split (fun h => ?_) (fun h => ?_)) <;> (try simp only [h]) <;> (try simp only [bitvec_to_nat] at h) <;> (try simp only [h]) <;> (first | (exfalso; omega) | (focus (exfalso; simp_all; done)) | (simp (disch := omega) only [push_cast,seval,hv,hv',hM,hnn,hnn',hG,hG',hN,hN',hmv,hdv,hgz,hgz',decide_true,decide_false,List.length_map,List.length_append]) | skip))
 | ((first | refine callD_of false ?_ | refine qcallD_of false ?_); simp (disch := omega) only [push_cast,seval,hv,hv',hM,hnn,hnn',hG,hG',hN,hN',hmv,hdv,hgz,hgz',decide_true,decide_false,List.length_map,List.length_append])
 | ((first | (refine call0D (BCall.ofP (drawMo_ok _ _ ?_ ?_)) ?_; (iterate 2 (exact sd)); rintro _ _ ⟨⟨b,sh,st,b',sh',st',_,_,_,_,⟨rfl,rfl,rfl,rfl,hc1,hc2,hc3,hc4⟩,rfl⟩,rfl⟩) | ((first | refine call0D (BCall.ofP (iMayOverlap_ok _ _ _ _ _ _ _ _ _ _ ?_ ?_ ?_ ?_ ?_)) ?_ | refine qcall0D (BCall.ofP (iMayOverlap_ok _ _ _ _ _ _ _ _ _ _ ?_ ?_ ?_ ?_ ?_)) ⟨_,_,rfl,rfl⟩ ?_); (iterate 5 (exact sd)); rintro _ _ ⟨rfl,rfl⟩) | ((first | refine call0D (BCall.ofP (sMayOverlap_ok _ _ _ _ _ _ _ _ _ _ ?_ ?_ ?_ ?_ ?_)) ?_ | refine qcall0D (BCall.ofP (sMayOverlap_ok _ _ _ _ _ _ _ _ _ _ ?_ ?_ ?_ ?_ ?_)) ⟨_,_,rfl,rfl⟩ ?_); (iterate 5 (exact sd)); rintro _ _ ⟨rfl,rfl⟩) | ((first | refine call0D (BCall.ofP (iValidView_ok _ _ _ _ _ ?_ ?_ ?_)) ?_ | refine qcall0D (BCall.ofP (iValidView_ok _ _ _ _ _ ?_ ?_ ?_)) ⟨_,_,rfl,rfl⟩ ?_); (iterate 3 (exact sd)); rintro _ _ ⟨rfl,rfl⟩) | ((first | refine call0D (iGa_ok _ _ _ _ _ ?_ ?_ ?_ ?_) ?_ | refine qcall0D (iGa_ok _ _ _ _ _ ?_ ?_ ?_ ?_) ⟨_,_,rfl,rfl⟩ ?_); (iterate 4 (exact sd)); rintro _ _ ⟨rfl,rfl⟩) | ((first | refine call0D (iGa0_ok _ _ _ _ _ ?_ ?_ ?_ ?_) ?_ | refine qcall0D (iGa0_ok _ _ _ _ _ ?_ ?_ ?_ ?_) ⟨_,_,rfl,rfl⟩ ?_); (iterate 4 (exact sd)); rintro _ _ ⟨rfl,rfl⟩) | ((first | refine call0D (BCall.ofP (iDo_ok _ _ _ _ _ _ _ _ _ _ ?_ ?_ ?_ ?_ ?_)) ?_ | refine qcall0D (BCall.ofP (iDo_ok _ _ _ _ _ _ _ _ _ _ ?_ ?_ ?_ ?_ ?_)) ⟨_,_,rfl,rfl⟩ ?_); (iterate 5 (exact sd)); rintro _ _ ⟨rfl,rfl⟩)) <;> (try simp (disch := omega) only [push_cast,seval,hv,hv',hM,hnn,hnn',hG,hG',hN,hN',hmv,hdv,hgz,hgz',decide_true,decide_false,List.length_map,List.length_append]))
 | (refine awp_ret ⟨.inr rfl,_,rfl,?_⟩; (try simp (disch := omega) only [push_cast,seval,hv,hv',hM,hnn,hnn',hG,hG',hN,hN',hmv,hdv,hgz,hgz',decide_true,decide_false,List.length_map,List.length_append]))))
                  all_goals (try simp)
                | false =>
                  clear hdm
                  subst hDc
                  cases hVc : V <;> subst hVc
                  all_goals ((repeat' (first
 | (first | refine awp_seq ?_ | refine awp_block ?_)
 | ((first | refine awp_reg ?_ | refine awp_condB ?_ | refine awp_skip ?_ | refine awp_exit ?_); simp (disch := omega) only [push_cast,seval,l4r0,l4r1,l4r2,l4r3,l4r4,l4r5,l4r6,l4r7,l4r8,l4r9,hv,hv',hM,hnn,hnn',hG,hG',hN,hN',hmv,hdv,hgz,hgz',decide_true,decide_false,List.length_map,List.length_append])
 | ((first | refine condB_split (fun h => ?_) (fun h => ?_) | refine gIf_split (fun h => ?_) (fun h => ?_) | refine qIf_split (fun h => ?_) (fun h => ?_)) <;> (try simp only [h]) <;> (try simp only [bitvec_to_nat] at h) <;> (try simp only [h]) <;> (first | (exfalso; omega) | (focus (exfalso; simp_all; done)) | (simp (disch := omega) only [push_cast,seval,hv,hv',hM,hnn,hnn',hG,hG',hN,hN',hmv,hdv,hgz,hgz',decide_true,decide_false,List.length_map,List.length_append]) | skip))
 | ((first | refine callD_of false ?_ | refine qcallD_of false ?_); simp (disch := omega) only [push_cast,seval,hv,hv',hM,hnn,hnn',hG,hG',hN,hN',hmv,hdv,hgz,hgz',decide_true,decide_false,List.length_map,List.length_append])
 | ((first | (refine call0D (BCall.ofP (drawMo_ok _ _ ?_ ?_)) ?_; (iterate 2 (exact sd)); rintro _ _ ⟨⟨b,sh,st,b',sh',st',_,_,_,_,⟨rfl,rfl,rfl,rfl,hc1,hc2,hc3,hc4⟩,rfl⟩,rfl⟩) | ((first | refine call0D (BCall.ofP (iMayOverlap_ok _ _ _ _ _ _ _ _ _ _ ?_ ?_ ?_ ?_ ?_)) ?_ | refine qcall0D (BCall.ofP (iMayOverlap_ok _ _ _ _ _ _ _ _ _ _ ?_ ?_ ?_ ?_ ?_)) ⟨_,_,rfl,rfl⟩ ?_); (iterate 5 (exact sd)); rintro _ _ ⟨rfl,rfl⟩) | ((first | refine call0D (BCall.ofP (sMayOverlap_ok _ _ _ _ _ _ _ _ _ _ ?_ ?_ ?_ ?_ ?_)) ?_ | refine qcall0D (BCall.ofP (sMayOverlap_ok _ _ _ _ _ _ _ _ _ _ ?_ ?_ ?_ ?_ ?_)) ⟨_,_,rfl,rfl⟩ ?_); (iterate 5 (exact sd)); rintro _ _ ⟨rfl,rfl⟩) | ((first | refine call0D (BCall.ofP (iValidView_ok _ _ _ _ _ ?_ ?_ ?_)) ?_ | refine qcall0D (BCall.ofP (iValidView_ok _ _ _ _ _ ?_ ?_ ?_)) ⟨_,_,rfl,rfl⟩ ?_); (iterate 3 (exact sd)); rintro _ _ ⟨rfl,rfl⟩) | ((first | refine call0D (iGa_ok _ _ _ _ _ ?_ ?_ ?_ ?_) ?_ | refine qcall0D (iGa_ok _ _ _ _ _ ?_ ?_ ?_ ?_) ⟨_,_,rfl,rfl⟩ ?_); (iterate 4 (exact sd)); rintro _ _ ⟨rfl,rfl⟩) | ((first | refine call0D (iGa0_ok _ _ _ _ _ ?_ ?_ ?_ ?_) ?_ | refine qcall0D (iGa0_ok _ _ _ _ _ ?_ ?_ ?_ ?_) ⟨_,_,rfl,rfl⟩ ?_); (iterate 4 (exact sd)); rintro _ _ ⟨rfl,rfl⟩) | ((first | refine call0D (BCall.ofP (iDo_ok _ _ _ _ _ _ _ _ _ _ ?_ ?_ ?_ ?_ ?_)) ?_ | refine qcall0D (BCall.ofP (iDo_ok _ _ _ _ _ _ _ _ _ _ ?_ ?_ ?_ ?_ ?_)) ⟨_,_,rfl,rfl⟩ ?_); (iterate 5 (exact sd)); rintro _ _ ⟨rfl,rfl⟩)) <;> (try simp (disch := omega) only [push_cast,seval,hv,hv',hM,hnn,hnn',hG,hG',hN,hN',hmv,hdv,hgz,hgz',decide_true,decide_false,List.length_map,List.length_append]))
 | (refine awp_ret ⟨.inr rfl,_,rfl,?_⟩; (try simp (disch := omega) only [push_cast,seval,hv,hv',hM,hnn,hnn',hG,hG',hN,hN',hmv,hdv,hgz,hgz',decide_true,decide_false,List.length_map,List.length_append])))))
                  all_goals (try simp)
              · have hVD : V = D := hng (by omega) (by omega)
                clear hng hdm
                subst hVD
                (repeat' (first
 | (first | refine awp_seq ?_ | refine awp_block ?_)
 | ((first | refine awp_reg ?_ | refine awp_condB ?_ | refine awp_skip ?_ | refine awp_exit ?_); simp (disch := omega) only [push_cast,seval,l4r0,l4r1,l4r2,l4r3,l4r4,l4r5,l4r6,l4r7,l4r8,l4r9,hv,hv',hM,hnn,hnn',hG,hG',hN,hN',hmv,hdv,hgz,hgz',decide_true,decide_false,List.length_map,List.length_append])
 | ((first | refine condB_split (fun h => ?_) (fun h => ?_) | refine gIf_split (fun h => ?_) (fun h => ?_) | refine qIf_split (fun h => ?_) (fun h => ?_)) <;> (try simp only [h]) <;> (try simp only [bitvec_to_nat] at h) <;> (try simp only [h]) <;> (first | (exfalso; omega) | (focus (exfalso; simp_all; done)) | (simp (disch := omega) only [push_cast,seval,hv,hv',hM,hnn,hnn',hG,hG',hN,hN',hmv,hdv,hgz,hgz',decide_true,decide_false,List.length_map,List.length_append]) | skip))
 | ((first | refine callD_of false ?_ | refine qcallD_of false ?_); simp (disch := omega) only [push_cast,seval,hv,hv',hM,hnn,hnn',hG,hG',hN,hN',hmv,hdv,hgz,hgz',decide_true,decide_false,List.length_map,List.length_append])
 | ((first | (refine call0D (BCall.ofP (drawMo_ok _ _ ?_ ?_)) ?_; (iterate 2 (exact sd)); rintro _ _ ⟨⟨b,sh,st,b',sh',st',_,_,_,_,⟨rfl,rfl,rfl,rfl,hc1,hc2,hc3,hc4⟩,rfl⟩,rfl⟩) | ((first | refine call0D (BCall.ofP (iMayOverlap_ok _ _ _ _ _ _ _ _ _ _ ?_ ?_ ?_ ?_ ?_)) ?_ | refine qcall0D (BCall.ofP (iMayOverlap_ok _ _ _ _ _ _ _ _ _ _ ?_ ?_ ?_ ?_ ?_)) ⟨_,_,rfl,rfl⟩ ?_); (iterate 5 (exact sd)); rintro _ _ ⟨rfl,rfl⟩) | ((first | refine call0D (BCall.ofP (sMayOverlap_ok _ _ _ _ _ _ _ _ _ _ ?_ ?_ ?_ ?_ ?_)) ?_ | refine qcall0D (BCall.ofP (sMayOverlap_ok _ _ _ _ _ _ _ _ _ _ ?_ ?_ ?_ ?_ ?_)) ⟨_,_,rfl,rfl⟩ ?_); (iterate 5 (exact sd)); rintro _ _ ⟨rfl,rfl⟩) | ((first | refine call0D (BCall.ofP (iValidView_ok _ _ _ _ _ ?_ ?_ ?_)) ?_ | refine qcall0D (BCall.ofP (iValidView_ok _ _ _ _ _ ?_ ?_ ?_)) ⟨_,_,rfl,rfl⟩ ?_); (iterate 3 (exact sd)); rintro _ _ ⟨rfl,rfl⟩) | ((first | refine call0D (iGa_ok _ _ _ _ _ ?_ ?_ ?_ ?_) ?_ | refine qcall0D (iGa_ok _ _ _ _ _ ?_ ?_ ?_ ?_) ⟨_,_,rfl,rfl⟩ ?_); (iterate 4 (exact sd)); rintro _ _ ⟨rfl,rfl⟩) | ((first | refine call0D (iGa0_ok _ _ _ _ _ ?_ ?_ ?_ ?_) ?_ | refine qcall0D (iGa0_ok _ _ _ _ _ ?_ ?_ ?_ ?_) ⟨_,_,rfl,rfl⟩ ?_); (iterate 4 (exact sd)); rintro _ _ ⟨rfl,rfl⟩) | ((first | refine call0D (BCall.ofP (iDo_ok _ _ _ _ _ _ _ _ _ _ ?_ ?_ ?_ ?_ ?_)) ?_ | refine qcall0D (BCall.ofP (iDo_ok _ _ _ _ _ _ _ _ _ _ ?_ ?_ ?_ ?_ ?_)) ⟨_,_,rfl,rfl⟩ ?_); (iterate 5 (exact sd)); rintro _ _ ⟨rfl,rfl⟩)) <;> (try simp (disch := omega) only [push_cast,seval,hv,hv',hM,hnn,hnn',hG,hG',hN,hN',hmv,hdv,hgz,hgz',decide_true,decide_false,List.length_map,List.length_append]))
 | (refine awp_ret ⟨.inr rfl,_,rfl,?_⟩; (try simp (disch := omega) only [push_cast,seval,hv,hv',hM,hnn,hnn',hG,hG',hN,hN',hmv,hdv,hgz,hgz',decide_true,decide_false,List.length_map,List.length_append]))))
                all_goals (try simp)

      · have hov : ovB b sh st b' sh' st' = false := by
          cases hvw : ovB b sh st b' sh' st' with
          | false => rfl
          | true => exact absurd (by simpa [ovB] using hvw) hvv
        have hmay : mayB b sh st b' sh' st' = false := by
          cases hm : mayB b sh st b' sh' st' with
          | false => rfl
          | true =>
            unfold mayB at hm
            exact absurd (by simpa [and_assoc] using (Bool.and_eq_true_iff.1 hm).1) hvv
        clear hov
        cases hv : vV b sh st with
        | false =>
          (repeat' (first
 | (first | refine awp_seq ?_ | refine awp_block ?_)
 | ((first | refine awp_reg ?_ | refine awp_condB ?_ | refine awp_skip ?_ | refine awp_exit ?_); simp (disch := omega) only [push_cast,seval,l4r0,l4r1,l4r2,l4r3,l4r4,l4r5,l4r6,l4r7,l4r8,l4r9,hmay,hv,decide_true])
 | ((first | refine condB_split (fun h => ?_) (fun h => ?_) | refine gIf_split (fun h => ?_) (fun h => ?_) | refine qIf_split (fun h => ?_) (fun h => ?_)) <;> (try simp only [h]) <;> (try simp only [bitvec_to_nat] at h) <;> (try simp only [h]) <;> (first | (exfalso; omega) | (focus (exfalso; simp_all; done)) | (simp (disch := omega) only [push_cast,seval,hmay,hv,decide_true]) | skip))
 | ((first | refine callD_of false ?_ | refine qcallD_of false ?_); simp (disch := omega) only [push_cast,seval,hmay,hv,decide_true])
 | ((first | (refine call0D (BCall.ofP (drawMo_ok _ _ ?_ ?_)) ?_; (iterate 2 (exact sd)); rintro _ _ ⟨⟨b,sh,st,b',sh',st',_,_,_,_,⟨rfl,rfl,rfl,rfl,hc1,hc2,hc3,hc4⟩,rfl⟩,rfl⟩) | ((first | refine call0D (BCall.ofP (iMayOverlap_ok _ _ _ _ _ _ _ _ _ _ ?_ ?_ ?_ ?_ ?_)) ?_ | refine qcall0D (BCall.ofP (iMayOverlap_ok _ _ _ _ _ _ _ _ _ _ ?_ ?_ ?_ ?_ ?_)) ⟨_,_,rfl,rfl⟩ ?_); (iterate 5 (exact sd)); rintro _ _ ⟨rfl,rfl⟩) | ((first | refine call0D (BCall.ofP (sMayOverlap_ok _ _ _ _ _ _ _ _ _ _ ?_ ?_ ?_ ?_ ?_)) ?_ | refine qcall0D (BCall.ofP (sMayOverlap_ok _ _ _ _ _ _ _ _ _ _ ?_ ?_ ?_ ?_ ?_)) ⟨_,_,rfl,rfl⟩ ?_); (iterate 5 (exact sd)); rintro _ _ ⟨rfl,rfl⟩) | ((first | refine call0D (BCall.ofP (iValidView_ok _ _ _ _ _ ?_ ?_ ?_)) ?_ | refine qcall0D (BCall.ofP (iValidView_ok _ _ _ _ _ ?_ ?_ ?_)) ⟨_,_,rfl,rfl⟩ ?_); (iterate 3 (exact sd)); rintro _ _ ⟨rfl,rfl⟩) | ((first | refine call0D (iGa_ok _ _ _ _ _ ?_ ?_ ?_ ?_) ?_ | refine qcall0D (iGa_ok _ _ _ _ _ ?_ ?_ ?_ ?_) ⟨_,_,rfl,rfl⟩ ?_); (iterate 4 (exact sd)); rintro _ _ ⟨rfl,rfl⟩) | ((first | refine call0D (iGa0_ok _ _ _ _ _ ?_ ?_ ?_ ?_) ?_ | refine qcall0D (iGa0_ok _ _ _ _ _ ?_ ?_ ?_ ?_) ⟨_,_,rfl,rfl⟩ ?_); (iterate 4 (exact sd)); rintro _ _ ⟨rfl,rfl⟩) | ((first | refine call0D (BCall.ofP (iDo_ok _ _ _ _ _ _ _ _ _ _ ?_ ?_ ?_ ?_ ?_)) ?_ | refine qcall0D (BCall.ofP (iDo_ok _ _ _ _ _ _ _ _ _ _ ?_ ?_ ?_ ?_ ?_)) ⟨_,_,rfl,rfl⟩ ?_); (iterate 5 (exact sd)); rintro _ _ ⟨rfl,rfl⟩)) <;> (try simp (disch := omega) only [push_cast,seval,hmay,hv,decide_true]))
 | (refine awp_ret ⟨.inr rfl,_,rfl,?_⟩; (try simp (disch := omega) only [push_cast,seval,hmay,hv,decide_true]))))
          all_goals (try simp)
        | true =>
          have hv' : vV b' sh' st' = false := by cases hx : vV b' sh' st' with
            | false => rfl
            | true => exact absurd ⟨hv,hx⟩ hvv
          (repeat' (first
 | (first | refine awp_seq ?_ | refine awp_block ?_)
 | ((first | refine awp_reg ?_ | refine awp_condB ?_ | refine awp_skip ?_ | refine awp_exit ?_); simp (disch := omega) only [push_cast,seval,l4r0,l4r1,l4r2,l4r3,l4r4,l4r5,l4r6,l4r7,l4r8,l4r9,hmay,hv,hv',decide_true])
 | ((first | refine condB_split (fun h => ?_) (fun h => ?_) | refine gIf_split (fun h => ?_) (fun h => ?_) | refine qIf_split (fun h => ?_) (fun h => ?_)) <;> (try simp only [h]) <;> (try simp only [bitvec_to_nat] at h) <;> (try simp only [h]) <;> (first | (exfalso; omega) | (focus (exfalso; simp_all; done)) | (simp (disch := omega) only [push_cast,seval,hmay,hv,hv',decide_true]) | skip))
 | ((first | refine callD_of false ?_ | refine qcallD_of false ?_); simp (disch := omega) only [push_cast,seval,hmay,hv,hv',decide_true])
 | ((first | (refine call0D (BCall.ofP (drawMo_ok _ _ ?_ ?_)) ?_; (iterate 2 (exact sd)); rintro _ _ ⟨⟨b,sh,st,b',sh',st',_,_,_,_,⟨rfl,rfl,rfl,rfl,hc1,hc2,hc3,hc4⟩,rfl⟩,rfl⟩) | ((first | refine call0D (BCall.ofP (iMayOverlap_ok _ _ _ _ _ _ _ _ _ _ ?_ ?_ ?_ ?_ ?_)) ?_ | refine qcall0D (BCall.ofP (iMayOverlap_ok _ _ _ _ _ _ _ _ _ _ ?_ ?_ ?_ ?_ ?_)) ⟨_,_,rfl,rfl⟩ ?_); (iterate 5 (exact sd)); rintro _ _ ⟨rfl,rfl⟩) | ((first | refine call0D (BCall.ofP (sMayOverlap_ok _ _ _ _ _ _ _ _ _ _ ?_ ?_ ?_ ?_ ?_)) ?_ | refine qcall0D (BCall.ofP (sMayOverlap_ok _ _ _ _ _ _ _ _ _ _ ?_ ?_ ?_ ?_ ?_)) ⟨_,_,rfl,rfl⟩ ?_); (iterate 5 (exact sd)); rintro _ _ ⟨rfl,rfl⟩) | ((first | refine call0D (BCall.ofP (iValidView_ok _ _ _ _ _ ?_ ?_ ?_)) ?_ | refine qcall0D (BCall.ofP (iValidView_ok _ _ _ _ _ ?_ ?_ ?_)) ⟨_,_,rfl,rfl⟩ ?_); (iterate 3 (exact sd)); rintro _ _ ⟨rfl,rfl⟩) | ((first | refine call0D (iGa_ok _ _ _ _ _ ?_ ?_ ?_ ?_) ?_ | refine qcall0D (iGa_ok _ _ _ _ _ ?_ ?_ ?_ ?_) ⟨_,_,rfl,rfl⟩ ?_); (iterate 4 (exact sd)); rintro _ _ ⟨rfl,rfl⟩) | ((first | refine call0D (iGa0_ok _ _ _ _ _ ?_ ?_ ?_ ?_) ?_ | refine qcall0D (iGa0_ok _ _ _ _ _ ?_ ?_ ?_ ?_) ⟨_,_,rfl,rfl⟩ ?_); (iterate 4 (exact sd)); rintro _ _ ⟨rfl,rfl⟩) | ((first | refine call0D (BCall.ofP (iDo_ok _ _ _ _ _ _ _ _ _ _ ?_ ?_ ?_ ?_ ?_)) ?_ | refine qcall0D (BCall.ofP (iDo_ok _ _ _ _ _ _ _ _ _ _ ?_ ?_ ?_ ?_ ?_)) ⟨_,_,rfl,rfl⟩ ?_); (iterate 5 (exact sd)); rintro _ _ ⟨rfl,rfl⟩)) <;> (try simp (disch := omega) only [push_cast,seval,hmay,hv,hv',decide_true]))
 | (refine awp_ret ⟨.inr rfl,_,rfl,?_⟩; (try simp (disch := omega) only [push_cast,seval,hmay,hv,hv',decide_true]))))
          all_goals (try simp)
  · (repeat' (first
 | (first | refine awp_seq ?_ | refine awp_block ?_)
 | ((first | refine awp_reg ?_ | refine awp_condB ?_ | refine awp_skip ?_ | refine awp_exit ?_); simp (disch := omega) only [push_cast,seval,l4r0,l4r1,l4r2,l4r3,l4r4,l4r5,l4r6,l4r7,l4r8,l4r9])
 | ((first | refine condB_split (fun h => ?_) (fun h => ?_) | refine gIf_split (fun h => ?_) (fun h => ?_) | refine qIf_split (fun h => ?_) (fun h => ?_)) <;> (try simp only [h]) <;> (try simp only [bitvec_to_nat] at h) <;> (try simp only [h]) <;> (first | (exfalso; omega) | (focus (exfalso; simp_all; done)) | (simp (disch := omega) only [push_cast,seval]) | skip))
 | ((first | refine callD_of false ?_ | refine qcallD_of false ?_); simp (disch := omega) only [push_cast,seval])
 | ((first | (refine call0D (BCall.ofP (drawMo_ok _ _ ?_ ?_)) ?_; (iterate 2 (exact sd)); rintro _ _ ⟨⟨b,sh,st,b',sh',st',_,_,_,_,⟨rfl,rfl,rfl,rfl,hc1,hc2,hc3,hc4⟩,rfl⟩,rfl⟩) | ((first | refine call0D (BCall.ofP (iMayOverlap_ok _ _ _ _ _ _ _ _ _ _ ?_ ?_ ?_ ?_ ?_)) ?_ | refine qcall0D (BCall.ofP (iMayOverlap_ok _ _ _ _ _ _ _ _ _ _ ?_ ?_ ?_ ?_ ?_)) ⟨_,_,rfl,rfl⟩ ?_); (iterate 5 (exact sd)); rintro _ _ ⟨rfl,rfl⟩) | ((first | refine call0D (BCall.ofP (sMayOverlap_ok _ _ _ _ _ _ _ _ _ _ ?_ ?_ ?_ ?_ ?_)) ?_ | refine qcall0D (BCall.ofP (sMayOverlap_ok _ _ _ _ _ _ _ _ _ _ ?_ ?_ ?_ ?_ ?_)) ⟨_,_,rfl,rfl⟩ ?_); (iterate 5 (exact sd)); rintro _ _ ⟨rfl,rfl⟩) | ((first | refine call0D (BCall.ofP (iValidView_ok _ _ _ _ _ ?_ ?_ ?_)) ?_ | refine qcall0D (BCall.ofP (iValidView_ok _ _ _ _ _ ?_ ?_ ?_)) ⟨_,_,rfl,rfl⟩ ?_); (iterate 3 (exact sd)); rintro _ _ ⟨rfl,rfl⟩) | ((first | refine call0D (iGa_ok _ _ _ _ _ ?_ ?_ ?_ ?_) ?_ | refine qcall0D (iGa_ok _ _ _ _ _ ?_ ?_ ?_ ?_) ⟨_,_,rfl,rfl⟩ ?_); (iterate 4 (exact sd)); rintro _ _ ⟨rfl,rfl⟩) | ((first | refine call0D (iGa0_ok _ _ _ _ _ ?_ ?_ ?_ ?_) ?_ | refine qcall0D (iGa0_ok _ _ _ _ _ ?_ ?_ ?_ ?_) ⟨_,_,rfl,rfl⟩ ?_); (iterate 4 (exact sd)); rintro _ _ ⟨rfl,rfl⟩) | ((first | refine call0D (BCall.ofP (iDo_ok _ _ _ _ _ _ _ _ _ _ ?_ ?_ ?_ ?_ ?_)) ?_ | refine qcall0D (BCall.ofP (iDo_ok _ _ _ _ _ _ _ _ _ _ ?_ ?_ ?_ ?_ ?_)) ⟨_,_,rfl,rfl⟩ ?_); (iterate 5 (exact sd)); rintro _ _ ⟨rfl,rfl⟩)) <;> (try simp (disch := omega) only [push_cast,seval]))
 | (refine awp_ret ⟨.inr rfl,_,rfl,?_⟩; (try simp (disch := omega) only [push_cast,seval]))))

end Go.Proofs.Ytfphjgmkpgoomaa
