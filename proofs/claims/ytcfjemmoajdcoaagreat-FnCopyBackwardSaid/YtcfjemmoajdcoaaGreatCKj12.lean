import Derived.Test.YtcfjemmoajdcoaaGreatCKd2
import Derived.Test.YtcfjemmoajdcoaaGreatCM1
import Derived.Test.YtcfjemmoajdcoaaGreatCW3
set_option linter.unusedSimpArgs false
set_option linter.unusedVariables false
set_option maxRecDepth 4000
set_option maxHeartbeats 4000000
namespace Go.Proofs.YtcfjemmoajdcoaaGreat
open VwM Vw Go

theorem flip_one {b : Int} {sh st : List Int} (hv : vV b sh st = true) (h1 : sh.length = 1) : sdOk b sh st 0 0 0 (-1) false false = true ∧ cutSh sh (0 : Int).toNat 0 0 (-1) false false = sh ∧
    vV (cutB b sh st (0 : Int).toNat 0 0 (-1) false false) (cutSh sh (0 : Int).toNat 0 0 (-1) false false) (cutSt sh st (0 : Int).toNat 0 0 (-1) false false) = true ∧
    offs (cutB b sh st (0 : Int).toNat 0 0 (-1) false false) (cutSh sh (0 : Int).toNat 0 0 (-1) false false) (cutSt sh st (0 : Int).toNat 0 0 (-1) false false) = (offs b sh st).reverse := by
  have hlen := (okV_valid hv).2
  have hx := good4_at (vSh_good (vV_spec.1 hv).1).1 (k := 0) (by omega)
  have hss : vS 0 0 (-1) false false = true := by decide
  have hvc := vV_cut (f := 0) (t := 0) (w := -1) (hf := false) (ht := false) (j := (0 : Int).toNat) hv (by show 0 < sh.length; omega) hss
  have hsd : sdOk b sh st 0 0 0 (-1) false false = true := by
    simp only [sdOk,hv,hss,hvc,Bool.and_true,Bool.true_and]
    rw [decide_eq_true (by omega : (0 : Int) ≤ 0),decide_eq_true (by omega : (0 : Int) ≤ (sh.length : Int) - 1)]
    rfl
  obtain ⟨n,rfl⟩ := List.length_eq_one_iff.1 h1
  obtain ⟨c,rfl⟩ := List.length_eq_one_iff.1 (hlen.trans h1)
  have hn : 0 ≤ n ∧ n ≤ 60 := hx
  have hF : sFrom 0 n (-1) false = n - 1 := rfl
  have hK : cutK n 0 0 (-1) false false = n.toNat := by
    have hT : sTo 0 n (-1) false = -1 := rfl
    unfold cutK cntN cntI
    rw [hF,hT,if_pos (by decide)]
    split
    · omega
    · rw [show ((0 : Int) - -1) = 1 from rfl,Int.tdiv_one]; omega
  have hnn : ((n.toNat : Nat) : Int) = n := by omega
  have hK' : cutK (([n] : List Int).getD (0 : Int).toNat 0) 0 0 (-1) false false = n.toNat := hK
  have eS : cutSh [n] (0 : Int).toNat 0 0 (-1) false false = [n] := by
    unfold cutSh
    rw [hK',hnn]
    rfl
  refine ⟨hsd,eS,hvc,?_⟩
  have hp : pr [n] = n := by rw [pr_cons,pr_nil,Int.mul_one]
  rw [eS]
  by_cases h0 : n = 0
  · have e : ∀ x y,offs x [n] y = [] := fun x y => List.length_eq_zero_iff.1 (by rw [offs_length,hp,h0]; rfl)
    rw [e,e]
    rfl
  · have eB : cutB b [n] [c] (0 : Int).toNat 0 0 (-1) false false = b + (n - 1) * c := by
      unfold cutB
      rw [eS,hp,if_neg h0,hK',hnn]
      show b + pS (n - 1) n * c = _
      rw [pS,if_neg (by omega)]
    have eT : cutSt [n] [c] (0 : Int).toNat 0 0 (-1) false false = [cutX [n] [c] (0 : Int).toNat 0 0 (-1) false false] := by
      unfold cutSt
      rw [eS,hp,if_neg h0]
      rfl
    have eX : cutX [n] [c] (0 : Int).toNat 0 0 (-1) false false = if n ≤ 1 then 0 else 0 - c := by
      unfold cutX
      rw [hK',hnn]
      show (if n ≤ 1 then 0 else pC (-1) n * c) = _
      split
      · rfl
      · rw [pC,if_neg (by omega)]; omega
    rw [eB,eT,offs_line _ _ _ hn.1,offs_line _ _ _ hn.1,nums_reverse,hnn,eX]
    by_cases h2 : n ≤ 1
    · have : n = 1 := by omega
      subst this
      have e : ∀ a x : Int,nums a x 1 = [a] := fun a x => by simp [nums]
      rw [show Int.toNat 1 = 1 from rfl,e,e]
    · rw [if_neg h2]
theorem two_flip {mem : List Int} {b : Int} {sh st : List Int} {b' : Int} {sh' st' : List Int} (h : twoB mem b sh st b' sh' st' = true) (h1 : sh.length = 1) :
    twoB mem (cutB b sh st (0 : Int).toNat 0 0 (-1) false false) (cutSh sh (0 : Int).toNat 0 0 (-1) false false) (cutSt sh st (0 : Int).toNat 0 0 (-1) false false) (cutB b' sh' st' (0 : Int).toNat 0 0 (-1) false false) (cutSh sh' (0 : Int).toNat 0 0 (-1) false false) (cutSt sh' st' (0 : Int).toNat 0 0 (-1) false false) = true := by
  obtain ⟨s1,s2,s3⟩ := two_facts h
  obtain ⟨g1,g2,g3⟩ := seeB_spec.1 s1
  obtain ⟨k1,k2,k3⟩ := seeB_spec.1 s2
  obtain ⟨_,f2,f3,f4⟩ := flip_one g2 h1
  obtain ⟨_,e2,e3,e4⟩ := flip_one k2 (by rw [← s3]; exact h1)
  simp only [twoB,Bool.and_eq_true,decide_eq_true_eq]
  refine ⟨⟨seeB_spec.2 ⟨g1,f3,fun x hx => ?_⟩,seeB_spec.2 ⟨g1,e3,fun x hx => ?_⟩⟩,by rw [f2,e2,s3]⟩
  · rw [f4] at hx; exact g3 x (List.mem_reverse.1 hx)
  · rw [e4] at hx; exact k3 x (List.mem_reverse.1 hx)


set_option maxHeartbeats 32000000 in
theorem drawCBb_ok (bs : List Int) (n : Nat) (hn : bs.length = n) (hb : n ≤ 1099511627776 ∧ ∀ x ∈ bs,0 ≤ x ∧ x ≤ 255) : BCall Tryz.prog 4 [.rows false (UL bs) n] [] pairB := by
  refine bcall_of (pins := []) (pin := 0) l4_eq rfl rfl rfl ?_
  unfold pairB
  (repeat' (first
 | (first | refine awp_seq ?_ | refine awp_block ?_)
 | ((first | refine awp_reg ?_ | refine awp_condB ?_ | refine awp_skip ?_ | refine awp_exit ?_); simp (maxSteps := 400000) (disch := omega) only [push_cast,seval,l4r0,l4r1])
 | ((first | refine condB_split (fun h => ?_) (fun h => ?_) | refine gIf_split (fun h => ?_) (fun h => ?_) | refine qIf_split (fun h => ?_) (fun h => ?_)) <;> (try simp only [h]) <;> (try simp only [bitvec_to_nat] at h) <;> (try simp only [h]) <;> (first | (exfalso; omega) | (focus (exfalso; simp_all; done)) | (simp (maxSteps := 400000) (disch := omega) only [push_cast,seval]) | skip))
 | ((first | ((with_reducible refine callD_of (f := 13) true ?_); simp (maxSteps := 400000) (disch := omega) only [push_cast,seval]; (refine call0D (newReader_ok _ _ ?_ ?_) ?_; (iterate 2 (exact sd)); rintro _ _ ⟨bs0,hbs0,rfl,rfl⟩)) | ((with_reducible refine callD_ids (f := 12) [96] true ?_); simp (maxSteps := 400000) (disch := omega) only [push_cast,seval]; (refine call1D (id := 96) (memPair_ok _ _ ?_ ?_) (by (simp (maxSteps := 400000) (disch := omega) only [push_cast,seval]); rfl) ?_; (iterate 2 (exact sd)); rintro _ _ ⟨mem,b,sh,st,b',sh',st',q,⟨hm1,hm2,hc1,hc2,hc3,hc4⟩,hq,(⟨rfl,rfl⟩ | ⟨rfl,rfl⟩)⟩))) <;> (try simp (maxSteps := 400000) (disch := omega) only [push_cast,seval]))))
  all_goals first
    | ((refine awp_ret ⟨.inr rfl,[112,113,114,115,116],[],_,by decide,rfl,?_⟩; (try simp (maxSteps := 400000) (disch := omega) only [push_cast,seval,↓allMem_nil,↓allMem_cons,↓List.map_cons,↓List.map_nil])); exact ⟨_,_,_,_,_,_,_,⟨by assumption,by assumption,by omega,by omega,by omega,by omega⟩,.inl ⟨rfl,rfl⟩⟩)
    | ((refine awp_ret ⟨.inr rfl,[112,113,114],[],_,by decide,rfl,?_⟩; (try simp (maxSteps := 400000) (disch := omega) only [push_cast,seval,↓allMem_nil,↓allMem_cons,↓List.map_cons,↓List.map_nil])); exact ⟨_,_,_,_,_,_,_,⟨by assumption,by assumption,by omega,by omega,by omega,by omega⟩,.inr ⟨rfl,rfl⟩⟩)
theorem drawCB_ok (bs : List Int) (n : Nat) (hn : bs.length = n) (hb : n ≤ 1099511627776 ∧ ∀ x ∈ bs,0 ≤ x ∧ x ≤ 255) : PCall Tryz.prog 4 [.rows false (UL bs) n] pairP := pair_plain (drawCBb_ok bs n hn hb)


set_option maxHeartbeats 32000000 in
theorem lFnCB_ok (bs : List Int) (hl : bs.length ≤ 9223372036854775807) (hb : ∀ x ∈ bs,0 ≤ x ∧ x ≤ 255) : PCall Tryz.prog 3 [.rows false (UL bs) bs.length] (fun r => r = .bool true) := by
  refine pcall_of l3_eq rfl ?_
  by_cases h : bs.length ≤ 1048576
  · have q : bs.length ≤ 1099511627776 ∧ ∀ x ∈ bs,0 ≤ x ∧ x ≤ 255 := ⟨by omega,hb⟩
    (repeat' (first
 | (refine awp_joinL (c1 := .reg l3r3) (fun x : List Int × Int × List Int × List Int × Int × List Int × List Int => mkS [(3,.rows true (IL x.1) x.1.length),(4,.ref 64 3 0),(5,.ref 80 3 0)] [(64,[.int .i64 x.2.1,.rows true (IL x.2.2.1) x.2.2.1.length,.rows true (IL x.2.2.2.1) x.2.2.2.1.length]),(80,[.int .i64 x.2.2.2.2.1,.rows true (IL x.2.2.2.2.2.1) x.2.2.2.2.2.1.length,.rows true (IL x.2.2.2.2.2.2) x.2.2.2.2.2.2.length])]) (fun x => 1 ≤ x.1.length ∧ x.1.length ≤ 60 ∧ x.2.2.1.length ≤ 5 ∧ x.2.2.2.1.length ≤ 5 ∧ x.2.2.2.2.2.1.length ≤ 5 ∧ x.2.2.2.2.2.2.length ≤ 5) ?_ ?_)
 | (first | refine awp_seq ?_ | refine awp_block ?_)
 | ((first | refine awp_reg ?_ | refine awp_condB ?_ | refine awp_skip ?_ | refine awp_exit ?_); simp (maxSteps := 400000) (disch := omega) only [push_cast,seval,l3r0,l3r1,l3r2,l3r3,l3r4,l3r5,l3r6,l3r7,l3r8,l3r9,l3r10,l3r11,l3r12,l3r13,l3r14,l3r15])
 | ((first | refine condB_split (fun h => ?_) (fun h => ?_) | refine gIf_split (fun h => ?_) (fun h => ?_) | refine qIf_split (fun h => ?_) (fun h => ?_)) <;> (try simp only [h]) <;> (try simp only [bitvec_to_nat] at h) <;> (try simp only [h]) <;> (first | (exfalso; omega) | (focus (exfalso; simp_all; done)) | (simp (maxSteps := 400000) (disch := omega) only [push_cast,seval]) | skip))
 | ((first | refine callD_of false ?_ | refine qcallD_of false ?_); simp (maxSteps := 400000) (disch := omega) only [push_cast,seval])
 | ((first | (refine call0D (BCall.ofP (drawCB_ok _ _ ?_ ?_)) ?_; (iterate 2 (exact sd)); rintro _ _ ⟨⟨mem,b,sh,st,b',sh',st',_,_,_,_,_,⟨rfl,rfl,rfl,rfl,rfl,hm1,hm2,hc1,hc2,hc3,hc4⟩,rfl⟩,rfl⟩) | ((first | refine call0D (iCopyB_ok _ _ _ _ _ _ _ _ _ _ _ _ ?_ ?_ ?_ ?_ ?_ ?_) ?_ | refine qcall0D (iCopyB_ok _ _ _ _ _ _ _ _ _ _ _ _ ?_ ?_ ?_ ?_ ?_ ?_) ⟨_,_,rfl,rfl⟩ ?_); (iterate 6 (exact sd)); rintro _ _ ⟨rfl,rfl⟩) | ((first | refine call0D (sCopyB_ok _ _ _ _ _ _ _ _ _ _ _ _ ?_ ?_ ?_ ?_ ?_ ?_) ?_ | refine qcall0D (sCopyB_ok _ _ _ _ _ _ _ _ _ _ _ _ ?_ ?_ ?_ ?_ ?_ ?_) ⟨_,_,rfl,rfl⟩ ?_); (iterate 6 (exact sd)); rintro _ _ ⟨rfl,rfl⟩) | ((first | refine call0D (BCall.ofP (equalInts_ok _ _ _ _ ?_ ?_ ?_)) ?_ | refine qcall0D (BCall.ofP (equalInts_ok _ _ _ _ ?_ ?_ ?_)) ⟨_,_,rfl,rfl⟩ ?_); (iterate 3 (exact sd)); rintro _ _ ⟨rfl,rfl⟩) | ((first | refine call0D (iCopy_ok _ _ _ _ _ _ _ _ _ _ _ _ ?_ ?_ ?_ ?_ ?_ ?_) ?_ | refine qcall0D (iCopy_ok _ _ _ _ _ _ _ _ _ _ _ _ ?_ ?_ ?_ ?_ ?_ ?_) ⟨_,_,rfl,rfl⟩ ?_); (iterate 6 (exact sd)); rintro _ _ ⟨rfl,rfl⟩) | ((first | refine call0D (iFlipDim_ok _ _ _ _ _ _ ?_ ?_ ?_) ?_ | refine qcall0D (iFlipDim_ok _ _ _ _ _ _ ?_ ?_ ?_) ⟨_,_,rfl,rfl⟩ ?_); (iterate 3 (exact sd)); rintro _ _ ⟨rfl,rfl⟩) | ((first | refine call0D (iCopyF_ok _ _ _ _ _ _ _ _ _ _ _ _ ?_ ?_ ?_ ?_ ?_ ?_) ?_ | refine qcall0D (iCopyF_ok _ _ _ _ _ _ _ _ _ _ _ _ ?_ ?_ ?_ ?_ ?_ ?_) ⟨_,_,rfl,rfl⟩ ?_); (iterate 6 (exact sd)); rintro _ _ ⟨rfl,rfl⟩) | ((first | refine call0D (BCall.ofP (iWayOf_ok _ _ _ _ _ _ _ _ _ _ ?_ ?_ ?_ ?_ ?_)) ?_ | refine qcall0D (BCall.ofP (iWayOf_ok _ _ _ _ _ _ _ _ _ _ ?_ ?_ ?_ ?_ ?_)) ⟨_,_,rfl,rfl⟩ ?_); (iterate 5 (exact sd)); rintro _ _ ⟨rfl,rfl⟩)) <;> (try simp (maxSteps := 400000) (disch := omega) only [push_cast,seval]))
 | (refine awp_ret ⟨.inr rfl,_,rfl,?_⟩; (try simp (maxSteps := 400000) (disch := omega) only [push_cast,seval]))))
    · (refine exSub7 (Sub.of_eqs rfl rfl ?_ ?_ ?_) ?_; (focus (simp [Vw.mkS,Vw.lk,Vw.hk,AV.inn,innL,innL_ints,innL_append,innL_rep,-List.map_set,-List.getD_eq_getElem?_getD,innL_ints]; done)); (focus (simp [AV.inn,innL,Vw.hk,innL_ints]; done)); (focus (simp [AV.inn,innL,innL_ints,innL_append,innL_rep,Vw.hk,innL_ints]; done)); (try simp only); (first | omega | (refine ⟨?_,?_⟩ <;> first | assumption | omega) | (refine ⟨?_,?_,?_⟩ <;> first | assumption | omega) | (refine ⟨?_,?_,?_,?_⟩ <;> first | assumption | omega)))
    · refine ⟨?_⟩
      rintro ⟨mem,b,sh,st,b',sh',st'⟩ ⟨hm1,hm2,hc1,hc2,hc3,hc4⟩
      try simp only at hm1 hm2 hc1 hc2 hc3 hc4 ⊢
      have hq : (mem.length ≤ 1099511627776 ∧ sh.length ≤ 1099511627776 ∧ st.length ≤ 1099511627776) ∧ sh'.length ≤ 1099511627776 ∧ st'.length ≤ 1099511627776 := by omega
      have hq2 : sh.length ≤ 1099511627776 ∧ st.length ≤ 1099511627776 := by omega
      have hq3 : sh'.length ≤ 1099511627776 ∧ st'.length ≤ 1099511627776 := by omega
      have hq4 : (sh.length ≤ 1099511627776 ∧ st.length ≤ 1099511627776) ∧ sh'.length ≤ 1099511627776 ∧ st'.length ≤ 1099511627776 := by omega
      cases hT : twoB mem b sh st b' sh' st' with
 | false =>
        have hQl : (MVL false (carL mem (offs b sh st).reverse (offs b' sh' st').reverse)).length = 0 := rfl
        generalize hQ : MVL false (carL mem (offs b sh st).reverse (offs b' sh' st').reverse) = Q at *
        have hQ2 : Q.length ≤ 1099511627776 ∧ Q.length ≤ 1099511627776 := by omega
        (repeat' (first
 | (first | refine awp_seq ?_ | refine awp_block ?_)
 | ((first | refine awp_reg ?_ | refine awp_condB ?_ | refine awp_skip ?_ | refine awp_exit ?_); simp (maxSteps := 400000) (disch := omega) only [push_cast,seval,l3r0,l3r1,l3r2,l3r3,l3r4,l3r5,l3r6,l3r7,l3r8,l3r9,l3r10,l3r11,l3r12,l3r13,l3r14,l3r15,hT,hQ,decide_true])
 | ((first | refine condB_split (fun h => ?_) (fun h => ?_) | refine gIf_split (fun h => ?_) (fun h => ?_) | refine qIf_split (fun h => ?_) (fun h => ?_)) <;> (try simp only [h]) <;> (try simp only [bitvec_to_nat] at h) <;> (try simp only [h]) <;> (first | (exfalso; omega) | (focus (exfalso; simp_all; done)) | (simp (maxSteps := 400000) (disch := omega) only [push_cast,seval,hT,hQ,decide_true]) | skip))
 | ((first | refine callD_of false ?_ | refine qcallD_of false ?_); simp (maxSteps := 400000) (disch := omega) only [push_cast,seval,hT,hQ,decide_true])
 | ((first | (refine call0D (BCall.ofP (drawCB_ok _ _ ?_ ?_)) ?_; (iterate 2 (exact sd)); rintro _ _ ⟨⟨mem,b,sh,st,b',sh',st',_,_,_,_,_,⟨rfl,rfl,rfl,rfl,rfl,hm1,hm2,hc1,hc2,hc3,hc4⟩,rfl⟩,rfl⟩) | ((first | refine call0D (iCopyB_ok _ _ _ _ _ _ _ _ _ _ _ _ ?_ ?_ ?_ ?_ ?_ ?_) ?_ | refine qcall0D (iCopyB_ok _ _ _ _ _ _ _ _ _ _ _ _ ?_ ?_ ?_ ?_ ?_ ?_) ⟨_,_,rfl,rfl⟩ ?_); (iterate 6 (exact sd)); rintro _ _ ⟨rfl,rfl⟩) | ((first | refine call0D (sCopyB_ok _ _ _ _ _ _ _ _ _ _ _ _ ?_ ?_ ?_ ?_ ?_ ?_) ?_ | refine qcall0D (sCopyB_ok _ _ _ _ _ _ _ _ _ _ _ _ ?_ ?_ ?_ ?_ ?_ ?_) ⟨_,_,rfl,rfl⟩ ?_); (iterate 6 (exact sd)); rintro _ _ ⟨rfl,rfl⟩) | ((first | refine call0D (BCall.ofP (equalInts_ok _ _ _ _ ?_ ?_ ?_)) ?_ | refine qcall0D (BCall.ofP (equalInts_ok _ _ _ _ ?_ ?_ ?_)) ⟨_,_,rfl,rfl⟩ ?_); (iterate 3 (exact sd)); rintro _ _ ⟨rfl,rfl⟩) | ((first | refine call0D (iCopy_ok _ _ _ _ _ _ _ _ _ _ _ _ ?_ ?_ ?_ ?_ ?_ ?_) ?_ | refine qcall0D (iCopy_ok _ _ _ _ _ _ _ _ _ _ _ _ ?_ ?_ ?_ ?_ ?_ ?_) ⟨_,_,rfl,rfl⟩ ?_); (iterate 6 (exact sd)); rintro _ _ ⟨rfl,rfl⟩) | ((first | refine call0D (iFlipDim_ok _ _ _ _ _ _ ?_ ?_ ?_) ?_ | refine qcall0D (iFlipDim_ok _ _ _ _ _ _ ?_ ?_ ?_) ⟨_,_,rfl,rfl⟩ ?_); (iterate 3 (exact sd)); rintro _ _ ⟨rfl,rfl⟩) | ((first | refine call0D (iCopyF_ok _ _ _ _ _ _ _ _ _ _ _ _ ?_ ?_ ?_ ?_ ?_ ?_) ?_ | refine qcall0D (iCopyF_ok _ _ _ _ _ _ _ _ _ _ _ _ ?_ ?_ ?_ ?_ ?_ ?_) ⟨_,_,rfl,rfl⟩ ?_); (iterate 6 (exact sd)); rintro _ _ ⟨rfl,rfl⟩) | ((first | refine call0D (BCall.ofP (iWayOf_ok _ _ _ _ _ _ _ _ _ _ ?_ ?_ ?_ ?_ ?_)) ?_ | refine qcall0D (BCall.ofP (iWayOf_ok _ _ _ _ _ _ _ _ _ _ ?_ ?_ ?_ ?_ ?_)) ⟨_,_,rfl,rfl⟩ ?_); (iterate 5 (exact sd)); rintro _ _ ⟨rfl,rfl⟩)) <;> (try simp (maxSteps := 400000) (disch := omega) only [push_cast,seval,hT,hQ,decide_true]))
 | (refine awp_ret ⟨.inr rfl,_,rfl,?_⟩; (try simp (maxSteps := 400000) (disch := omega) only [push_cast,seval,hT,hQ,decide_true]))))
        all_goals (try simp)
 | true =>
        obtain ⟨s1,s2,s3⟩ := two_facts hT
        obtain ⟨g1,g2,g3⟩ := seeB_spec.1 s1
        obtain ⟨k1,k2,k3⟩ := seeB_spec.1 s2
        have hcl := carL_length mem (offs b sh st).reverse (offs b' sh' st').reverse
        have hpl := putL_length mem (offs b sh st) (takesL mem (offs b' sh' st'))
        have hin : inM (offs b sh st) mem.length := fun i hi => by have := g3 _ (getD_mem hi); omega
        have hin' : inM (offs b' sh' st') mem.length := fun i hi => by have := k3 _ (getD_mem hi); omega
        have hLL : (offs b sh st).length = (offs b' sh' st').length := by
          have h1 := offs_length b sh st
          have h2 := offs_length b' sh' st'
          have h3 : pr sh = pr sh' := by rw [s3]
          omega
        have hC : (MVL true (carL mem (offs b sh st).reverse (offs b' sh' st').reverse)) = carL mem (offs b sh st).reverse (offs b' sh' st').reverse := rfl
        have hP : (MVL true (putL mem (offs b sh st) (takesL mem (offs b' sh' st')))) = putL mem (offs b sh st) (takesL mem (offs b' sh' st')) := rfl
        have hWP : wayI b sh st b' sh' st' = 1 → putL mem (offs b sh st) (takesL mem (offs b' sh' st')) = carL mem (offs b sh st).reverse (offs b' sh' st').reverse := fun hw => by
          unfold wayI at hw
          split at hw
          · split at hw
            · omega
            · split at hw
              · rename_i hy
                simp only [Bool.and_eq_true,Bool.not_eq_true',decide_eq_true_eq] at hy
                exact (carR_put hin hin' hLL hy.1 hy.2).symm
              · omega
          · omega
        have eL : ∀ l,MVL true l = l := fun _ => rfl
        have eB : ∀ x,MVB true x = x := fun _ => rfl
        have hfl := fun h1 : sh.length = 1 => And.intro (two_flip hT h1) (And.intro (flip_one g2 h1) (flip_one k2 (by rw [← s3]; exact h1)))
        have hcs1 := cutSh_length sh (0 : Int).toNat 0 0 (-1) false false
        have hcs2 := cutSh_length sh' (0 : Int).toNat 0 0 (-1) false false
        have hct1 := cutSt_length (okV_valid g2).2 (0 : Int).toNat 0 0 (-1) false false
        have hct2 := cutSt_length (okV_valid k2).2 (0 : Int).toNat 0 0 (-1) false false
        by_cases h1 : sh.length = 1
        · obtain ⟨t1,⟨d1,_,_,o1⟩,⟨d2,_,_,o2⟩⟩ := hfl h1
          have h1i : (sh.length : Int) = 1 := by omega
          have hK0 : carL mem (offs (cutB b sh st (0 : Int).toNat 0 0 (-1) false false) (cutSh sh (0 : Int).toNat 0 0 (-1) false false) (cutSt sh st (0 : Int).toNat 0 0 (-1) false false)) (offs (cutB b' sh' st' (0 : Int).toNat 0 0 (-1) false false) (cutSh sh' (0 : Int).toNat 0 0 (-1) false false) (cutSt sh' st' (0 : Int).toNat 0 0 (-1) false false)) = carL mem (offs b sh st).reverse (offs b' sh' st').reverse := by rw [o1,o2]
          clear hfl o1 o2 hin hin' g3 k3 s1 s2 hC hP
          generalize hB1 : cutB b sh st (0 : Int).toNat 0 0 (-1) false false = B1 at *
          generalize hB2 : cutB b' sh' st' (0 : Int).toNat 0 0 (-1) false false = B2 at *
          generalize hS1 : cutSh sh (0 : Int).toNat 0 0 (-1) false false = S1 at *
          generalize hS2 : cutSh sh' (0 : Int).toNat 0 0 (-1) false false = S2 at *
          generalize hT1 : cutSt sh st (0 : Int).toNat 0 0 (-1) false false = T1 at *
          generalize hT2 : cutSt sh' st' (0 : Int).toNat 0 0 (-1) false false = T2 at *
          generalize hK : carL mem (offs b sh st).reverse (offs b' sh' st').reverse = K at *
          generalize hPg : putL mem (offs b sh st) (takesL mem (offs b' sh' st')) = P at *
          generalize hW : wayI b sh st b' sh' st' = W at *
          have q1 : K.length ≤ 1099511627776 ∧ K.length ≤ 1099511627776 := by omega
          have q2 : P.length ≤ 1099511627776 ∧ K.length ≤ 1099511627776 := by omega
          have q3 : (mem.length ≤ 1099511627776 ∧ S1.length ≤ 1099511627776 ∧ T1.length ≤ 1099511627776) ∧ S2.length ≤ 1099511627776 ∧ T2.length ≤ 1099511627776 := by omega
          by_cases hw1 : W = 1
          · have hKP := hWP hw1
            clear hWP
            (repeat' (first
 | (first | refine awp_seq ?_ | refine awp_block ?_)
 | ((first | refine awp_reg ?_ | refine awp_condB ?_ | refine awp_skip ?_ | refine awp_exit ?_); simp (maxSteps := 400000) (disch := omega) only [push_cast,seval,l3r0,l3r1,l3r2,l3r3,l3r4,l3r5,l3r6,l3r7,l3r8,l3r9,l3r10,l3r11,l3r12,l3r13,l3r14,l3r15,hT,eL,eB,hK,hK0,hPg,hW,hw1,hKP,h1i,d1,d2,t1,hB1,hB2,hS1,hS2,hT1,hT2,decide_true])
 | ((first | refine condB_split (fun h => ?_) (fun h => ?_) | refine gIf_split (fun h => ?_) (fun h => ?_) | refine qIf_split (fun h => ?_) (fun h => ?_)) <;> (try simp only [h]) <;> (try simp only [bitvec_to_nat] at h) <;> (try simp only [h]) <;> (first | (exfalso; omega) | (focus (exfalso; simp_all; done)) | (simp (maxSteps := 400000) (disch := omega) only [push_cast,seval,hT,eL,eB,hK,hK0,hPg,hW,hw1,hKP,h1i,d1,d2,t1,hB1,hB2,hS1,hS2,hT1,hT2,decide_true]) | skip))
 | ((first | refine callD_of false ?_ | refine qcallD_of false ?_); simp (maxSteps := 400000) (disch := omega) only [push_cast,seval,hT,eL,eB,hK,hK0,hPg,hW,hw1,hKP,h1i,d1,d2,t1,hB1,hB2,hS1,hS2,hT1,hT2,decide_true])
 | ((first | (refine call0D (BCall.ofP (drawCB_ok _ _ ?_ ?_)) ?_; (iterate 2 (exact sd)); rintro _ _ ⟨⟨mem,b,sh,st,b',sh',st',_,_,_,_,_,⟨rfl,rfl,rfl,rfl,rfl,hm1,hm2,hc1,hc2,hc3,hc4⟩,rfl⟩,rfl⟩) | ((first | refine call0D (iCopyB_ok _ _ _ _ _ _ _ _ _ _ _ _ ?_ ?_ ?_ ?_ ?_ ?_) ?_ | refine qcall0D (iCopyB_ok _ _ _ _ _ _ _ _ _ _ _ _ ?_ ?_ ?_ ?_ ?_ ?_) ⟨_,_,rfl,rfl⟩ ?_); (iterate 6 (exact sd)); rintro _ _ ⟨rfl,rfl⟩) | ((first | refine call0D (sCopyB_ok _ _ _ _ _ _ _ _ _ _ _ _ ?_ ?_ ?_ ?_ ?_ ?_) ?_ | refine qcall0D (sCopyB_ok _ _ _ _ _ _ _ _ _ _ _ _ ?_ ?_ ?_ ?_ ?_ ?_) ⟨_,_,rfl,rfl⟩ ?_); (iterate 6 (exact sd)); rintro _ _ ⟨rfl,rfl⟩) | ((first | refine call0D (BCall.ofP (equalInts_ok _ _ _ _ ?_ ?_ ?_)) ?_ | refine qcall0D (BCall.ofP (equalInts_ok _ _ _ _ ?_ ?_ ?_)) ⟨_,_,rfl,rfl⟩ ?_); (iterate 3 (exact sd)); rintro _ _ ⟨rfl,rfl⟩) | ((first | refine call0D (iCopy_ok _ _ _ _ _ _ _ _ _ _ _ _ ?_ ?_ ?_ ?_ ?_ ?_) ?_ | refine qcall0D (iCopy_ok _ _ _ _ _ _ _ _ _ _ _ _ ?_ ?_ ?_ ?_ ?_ ?_) ⟨_,_,rfl,rfl⟩ ?_); (iterate 6 (exact sd)); rintro _ _ ⟨rfl,rfl⟩) | ((first | refine call0D (iFlipDim_ok _ _ _ _ _ _ ?_ ?_ ?_) ?_ | refine qcall0D (iFlipDim_ok _ _ _ _ _ _ ?_ ?_ ?_) ⟨_,_,rfl,rfl⟩ ?_); (iterate 3 (exact sd)); rintro _ _ ⟨rfl,rfl⟩) | ((first | refine call0D (iCopyF_ok _ _ _ _ _ _ _ _ _ _ _ _ ?_ ?_ ?_ ?_ ?_ ?_) ?_ | refine qcall0D (iCopyF_ok _ _ _ _ _ _ _ _ _ _ _ _ ?_ ?_ ?_ ?_ ?_ ?_) ⟨_,_,rfl,rfl⟩ ?_); (iterate 6 (exact sd)); rintro _ _ ⟨rfl,rfl⟩) | ((first | refine call0D (BCall.ofP (iWayOf_ok _ _ _ _ _ _ _ _ _ _ ?_ ?_ ?_ ?_ ?_)) ?_ | refine qcall0D (BCall.ofP (iWayOf_ok _ _ _ _ _ _ _ _ _ _ ?_ ?_ ?_ ?_ ?_)) ⟨_,_,rfl,rfl⟩ ?_); (iterate 5 (exact sd)); rintro _ _ ⟨rfl,rfl⟩)) <;> (try simp (maxSteps := 400000) (disch := omega) only [push_cast,seval,hT,eL,eB,hK,hK0,hPg,hW,hw1,hKP,h1i,d1,d2,t1,hB1,hB2,hS1,hS2,hT1,hT2,decide_true]))
 | (refine awp_ret ⟨.inr rfl,_,rfl,?_⟩; (try simp (maxSteps := 400000) (disch := omega) only [push_cast,seval,hT,eL,eB,hK,hK0,hPg,hW,hw1,hKP,h1i,d1,d2,t1,hB1,hB2,hS1,hS2,hT1,hT2,decide_true]))))
            all_goals (try simp)
          · clear hWP
            (repeat' (first
 | (first | refine awp_seq ?_ | refine awp_block ?_)
 | ((first | refine awp_reg ?_ | refine awp_condB ?_ | refine awp_skip ?_ | refine awp_exit ?_); simp (maxSteps := 400000) (disch := omega) only [push_cast,seval,l3r0,l3r1,l3r2,l3r3,l3r4,l3r5,l3r6,l3r7,l3r8,l3r9,l3r10,l3r11,l3r12,l3r13,l3r14,l3r15,hT,eL,eB,hK,hK0,hPg,hW,hw1,h1i,d1,d2,t1,hB1,hB2,hS1,hS2,hT1,hT2,decide_true])
 | ((first | refine condB_split (fun h => ?_) (fun h => ?_) | refine gIf_split (fun h => ?_) (fun h => ?_) | refine qIf_split (fun h => ?_) (fun h => ?_)) <;> (try simp only [h]) <;> (try simp only [bitvec_to_nat] at h) <;> (try simp only [h]) <;> (first | (exfalso; omega) | (focus (exfalso; simp_all; done)) | (simp (maxSteps := 400000) (disch := omega) only [push_cast,seval,hT,eL,eB,hK,hK0,hPg,hW,hw1,h1i,d1,d2,t1,hB1,hB2,hS1,hS2,hT1,hT2,decide_true]) | skip))
 | ((first | refine callD_of false ?_ | refine qcallD_of false ?_); simp (maxSteps := 400000) (disch := omega) only [push_cast,seval,hT,eL,eB,hK,hK0,hPg,hW,hw1,h1i,d1,d2,t1,hB1,hB2,hS1,hS2,hT1,hT2,decide_true])
 | ((first | (refine call0D (BCall.ofP (drawCB_ok _ _ ?_ ?_)) ?_; (iterate 2 (exact sd)); rintro _ _ ⟨⟨mem,b,sh,st,b',sh',st',_,_,_,_,_,⟨rfl,rfl,rfl,rfl,rfl,hm1,hm2,hc1,hc2,hc3,hc4⟩,rfl⟩,rfl⟩) | ((first | refine call0D (iCopyB_ok _ _ _ _ _ _ _ _ _ _ _ _ ?_ ?_ ?_ ?_ ?_ ?_) ?_ | refine qcall0D (iCopyB_ok _ _ _ _ _ _ _ _ _ _ _ _ ?_ ?_ ?_ ?_ ?_ ?_) ⟨_,_,rfl,rfl⟩ ?_); (iterate 6 (exact sd)); rintro _ _ ⟨rfl,rfl⟩) | ((first | refine call0D (sCopyB_ok _ _ _ _ _ _ _ _ _ _ _ _ ?_ ?_ ?_ ?_ ?_ ?_) ?_ | refine qcall0D (sCopyB_ok _ _ _ _ _ _ _ _ _ _ _ _ ?_ ?_ ?_ ?_ ?_ ?_) ⟨_,_,rfl,rfl⟩ ?_); (iterate 6 (exact sd)); rintro _ _ ⟨rfl,rfl⟩) | ((first | refine call0D (BCall.ofP (equalInts_ok _ _ _ _ ?_ ?_ ?_)) ?_ | refine qcall0D (BCall.ofP (equalInts_ok _ _ _ _ ?_ ?_ ?_)) ⟨_,_,rfl,rfl⟩ ?_); (iterate 3 (exact sd)); rintro _ _ ⟨rfl,rfl⟩) | ((first | refine call0D (iCopy_ok _ _ _ _ _ _ _ _ _ _ _ _ ?_ ?_ ?_ ?_ ?_ ?_) ?_ | refine qcall0D (iCopy_ok _ _ _ _ _ _ _ _ _ _ _ _ ?_ ?_ ?_ ?_ ?_ ?_) ⟨_,_,rfl,rfl⟩ ?_); (iterate 6 (exact sd)); rintro _ _ ⟨rfl,rfl⟩) | ((first | refine call0D (iFlipDim_ok _ _ _ _ _ _ ?_ ?_ ?_) ?_ | refine qcall0D (iFlipDim_ok _ _ _ _ _ _ ?_ ?_ ?_) ⟨_,_,rfl,rfl⟩ ?_); (iterate 3 (exact sd)); rintro _ _ ⟨rfl,rfl⟩) | ((first | refine call0D (iCopyF_ok _ _ _ _ _ _ _ _ _ _ _ _ ?_ ?_ ?_ ?_ ?_ ?_) ?_ | refine qcall0D (iCopyF_ok _ _ _ _ _ _ _ _ _ _ _ _ ?_ ?_ ?_ ?_ ?_ ?_) ⟨_,_,rfl,rfl⟩ ?_); (iterate 6 (exact sd)); rintro _ _ ⟨rfl,rfl⟩) | ((first | refine call0D (BCall.ofP (iWayOf_ok _ _ _ _ _ _ _ _ _ _ ?_ ?_ ?_ ?_ ?_)) ?_ | refine qcall0D (BCall.ofP (iWayOf_ok _ _ _ _ _ _ _ _ _ _ ?_ ?_ ?_ ?_ ?_)) ⟨_,_,rfl,rfl⟩ ?_); (iterate 5 (exact sd)); rintro _ _ ⟨rfl,rfl⟩)) <;> (try simp (maxSteps := 400000) (disch := omega) only [push_cast,seval,hT,eL,eB,hK,hK0,hPg,hW,hw1,h1i,d1,d2,t1,hB1,hB2,hS1,hS2,hT1,hT2,decide_true]))
 | (refine awp_ret ⟨.inr rfl,_,rfl,?_⟩; (try simp (maxSteps := 400000) (disch := omega) only [push_cast,seval,hT,eL,eB,hK,hK0,hPg,hW,hw1,h1i,d1,d2,t1,hB1,hB2,hS1,hS2,hT1,hT2,decide_true]))))
            all_goals (try simp)
        · have h1i : ¬ (sh.length : Int) = 1 := by omega
          clear hfl hin hin' g3 k3 s1 s2 hC hP
          generalize hK : carL mem (offs b sh st).reverse (offs b' sh' st').reverse = K at *
          generalize hPg : putL mem (offs b sh st) (takesL mem (offs b' sh' st')) = P at *
          generalize hW : wayI b sh st b' sh' st' = W at *
          have q1 : K.length ≤ 1099511627776 ∧ K.length ≤ 1099511627776 := by omega
          have q2 : P.length ≤ 1099511627776 ∧ K.length ≤ 1099511627776 := by omega
          by_cases hw1 : W = 1
          · have hKP := hWP hw1
            clear hWP
            (repeat' (first
 | (first | refine awp_seq ?_ | refine awp_block ?_)
 | ((first | refine awp_reg ?_ | refine awp_condB ?_ | refine awp_skip ?_ | refine awp_exit ?_); simp (maxSteps := 400000) (disch := omega) only [push_cast,seval,l3r0,l3r1,l3r2,l3r3,l3r4,l3r5,l3r6,l3r7,l3r8,l3r9,l3r10,l3r11,l3r12,l3r13,l3r14,l3r15,hT,eL,eB,hK,hPg,hW,hw1,hKP,h1i,decide_true])
 | ((first | refine condB_split (fun h => ?_) (fun h => ?_) | refine gIf_split (fun h => ?_) (fun h => ?_) | refine qIf_split (fun h => ?_) (fun h => ?_)) <;> (try simp only [h]) <;> (try simp only [bitvec_to_nat] at h) <;> (try simp only [h]) <;> (first | (exfalso; omega) | (focus (exfalso; simp_all; done)) | (simp (maxSteps := 400000) (disch := omega) only [push_cast,seval,hT,eL,eB,hK,hPg,hW,hw1,hKP,h1i,decide_true]) | skip))
 | ((first | refine callD_of false ?_ | refine qcallD_of false ?_); simp (maxSteps := 400000) (disch := omega) only [push_cast,seval,hT,eL,eB,hK,hPg,hW,hw1,hKP,h1i,decide_true])
 | ((first | (refine call0D (BCall.ofP (drawCB_ok _ _ ?_ ?_)) ?_; (iterate 2 (exact sd)); rintro _ _ ⟨⟨mem,b,sh,st,b',sh',st',_,_,_,_,_,⟨rfl,rfl,rfl,rfl,rfl,hm1,hm2,hc1,hc2,hc3,hc4⟩,rfl⟩,rfl⟩) | ((first | refine call0D (iCopyB_ok _ _ _ _ _ _ _ _ _ _ _ _ ?_ ?_ ?_ ?_ ?_ ?_) ?_ | refine qcall0D (iCopyB_ok _ _ _ _ _ _ _ _ _ _ _ _ ?_ ?_ ?_ ?_ ?_ ?_) ⟨_,_,rfl,rfl⟩ ?_); (iterate 6 (exact sd)); rintro _ _ ⟨rfl,rfl⟩) | ((first | refine call0D (sCopyB_ok _ _ _ _ _ _ _ _ _ _ _ _ ?_ ?_ ?_ ?_ ?_ ?_) ?_ | refine qcall0D (sCopyB_ok _ _ _ _ _ _ _ _ _ _ _ _ ?_ ?_ ?_ ?_ ?_ ?_) ⟨_,_,rfl,rfl⟩ ?_); (iterate 6 (exact sd)); rintro _ _ ⟨rfl,rfl⟩) | ((first | refine call0D (BCall.ofP (equalInts_ok _ _ _ _ ?_ ?_ ?_)) ?_ | refine qcall0D (BCall.ofP (equalInts_ok _ _ _ _ ?_ ?_ ?_)) ⟨_,_,rfl,rfl⟩ ?_); (iterate 3 (exact sd)); rintro _ _ ⟨rfl,rfl⟩) | ((first | refine call0D (iCopy_ok _ _ _ _ _ _ _ _ _ _ _ _ ?_ ?_ ?_ ?_ ?_ ?_) ?_ | refine qcall0D (iCopy_ok _ _ _ _ _ _ _ _ _ _ _ _ ?_ ?_ ?_ ?_ ?_ ?_) ⟨_,_,rfl,rfl⟩ ?_); (iterate 6 (exact sd)); rintro _ _ ⟨rfl,rfl⟩) | ((first | refine call0D (iFlipDim_ok _ _ _ _ _ _ ?_ ?_ ?_) ?_ | refine qcall0D (iFlipDim_ok _ _ _ _ _ _ ?_ ?_ ?_) ⟨_,_,rfl,rfl⟩ ?_); (iterate 3 (exact sd)); rintro _ _ ⟨rfl,rfl⟩) | ((first | refine call0D (iCopyF_ok _ _ _ _ _ _ _ _ _ _ _ _ ?_ ?_ ?_ ?_ ?_ ?_) ?_ | refine qcall0D (iCopyF_ok _ _ _ _ _ _ _ _ _ _ _ _ ?_ ?_ ?_ ?_ ?_ ?_) ⟨_,_,rfl,rfl⟩ ?_); (iterate 6 (exact sd)); rintro _ _ ⟨rfl,rfl⟩) | ((first | refine call0D (BCall.ofP (iWayOf_ok _ _ _ _ _ _ _ _ _ _ ?_ ?_ ?_ ?_ ?_)) ?_ | refine qcall0D (BCall.ofP (iWayOf_ok _ _ _ _ _ _ _ _ _ _ ?_ ?_ ?_ ?_ ?_)) ⟨_,_,rfl,rfl⟩ ?_); (iterate 5 (exact sd)); rintro _ _ ⟨rfl,rfl⟩)) <;> (try simp (maxSteps := 400000) (disch := omega) only [push_cast,seval,hT,eL,eB,hK,hPg,hW,hw1,hKP,h1i,decide_true]))
 | (refine awp_ret ⟨.inr rfl,_,rfl,?_⟩; (try simp (maxSteps := 400000) (disch := omega) only [push_cast,seval,hT,eL,eB,hK,hPg,hW,hw1,hKP,h1i,decide_true]))))
            all_goals (try simp)
          · clear hWP
            (repeat' (first
 | (first | refine awp_seq ?_ | refine awp_block ?_)
 | ((first | refine awp_reg ?_ | refine awp_condB ?_ | refine awp_skip ?_ | refine awp_exit ?_); simp (maxSteps := 400000) (disch := omega) only [push_cast,seval,l3r0,l3r1,l3r2,l3r3,l3r4,l3r5,l3r6,l3r7,l3r8,l3r9,l3r10,l3r11,l3r12,l3r13,l3r14,l3r15,hT,eL,eB,hK,hPg,hW,hw1,h1i,decide_true])
 | ((first | refine condB_split (fun h => ?_) (fun h => ?_) | refine gIf_split (fun h => ?_) (fun h => ?_) | refine qIf_split (fun h => ?_) (fun h => ?_)) <;> (try simp only [h]) <;> (try simp only [bitvec_to_nat] at h) <;> (try simp only [h]) <;> (first | (exfalso; omega) | (focus (exfalso; simp_all; done)) | (simp (maxSteps := 400000) (disch := omega) only [push_cast,seval,hT,eL,eB,hK,hPg,hW,hw1,h1i,decide_true]) | skip))
 | ((first | refine callD_of false ?_ | refine qcallD_of false ?_); simp (maxSteps := 400000) (disch := omega) only [push_cast,seval,hT,eL,eB,hK,hPg,hW,hw1,h1i,decide_true])
 | ((first | (refine call0D (BCall.ofP (drawCB_ok _ _ ?_ ?_)) ?_; (iterate 2 (exact sd)); rintro _ _ ⟨⟨mem,b,sh,st,b',sh',st',_,_,_,_,_,⟨rfl,rfl,rfl,rfl,rfl,hm1,hm2,hc1,hc2,hc3,hc4⟩,rfl⟩,rfl⟩) | ((first | refine call0D (iCopyB_ok _ _ _ _ _ _ _ _ _ _ _ _ ?_ ?_ ?_ ?_ ?_ ?_) ?_ | refine qcall0D (iCopyB_ok _ _ _ _ _ _ _ _ _ _ _ _ ?_ ?_ ?_ ?_ ?_ ?_) ⟨_,_,rfl,rfl⟩ ?_); (iterate 6 (exact sd)); rintro _ _ ⟨rfl,rfl⟩) | ((first | refine call0D (sCopyB_ok _ _ _ _ _ _ _ _ _ _ _ _ ?_ ?_ ?_ ?_ ?_ ?_) ?_ | refine qcall0D (sCopyB_ok _ _ _ _ _ _ _ _ _ _ _ _ ?_ ?_ ?_ ?_ ?_ ?_) ⟨_,_,rfl,rfl⟩ ?_); (iterate 6 (exact sd)); rintro _ _ ⟨rfl,rfl⟩) | ((first | refine call0D (BCall.ofP (equalInts_ok _ _ _ _ ?_ ?_ ?_)) ?_ | refine qcall0D (BCall.ofP (equalInts_ok _ _ _ _ ?_ ?_ ?_)) ⟨_,_,rfl,rfl⟩ ?_); (iterate 3 (exact sd)); rintro _ _ ⟨rfl,rfl⟩) | ((first | refine call0D (iCopy_ok _ _ _ _ _ _ _ _ _ _ _ _ ?_ ?_ ?_ ?_ ?_ ?_) ?_ | refine qcall0D (iCopy_ok _ _ _ _ _ _ _ _ _ _ _ _ ?_ ?_ ?_ ?_ ?_ ?_) ⟨_,_,rfl,rfl⟩ ?_); (iterate 6 (exact sd)); rintro _ _ ⟨rfl,rfl⟩) | ((first | refine call0D (iFlipDim_ok _ _ _ _ _ _ ?_ ?_ ?_) ?_ | refine qcall0D (iFlipDim_ok _ _ _ _ _ _ ?_ ?_ ?_) ⟨_,_,rfl,rfl⟩ ?_); (iterate 3 (exact sd)); rintro _ _ ⟨rfl,rfl⟩) | ((first | refine call0D (iCopyF_ok _ _ _ _ _ _ _ _ _ _ _ _ ?_ ?_ ?_ ?_ ?_ ?_) ?_ | refine qcall0D (iCopyF_ok _ _ _ _ _ _ _ _ _ _ _ _ ?_ ?_ ?_ ?_ ?_ ?_) ⟨_,_,rfl,rfl⟩ ?_); (iterate 6 (exact sd)); rintro _ _ ⟨rfl,rfl⟩) | ((first | refine call0D (BCall.ofP (iWayOf_ok _ _ _ _ _ _ _ _ _ _ ?_ ?_ ?_ ?_ ?_)) ?_ | refine qcall0D (BCall.ofP (iWayOf_ok _ _ _ _ _ _ _ _ _ _ ?_ ?_ ?_ ?_ ?_)) ⟨_,_,rfl,rfl⟩ ?_); (iterate 5 (exact sd)); rintro _ _ ⟨rfl,rfl⟩)) <;> (try simp (maxSteps := 400000) (disch := omega) only [push_cast,seval,hT,eL,eB,hK,hPg,hW,hw1,h1i,decide_true]))
 | (refine awp_ret ⟨.inr rfl,_,rfl,?_⟩; (try simp (maxSteps := 400000) (disch := omega) only [push_cast,seval,hT,eL,eB,hK,hPg,hW,hw1,h1i,decide_true]))))
            all_goals (try simp)
  · (repeat' (first
 | (first | refine awp_seq ?_ | refine awp_block ?_)
 | ((first | refine awp_reg ?_ | refine awp_condB ?_ | refine awp_skip ?_ | refine awp_exit ?_); simp (maxSteps := 400000) (disch := omega) only [push_cast,seval,l3r0,l3r1,l3r2,l3r3,l3r4,l3r5,l3r6,l3r7,l3r8,l3r9,l3r10,l3r11,l3r12,l3r13,l3r14,l3r15])
 | ((first | refine condB_split (fun h => ?_) (fun h => ?_) | refine gIf_split (fun h => ?_) (fun h => ?_) | refine qIf_split (fun h => ?_) (fun h => ?_)) <;> (try simp only [h]) <;> (try simp only [bitvec_to_nat] at h) <;> (try simp only [h]) <;> (first | (exfalso; omega) | (focus (exfalso; simp_all; done)) | (simp (maxSteps := 400000) (disch := omega) only [push_cast,seval]) | skip))
 | ((first | refine callD_of false ?_ | refine qcallD_of false ?_); simp (maxSteps := 400000) (disch := omega) only [push_cast,seval])
 | ((first | (refine call0D (BCall.ofP (drawCB_ok _ _ ?_ ?_)) ?_; (iterate 2 (exact sd)); rintro _ _ ⟨⟨mem,b,sh,st,b',sh',st',_,_,_,_,_,⟨rfl,rfl,rfl,rfl,rfl,hm1,hm2,hc1,hc2,hc3,hc4⟩,rfl⟩,rfl⟩) | ((first | refine call0D (iCopyB_ok _ _ _ _ _ _ _ _ _ _ _ _ ?_ ?_ ?_ ?_ ?_ ?_) ?_ | refine qcall0D (iCopyB_ok _ _ _ _ _ _ _ _ _ _ _ _ ?_ ?_ ?_ ?_ ?_ ?_) ⟨_,_,rfl,rfl⟩ ?_); (iterate 6 (exact sd)); rintro _ _ ⟨rfl,rfl⟩) | ((first | refine call0D (sCopyB_ok _ _ _ _ _ _ _ _ _ _ _ _ ?_ ?_ ?_ ?_ ?_ ?_) ?_ | refine qcall0D (sCopyB_ok _ _ _ _ _ _ _ _ _ _ _ _ ?_ ?_ ?_ ?_ ?_ ?_) ⟨_,_,rfl,rfl⟩ ?_); (iterate 6 (exact sd)); rintro _ _ ⟨rfl,rfl⟩) | ((first | refine call0D (BCall.ofP (equalInts_ok _ _ _ _ ?_ ?_ ?_)) ?_ | refine qcall0D (BCall.ofP (equalInts_ok _ _ _ _ ?_ ?_ ?_)) ⟨_,_,rfl,rfl⟩ ?_); (iterate 3 (exact sd)); rintro _ _ ⟨rfl,rfl⟩) | ((first | refine call0D (iCopy_ok _ _ _ _ _ _ _ _ _ _ _ _ ?_ ?_ ?_ ?_ ?_ ?_) ?_ | refine qcall0D (iCopy_ok _ _ _ _ _ _ _ _ _ _ _ _ ?_ ?_ ?_ ?_ ?_ ?_) ⟨_,_,rfl,rfl⟩ ?_); (iterate 6 (exact sd)); rintro _ _ ⟨rfl,rfl⟩) | ((first | refine call0D (iFlipDim_ok _ _ _ _ _ _ ?_ ?_ ?_) ?_ | refine qcall0D (iFlipDim_ok _ _ _ _ _ _ ?_ ?_ ?_) ⟨_,_,rfl,rfl⟩ ?_); (iterate 3 (exact sd)); rintro _ _ ⟨rfl,rfl⟩) | ((first | refine call0D (iCopyF_ok _ _ _ _ _ _ _ _ _ _ _ _ ?_ ?_ ?_ ?_ ?_ ?_) ?_ | refine qcall0D (iCopyF_ok _ _ _ _ _ _ _ _ _ _ _ _ ?_ ?_ ?_ ?_ ?_ ?_) ⟨_,_,rfl,rfl⟩ ?_); (iterate 6 (exact sd)); rintro _ _ ⟨rfl,rfl⟩) | ((first | refine call0D (BCall.ofP (iWayOf_ok _ _ _ _ _ _ _ _ _ _ ?_ ?_ ?_ ?_ ?_)) ?_ | refine qcall0D (BCall.ofP (iWayOf_ok _ _ _ _ _ _ _ _ _ _ ?_ ?_ ?_ ?_ ?_)) ⟨_,_,rfl,rfl⟩ ?_); (iterate 5 (exact sd)); rintro _ _ ⟨rfl,rfl⟩)) <;> (try simp (maxSteps := 400000) (disch := omega) only [push_cast,seval]))
 | (refine awp_ret ⟨.inr rfl,_,rfl,?_⟩; (try simp (maxSteps := 400000) (disch := omega) only [push_cast,seval]))))

end Go.Proofs.YtcfjemmoajdcoaaGreat
