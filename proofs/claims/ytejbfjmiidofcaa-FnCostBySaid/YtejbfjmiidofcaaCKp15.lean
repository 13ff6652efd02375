import Derived.Test.YtejbfjmiidofcaaCKp14
import Derived.Test.YtejbfjmiidofcaaCM1
import Derived.Test.YtejbfjmiidofcaaCW3
set_option linter.unusedSimpArgs false
set_option linter.unusedVariables false
set_option maxRecDepth 4000
set_option maxHeartbeats 4000000
namespace Go.Proofs.Ytejbfjmiidofcaa
open VwM Vw Go

theorem iCost2_ok (t1 t2 u1 u2 a b : List Int) (n m : Nat) (hn : a.length = n) (hm : b.length = m) (hb : (t1.length ≤ 1099511627776 ∧ t2.length ≤ 1099511627776 ∧ u1.length ≤ 1099511627776 ∧ u2.length ≤ 1099511627776) ∧ n ≤ 1099511627776 ∧ m ≤ 1099511627776) :
    PCall Try.prog 20 [.rows false [.rows false (IL t1) t1.length,.rows false (IL t2) t2.length,.rows false (IL u1) u1.length,.rows false (IL u2) u2.length] 2,.rows false [.rows false (IL a) n,.rows false (IL b) m] 2] (fun r => r = .int .i64 (coI [(t1,t2),(u1,u2)] [a,b])) := by
  subst hn hm
  refine iCost_ok [(t1,t2),(u1,u2)] [a,b] 2 2 rfl rfl ⟨by omega,by omega,fun t ht => ?_,fun l hl => ?_⟩
  · simp at ht; rcases ht with rfl | rfl <;> simp only <;> omega
  · simp at hl; rcases hl with rfl | rfl <;> omega


set_option maxHeartbeats 32000000 in
theorem fCB_ok (bs : List Int) (hl : bs.length ≤ 9223372036854775807) (hb : ∀ x ∈ bs,0 ≤ x ∧ x ≤ 255) : PCall Try.prog 7 [.rows false (UL bs) bs.length] (fun r => r = .bool true) := by
  refine pcall_of l7_eq rfl ?_
  by_cases h : bs.length ≤ 1048576
  · have q : bs.length ≤ 1099511627776 ∧ ∀ x ∈ bs,0 ≤ x ∧ x ≤ 255 := ⟨by omega,hb⟩
    (repeat' (first
 | (refine awp_joinL (c1 := .reg l7r3) (fun x : List Tn × List (List Int) × List Int × Int × Int => mkS [(3,.rows true (TL true x.1) x.1.length),(4,.rows true (LL true x.2.1) x.2.1.length),(5,.rows true (IL x.2.2.1) x.2.2.1.length),(6,.int .i64 x.2.2.2.1),(7,.int .i64 x.2.2.2.2)] []) (fun x => prodF x.1 x.2.1 x.2.2.1) ?_ ?_)
 | (first | refine awp_seq ?_ | refine awp_block ?_)
 | ((first | refine awp_reg ?_ | refine awp_draw (mid := l7r7a) (post := l7r7b) mixed (by decide) ?_ | refine awp_condB ?_ | refine awp_skip ?_ | refine awp_exit ?_); simp (disch := omega) only [push_cast,seval,l7r0,l7r1,l7r2,l7r3,l7r4,l7r5,l7r6,l7r7a,l7r7b,l7r7,l7r8,innL_TL,innL_LL])
 | ((first | refine condB_split (fun h => ?_) (fun h => ?_) | refine gIf_split (fun h => ?_) (fun h => ?_) | refine qIf_split (fun h => ?_) (fun h => ?_)) <;> (try simp only [h]) <;> (try simp only [bitvec_to_nat] at h) <;> (try simp only [h]) <;> (first | (exfalso; omega) | (focus (exfalso; simp_all; done)) | (simp (disch := omega) only [push_cast,seval,innL_TL,innL_LL]) | skip))
 | ((first | refine callD_of false ?_ | refine qcallD_of false ?_); simp (disch := omega) only [push_cast,seval,innL_TL,innL_LL])
 | ((first | (refine call0D (BCall.ofP (drawCB_ok _ _ ?_ ?_)) ?_; (iterate 2 (exact sd)); rintro _ _ ⟨⟨ts,ls,out,i,j,hpf,hij,rfl⟩,rfl⟩) | ((first | refine call0D (BCall.ofP (iCostBy_ok _ _ _ _ _ _ _ _ ?_ ?_ ?_ ?_)) ?_ | refine qcall0D (BCall.ofP (iCostBy_ok _ _ _ _ _ _ _ _ ?_ ?_ ?_ ?_)) ⟨_,_,rfl,rfl⟩ ?_); (iterate 4 (exact sd)); rintro _ _ ⟨rfl,rfl⟩) | ((first | refine call0D (BCall.ofP (sCostBy_ok _ _ _ _ _ _ _ _ ?_ ?_ ?_ ?_)) ?_ | refine qcall0D (BCall.ofP (sCostBy_ok _ _ _ _ _ _ _ _ ?_ ?_ ?_ ?_)) ⟨_,_,rfl,rfl⟩ ?_); (iterate 4 (exact sd)); rintro _ _ ⟨rfl,rfl⟩) | ((first | refine call0D (BCall.ofP (iCost_ok _ _ _ _ ?_ ?_ ?_)) ?_ | refine qcall0D (BCall.ofP (iCost_ok _ _ _ _ ?_ ?_ ?_)) ⟨_,_,rfl,rfl⟩ ?_); (iterate 3 (exact sd)); rintro _ _ ⟨rfl,rfl⟩) | ((first | refine call0D (BCall.ofP (iCost2_ok _ _ _ _ _ _ _ _ ?_ ?_ ?_)) ?_ | refine qcall0D (BCall.ofP (iCost2_ok _ _ _ _ _ _ _ _ ?_ ?_ ?_)) ⟨_,_,rfl,rfl⟩ ?_); (iterate 3 (exact sd)); rintro _ _ ⟨rfl,rfl⟩)) <;> (try simp (disch := omega) only [push_cast,seval,innL_TL,innL_LL]))
 | (refine awp_ret ⟨.inr rfl,_,rfl,?_⟩; (try simp (disch := omega) only [push_cast,seval,innL_TL,innL_LL]))))
    · refine ⟨(ts,ls,out,i,j),hpf,?_⟩
      (refine Sub.of_lists ?_ ?_ ?_ ?_ ?_ <;> simp [Vw.mkS,Vw.lk,Vw.hk,AV.inn,innL,innL_ints,innL_append,innL_rep,-List.map_set,-List.getD_eq_getElem?_getD,innL_TL,innL_LL])
    · refine ⟨?_⟩
      rintro ⟨ts,ls,out,i,j⟩ hpf
      try simp only at hpf ⊢
      have hq := prodF_c hpf
      have hcm := cbI_comm ts ls out i j
      by_cases hneg : cbI ts ls out i j < 0
      · (repeat' (first
 | (first | refine awp_seq ?_ | refine awp_block ?_)
 | ((first | refine awp_reg ?_ | refine awp_draw (mid := l7r7a) (post := l7r7b) mixed (by decide) ?_ | refine awp_condB ?_ | refine awp_skip ?_ | refine awp_exit ?_); simp (disch := omega) only [push_cast,seval,l7r0,l7r1,l7r2,l7r3,l7r4,l7r5,l7r6,l7r7a,l7r7b,l7r7,l7r8,hneg,decide_true,innL_TL,innL_LL])
 | ((first | refine condB_split (fun h => ?_) (fun h => ?_) | refine gIf_split (fun h => ?_) (fun h => ?_) | refine qIf_split (fun h => ?_) (fun h => ?_)) <;> (try simp only [h]) <;> (try simp only [bitvec_to_nat] at h) <;> (try simp only [h]) <;> (first | (exfalso; omega) | (focus (exfalso; simp_all; done)) | (simp (disch := omega) only [push_cast,seval,hneg,decide_true,innL_TL,innL_LL]) | skip))
 | ((first | refine callD_of false ?_ | refine qcallD_of false ?_); simp (disch := omega) only [push_cast,seval,hneg,decide_true,innL_TL,innL_LL])
 | ((first | (refine call0D (BCall.ofP (drawCB_ok _ _ ?_ ?_)) ?_; (iterate 2 (exact sd)); rintro _ _ ⟨⟨ts,ls,out,i,j,hpf,hij,rfl⟩,rfl⟩) | ((first | refine call0D (BCall.ofP (iCostBy_ok _ _ _ _ _ _ _ _ ?_ ?_ ?_ ?_)) ?_ | refine qcall0D (BCall.ofP (iCostBy_ok _ _ _ _ _ _ _ _ ?_ ?_ ?_ ?_)) ⟨_,_,rfl,rfl⟩ ?_); (iterate 4 (exact sd)); rintro _ _ ⟨rfl,rfl⟩) | ((first | refine call0D (BCall.ofP (sCostBy_ok _ _ _ _ _ _ _ _ ?_ ?_ ?_ ?_)) ?_ | refine qcall0D (BCall.ofP (sCostBy_ok _ _ _ _ _ _ _ _ ?_ ?_ ?_ ?_)) ⟨_,_,rfl,rfl⟩ ?_); (iterate 4 (exact sd)); rintro _ _ ⟨rfl,rfl⟩) | ((first | refine call0D (BCall.ofP (iCost_ok _ _ _ _ ?_ ?_ ?_)) ?_ | refine qcall0D (BCall.ofP (iCost_ok _ _ _ _ ?_ ?_ ?_)) ⟨_,_,rfl,rfl⟩ ?_); (iterate 3 (exact sd)); rintro _ _ ⟨rfl,rfl⟩) | ((first | refine call0D (BCall.ofP (iCost2_ok _ _ _ _ _ _ _ _ ?_ ?_ ?_)) ?_ | refine qcall0D (BCall.ofP (iCost2_ok _ _ _ _ _ _ _ _ ?_ ?_ ?_)) ⟨_,_,rfl,rfl⟩ ?_); (iterate 3 (exact sd)); rintro _ _ ⟨rfl,rfl⟩)) <;> (try simp (disch := omega) only [push_cast,seval,hneg,decide_true,innL_TL,innL_LL]))
 | (refine awp_ret ⟨.inr rfl,_,rfl,?_⟩; (try simp (disch := omega) only [push_cast,seval,hneg,decide_true,innL_TL,innL_LL]))))
        all_goals (try simp)
      · obtain ⟨e,p,p',hxp,rfl,rfl,hp1,hp2,hne,hcb⟩ := cbI_pos hneg
        obtain ⟨ho,hx⟩ := exP_some hxp
        obtain ⟨h5,f1,f2,f3,f4,f5,f6,f7⟩ := exO_facts hx
        obtain ⟨⟨t1,t2⟩,ht⟩ := mem_lt hp1
        obtain ⟨⟨u1,u2⟩,hu⟩ := mem_lt hp2
        obtain ⟨a,ha⟩ := mem_lt (l := ls) (i := p) (by omega)
        obtain ⟨b,hbb⟩ := mem_lt (l := ls) (i := p') (by omega)
        obtain ⟨e',hx',hpe⟩ := exO_two hx ht hu ha hbb
        have hco : coI [(t1,t2),(u1,u2)] [a,b] = pr (spE (selE e (a ++ b))) := by unfold coI; rw [hx']; exact hpe
        have hcbe : cbI ts ls out p p' = pr (spE (selE e (a ++ b))) + pr (spE (selE e ((besL ls p p').flatten ++ keL ls out a b p p'))) := by rw [hcb,cbN_at ha hbb]; rfl
        have hsel : ∀ U : List Int,(∀ x ∈ U,x ∈ ls.flatten) → 0 ≤ pr (spE (selE e U)) := fun U hU => (pr_bound9 (xs := spE (selE e U)) ⟨fun v hv => by
          obtain ⟨y,hy,rfl⟩ := List.mem_map.1 hv
          obtain ⟨k,hk,rfl⟩ := List.mem_map.1 hy
          have hk5 := List.mem_range.1 hk
          by_cases hm : (k : Int) ∈ U
          · rw [if_pos hm]
            have := f2 k hk5 (hU _ hm)
            rw [if_neg (by omega)]; omega
          · rw [if_neg hm,if_pos (by omega)]; omega,by rw [spE_length,selT_len]; omega⟩).1
        have hfa : ∀ x ∈ a ++ b,x ∈ ls.flatten := fun x hx => by
          rcases List.mem_append.1 hx with h | h
          · exact List.mem_flatten.2 ⟨a,List.mem_of_getElem? ha,h⟩
          · exact List.mem_flatten.2 ⟨b,List.mem_of_getElem? hbb,h⟩
        have hz1 := hsel (a ++ b) hfa
        have hz2 := hsel ((besL ls p p').flatten ++ keL ls out a b p p') fun x hx => by
          rcases List.mem_append.1 hx with h | h
          · obtain ⟨l,hl,hx⟩ := List.mem_flatten.1 h
            exact List.mem_flatten.2 ⟨l,besT_sub hl,hx⟩
          · exact hfa x (List.mem_append.2 (mem_keL.1 h).2.1)
        have hdt := TL_drop true ts p ht
        have hdu := TL_drop true ts p' hu
        have hda := LL_drop true ls p ha
        have hdb := LL_drop true ls p' hbb
        have htl := TL_length true ts
        have hll := LL_length true ls
        simp only at hdt hdu
        have i1 : p * 2 + 2 ≤ ts.length * 2 := by omega
        have i2 : p' * 2 + 2 ≤ ts.length * 2 := by omega
        have i3 : p + 1 ≤ ls.length := by omega
        have i4 : p' + 1 ≤ ls.length := by omega
        have b1 := vT_len60 (f6 _ (List.mem_of_getElem? ht))
        have b2 := vT_len60 (f6 _ (List.mem_of_getElem? hu))
        have b3 := (lab_len hx).2 a (List.mem_of_getElem? ha)
        have b4 := (lab_len hx).2 b (List.mem_of_getElem? hbb)
        simp only at b1 b2
        have qq : (t1.length ≤ 1099511627776 ∧ t2.length ≤ 1099511627776 ∧ u1.length ≤ 1099511627776 ∧ u2.length ≤ 1099511627776) ∧ a.length ≤ 1099511627776 ∧ b.length ≤ 1099511627776 := by omega
        have hc0 : 0 ≤ coI [(t1,t2),(u1,u2)] [a,b] := by rw [hco]; exact hz1
        have hc1 : coI [(t1,t2),(u1,u2)] [a,b] ≤ cbI ts ls out p p' := by rw [hco,hcbe]; omega
        generalize hC1 : coI [(t1,t2),(u1,u2)] [a,b] = C1 at *
        clear hcbe hcb hco hz1 hz2 hsel hpe hx' hfa
        generalize hC2 : cbI ts ls out p p' = C2 at *
        (repeat' (first
 | (first | refine awp_seq ?_ | refine awp_block ?_)
 | ((first | refine awp_reg ?_ | refine awp_drawX (mid := l7r7a) (post := l7r7b) [] mixed (by decide) ?_ | refine awp_condB ?_ | refine awp_skip ?_ | refine awp_exit ?_); simp (disch := omega) only [push_cast,seval,l7r0,l7r1,l7r2,l7r3,l7r4,l7r5,l7r6,l7r7a,l7r7b,l7r7,l7r8,hneg,hC1,hC2,hcm,hc0,hc1,hdt,hdu,hda,hdb,htl,hll,i1,i2,i3,i4,decide_true,innL_TL,innL_LL])
 | ((first | refine condB_split (fun h => ?_) (fun h => ?_) | refine gIf_split (fun h => ?_) (fun h => ?_) | refine qIf_split (fun h => ?_) (fun h => ?_)) <;> (try simp only [h]) <;> (try simp only [bitvec_to_nat] at h) <;> (try simp only [h]) <;> (first | (exfalso; omega) | (focus (exfalso; simp_all; done)) | (simp (disch := omega) only [push_cast,seval,hneg,hC1,hC2,hcm,hc0,hc1,hdt,hdu,hda,hdb,htl,hll,i1,i2,i3,i4,decide_true,innL_TL,innL_LL]) | skip))
 | ((first | refine callD_of false ?_ | refine qcallD_of false ?_); simp (disch := omega) only [push_cast,seval,hneg,hC1,hC2,hcm,hc0,hc1,hdt,hdu,hda,hdb,htl,hll,i1,i2,i3,i4,decide_true,innL_TL,innL_LL])
 | ((first | (refine call0D (BCall.ofP (drawCB_ok _ _ ?_ ?_)) ?_; (iterate 2 (exact sd)); rintro _ _ ⟨⟨ts,ls,out,i,j,hpf,hij,rfl⟩,rfl⟩) | ((first | refine call0D (BCall.ofP (iCostBy_ok _ _ _ _ _ _ _ _ ?_ ?_ ?_ ?_)) ?_ | refine qcall0D (BCall.ofP (iCostBy_ok _ _ _ _ _ _ _ _ ?_ ?_ ?_ ?_)) ⟨_,_,rfl,rfl⟩ ?_); (iterate 4 (exact sd)); rintro _ _ ⟨rfl,rfl⟩) | ((first | refine call0D (BCall.ofP (sCostBy_ok _ _ _ _ _ _ _ _ ?_ ?_ ?_ ?_)) ?_ | refine qcall0D (BCall.ofP (sCostBy_ok _ _ _ _ _ _ _ _ ?_ ?_ ?_ ?_)) ⟨_,_,rfl,rfl⟩ ?_); (iterate 4 (exact sd)); rintro _ _ ⟨rfl,rfl⟩) | ((first | refine call0D (BCall.ofP (iCost_ok _ _ _ _ ?_ ?_ ?_)) ?_ | refine qcall0D (BCall.ofP (iCost_ok _ _ _ _ ?_ ?_ ?_)) ⟨_,_,rfl,rfl⟩ ?_); (iterate 3 (exact sd)); rintro _ _ ⟨rfl,rfl⟩) | ((first | refine call0D (BCall.ofP (iCost2_ok _ _ _ _ _ _ _ _ ?_ ?_ ?_)) ?_ | refine qcall0D (BCall.ofP (iCost2_ok _ _ _ _ _ _ _ _ ?_ ?_ ?_)) ⟨_,_,rfl,rfl⟩ ?_); (iterate 3 (exact sd)); rintro _ _ ⟨rfl,rfl⟩)) <;> (try simp (disch := omega) only [push_cast,seval,hneg,hC1,hC2,hcm,hc0,hc1,hdt,hdu,hda,hdb,htl,hll,i1,i2,i3,i4,decide_true,innL_TL,innL_LL]))
 | (refine awp_ret ⟨.inr rfl,_,rfl,?_⟩; (try simp (disch := omega) only [push_cast,seval,hneg,hC1,hC2,hcm,hc0,hc1,hdt,hdu,hda,hdb,htl,hll,i1,i2,i3,i4,decide_true,innL_TL,innL_LL]))))
        all_goals (try simp)
        all_goals (try omega)
  · (repeat' (first
 | (first | refine awp_seq ?_ | refine awp_block ?_)
 | ((first | refine awp_reg ?_ | refine awp_draw (mid := l7r7a) (post := l7r7b) mixed (by decide) ?_ | refine awp_condB ?_ | refine awp_skip ?_ | refine awp_exit ?_); simp (disch := omega) only [push_cast,seval,l7r0,l7r1,l7r2,l7r3,l7r4,l7r5,l7r6,l7r7a,l7r7b,l7r7,l7r8])
 | ((first | refine condB_split (fun h => ?_) (fun h => ?_) | refine gIf_split (fun h => ?_) (fun h => ?_) | refine qIf_split (fun h => ?_) (fun h => ?_)) <;> (try simp only [h]) <;> (try simp only [bitvec_to_nat] at h) <;> (try simp only [h]) <;> (first | (exfalso; omega) | (focus (exfalso; simp_all; done)) | (simp (disch := omega) only [push_cast,seval]) | skip))
 | ((first | refine callD_of false ?_ | refine qcallD_of false ?_); simp (disch := omega) only [push_cast,seval])
 | ((first | (refine call0D (BCall.ofP (drawCB_ok _ _ ?_ ?_)) ?_; (iterate 2 (exact sd)); rintro _ _ ⟨⟨ts,ls,out,i,j,hpf,hij,rfl⟩,rfl⟩) | ((first | refine call0D (BCall.ofP (iCostBy_ok _ _ _ _ _ _ _ _ ?_ ?_ ?_ ?_)) ?_ | refine qcall0D (BCall.ofP (iCostBy_ok _ _ _ _ _ _ _ _ ?_ ?_ ?_ ?_)) ⟨_,_,rfl,rfl⟩ ?_); (iterate 4 (exact sd)); rintro _ _ ⟨rfl,rfl⟩) | ((first | refine call0D (BCall.ofP (sCostBy_ok _ _ _ _ _ _ _ _ ?_ ?_ ?_ ?_)) ?_ | refine qcall0D (BCall.ofP (sCostBy_ok _ _ _ _ _ _ _ _ ?_ ?_ ?_ ?_)) ⟨_,_,rfl,rfl⟩ ?_); (iterate 4 (exact sd)); rintro _ _ ⟨rfl,rfl⟩) | ((first | refine call0D (BCall.ofP (iCost_ok _ _ _ _ ?_ ?_ ?_)) ?_ | refine qcall0D (BCall.ofP (iCost_ok _ _ _ _ ?_ ?_ ?_)) ⟨_,_,rfl,rfl⟩ ?_); (iterate 3 (exact sd)); rintro _ _ ⟨rfl,rfl⟩) | ((first | refine call0D (BCall.ofP (iCost2_ok _ _ _ _ _ _ _ _ ?_ ?_ ?_)) ?_ | refine qcall0D (BCall.ofP (iCost2_ok _ _ _ _ _ _ _ _ ?_ ?_ ?_)) ⟨_,_,rfl,rfl⟩ ?_); (iterate 3 (exact sd)); rintro _ _ ⟨rfl,rfl⟩)) <;> (try simp (disch := omega) only [push_cast,seval]))
 | (refine awp_ret ⟨.inr rfl,_,rfl,?_⟩; (try simp (disch := omega) only [push_cast,seval]))))


def klL (ts : List Tn) (ls : List (List Int)) (out : List Int) (i j : Int) : List Int := match exP ts ls out with | none => [] | some e => if pairB i j ts.length = true then keL ls out (ls.getD i.toNat []) (ls.getD j.toNat []) i.toNat j.toNat else []
theorem klL_comm (ts : List Tn) (ls : List (List Int)) (out : List Int) (i j : Int) : klL ts ls out j i = klL ts ls out i j := by
  unfold klL
  cases hx : exP ts ls out with
  | none => rfl
  | some e =>
    simp only
    have hp : pairB j i ts.length = pairB i j ts.length := by
      unfold pairB
      rw [Bool.eq_iff_iff]
      simp only [Bool.and_eq_true,Bool.not_eq_true',decide_eq_false_iff_not,decide_eq_true_eq]
      omega
    rw [hp]
    split
    · exact (keT_comm ls out _ _ _ _ 5)
    · rfl
theorem klL_len (ts : List Tn) (ls : List (List Int)) (out : List Int) (i j : Int) : (klL ts ls out i j).length ≤ 5 := by
  unfold klL
  split
  · simp
  · split
    · exact keT_len _ _ _ _ _ _ 5
    · simp



end Go.Proofs.Ytejbfjmiidofcaa
