import Derived.Test.YtfphjgmkpgoomaaCKz4
import Derived.Test.YtfphjgmkpgoomaaCM1
import Derived.Test.YtfphjgmkpgoomaaCW3
set_option linter.unusedSimpArgs false
set_option linter.unusedVariables false
set_option maxRecDepth 4000
set_option maxHeartbeats 4000000
namespace Go.Proofs.Ytfphjgmkpgoomaa
open VwM Vw Go

theorem flpK {n : Int} (hn : 0 ≤ n ∧ n ≤ 60) : cutK n 0 0 (-1) false false = n.toNat := by
  have hF : sFrom 0 n (-1) false = n - 1 := rfl
  have hT : sTo 0 n (-1) false = -1 := rfl
  unfold cutK cntN cntI
  rw [hF,hT,if_pos (by decide)]
  split
  · omega
  · rw [show ((0 : Int) - -1) = 1 from rfl,Int.tdiv_one]; omega
theorem flpSh {b : Int} {sh st : List Int} (hv : vV b sh st = true) {j : Nat} (hj : j < sh.length) : cutSh sh j 0 0 (-1) false false = sh := by
  have hn := good4_at (vSh_good (vV_spec.1 hv).1).1 hj
  unfold cutSh
  rw [flpK hn,show ((sh.getD j 0).toNat : Int) = sh.getD j 0 by omega]
  refine List.ext_getElem? fun i => ?_
  rw [List.getElem?_set]
  by_cases e : j = i
  · subst e
    rw [if_pos rfl,if_pos hj,List.getD,List.getElem?_eq_getElem hj,Option.getD_some]
  · rw [if_neg e]
def flpIx (sh : List Int) (j : Nat) (g : Nat → Int) : Nat → Int := updF g j (sh.getD j 0 - 1 - g j)
theorem flpIx_two (sh : List Int) (j : Nat) (g : Nat → Int) : flpIx sh j (flpIx sh j g) = g := by
  funext i
  unfold flpIx updF
  by_cases e : i = j
  · subst e; rw [if_pos rfl,if_pos rfl]; omega
  · rw [if_neg e,if_neg e]
theorem flpIx_ix {sh : List Int} {j : Nat} {g : Nat → Int} (hg : isIx sh g) : isIx sh (flpIx sh j g) := fun i hi => by
  have := hg i hi
  unfold flpIx updF
  by_cases e : i = j
  · subst e; rw [if_pos rfl]; omega
  · rw [if_neg e]; exact this
theorem flp_dot {b : Int} {sh st : List Int} (hv : vV b sh st = true) {j : Nat} (hj : j < sh.length) (hz : ¬ pr sh = 0) {g : Nat → Int} (hg : isIx sh g) :
    cutB b sh st j 0 0 (-1) false false + dot g (cutSt sh st j 0 0 (-1) false false) sh.length = b + dot (flpIx sh j g) st sh.length := by
  have hs : vS 0 0 (-1) false false = true := by decide
  have e := flpSh hv hj
  have h := cut_dot (f := 0) (t := 0) (w := -1) (hf := false) (ht := false) hv hj hs (by rw [e]; exact hz) (g := g) (by rw [e]; exact hg)
  rw [h]
  congr 2
  unfold cutIx flpIx
  congr 1
  show sh.getD j 0 - 1 + g j * (-1) = _
  omega
theorem flp_v {b : Int} {sh st : List Int} (hv : vV b sh st = true) {j : Nat} (hj : j < sh.length) : vV (cutB b sh st j 0 0 (-1) false false) sh (cutSt sh st j 0 0 (-1) false false) = true := by
  have h := vV_cut (f := 0) (t := 0) (w := -1) (hf := false) (ht := false) hv hj (by decide)
  rwa [flpSh hv hj] at h
theorem flp_ok {b : Int} {sh st : List Int} (hv : vV b sh st = true) {j : Nat} (hj : j < sh.length) : sdOk b sh st (j : Int) 0 0 (-1) false false = true := by
  have h := vV_cut (f := 0) (t := 0) (w := -1) (hf := false) (ht := false) hv hj (by decide)
  simp only [sdOk,hv,Int.toNat_natCast,h,Bool.and_true,Bool.true_and]
  rw [tru_and ⟨by omega,by omega⟩]
  rfl
theorem flp_mem {b : Int} {sh st : List Int} (hv : vV b sh st = true) {j : Nat} (hj : j < sh.length) (x : Int) : x ∈ offs (cutB b sh st j 0 0 (-1) false false) sh (cutSt sh st j 0 0 (-1) false false) ↔ x ∈ offs b sh st := by
  have hg := (vSh_good (vV_spec.1 hv).1).1
  rw [mem_offs_ix hg,mem_offs_ix hg]
  by_cases hz : pr sh = 0
  · have hno : ∀ g,¬ isIx sh g := fun g hgi => by
      have h1 : (b + dot g st sh.length) ∈ offs b sh st := (mem_offs_ix hg).2 ⟨g,hgi,rfl⟩
      have := List.length_pos_of_mem h1
      rw [offs_length,hz] at this
      exact absurd this (by decide)
    exact ⟨fun ⟨g,h,_⟩ => absurd h (hno g),fun ⟨g,h,_⟩ => absurd h (hno g)⟩
  · constructor
    · rintro ⟨g,h1,h2⟩
      exact ⟨flpIx sh j g,flpIx_ix h1,by rw [← flp_dot hv hj hz h1]; exact h2⟩
    · rintro ⟨g,h1,h2⟩
      refine ⟨flpIx sh j g,flpIx_ix h1,?_⟩
      rw [flp_dot hv hj hz (flpIx_ix h1),flpIx_two]
      exact h2
theorem flp_two {b : Int} {sh st : List Int} (hv : vV b sh st = true) {j : Nat} (hj : j < sh.length) : offs (cutB (cutB b sh st j 0 0 (-1) false false) sh (cutSt sh st j 0 0 (-1) false false) j 0 0 (-1) false false) sh (cutSt sh (cutSt sh st j 0 0 (-1) false false) j 0 0 (-1) false false) = offs b sh st := by
  have hg := (vSh_good (vV_spec.1 hv).1).1
  by_cases hz : pr sh = 0
  · have e : ∀ x y,offs x sh y = [] := fun x y => List.length_eq_zero_iff.1 (by rw [offs_length,hz]; rfl)
    rw [e,e]
  · refine offs_same hg fun g hgi => ?_
    rw [flp_dot (flp_v hv hj) hj hz hgi,flp_dot hv hj hz (flpIx_ix hgi),flpIx_two]
theorem bothL_mem {xs ys : List Int} (h : ∀ x,x ∈ xs ↔ x ∈ ys) : bothL xs xs = bothL ys ys := by
  unfold bothL
  congr 1
  funext x
  simp only [h x]
def dimVP (r : AV) : Prop := ∃ b sh st d k1 k2,(sh.length = k1 ∧ st.length = k2 ∧ sh.length ≤ 100 ∧ st.length ≤ 100) ∧ r = .tup [.agg [.int .i64 b,.rows true (IL sh) k1,.rows true (IL st) k2],.int .i64 d]
def dimVB (r : AV) (H' : List (List AV)) : Prop := ∃ b sh st d,(sh.length ≤ 100 ∧ st.length ≤ 100) ∧ r = .tup [.agg [.int .i64 b,.own 0 sh.length 1,.own 1 st.length 1],.int .i64 d] ∧ H' = [IL sh,IL st]
theorem dimV_plain {P : Program} {f : Nat} {args : List AV} (h : BCall P f args [] dimVB) : PCall P f args dimVP := by
  refine (BCall.plain h).mono ?_
  rintro r ⟨r0,H',⟨b,sh,st,d,⟨h1,h2⟩,rfl,rfl⟩,rfl⟩
  exact ⟨b,sh,st,d,_,_,⟨rfl,rfl,h1,h2⟩,by simp [AV.ren,nthH,List.map_map,Function.comp_def]⟩




theorem dimOfD_ok (bs : List Int) (p : Int) (hb : okB bs) (hp : 0 ≤ p ∧ p ≤ 600000) : BCall Try.prog 24 [.ref 0 2 0] [RD bs p] (fun r H' => ∃ b sh st d q,(good4 sh ∧ sh.length ≤ 4 ∧ st.length ≤ 5) ∧ (p ≤ q ∧ q ≤ p + 250) ∧ r = .tup [.agg [.int .i64 b,.own 1 sh.length 1,.own 2 st.length 1],.int .i64 d] ∧ H' = [RD bs q,IL sh,IL st]) := by
  refine bcall_of (pins := [0]) (pin := 1) l24_eq rfl rfl rfl ?_
  (repeat' (first
 | (first | refine awp_seq ?_ | refine awp_block ?_)
 | ((first | refine awp_reg ?_ | refine awp_drawX (mid := l24r2a) (post := l24r2b) [0] mixed (by decide) ?_ | refine awp_condB ?_ | refine awp_skip ?_ | refine awp_exit ?_); simp (disch := omega) only [push_cast,seval,l24r0,l24r1,l24r2a,l24r2b,l24r2])
 | ((first | refine condB_split (fun h => ?_) (fun h => ?_) | refine gIf_split (fun h => ?_) (fun h => ?_) | refine qIf_split (fun h => ?_) (fun h => ?_)) <;> (try simp only [h]) <;> (try simp only [bitvec_to_nat] at h) <;> (try simp only [h]) <;> (first | (exfalso; omega) | (focus (exfalso; simp_all; done)) | (simp (disch := omega) only [push_cast,seval]) | skip))
 | ((first | ((with_reducible refine callD_ids (f := 53) [0] true ?_); simp (disch := omega) only [push_cast,seval]; (refine call1D (id := 0) (someView_ok _ _ ?_ ?_) (by first | ((simp (disch := omega) only [push_cast,seval]); done) | ((simp (disch := omega) only [push_cast,seval]); rfl)) ?_; (iterate 2 (exact sd)); rintro _ _ ⟨b,sh,st,q,⟨hl1,hl9,hl2⟩,hq,rfl,rfl⟩)) | ((with_reducible refine callD_ids (f := 55) [0] true ?_); simp (disch := omega) only [push_cast,seval]; (refine call1D (id := 0) (pick_ok _ _ _ ?_ ?_) (by first | ((simp (disch := omega) only [push_cast,seval]); done) | ((simp (disch := omega) only [push_cast,seval]); rfl)) ?_; (iterate 2 (exact sd)); rintro _ _ ⟨x,hx0,hx1,rfl,rfl⟩)) | ((with_reducible refine qcallI_of (f := 55) [0] true ?_); simp (disch := omega) only [push_cast,seval]; (refine qcall1D (id := 0) (pick_ok _ _ _ ?_ ?_) (by first | ((simp (disch := omega) only [push_cast,seval]); done) | ((simp (disch := omega) only [push_cast,seval]); rfl)) (by decide) ⟨_,_,0,by omega,Or.inr (Or.inr rfl),rfl,rfl⟩ ?_; (iterate 2 (exact sd)); rintro _ _ ⟨x,hx0,hx1,rfl,rfl⟩)) | ((with_reducible refine callD_ids (f := 54) (args := [Operand.tmp 8,Operand.tmp 21]) [0,336] true ?_); simp (disch := omega) only [push_cast,seval]; (refine call2D (id := 0) (id' := 336) (by decide) (one_ok _ _ _ _ ?_ ?_ ?_ ?_ ?_) (by first | ((simp (disch := omega) only [push_cast,seval]); done) | ((simp (disch := omega) only [push_cast,seval]); rfl)) (by first | ((simp (disch := omega) only [push_cast,seval]); done) | ((simp (disch := omega) only [push_cast,seval]); rfl)) ?_; (iterate 5 (exact sd)); rintro _ _ ⟨x,hx,hx0,rfl,rfl⟩)) | ((with_reducible refine callD_ids (f := 54) [0] true ?_); simp (disch := omega) only [push_cast,seval]; (refine call1D (id := 0) (oneR_ok _ _ _ _ ?_ ?_ ?_ ?_ ?_) (by first | ((simp (disch := omega) only [push_cast,seval]); done) | ((simp (disch := omega) only [push_cast,seval]); rfl)) ?_; (iterate 5 (exact sd)); rintro _ _ ⟨x,hx,hx0,rfl,rfl⟩)) | ((with_reducible refine qcallI_of (f := 54) [0] true ?_); simp (disch := omega) only [push_cast,seval]; (refine qcall1D (id := 0) (oneR_ok _ _ _ _ ?_ ?_ ?_ ?_ ?_) (by first | ((simp (disch := omega) only [push_cast,seval]); done) | ((simp (disch := omega) only [push_cast,seval]); rfl)) (by decide) (by simp only [unI_cons,unI_nil];exact ⟨_,_,_,List.mem_cons_self,by omega,rfl,rfl⟩) ?_; (iterate 5 (exact sd)); rintro _ _ ⟨x,hx,hx0,rfl,rfl⟩))) <;> (try simp (disch := omega) only [push_cast,seval]))
 | (refine awp_ret ⟨.inr rfl,[96,97],[],_,by decide,rfl,?_⟩; (try simp (disch := omega) only [push_cast,seval,↓allMem_nil,↓allMem_cons,↓List.map_cons,↓List.map_nil]))))
  all_goals exact ⟨b,sh,st,_,_,⟨by assumption,by omega,by omega⟩,by omega,rfl,rfl⟩


theorem drawFDb_ok (bs : List Int) (n : Nat) (hn : bs.length = n) (hb : n ≤ 1099511627776 ∧ ∀ x ∈ bs,0 ≤ x ∧ x ≤ 255) : BCall Try.prog 7 [.rows false (UL bs) n] [] dimVB := by
  refine bcall_of (pins := []) (pin := 0) l7_eq rfl rfl rfl ?_
  unfold dimVB
  (repeat' (first
 | (first | refine awp_seq ?_ | refine awp_block ?_)
 | ((first | refine awp_reg ?_ | refine awp_condB ?_ | refine awp_skip ?_ | refine awp_exit ?_); simp (disch := omega) only [push_cast,seval,l7r0,l7r1])
 | ((first | refine condB_split (fun h => ?_) (fun h => ?_) | refine gIf_split (fun h => ?_) (fun h => ?_) | refine qIf_split (fun h => ?_) (fun h => ?_)) <;> (try simp only [h]) <;> (try simp only [bitvec_to_nat] at h) <;> (try simp only [h]) <;> (first | (exfalso; omega) | (focus (exfalso; simp_all; done)) | (simp (disch := omega) only [push_cast,seval]) | skip))
 | ((first | ((with_reducible refine callD_of (f := 25) true ?_); simp (disch := omega) only [push_cast,seval]; (refine call0D (newReader_ok _ _ ?_ ?_) ?_; (iterate 2 (exact sd)); rintro _ _ ⟨bs0,hbs0,rfl,rfl⟩)) | ((with_reducible refine callD_ids (f := 24) [80] true ?_); simp (disch := omega) only [push_cast,seval]; (refine call1D (id := 80) (dimOfD_ok _ _ ?_ ?_) (by first | ((simp (disch := omega) only [push_cast,seval]); done) | ((simp (disch := omega) only [push_cast,seval]); rfl)) ?_; (iterate 2 (exact sd)); rintro _ _ ⟨b,sh,st,d,q,⟨hl1,hl9,hl2⟩,hq,rfl,rfl⟩))) <;> (try simp (disch := omega) only [push_cast,seval]))
 | (refine awp_ret ⟨.inr rfl,[96,97],[],_,by decide,rfl,?_⟩; (try simp (disch := omega) only [push_cast,seval,↓allMem_nil,↓allMem_cons,↓List.map_cons,↓List.map_nil]))))
  all_goals exact ⟨b,sh,st,_,⟨by have := hl1.2; omega,by omega⟩,rfl,rfl⟩
theorem drawFD_ok (bs : List Int) (n : Nat) (hn : bs.length = n) (hb : n ≤ 1099511627776 ∧ ∀ x ∈ bs,0 ≤ x ∧ x ≤ 255) : PCall Try.prog 7 [.rows false (UL bs) n] dimVP := dimV_plain (drawFDb_ok bs n hn hb)


set_option maxHeartbeats 32000000 in
theorem lFnFD_ok (bs : List Int) (hl : bs.length ≤ 9223372036854775807) (hb : ∀ x ∈ bs,0 ≤ x ∧ x ≤ 255) : PCall Try.prog 3 [.rows false (UL bs) bs.length] (fun r => r = .bool true) := by
  refine pcall_of l3_eq rfl ?_
  by_cases h : bs.length ≤ 1048576
  · have q : bs.length ≤ 1099511627776 ∧ ∀ x ∈ bs,0 ≤ x ∧ x ≤ 255 := ⟨by omega,hb⟩
    (repeat' (first
 | (refine awp_joinL (c1 := .reg l3r3) (fun x : Int × List Int × List Int × Int => mkS [(3,.ref 48 3 0),(4,.int .i64 x.2.2.2)] [(48,[.int .i64 x.1,.rows true (IL x.2.1) x.2.1.length,.rows true (IL x.2.2.1) x.2.2.1.length])]) (fun x => x.2.1.length ≤ 100 ∧ x.2.2.1.length ≤ 100) ?_ ?_)
 | (first | refine awp_seq ?_ | refine awp_block ?_)
 | ((first | refine awp_reg ?_ | refine awp_draw (mid := l3r9a) (post := l3r9b) mixed (by decide) ?_ | refine awp_condB ?_ | refine awp_skip ?_ | refine awp_exit ?_); simp (disch := omega) only [push_cast,seval,l3r0,l3r1,l3r2,l3r3,l3r4,l3r5,l3r6,l3r7,l3r8,l3r9a,l3r9b,l3r9])
 | ((first | refine condB_split (fun h => ?_) (fun h => ?_) | refine gIf_split (fun h => ?_) (fun h => ?_) | refine qIf_split (fun h => ?_) (fun h => ?_)) <;> (try simp only [h]) <;> (try simp only [bitvec_to_nat] at h) <;> (try simp only [h]) <;> (first | (exfalso; omega) | (focus (exfalso; simp_all; done)) | (simp (disch := omega) only [push_cast,seval]) | skip))
 | ((first | refine callD_of false ?_ | refine qcallD_of false ?_); simp (disch := omega) only [push_cast,seval])
 | ((first | (refine call0D (BCall.ofP (drawFD_ok _ _ ?_ ?_)) ?_; (iterate 2 (exact sd)); rintro _ _ ⟨⟨b,sh,st,d,_,_,⟨rfl,rfl,hl1,hl2⟩,rfl⟩,rfl⟩) | ((first | refine call0D (iFlipDim_ok _ _ _ _ _ _ ?_ ?_ ?_) ?_ | refine qcall0D (iFlipDim_ok _ _ _ _ _ _ ?_ ?_ ?_) ⟨_,_,rfl,rfl⟩ ?_); (iterate 3 (exact sd)); rintro _ _ ⟨rfl,rfl⟩) | ((first | refine call0D (sFlipDim_ok _ _ _ _ _ _ ?_ ?_ ?_) ?_ | refine qcall0D (sFlipDim_ok _ _ _ _ _ _ ?_ ?_ ?_) ⟨_,_,rfl,rfl⟩ ?_); (iterate 3 (exact sd)); rintro _ _ ⟨rfl,rfl⟩) | ((first | refine call0D (BCall.ofP (equalViewL_ok _ _ _ _ _ _ _ _ _ _ ?_ ?_ ?_ ?_ ?_)) ?_ | refine qcall0D (BCall.ofP (equalViewL_ok _ _ _ _ _ _ _ _ _ _ ?_ ?_ ?_ ?_ ?_)) ⟨_,_,rfl,rfl⟩ ?_); (iterate 5 (exact sd)); rintro _ _ ⟨rfl,rfl⟩) | ((first | refine call0D (BCall.ofP (iSameView_ok _ _ _ _ _ _ _ _ _ _ ?_ ?_ ?_ ?_ ?_)) ?_ | refine qcall0D (BCall.ofP (iSameView_ok _ _ _ _ _ _ _ _ _ _ ?_ ?_ ?_ ?_ ?_)) ⟨_,_,rfl,rfl⟩ ?_); (iterate 5 (exact sd)); rintro _ _ ⟨rfl,rfl⟩) | ((first | refine call0D (iCe_ok _ _ _ _ _ ?_ ?_ ?_) ?_ | refine qcall0D (iCe_ok _ _ _ _ _ ?_ ?_ ?_) ⟨_,_,rfl,rfl⟩ ?_); (iterate 3 (exact sd)); rintro _ _ ⟨rfl,rfl⟩) | ((first | refine call0D (BCall.ofP (equalInts_ok _ _ _ _ ?_ ?_ ?_)) ?_ | refine qcall0D (BCall.ofP (equalInts_ok _ _ _ _ ?_ ?_ ?_)) ⟨_,_,rfl,rfl⟩ ?_); (iterate 3 (exact sd)); rintro _ _ ⟨rfl,rfl⟩)) <;> (try simp (disch := omega) only [push_cast,seval]))
 | (refine awp_ret ⟨.inr rfl,_,rfl,?_⟩; (try simp (disch := omega) only [push_cast,seval]))))
    · (refine exSub4 (Sub.of_eqs rfl rfl ?_ ?_ ?_) ?_; (focus (simp [Vw.mkS,Vw.lk,Vw.hk,AV.inn,innL,innL_ints,innL_append,innL_rep,-List.map_set,-List.getD_eq_getElem?_getD,innL_ints]; done)); (focus (simp [AV.inn,innL,Vw.hk,innL_ints]; done)); (focus (simp [AV.inn,innL,innL_ints,innL_append,innL_rep,Vw.hk,innL_ints]; done)); (try simp only); (first | omega | (refine ⟨?_,?_⟩ <;> first | assumption | omega) | (refine ⟨?_,?_,?_⟩ <;> first | assumption | omega) | (refine ⟨?_,?_,?_,?_⟩ <;> first | assumption | omega)))
    · refine ⟨?_⟩
      rintro ⟨b,sh,st,d⟩ ⟨hl1,hl2⟩
      try simp only at hl1 hl2 ⊢
      have hq : sh.length ≤ 1099511627776 ∧ st.length ≤ 1099511627776 := by omega
      cases hV : sdOk b sh st d 0 0 (-1) false false with
 | false =>
        have hAl : (MVL false (cutSh sh d.toNat 0 0 (-1) false false)).length = 0 := rfl
        have hCl : (MVL false (cutSt sh st d.toNat 0 0 (-1) false false)).length = 0 := rfl
        generalize hA : MVL false (cutSh sh d.toNat 0 0 (-1) false false) = A at *
        generalize hC : MVL false (cutSt sh st d.toNat 0 0 (-1) false false) = C at *
        generalize hB : MVB false (cutB b sh st d.toNat 0 0 (-1) false false) = B at *
        have q1 : (A.length ≤ 1099511627776 ∧ C.length ≤ 1099511627776) ∧ A.length ≤ 1099511627776 ∧ C.length ≤ 1099511627776 := by omega
        (repeat' (first
 | (first | refine awp_seq ?_ | refine awp_block ?_)
 | ((first | refine awp_reg ?_ | refine awp_draw (mid := l3r9a) (post := l3r9b) mixed (by decide) ?_ | refine awp_condB ?_ | refine awp_skip ?_ | refine awp_exit ?_); simp (disch := omega) only [push_cast,seval,l3r0,l3r1,l3r2,l3r3,l3r4,l3r5,l3r6,l3r7,l3r8,l3r9a,l3r9b,l3r9,hV,hA,hB,hC,decide_true,Bool.and_self])
 | ((first | refine condB_split (fun h => ?_) (fun h => ?_) | refine gIf_split (fun h => ?_) (fun h => ?_) | refine qIf_split (fun h => ?_) (fun h => ?_)) <;> (try simp only [h]) <;> (try simp only [bitvec_to_nat] at h) <;> (try simp only [h]) <;> (first | (exfalso; omega) | (focus (exfalso; simp_all; done)) | (simp (disch := omega) only [push_cast,seval,hV,hA,hB,hC,decide_true,Bool.and_self]) | skip))
 | ((first | refine callD_of false ?_ | refine qcallD_of false ?_); simp (disch := omega) only [push_cast,seval,hV,hA,hB,hC,decide_true,Bool.and_self])
 | ((first | (refine call0D (BCall.ofP (drawFD_ok _ _ ?_ ?_)) ?_; (iterate 2 (exact sd)); rintro _ _ ⟨⟨b,sh,st,d,_,_,⟨rfl,rfl,hl1,hl2⟩,rfl⟩,rfl⟩) | ((first | refine call0D (iFlipDim_ok _ _ _ _ _ _ ?_ ?_ ?_) ?_ | refine qcall0D (iFlipDim_ok _ _ _ _ _ _ ?_ ?_ ?_) ⟨_,_,rfl,rfl⟩ ?_); (iterate 3 (exact sd)); rintro _ _ ⟨rfl,rfl⟩) | ((first | refine call0D (sFlipDim_ok _ _ _ _ _ _ ?_ ?_ ?_) ?_ | refine qcall0D (sFlipDim_ok _ _ _ _ _ _ ?_ ?_ ?_) ⟨_,_,rfl,rfl⟩ ?_); (iterate 3 (exact sd)); rintro _ _ ⟨rfl,rfl⟩) | ((first | refine call0D (BCall.ofP (equalViewL_ok _ _ _ _ _ _ _ _ _ _ ?_ ?_ ?_ ?_ ?_)) ?_ | refine qcall0D (BCall.ofP (equalViewL_ok _ _ _ _ _ _ _ _ _ _ ?_ ?_ ?_ ?_ ?_)) ⟨_,_,rfl,rfl⟩ ?_); (iterate 5 (exact sd)); rintro _ _ ⟨rfl,rfl⟩) | ((first | refine call0D (BCall.ofP (iSameView_ok _ _ _ _ _ _ _ _ _ _ ?_ ?_ ?_ ?_ ?_)) ?_ | refine qcall0D (BCall.ofP (iSameView_ok _ _ _ _ _ _ _ _ _ _ ?_ ?_ ?_ ?_ ?_)) ⟨_,_,rfl,rfl⟩ ?_); (iterate 5 (exact sd)); rintro _ _ ⟨rfl,rfl⟩) | ((first | refine call0D (iCe_ok _ _ _ _ _ ?_ ?_ ?_) ?_ | refine qcall0D (iCe_ok _ _ _ _ _ ?_ ?_ ?_) ⟨_,_,rfl,rfl⟩ ?_); (iterate 3 (exact sd)); rintro _ _ ⟨rfl,rfl⟩) | ((first | refine call0D (BCall.ofP (equalInts_ok _ _ _ _ ?_ ?_ ?_)) ?_ | refine qcall0D (BCall.ofP (equalInts_ok _ _ _ _ ?_ ?_ ?_)) ⟨_,_,rfl,rfl⟩ ?_); (iterate 3 (exact sd)); rintro _ _ ⟨rfl,rfl⟩)) <;> (try simp (disch := omega) only [push_cast,seval,hV,hA,hB,hC,decide_true,Bool.and_self]))
 | (refine awp_ret ⟨.inr rfl,_,rfl,?_⟩; (try simp (disch := omega) only [push_cast,seval,hV,hA,hB,hC,decide_true,Bool.and_self]))))
        all_goals (try simp)
 | true =>
        have hV' := hV
        simp only [sdOk,Bool.and_eq_true,decide_eq_true_eq] at hV'
        obtain ⟨⟨⟨hv,hd1,hd2⟩,hs⟩,-⟩ := hV'
        obtain ⟨j,rfl⟩ : ∃ j : Nat,d = j := ⟨d.toNat,by omega⟩
        have hj : j < sh.length := by omega
        have hlen := (okV_valid hv).2
        have eS := flpSh hv hj
        have hv1 := flp_v hv hj
        have hV2 := flp_ok hv1 hj
        have hv2 := flp_v hv1 hj
        have l1 := cutSt_length hlen j 0 0 (-1) false false
        have l2 := cutSt_length (l1.trans rfl) j 0 0 (-1) false false
        have e2 := flp_two hv hj
        have eC := bothL_mem (flp_mem hv hj)
        have hsame : sameB (cutB (cutB b sh st j 0 0 (-1) false false) sh (cutSt sh st j 0 0 (-1) false false) j 0 0 (-1) false false) sh (cutSt sh (cutSt sh st j 0 0 (-1) false false) j 0 0 (-1) false false) b sh st = true := by
          simp only [sameB,hv,hv2,e2,decide_true,Bool.and_true]
        have hCl := bothL_le (offs b sh st) (offs b sh st)
        clear e2 hs
        generalize hgB : cutB b sh st j 0 0 (-1) false false = B1 at *
        generalize hgC : cutSt sh st j 0 0 (-1) false false = C1 at *
        generalize h2B : cutB B1 sh C1 j 0 0 (-1) false false = B2 at *
        generalize h2C : cutSt sh C1 j 0 0 (-1) false false = C2 at *
        generalize hX : bothL (offs b sh st) (offs b sh st) = X at *
        have q1 : (sh.length ≤ 1099511627776 ∧ C1.length ≤ 1099511627776) ∧ sh.length ≤ 1099511627776 ∧ C1.length ≤ 1099511627776 := by omega
        have q2 : sh.length ≤ 1099511627776 ∧ C1.length ≤ 1099511627776 := by omega
        have q3 : (sh.length ≤ 1099511627776 ∧ C2.length ≤ 1099511627776) ∧ sh.length ≤ 1099511627776 ∧ st.length ≤ 1099511627776 := by omega
        have q4 : X.length ≤ 1099511627776 ∧ X.length ≤ 1099511627776 := by omega
        have q5 : sh.length ≤ 1099511627776 ∧ sh.length ≤ 1099511627776 := by omega
        (repeat' (first
 | (first | refine awp_seq ?_ | refine awp_block ?_)
 | ((first | refine awp_reg ?_ | refine awp_draw (mid := l3r9a) (post := l3r9b) mixed (by decide) ?_ | refine awp_condB ?_ | refine awp_skip ?_ | refine awp_exit ?_); simp (disch := omega) only [push_cast,seval,l3r0,l3r1,l3r2,l3r3,l3r4,l3r5,l3r6,l3r7,l3r8,l3r9a,l3r9b,l3r9,hV,Int.toNat_natCast,MVL_true,MVB_true,hgB,hgC,eS,h2B,h2C,hV2,hsame,hv,hv1,eC,hX,decide_true,Bool.and_self])
 | ((first | refine condB_split (fun h => ?_) (fun h => ?_) | refine gIf_split (fun h => ?_) (fun h => ?_) | refine qIf_split (fun h => ?_) (fun h => ?_)) <;> (try simp only [h]) <;> (try simp only [bitvec_to_nat] at h) <;> (try simp only [h]) <;> (first | (exfalso; omega) | (focus (exfalso; simp_all; done)) | (simp (disch := omega) only [push_cast,seval,hV,Int.toNat_natCast,MVL_true,MVB_true,hgB,hgC,eS,h2B,h2C,hV2,hsame,hv,hv1,eC,hX,decide_true,Bool.and_self]) | skip))
 | ((first | refine callD_of false ?_ | refine qcallD_of false ?_); simp (disch := omega) only [push_cast,seval,hV,Int.toNat_natCast,MVL_true,MVB_true,hgB,hgC,eS,h2B,h2C,hV2,hsame,hv,hv1,eC,hX,decide_true,Bool.and_self])
 | ((first | (refine call0D (BCall.ofP (drawFD_ok _ _ ?_ ?_)) ?_; (iterate 2 (exact sd)); rintro _ _ ⟨⟨b,sh,st,d,_,_,⟨rfl,rfl,hl1,hl2⟩,rfl⟩,rfl⟩) | ((first | refine call0D (iFlipDim_ok _ _ _ _ _ _ ?_ ?_ ?_) ?_ | refine qcall0D (iFlipDim_ok _ _ _ _ _ _ ?_ ?_ ?_) ⟨_,_,rfl,rfl⟩ ?_); (iterate 3 (exact sd)); rintro _ _ ⟨rfl,rfl⟩) | ((first | refine call0D (sFlipDim_ok _ _ _ _ _ _ ?_ ?_ ?_) ?_ | refine qcall0D (sFlipDim_ok _ _ _ _ _ _ ?_ ?_ ?_) ⟨_,_,rfl,rfl⟩ ?_); (iterate 3 (exact sd)); rintro _ _ ⟨rfl,rfl⟩) | ((first | refine call0D (BCall.ofP (equalViewL_ok _ _ _ _ _ _ _ _ _ _ ?_ ?_ ?_ ?_ ?_)) ?_ | refine qcall0D (BCall.ofP (equalViewL_ok _ _ _ _ _ _ _ _ _ _ ?_ ?_ ?_ ?_ ?_)) ⟨_,_,rfl,rfl⟩ ?_); (iterate 5 (exact sd)); rintro _ _ ⟨rfl,rfl⟩) | ((first | refine call0D (BCall.ofP (iSameView_ok _ _ _ _ _ _ _ _ _ _ ?_ ?_ ?_ ?_ ?_)) ?_ | refine qcall0D (BCall.ofP (iSameView_ok _ _ _ _ _ _ _ _ _ _ ?_ ?_ ?_ ?_ ?_)) ⟨_,_,rfl,rfl⟩ ?_); (iterate 5 (exact sd)); rintro _ _ ⟨rfl,rfl⟩) | ((first | refine call0D (iCe_ok _ _ _ _ _ ?_ ?_ ?_) ?_ | refine qcall0D (BCall.ofP (plainI (iCe_ok _ _ _ _ _ ?_ ?_ ?_))) ⟨_,_,rfl,rfl⟩ ?_); (iterate 3 (exact sd)); rintro _ _ ⟨rfl,rfl⟩) | ((first | refine call0D (BCall.ofP (equalInts_ok _ _ _ _ ?_ ?_ ?_)) ?_ | refine qcall0D (BCall.ofP (equalInts_ok _ _ _ _ ?_ ?_ ?_)) ⟨_,_,rfl,rfl⟩ ?_); (iterate 3 (exact sd)); rintro _ _ ⟨rfl,rfl⟩)) <;> (try simp (disch := omega) only [push_cast,seval,hV,Int.toNat_natCast,MVL_true,MVB_true,hgB,hgC,eS,h2B,h2C,hV2,hsame,hv,hv1,eC,hX,decide_true,Bool.and_self]))
 | (refine awp_ret ⟨.inr rfl,_,rfl,?_⟩; (try simp (disch := omega) only [push_cast,seval,hV,Int.toNat_natCast,MVL_true,MVB_true,hgB,hgC,eS,h2B,h2C,hV2,hsame,hv,hv1,eC,hX,decide_true,Bool.and_self]))))
        all_goals (try simp)
  · (repeat' (first
 | (first | refine awp_seq ?_ | refine awp_block ?_)
 | ((first | refine awp_reg ?_ | refine awp_draw (mid := l3r9a) (post := l3r9b) mixed (by decide) ?_ | refine awp_condB ?_ | refine awp_skip ?_ | refine awp_exit ?_); simp (disch := omega) only [push_cast,seval,l3r0,l3r1,l3r2,l3r3,l3r4,l3r5,l3r6,l3r7,l3r8,l3r9a,l3r9b,l3r9])
 | ((first | refine condB_split (fun h => ?_) (fun h => ?_) | refine gIf_split (fun h => ?_) (fun h => ?_) | refine qIf_split (fun h => ?_) (fun h => ?_)) <;> (try simp only [h]) <;> (try simp only [bitvec_to_nat] at h) <;> (try simp only [h]) <;> (first | (exfalso; omega) | (focus (exfalso; simp_all; done)) | (simp (disch := omega) only [push_cast,seval]) | skip))
 | ((first | refine callD_of false ?_ | refine qcallD_of false ?_); simp (disch := omega) only [push_cast,seval])
 | ((first | (refine call0D (BCall.ofP (drawFD_ok _ _ ?_ ?_)) ?_; (iterate 2 (exact sd)); rintro _ _ ⟨⟨b,sh,st,d,_,_,⟨rfl,rfl,hl1,hl2⟩,rfl⟩,rfl⟩) | ((first | refine call0D (iFlipDim_ok _ _ _ _ _ _ ?_ ?_ ?_) ?_ | refine qcall0D (iFlipDim_ok _ _ _ _ _ _ ?_ ?_ ?_) ⟨_,_,rfl,rfl⟩ ?_); (iterate 3 (exact sd)); rintro _ _ ⟨rfl,rfl⟩) | ((first | refine call0D (sFlipDim_ok _ _ _ _ _ _ ?_ ?_ ?_) ?_ | refine qcall0D (sFlipDim_ok _ _ _ _ _ _ ?_ ?_ ?_) ⟨_,_,rfl,rfl⟩ ?_); (iterate 3 (exact sd)); rintro _ _ ⟨rfl,rfl⟩) | ((first | refine call0D (BCall.ofP (equalViewL_ok _ _ _ _ _ _ _ _ _ _ ?_ ?_ ?_ ?_ ?_)) ?_ | refine qcall0D (BCall.ofP (equalViewL_ok _ _ _ _ _ _ _ _ _ _ ?_ ?_ ?_ ?_ ?_)) ⟨_,_,rfl,rfl⟩ ?_); (iterate 5 (exact sd)); rintro _ _ ⟨rfl,rfl⟩) | ((first | refine call0D (BCall.ofP (iSameView_ok _ _ _ _ _ _ _ _ _ _ ?_ ?_ ?_ ?_ ?_)) ?_ | refine qcall0D (BCall.ofP (iSameView_ok _ _ _ _ _ _ _ _ _ _ ?_ ?_ ?_ ?_ ?_)) ⟨_,_,rfl,rfl⟩ ?_); (iterate 5 (exact sd)); rintro _ _ ⟨rfl,rfl⟩) | ((first | refine call0D (iCe_ok _ _ _ _ _ ?_ ?_ ?_) ?_ | refine qcall0D (iCe_ok _ _ _ _ _ ?_ ?_ ?_) ⟨_,_,rfl,rfl⟩ ?_); (iterate 3 (exact sd)); rintro _ _ ⟨rfl,rfl⟩) | ((first | refine call0D (BCall.ofP (equalInts_ok _ _ _ _ ?_ ?_ ?_)) ?_ | refine qcall0D (BCall.ofP (equalInts_ok _ _ _ _ ?_ ?_ ?_)) ⟨_,_,rfl,rfl⟩ ?_); (iterate 3 (exact sd)); rintro _ _ ⟨rfl,rfl⟩)) <;> (try simp (disch := omega) only [push_cast,seval]))
 | (refine awp_ret ⟨.inr rfl,_,rfl,?_⟩; (try simp (disch := omega) only [push_cast,seval]))))

end Go.Proofs.Ytfphjgmkpgoomaa
