import Derived.Test.YtejbfjmiidofcaaCKp13
import Derived.Test.YtejbfjmiidofcaaCM1
import Derived.Test.YtejbfjmiidofcaaCW3
set_option linter.unusedSimpArgs false
set_option linter.unusedVariables false
set_option maxRecDepth 4000
set_option maxHeartbeats 4000000
namespace Go.Proofs.Ytejbfjmiidofcaa
open VwM Vw Go

/-- What some tensors agree on,others with the same extents do. -/
theorem exO_sub {e : List Int} (us : List Tn) (ms : List (List Int)) (h1 : 1 ≤ us.length ∧ us.length ≤ 3) (h2 : ms.length = us.length)
    (h3 : ∀ (i : Nat) (t : Tn) (l : List Int),us[i]? = some t → ms[i]? = some l → vT t = true ∧ l.length = t.1.length ∧ (∀ x ∈ l,0 ≤ x ∧ x ≤ 4) ∧ ∀ j,j < l.length → gE e (l.getD j 0) = t.1.getD j 0) : ∃ e',exO us ms = some e' ∧ ∀ x ∈ ms.flatten,gE e' x = gE e x := by
  have hv : us.all vT = true := List.all_eq_true.2 fun t ht => by
    obtain ⟨i,hi⟩ := List.mem_iff_getElem?.1 ht
    have hil := (List.getElem?_eq_some_iff.1 hi).1
    exact (h3 i t _ hi (List.getElem?_eq_getElem (by omega))).1
  have hlab : labOk us ms = true := List.all_eq_true.2 fun p hp => by
    obtain ⟨i,hi⟩ := List.mem_iff_getElem?.1 hp
    obtain ⟨a,b⟩ := List.getElem?_zip_eq_some.1 hi
    obtain ⟨_,c,d,_⟩ := h3 i _ _ b a
    rw [Bool.and_eq_true,decide_eq_true_eq,allI_iff]
    exact ⟨c,d⟩
  obtain ⟨e',he'⟩ := extG_ok (f := fun k => e.getD k 0) (prsOf us ms) (e := ext0) (fun p hp => by
    obtain ⟨i,t,l,j,ht,hl,hj,hj2,rfl⟩ := mem_prs hp
    obtain ⟨_,c,d,g⟩ := h3 i t l ht hl
    have := d _ (getD_mem hj)
    exact ⟨by rw [ext0_length]; omega,g j hj⟩) (fun k hk h0 => by
    rw [ext0_length] at hk
    have : ext0.getD k 0 = -1 := by
      have : k = 0 ∨ k = 1 ∨ k = 2 ∨ k = 3 ∨ k = 4 := by omega
      rcases this with rfl | rfl | rfl | rfl | rfl <;> rfl
    omega)
  have hx : exO us ms = some e' := by
    unfold exO exT
    rw [hv,hlab,if_pos rfl,he',if_pos]
    simp only [Bool.true_and,Bool.and_eq_true,decide_eq_true_eq]
    exact ⟨h1,h2⟩
  refine ⟨e',hx,fun x hxm => ?_⟩
  obtain ⟨_,_,_,_,_,f5,_,_⟩ := exO_facts hx
  obtain ⟨l,hl,hxl⟩ := List.mem_flatten.1 hxm
  obtain ⟨i,hi⟩ := List.mem_iff_getElem?.1 hl
  obtain ⟨j,hj,rfl⟩ := mem_getD.1 hxl
  have hil := (List.getElem?_eq_some_iff.1 hi).1
  have ht : us[i]? = some (us[i]'(by omega)) := List.getElem?_eq_getElem _
  rw [(f5 i _ l ht hi).2 j hj,(h3 i _ l ht hi).2.2.2 j hj]
/-- Two of the tensors alone. -/
theorem exO_two {ts : List Tn} {ls : List (List Int)} {e : List Int} (hx : exO ts ls = some e) {p q : Nat} {t u : Tn} {a b : List Int} (ht : ts[p]? = some t) (hu : ts[q]? = some u) (ha : ls[p]? = some a) (hb : ls[q]? = some b) :
    ∃ e',exO [t,u] [a,b] = some e' ∧ pr (spE e') = pr (spE (selE e (a ++ b))) := by
  obtain ⟨h5,f1,f2,f3,f4,f5,f6,f7⟩ := exO_facts hx
  obtain ⟨e',h1,h2⟩ := exO_sub (e := e) [t,u] [a,b] (by simp) rfl (fun i t' l' ht' hl' => by
    have hi : i = 0 ∨ i = 1 := by have := (List.getElem?_eq_some_iff.1 ht').1; simp at this; omega
    rcases hi with rfl | rfl
    · simp at ht' hl'; subst ht' hl'
      obtain ⟨g1,g2⟩ := f5 p t a ht ha
      exact ⟨f6 t (List.mem_of_getElem? ht),g1,fun x hx => f4 x (List.mem_flatten.2 ⟨a,List.mem_of_getElem? ha,hx⟩),g2⟩
    · simp at ht' hl'; subst ht' hl'
      obtain ⟨g1,g2⟩ := f5 q u b hu hb
      exact ⟨f6 u (List.mem_of_getElem? hu),g1,fun x hx => f4 x (List.mem_flatten.2 ⟨b,List.mem_of_getElem? hb,hx⟩),g2⟩)
  refine ⟨e',h1,?_⟩
  obtain ⟨k5,g1,g2,g3,g4,g5,g6,g7⟩ := exO_facts h1
  have hfl : ([a,b] : List (List Int)).flatten = a ++ b := by simp
  rw [hfl] at g1 g2 h2
  rw [spE_lbS (U := a ++ b) k5 g1 (fun k hk hm => (g2 k hk hm).1),selE_cost (e := e) (U := a ++ b) fun k hk hm => (f2 k hk (by rcases List.mem_append.1 hm with h | h; exact List.mem_flatten.2 ⟨a,List.mem_of_getElem? ha,h⟩; exact List.mem_flatten.2 ⟨b,List.mem_of_getElem? hb,h⟩)).1]
  congr 1
  exact List.map_congr_left fun x hx => h2 x (mem_lbS.1 hx).2
theorem cbI_comm (ts : List Tn) (ls : List (List Int)) (out : List Int) (i j : Int) : cbI ts ls out j i = cbI ts ls out i j := by
  unfold cbI
  cases hx : exP ts ls out with
  | none => rfl
  | some e =>
    simp only
    have hp : pairB j i ts.length = pairB i j ts.length := by
      unfold pairB
      rw [Bool.eq_iff_iff]
      simp only [Bool.and_eq_true,Bool.not_eq_true',decide_eq_false_iff_not,decide_eq_true_eq]
      omega
    rw [hp]
    split
    · unfold cbN; rw [cbE_comm]
    · rfl
theorem cbI_pos {ts : List Tn} {ls : List (List Int)} {out : List Int} {i j : Int} (h : ¬ cbI ts ls out i j < 0) : ∃ (e : List Int) (p q : Nat),exP ts ls out = some e ∧ i = p ∧ j = q ∧ p < ts.length ∧ q < ts.length ∧ p ≠ q ∧ cbI ts ls out i j = cbN e ls out p q := by
  unfold cbI at h ⊢
  cases hx : exP ts ls out with
  | none => rw [hx] at h; simp at h
  | some e =>
    rw [hx] at h
    simp only at h ⊢
    cases hp : pairB i j ts.length with
    | false => rw [hp] at h; simp at h
    | true =>
      obtain ⟨p,q,rfl,rfl,h1,h2,h3⟩ := pairB_nat hp
      exact ⟨e,p,q,rfl,rfl,rfl,h1,h2,h3,by simp⟩
theorem prodF_b {ts : List Tn} {ls : List (List Int)} {out : List Int} (h : prodF ts ls out) : ts.length ≤ 1099511627776 ∧ ls.length ≤ 1099511627776 ∧ (∀ t ∈ ts,t.1.length ≤ 1099511627776 ∧ t.2.length ≤ 1099511627776) ∧ ∀ l ∈ ls,l.length ≤ 1099511627776 := by
  obtain ⟨h1,h2,h3,h4⟩ := h
  exact ⟨by omega,by omega,fun t ht => by have := h2 t ht; omega,fun l hl => by have := h3 l hl; omega⟩
theorem prodF_c {ts : List Tn} {ls : List (List Int)} {out : List Int} (h : prodF ts ls out) : ts.length ≤ 1048576 ∧ ls.length ≤ 1048576 ∧ out.length ≤ 1048576 ∧ (∀ t ∈ ts,t.1.length ≤ 1048576 ∧ t.2.length ≤ 1048576) ∧ ∀ l ∈ ls,l.length ≤ 1048576 := by
  obtain ⟨h1,h2,h3,h4⟩ := h
  exact ⟨by omega,by omega,by omega,fun t ht => by have := h2 t ht; omega,fun l hl => by have := h3 l hl; omega⟩


set_option maxHeartbeats 8000000 in
theorem iExO_ok (ts : List Tn) (ls : List (List Int)) (n m : Nat) (hn : ts.length = n) (hm : ls.length = m) (hb : n ≤ 1099511627776 ∧ m ≤ 1099511627776 ∧ (∀ t ∈ ts,t.1.length ≤ 1099511627776 ∧ t.2.length ≤ 1099511627776) ∧ ∀ l ∈ ls,l.length ≤ 1099511627776) :
    BCall Try.prog 15 [.rows false (TL false ts) n,.rows false (LL false ls) m] [] (OX (exO ts ls)) := by
  subst hn hm
  have q0 := hb
  obtain ⟨hb0,hb1,hb2,hb3⟩ := hb
  refine bcall_of (pins := []) (pin := 0) l15_eq rfl rfl rfl ?_
  have hxp := exP_nil ts ls
  cases hx : exO ts ls with
  | none =>
    rw [hx] at hxp
    (repeat' (first
 | (first | refine awp_seq ?_ | refine awp_block ?_)
 | ((first | refine awp_reg ?_ | refine awp_condB ?_ | refine awp_skip ?_ | refine awp_exit ?_); simp (disch := omega) only [push_cast,seval,l15r0,l15r1,l15r2,l15r3,l15r4,hxp,set5,tak5,len5c,Option.isSome_none,Option.getD_none,innL_TL,innL_LL])
 | ((first | refine condB_split (fun h => ?_) (fun h => ?_) | refine gIf_split (fun h => ?_) (fun h => ?_) | refine qIf_split (fun h => ?_) (fun h => ?_)) <;> (try simp only [h]) <;> (try simp only [bitvec_to_nat] at h) <;> (try simp only [h]) <;> (first | (exfalso; omega) | (focus (exfalso; simp_all; done)) | (simp (disch := omega) only [push_cast,seval,hxp,set5,tak5,len5c,Option.isSome_none,Option.getD_none,innL_TL,innL_LL]) | skip))
 | ((first | refine callD_of false ?_ | refine qcallD_of false ?_); simp (disch := omega) only [push_cast,seval,hxp,set5,tak5,len5c,Option.isSome_none,Option.getD_none,innL_TL,innL_LL])
 | ((first | (refine call0D (BCall.ofP (extentsOf_ok _ _ _ _ _ _ ?_ ?_ ?_ ?_)) ?_; (iterate 4 (exact sd)); rintro _ _ ⟨⟨g,hg5,rfl⟩,rfl⟩; (try simp only [hxp,Option.getD_none,Option.getD_some] at hg5)) | (refine call0D (BCall.ofP (extentsOfN_ok _ _ _ _ ?_ ?_ ?_)) ?_; (iterate 3 (exact sd)); rintro _ _ ⟨⟨g,hg5,rfl⟩,rfl⟩; (try simp only [hxp,Option.getD_none,Option.getD_some] at hg5)) | ((first | refine call0D (clone_ok _ _ ?_ ?_) ?_ | refine qcall0D (clone_ok _ _ ?_ ?_) ⟨_,_,rfl,rfl⟩ ?_); (iterate 2 (exact sd)); rintro _ _ ⟨rfl,rfl⟩)) <;> (try simp (disch := omega) only [push_cast,seval,hxp,set5,tak5,len5c,Option.isSome_none,Option.getD_none,innL_TL,innL_LL]))
 | (refine awp_ret ⟨.inr rfl,[16000],[(16000,1)],_,by decide,rfl,?_⟩; (try simp (disch := omega) only [push_cast,seval,↓allMem_nil,↓allMem_cons,↓List.map_cons,↓List.map_nil,hxp,set5,tak5,len5c,Option.isSome_none,Option.getD_none,innL_TL,innL_LL]))))
    all_goals (try exact ⟨rfl,rfl⟩)
  | some e =>
    rw [hx] at hxp
    obtain ⟨h5,_⟩ := exO_facts hx
    (repeat' (first
 | (first | refine awp_seq ?_ | refine awp_block ?_)
 | ((first | refine awp_reg ?_ | refine awp_condB ?_ | refine awp_skip ?_ | refine awp_exit ?_); simp (disch := omega) only [push_cast,seval,l15r0,l15r1,l15r2,l15r3,l15r4,hxp,h5,set5,tak5,len5c,Option.isSome_some,Option.getD_some,innL_TL,innL_LL])
 | ((first | refine condB_split (fun h => ?_) (fun h => ?_) | refine gIf_split (fun h => ?_) (fun h => ?_) | refine qIf_split (fun h => ?_) (fun h => ?_)) <;> (try simp only [h]) <;> (try simp only [bitvec_to_nat] at h) <;> (try simp only [h]) <;> (first | (exfalso; omega) | (focus (exfalso; simp_all; done)) | (simp (disch := omega) only [push_cast,seval,hxp,h5,set5,tak5,len5c,Option.isSome_some,Option.getD_some,innL_TL,innL_LL]) | skip))
 | ((first | refine callD_of false ?_ | refine qcallD_of false ?_); simp (disch := omega) only [push_cast,seval,hxp,h5,set5,tak5,len5c,Option.isSome_some,Option.getD_some,innL_TL,innL_LL])
 | ((first | (refine call0D (BCall.ofP (extentsOf_ok _ _ _ _ _ _ ?_ ?_ ?_ ?_)) ?_; (iterate 4 (exact sd)); rintro _ _ ⟨⟨g,hg5,rfl⟩,rfl⟩; (try simp only [hxp,Option.getD_none,Option.getD_some] at hg5)) | (refine call0D (BCall.ofP (extentsOfN_ok _ _ _ _ ?_ ?_ ?_)) ?_; (iterate 3 (exact sd)); rintro _ _ ⟨⟨g,hg5,rfl⟩,rfl⟩; (try simp only [hxp,Option.getD_none,Option.getD_some] at hg5)) | ((first | refine call0D (clone_ok _ _ ?_ ?_) ?_ | refine qcall0D (clone_ok _ _ ?_ ?_) ⟨_,_,rfl,rfl⟩ ?_); (iterate 2 (exact sd)); rintro _ _ ⟨rfl,rfl⟩)) <;> (try simp (disch := omega) only [push_cast,seval,hxp,h5,set5,tak5,len5c,Option.isSome_some,Option.getD_some,innL_TL,innL_LL]))
 | (refine awp_ret ⟨.inr rfl,[272],[],_,by decide,rfl,?_⟩; (try simp (disch := omega) only [push_cast,seval,↓allMem_nil,↓allMem_cons,↓List.map_cons,↓List.map_nil,hxp,h5,set5,tak5,len5c,Option.isSome_some,Option.getD_some,innL_TL,innL_LL]))))
    all_goals (try exact ⟨by simp [h5],rfl⟩)


theorem vT_zero {x y : List Int} (h : vT (x,y) = true) : vT (x,List.replicate y.length 0) = true := by
  obtain ⟨h1,h2,_⟩ := vT_spec.1 h
  refine vT_spec.2 ⟨h1,by simpa using h2,fun v hv => ?_⟩
  rw [(List.mem_replicate.1 hv).2]; omega


set_option maxHeartbeats 16000000 in
theorem fVT_ok (bs : List Int) (hl : bs.length ≤ 9223372036854775807) (hb : ∀ x ∈ bs,0 ≤ x ∧ x ≤ 255) : PCall Try.prog 3 [.rows false (UL bs) bs.length] (fun r => r = .bool true) := by
  refine pcall_of l3_eq rfl ?_
  by_cases h : bs.length ≤ 1048576
  · have q : bs.length ≤ 1099511627776 ∧ ∀ x ∈ bs,0 ≤ x ∧ x ≤ 255 := ⟨by omega,hb⟩
    (repeat' (first
 | (refine awp_joinL (c1 := .reg l3r3) (fun x : List Int × List Int => mkS [(3,.ref 48 2 0)] [(48,[.rows true (IL x.1) x.1.length,.rows true (IL x.2) x.2.length])]) (fun x => x.1.length ≤ 5 ∧ x.2.length ≤ 61) ?_ ?_)
 | (first | refine awp_seq ?_ | refine awp_block ?_)
 | ((first | refine awp_reg ?_ | refine awp_draw (mid := l3r7a) (post := l3r7b) mixed (by decide) ?_ | refine awp_condB ?_ | refine awp_skip ?_ | refine awp_exit ?_); simp (disch := omega) only [push_cast,seval,l3r0,l3r1,l3r2,l3r3,l3r4,l3r5,l3r6,l3r7a,l3r7b,l3r7])
 | ((first | refine condB_split (fun h => ?_) (fun h => ?_) | refine gIf_split (fun h => ?_) (fun h => ?_) | refine qIf_split (fun h => ?_) (fun h => ?_)) <;> (try simp only [h]) <;> (try simp only [bitvec_to_nat] at h) <;> (try simp only [h]) <;> (first | (exfalso; omega) | (focus (exfalso; simp_all; done)) | (simp (disch := omega) only [push_cast,seval]) | skip))
 | ((first | refine callD_of false ?_ | refine qcallD_of false ?_); simp (disch := omega) only [push_cast,seval])
 | ((first | (refine call0D (BCall.ofP (drawVT_ok _ _ ?_ ?_)) ?_; (iterate 2 (exact sd)); rintro _ _ ⟨⟨x1,y1,⟨hx1,hx2⟩,hy1,hy2,rfl⟩,rfl⟩) | ((first | refine call0D (BCall.ofP (ivT_ok _ _ _ _ ?_ ?_ ?_)) ?_ | refine qcall0D (BCall.ofP (ivT_ok _ _ _ _ ?_ ?_ ?_)) ⟨_,_,rfl,rfl⟩ ?_); (iterate 3 (exact sd)); rintro _ _ ⟨rfl,rfl⟩) | ((first | refine call0D (BCall.ofP (sVT_ok _ _ _ _ ?_ ?_ ?_)) ?_ | refine qcall0D (BCall.ofP (sVT_ok _ _ _ _ ?_ ?_ ?_)) ⟨_,_,rfl,rfl⟩ ?_); (iterate 3 (exact sd)); rintro _ _ ⟨rfl,rfl⟩) | ((first | refine call0D (BCall.ofP (iCountOf_ok _ _ ?_ ?_)) ?_ | refine qcall0D (BCall.ofP (iCountOf_ok _ _ ?_ ?_)) ⟨_,_,rfl,rfl⟩ ?_); (iterate 2 (exact sd)); rintro _ _ ⟨rfl,rfl⟩)) <;> (try simp (disch := omega) only [push_cast,seval]))
 | (refine awp_ret ⟨.inr rfl,_,rfl,?_⟩; (try simp (disch := omega) only [push_cast,seval]))))
    · exact exSub2 (by (refine Sub.of_lists ?_ ?_ ?_ ?_ ?_ <;> simp [Vw.mkS,Vw.lk,Vw.hk,AV.inn,innL,innL_ints,innL_append,innL_rep,-List.map_set,-List.getD_eq_getElem?_getD])) ⟨hx1,hy1⟩
    · refine ⟨?_⟩
      rintro ⟨x,y⟩ ⟨hx5,hy5⟩
      try simp only at hx5 hy5 ⊢
      cases hv : vT (x,y) with
 | false =>
        (repeat' (first
 | (first | refine awp_seq ?_ | refine awp_block ?_)
 | ((first | refine awp_reg ?_ | refine awp_draw (mid := l3r7a) (post := l3r7b) mixed (by decide) ?_ | refine awp_condB ?_ | refine awp_skip ?_ | refine awp_exit ?_); simp (disch := omega) only [push_cast,seval,l3r0,l3r1,l3r2,l3r3,l3r4,l3r5,l3r6,l3r7a,l3r7b,l3r7,hv,decide_true])
 | ((first | refine condB_split (fun h => ?_) (fun h => ?_) | refine gIf_split (fun h => ?_) (fun h => ?_) | refine qIf_split (fun h => ?_) (fun h => ?_)) <;> (try simp only [h]) <;> (try simp only [bitvec_to_nat] at h) <;> (try simp only [h]) <;> (first | (exfalso; omega) | (focus (exfalso; simp_all; done)) | (simp (disch := omega) only [push_cast,seval,hv,decide_true]) | skip))
 | ((first | refine callD_of false ?_ | refine qcallD_of false ?_); simp (disch := omega) only [push_cast,seval,hv,decide_true])
 | ((first | (refine call0D (BCall.ofP (drawVT_ok _ _ ?_ ?_)) ?_; (iterate 2 (exact sd)); rintro _ _ ⟨⟨x1,y1,⟨hx1,hx2⟩,hy1,hy2,rfl⟩,rfl⟩) | ((first | refine call0D (BCall.ofP (ivT_ok _ _ _ _ ?_ ?_ ?_)) ?_ | refine qcall0D (BCall.ofP (ivT_ok _ _ _ _ ?_ ?_ ?_)) ⟨_,_,rfl,rfl⟩ ?_); (iterate 3 (exact sd)); rintro _ _ ⟨rfl,rfl⟩) | ((first | refine call0D (BCall.ofP (sVT_ok _ _ _ _ ?_ ?_ ?_)) ?_ | refine qcall0D (BCall.ofP (sVT_ok _ _ _ _ ?_ ?_ ?_)) ⟨_,_,rfl,rfl⟩ ?_); (iterate 3 (exact sd)); rintro _ _ ⟨rfl,rfl⟩) | ((first | refine call0D (BCall.ofP (iCountOf_ok _ _ ?_ ?_)) ?_ | refine qcall0D (BCall.ofP (iCountOf_ok _ _ ?_ ?_)) ⟨_,_,rfl,rfl⟩ ?_); (iterate 2 (exact sd)); rintro _ _ ⟨rfl,rfl⟩)) <;> (try simp (disch := omega) only [push_cast,seval,hv,decide_true]))
 | (refine awp_ret ⟨.inr rfl,_,rfl,?_⟩; (try simp (disch := omega) only [push_cast,seval,hv,decide_true]))))
        all_goals (try simp)
 | true =>
        obtain ⟨h1,h2,_⟩ := vT_spec.1 hv
        have hz := vT_zero hv
        simp only at h1 h2
        have hz2 : vT (x,List.replicate (pr x).toNat 0) = true := by
          have e : (pr x).toNat = y.length := by omega
          rw [e]; exact hz
        (repeat' (first
 | (first | refine awp_seq ?_ | refine awp_block ?_)
 | ((first | refine awp_reg ?_ | refine awp_draw (mid := l3r7a) (post := l3r7b) mixed (by decide) ?_ | refine awp_condB ?_ | refine awp_skip ?_ | refine awp_exit ?_); simp (disch := omega) only [push_cast,seval,l3r0,l3r1,l3r2,l3r3,l3r4,l3r5,l3r6,l3r7a,l3r7b,l3r7,hv,h1,h2,← List.map_replicate,decide_true])
 | ((first | refine condB_split (fun h => ?_) (fun h => ?_) | refine gIf_split (fun h => ?_) (fun h => ?_) | refine qIf_split (fun h => ?_) (fun h => ?_)) <;> (try simp only [h]) <;> (try simp only [bitvec_to_nat] at h) <;> (try simp only [h]) <;> (first | (exfalso; omega) | (focus (exfalso; simp_all; done)) | (simp (disch := omega) only [push_cast,seval,hv,h1,h2,← List.map_replicate,decide_true]) | skip))
 | ((first | refine callD_of false ?_ | refine qcallD_of false ?_); simp (disch := omega) only [push_cast,seval,hv,h1,h2,← List.map_replicate,decide_true])
 | ((first | (refine call0D (BCall.ofP (drawVT_ok _ _ ?_ ?_)) ?_; (iterate 2 (exact sd)); rintro _ _ ⟨⟨x1,y1,⟨hx1,hx2⟩,hy1,hy2,rfl⟩,rfl⟩) | ((first | refine call0D (BCall.ofP (ivT_ok _ _ _ _ ?_ ?_ ?_)) ?_ | refine qcall0D (BCall.ofP (ivT_ok _ _ _ _ ?_ ?_ ?_)) ⟨_,_,rfl,rfl⟩ ?_); (iterate 3 (exact sd)); rintro _ _ ⟨rfl,rfl⟩) | ((first | refine call0D (BCall.ofP (sVT_ok _ _ _ _ ?_ ?_ ?_)) ?_ | refine qcall0D (BCall.ofP (sVT_ok _ _ _ _ ?_ ?_ ?_)) ⟨_,_,rfl,rfl⟩ ?_); (iterate 3 (exact sd)); rintro _ _ ⟨rfl,rfl⟩) | ((first | refine call0D (BCall.ofP (iCountOf_ok _ _ ?_ ?_)) ?_ | refine qcall0D (BCall.ofP (iCountOf_ok _ _ ?_ ?_)) ⟨_,_,rfl,rfl⟩ ?_); (iterate 2 (exact sd)); rintro _ _ ⟨rfl,rfl⟩)) <;> (try simp (disch := omega) only [push_cast,seval,hv,h1,h2,← List.map_replicate,decide_true]))
 | (refine awp_ret ⟨.inr rfl,_,rfl,?_⟩; (try simp (disch := omega) only [push_cast,seval,hv,h1,h2,← List.map_replicate,decide_true]))))
        all_goals (try simp)
        all_goals exact hz2
  · (repeat' (first
 | (first | refine awp_seq ?_ | refine awp_block ?_)
 | ((first | refine awp_reg ?_ | refine awp_draw (mid := l3r7a) (post := l3r7b) mixed (by decide) ?_ | refine awp_condB ?_ | refine awp_skip ?_ | refine awp_exit ?_); simp (disch := omega) only [push_cast,seval,l3r0,l3r1,l3r2,l3r3,l3r4,l3r5,l3r6,l3r7a,l3r7b,l3r7])
 | ((first | refine condB_split (fun h => ?_) (fun h => ?_) | refine gIf_split (fun h => ?_) (fun h => ?_) | refine qIf_split (fun h => ?_) (fun h => ?_)) <;> (try simp only [h]) <;> (try simp only [bitvec_to_nat] at h) <;> (try simp only [h]) <;> (first | (exfalso; omega) | (focus (exfalso; simp_all; done)) | (simp (disch := omega) only [push_cast,seval]) | skip))
 | ((first | refine callD_of false ?_ | refine qcallD_of false ?_); simp (disch := omega) only [push_cast,seval])
 | ((first | (refine call0D (BCall.ofP (drawVT_ok _ _ ?_ ?_)) ?_; (iterate 2 (exact sd)); rintro _ _ ⟨⟨x1,y1,⟨hx1,hx2⟩,hy1,hy2,rfl⟩,rfl⟩) | ((first | refine call0D (BCall.ofP (ivT_ok _ _ _ _ ?_ ?_ ?_)) ?_ | refine qcall0D (BCall.ofP (ivT_ok _ _ _ _ ?_ ?_ ?_)) ⟨_,_,rfl,rfl⟩ ?_); (iterate 3 (exact sd)); rintro _ _ ⟨rfl,rfl⟩) | ((first | refine call0D (BCall.ofP (sVT_ok _ _ _ _ ?_ ?_ ?_)) ?_ | refine qcall0D (BCall.ofP (sVT_ok _ _ _ _ ?_ ?_ ?_)) ⟨_,_,rfl,rfl⟩ ?_); (iterate 3 (exact sd)); rintro _ _ ⟨rfl,rfl⟩) | ((first | refine call0D (BCall.ofP (iCountOf_ok _ _ ?_ ?_)) ?_ | refine qcall0D (BCall.ofP (iCountOf_ok _ _ ?_ ?_)) ⟨_,_,rfl,rfl⟩ ?_); (iterate 2 (exact sd)); rintro _ _ ⟨rfl,rfl⟩)) <;> (try simp (disch := omega) only [push_cast,seval]))
 | (refine awp_ret ⟨.inr rfl,_,rfl,?_⟩; (try simp (disch := omega) only [push_cast,seval]))))


set_option maxHeartbeats 16000000 in
theorem fCost_ok (bs : List Int) (hl : bs.length ≤ 9223372036854775807) (hb : ∀ x ∈ bs,0 ≤ x ∧ x ≤ 255) : PCall Try.prog 5 [.rows false (UL bs) bs.length] (fun r => r = .bool true) := by
  refine pcall_of l5_eq rfl ?_
  by_cases h : bs.length ≤ 1048576
  · have q : bs.length ≤ 1099511627776 ∧ ∀ x ∈ bs,0 ≤ x ∧ x ≤ 255 := ⟨by omega,hb⟩
    (repeat' (first
 | (refine awp_joinL (c1 := .reg l5r3) (fun x : List Tn × List (List Int) => mkS [(3,.rows true (TL true x.1) x.1.length),(4,.rows true (LL true x.2) x.2.length)] []) (fun x => ∃ out,prodF x.1 x.2 out) ?_ ?_)
 | (first | refine awp_seq ?_ | refine awp_block ?_)
 | ((first | refine awp_reg ?_ | refine awp_condB ?_ | refine awp_skip ?_ | refine awp_exit ?_); simp (disch := omega) only [push_cast,seval,l5r0,l5r1,l5r2,l5r3,l5r4,l5r5,l5r6,l5r7,l5r8,l5r9,l5r10,l5r11,l5r12,l5r13,l5r14,innL_TL,innL_LL])
 | ((first | refine condB_split (fun h => ?_) (fun h => ?_) | refine gIf_split (fun h => ?_) (fun h => ?_) | refine qIf_split (fun h => ?_) (fun h => ?_)) <;> (try simp only [h]) <;> (try simp only [bitvec_to_nat] at h) <;> (try simp only [h]) <;> (first | (exfalso; omega) | (focus (exfalso; simp_all; done)) | (simp (disch := omega) only [push_cast,seval,innL_TL,innL_LL]) | skip))
 | ((first | refine callD_of false ?_ | refine qcallD_of false ?_); simp (disch := omega) only [push_cast,seval,innL_TL,innL_LL])
 | ((first | (refine call0D (BCall.ofP (drawCoO_ok _ _ ?_ ?_)) ?_; (iterate 2 (exact sd)); rintro _ _ ⟨⟨ts,ls,out,hpf,rfl⟩,rfl⟩) | ((first | refine call0D (BCall.ofP (iCost_ok _ _ _ _ ?_ ?_ ?_)) ?_ | refine qcall0D (BCall.ofP (iCost_ok _ _ _ _ ?_ ?_ ?_)) ⟨_,_,rfl,rfl⟩ ?_); (iterate 3 (exact sd)); rintro _ _ ⟨rfl,rfl⟩) | ((first | refine call0D (BCall.ofP (sCost_ok _ _ _ _ ?_ ?_ ?_)) ?_ | refine qcall0D (BCall.ofP (sCost_ok _ _ _ _ ?_ ?_ ?_)) ⟨_,_,rfl,rfl⟩ ?_); (iterate 3 (exact sd)); rintro _ _ ⟨rfl,rfl⟩) | ((first | refine call0D (iExO_ok _ _ _ _ ?_ ?_ ?_) ?_ | refine qcall0D (iExO_ok _ _ _ _ ?_ ?_ ?_) ⟨_,_,rfl,rfl⟩ ?_); (iterate 3 (exact sd)); rintro _ _ ⟨rfl,rfl⟩)) <;> (try simp (disch := omega) only [push_cast,seval,innL_TL,innL_LL]))
 | (refine awp_ret ⟨.inr rfl,_,rfl,?_⟩; (try simp (disch := omega) only [push_cast,seval,innL_TL,innL_LL]))))
    · exact exSub2 (by (refine Sub.of_lists ?_ ?_ ?_ ?_ ?_ <;> simp [Vw.mkS,Vw.lk,Vw.hk,AV.inn,innL,innL_ints,innL_append,innL_rep,-List.map_set,-List.getD_eq_getElem?_getD,innL_TL,innL_LL])) ⟨out,hpf⟩
    · refine ⟨?_⟩
      rintro ⟨ts,ls⟩ ⟨out,hpf⟩
      try simp only at hpf ⊢
      have hq := prodF_b hpf
      cases hx : exO ts ls with
 | none =>
        have hco : coI ts ls = -1 := by unfold coI; rw [hx]
        (repeat' (first
 | (first | refine awp_seq ?_ | refine awp_block ?_)
 | ((first | refine awp_reg ?_ | refine awp_condB ?_ | refine awp_skip ?_ | refine awp_exit ?_); simp (disch := omega) only [push_cast,seval,l5r0,l5r1,l5r2,l5r3,l5r4,l5r5,l5r6,l5r7,l5r8,l5r9,l5r10,l5r11,l5r12,l5r13,l5r14,hco,decide_true,innL_TL,innL_LL])
 | ((first | refine condB_split (fun h => ?_) (fun h => ?_) | refine gIf_split (fun h => ?_) (fun h => ?_) | refine qIf_split (fun h => ?_) (fun h => ?_)) <;> (try simp only [h]) <;> (try simp only [bitvec_to_nat] at h) <;> (try simp only [h]) <;> (first | (exfalso; omega) | (focus (exfalso; simp_all; done)) | (simp (disch := omega) only [push_cast,seval,hco,decide_true,innL_TL,innL_LL]) | skip))
 | ((first | refine callD_of false ?_ | refine qcallD_of false ?_); simp (disch := omega) only [push_cast,seval,hco,decide_true,innL_TL,innL_LL])
 | ((first | (refine call0D (BCall.ofP (drawCoO_ok _ _ ?_ ?_)) ?_; (iterate 2 (exact sd)); rintro _ _ ⟨⟨ts,ls,out,hpf,rfl⟩,rfl⟩) | ((first | refine call0D (BCall.ofP (iCost_ok _ _ _ _ ?_ ?_ ?_)) ?_ | refine qcall0D (BCall.ofP (iCost_ok _ _ _ _ ?_ ?_ ?_)) ⟨_,_,rfl,rfl⟩ ?_); (iterate 3 (exact sd)); rintro _ _ ⟨rfl,rfl⟩) | ((first | refine call0D (BCall.ofP (sCost_ok _ _ _ _ ?_ ?_ ?_)) ?_ | refine qcall0D (BCall.ofP (sCost_ok _ _ _ _ ?_ ?_ ?_)) ⟨_,_,rfl,rfl⟩ ?_); (iterate 3 (exact sd)); rintro _ _ ⟨rfl,rfl⟩) | ((first | refine call0D (iExO_ok _ _ _ _ ?_ ?_ ?_) ?_ | refine qcall0D (iExO_ok _ _ _ _ ?_ ?_ ?_) ⟨_,_,rfl,rfl⟩ ?_); (iterate 3 (exact sd)); rintro _ _ ⟨rfl,rfl⟩)) <;> (try simp (disch := omega) only [push_cast,seval,hco,decide_true,innL_TL,innL_LL]))
 | (refine awp_ret ⟨.inr rfl,_,rfl,?_⟩; (try simp (disch := omega) only [push_cast,seval,hco,decide_true,innL_TL,innL_LL]))))
        all_goals (try simp)
 | some e =>
        have hco : coI ts ls = pr (spE e) := by unfold coI; rw [hx]
        obtain ⟨h5,f1,f2,f3,f4,f5,f6,f7⟩ := exO_facts hx
        have hg : good9 (spE e) := ⟨fun v hv => by
          obtain ⟨y,hy,rfl⟩ := List.mem_map.1 hv
          obtain ⟨k,hk,rfl⟩ := mem_getD.1 hy
          by_cases hm : (k : Int) ∈ ls.flatten
          · have := f2 k (by omega) hm; split <;> omega
          · have := f1 k (by omega) hm; split <;> omega,by rw [spE_length]; omega⟩
        have hpb := pr_bound9 hg
        have hsl := spE_length e
        generalize hS : spE e = E at *
        (repeat' (first
 | (first | refine awp_seq ?_ | refine awp_block ?_)
 | ((first | refine awp_reg ?_ | refine awp_condB ?_ | refine awp_skip ?_ | refine awp_exit ?_); simp (disch := omega) only [push_cast,seval,l5r0,l5r1,l5r2,l5r3,l5r4,l5r5,l5r6,l5r7,l5r8,l5r9,l5r10,l5r11,l5r12,l5r13,l5r14,hco,hx,h5,Option.isSome_some,Option.getD_some,decide_true,innL_TL,innL_LL])
 | ((first | refine condB_split (fun h => ?_) (fun h => ?_) | refine gIf_split (fun h => ?_) (fun h => ?_) | refine qIf_split (fun h => ?_) (fun h => ?_)) <;> (try simp only [h]) <;> (try simp only [bitvec_to_nat] at h) <;> (try simp only [h]) <;> (first | (exfalso; omega) | (focus (exfalso; simp_all; done)) | (simp (disch := omega) only [push_cast,seval,hco,hx,h5,Option.isSome_some,Option.getD_some,decide_true,innL_TL,innL_LL]) | skip))
 | ((first | refine callD_of false ?_ | refine qcallD_of false ?_); simp (disch := omega) only [push_cast,seval,hco,hx,h5,Option.isSome_some,Option.getD_some,decide_true,innL_TL,innL_LL])
 | ((first | (refine call0D (BCall.ofP (drawCoO_ok _ _ ?_ ?_)) ?_; (iterate 2 (exact sd)); rintro _ _ ⟨⟨ts,ls,out,hpf,rfl⟩,rfl⟩) | ((first | refine call0D (BCall.ofP (iCost_ok _ _ _ _ ?_ ?_ ?_)) ?_ | refine qcall0D (BCall.ofP (iCost_ok _ _ _ _ ?_ ?_ ?_)) ⟨_,_,rfl,rfl⟩ ?_); (iterate 3 (exact sd)); rintro _ _ ⟨rfl,rfl⟩) | ((first | refine call0D (BCall.ofP (sCost_ok _ _ _ _ ?_ ?_ ?_)) ?_ | refine qcall0D (BCall.ofP (sCost_ok _ _ _ _ ?_ ?_ ?_)) ⟨_,_,rfl,rfl⟩ ?_); (iterate 3 (exact sd)); rintro _ _ ⟨rfl,rfl⟩) | ((first | refine call0D (iExO_ok _ _ _ _ ?_ ?_ ?_) ?_ | refine qcall0D (iExO_ok _ _ _ _ ?_ ?_ ?_) ⟨_,_,rfl,rfl⟩ ?_); (iterate 3 (exact sd)); rintro _ _ ⟨rfl,rfl⟩)) <;> (try simp (disch := omega) only [push_cast,seval,hco,hx,h5,Option.isSome_some,Option.getD_some,decide_true,innL_TL,innL_LL]))
 | (refine awp_ret ⟨.inr rfl,_,rfl,?_⟩; (try simp (disch := omega) only [push_cast,seval,hco,hx,h5,Option.isSome_some,Option.getD_some,decide_true,innL_TL,innL_LL]))))
        refine awp_loop (fun k : Nat => mkS [(5,.int .i64 (pr E)),(6,.own 608 5 1),(7,.bool true),(8,.int .i64 (pr (E.take k))),(9,.int .i64 k)] [(608,IL e)]) (fun k => k ≤ 5) (fun k => 5 - k) 0 (Nat.zero_le _) ?_ ?_
        · (refine Sub.of_lists ?_ ?_ ?_ ?_ ?_ <;> simp [Vw.mkS,Vw.lk,Vw.hk,AV.inn,innL,innL_ints,innL_append,innL_rep,-List.map_set,-List.getD_eq_getElem?_getD,h5,pr_nil])
        · intro k hk
          by_cases hlt : k < 5
          · have h1 := pr_bound9 (good9_take hg (k + 1))
            have h2 := pr_take_succ E k (by omega)
            have hsg : E.getD k 0 = if e.getD k 0 < 0 then 1 else e.getD k 0 := by rw [← hS]; simp [spE,List.getD,show k < e.length by omega]
            rw [hsg] at h2
            rw [h2] at h1
            clear hsg hS
            generalize hU : E.take k = U at *
            generalize hU2 : E.take (k + 1) = U2 at *
            by_cases hz : e.getD k 0 < 0
            · rw [if_pos hz,Int.mul_one] at h1 h2
              have hz' : ¬ 0 ≤ e.getD k 0 := by omega
              (repeat' (first
 | (first | refine awp_seq ?_ | refine awp_block ?_)
 | ((first | refine awp_reg ?_ | refine awp_condB ?_ | refine awp_skip ?_ | refine awp_exit ?_); simp (disch := omega) only [push_cast,seval,l5r0,l5r1,l5r2,l5r3,l5r4,l5r5,l5r6,l5r7,l5r8,l5r9,l5r10,l5r11,l5r12,l5r13,l5r14,hz',h5])
 | ((first | refine condB_split (fun h => ?_) (fun h => ?_) | refine gIf_split (fun h => ?_) (fun h => ?_) | refine qIf_split (fun h => ?_) (fun h => ?_)) <;> (try simp only [h]) <;> (try simp only [bitvec_to_nat] at h) <;> (try simp only [h]) <;> (first | (exfalso; omega) | (focus (exfalso; simp_all; done)) | (simp (disch := omega) only [push_cast,seval,hz',h5]) | skip))
 | ((first | refine callD_of false ?_ | refine qcallD_of false ?_); simp (disch := omega) only [push_cast,seval,hz',h5])
 | ((first | (refine call0D (BCall.ofP (drawCoO_ok _ _ ?_ ?_)) ?_; (iterate 2 (exact sd)); rintro _ _ ⟨⟨ts,ls,out,hpf,rfl⟩,rfl⟩) | ((first | refine call0D (BCall.ofP (iCost_ok _ _ _ _ ?_ ?_ ?_)) ?_ | refine qcall0D (BCall.ofP (iCost_ok _ _ _ _ ?_ ?_ ?_)) ⟨_,_,rfl,rfl⟩ ?_); (iterate 3 (exact sd)); rintro _ _ ⟨rfl,rfl⟩) | ((first | refine call0D (BCall.ofP (sCost_ok _ _ _ _ ?_ ?_ ?_)) ?_ | refine qcall0D (BCall.ofP (sCost_ok _ _ _ _ ?_ ?_ ?_)) ⟨_,_,rfl,rfl⟩ ?_); (iterate 3 (exact sd)); rintro _ _ ⟨rfl,rfl⟩) | ((first | refine call0D (iExO_ok _ _ _ _ ?_ ?_ ?_) ?_ | refine qcall0D (iExO_ok _ _ _ _ ?_ ?_ ?_) ⟨_,_,rfl,rfl⟩ ?_); (iterate 3 (exact sd)); rintro _ _ ⟨rfl,rfl⟩)) <;> (try simp (disch := omega) only [push_cast,seval,hz',h5]))
 | (refine awp_ret ⟨.inr rfl,_,rfl,?_⟩; (try simp (disch := omega) only [push_cast,seval,hz',h5]))))
              refine ⟨k + 1,by omega,by omega,?_⟩
              rw [hU2,h2]
              (refine Sub.of_lists ?_ ?_ ?_ ?_ ?_ <;> simp [Vw.mkS,Vw.lk,Vw.hk,AV.inn,innL,innL_ints,innL_append,innL_rep,-List.map_set,-List.getD_eq_getElem?_getD])
            · rw [if_neg hz] at h1 h2
              have hz' : 0 ≤ e.getD k 0 := by omega
              (repeat' (first
 | (first | refine awp_seq ?_ | refine awp_block ?_)
 | ((first | refine awp_reg ?_ | refine awp_condB ?_ | refine awp_skip ?_ | refine awp_exit ?_); simp (disch := omega) only [push_cast,seval,l5r0,l5r1,l5r2,l5r3,l5r4,l5r5,l5r6,l5r7,l5r8,l5r9,l5r10,l5r11,l5r12,l5r13,l5r14,hz',h5])
 | ((first | refine condB_split (fun h => ?_) (fun h => ?_) | refine gIf_split (fun h => ?_) (fun h => ?_) | refine qIf_split (fun h => ?_) (fun h => ?_)) <;> (try simp only [h]) <;> (try simp only [bitvec_to_nat] at h) <;> (try simp only [h]) <;> (first | (exfalso; omega) | (focus (exfalso; simp_all; done)) | (simp (disch := omega) only [push_cast,seval,hz',h5]) | skip))
 | ((first | refine callD_of false ?_ | refine qcallD_of false ?_); simp (disch := omega) only [push_cast,seval,hz',h5])
 | ((first | (refine call0D (BCall.ofP (drawCoO_ok _ _ ?_ ?_)) ?_; (iterate 2 (exact sd)); rintro _ _ ⟨⟨ts,ls,out,hpf,rfl⟩,rfl⟩) | ((first | refine call0D (BCall.ofP (iCost_ok _ _ _ _ ?_ ?_ ?_)) ?_ | refine qcall0D (BCall.ofP (iCost_ok _ _ _ _ ?_ ?_ ?_)) ⟨_,_,rfl,rfl⟩ ?_); (iterate 3 (exact sd)); rintro _ _ ⟨rfl,rfl⟩) | ((first | refine call0D (BCall.ofP (sCost_ok _ _ _ _ ?_ ?_ ?_)) ?_ | refine qcall0D (BCall.ofP (sCost_ok _ _ _ _ ?_ ?_ ?_)) ⟨_,_,rfl,rfl⟩ ?_); (iterate 3 (exact sd)); rintro _ _ ⟨rfl,rfl⟩) | ((first | refine call0D (iExO_ok _ _ _ _ ?_ ?_ ?_) ?_ | refine qcall0D (iExO_ok _ _ _ _ ?_ ?_ ?_) ⟨_,_,rfl,rfl⟩ ?_); (iterate 3 (exact sd)); rintro _ _ ⟨rfl,rfl⟩)) <;> (try simp (disch := omega) only [push_cast,seval,hz',h5]))
 | (refine awp_ret ⟨.inr rfl,_,rfl,?_⟩; (try simp (disch := omega) only [push_cast,seval,hz',h5]))))
              refine ⟨k + 1,by omega,by omega,?_⟩
              rw [hU2,h2]
              (refine Sub.of_lists ?_ ?_ ?_ ?_ ?_ <;> simp [Vw.mkS,Vw.lk,Vw.hk,AV.inn,innL,innL_ints,innL_append,innL_rep,-List.map_set,-List.getD_eq_getElem?_getD])
          · have ek : E.take k = E := List.take_of_length_le (by omega)
            rw [ek]
            (repeat' (first
 | (first | refine awp_seq ?_ | refine awp_block ?_)
 | ((first | refine awp_reg ?_ | refine awp_condB ?_ | refine awp_skip ?_ | refine awp_exit ?_); simp (disch := omega) only [push_cast,seval,l5r0,l5r1,l5r2,l5r3,l5r4,l5r5,l5r6,l5r7,l5r8,l5r9,l5r10,l5r11,l5r12,l5r13,l5r14,h5,decide_true])
 | ((first | refine condB_split (fun h => ?_) (fun h => ?_) | refine gIf_split (fun h => ?_) (fun h => ?_) | refine qIf_split (fun h => ?_) (fun h => ?_)) <;> (try simp only [h]) <;> (try simp only [bitvec_to_nat] at h) <;> (try simp only [h]) <;> (first | (exfalso; omega) | (focus (exfalso; simp_all; done)) | (simp (disch := omega) only [push_cast,seval,h5,decide_true]) | skip))
 | ((first | refine callD_of false ?_ | refine qcallD_of false ?_); simp (disch := omega) only [push_cast,seval,h5,decide_true])
 | ((first | (refine call0D (BCall.ofP (drawCoO_ok _ _ ?_ ?_)) ?_; (iterate 2 (exact sd)); rintro _ _ ⟨⟨ts,ls,out,hpf,rfl⟩,rfl⟩) | ((first | refine call0D (BCall.ofP (iCost_ok _ _ _ _ ?_ ?_ ?_)) ?_ | refine qcall0D (BCall.ofP (iCost_ok _ _ _ _ ?_ ?_ ?_)) ⟨_,_,rfl,rfl⟩ ?_); (iterate 3 (exact sd)); rintro _ _ ⟨rfl,rfl⟩) | ((first | refine call0D (BCall.ofP (sCost_ok _ _ _ _ ?_ ?_ ?_)) ?_ | refine qcall0D (BCall.ofP (sCost_ok _ _ _ _ ?_ ?_ ?_)) ⟨_,_,rfl,rfl⟩ ?_); (iterate 3 (exact sd)); rintro _ _ ⟨rfl,rfl⟩) | ((first | refine call0D (iExO_ok _ _ _ _ ?_ ?_ ?_) ?_ | refine qcall0D (iExO_ok _ _ _ _ ?_ ?_ ?_) ⟨_,_,rfl,rfl⟩ ?_); (iterate 3 (exact sd)); rintro _ _ ⟨rfl,rfl⟩)) <;> (try simp (disch := omega) only [push_cast,seval,h5,decide_true]))
 | (refine awp_ret ⟨.inr rfl,_,rfl,?_⟩; (try simp (disch := omega) only [push_cast,seval,h5,decide_true]))))
            all_goals (try simp)
  · (repeat' (first
 | (first | refine awp_seq ?_ | refine awp_block ?_)
 | ((first | refine awp_reg ?_ | refine awp_condB ?_ | refine awp_skip ?_ | refine awp_exit ?_); simp (disch := omega) only [push_cast,seval,l5r0,l5r1,l5r2,l5r3,l5r4,l5r5,l5r6,l5r7,l5r8,l5r9,l5r10,l5r11,l5r12,l5r13,l5r14])
 | ((first | refine condB_split (fun h => ?_) (fun h => ?_) | refine gIf_split (fun h => ?_) (fun h => ?_) | refine qIf_split (fun h => ?_) (fun h => ?_)) <;> (try simp only [h]) <;> (try simp only [bitvec_to_nat] at h) <;> (try simp only [h]) <;> (first | (exfalso; omega) | (focus (exfalso; simp_all; done)) | (simp (disch := omega) only [push_cast,seval]) | skip))
 | ((first | refine callD_of false ?_ | refine qcallD_of false ?_); simp (disch := omega) only [push_cast,seval])
 | ((first | (refine call0D (BCall.ofP (drawCoO_ok _ _ ?_ ?_)) ?_; (iterate 2 (exact sd)); rintro _ _ ⟨⟨ts,ls,out,hpf,rfl⟩,rfl⟩) | ((first | refine call0D (BCall.ofP (iCost_ok _ _ _ _ ?_ ?_ ?_)) ?_ | refine qcall0D (BCall.ofP (iCost_ok _ _ _ _ ?_ ?_ ?_)) ⟨_,_,rfl,rfl⟩ ?_); (iterate 3 (exact sd)); rintro _ _ ⟨rfl,rfl⟩) | ((first | refine call0D (BCall.ofP (sCost_ok _ _ _ _ ?_ ?_ ?_)) ?_ | refine qcall0D (BCall.ofP (sCost_ok _ _ _ _ ?_ ?_ ?_)) ⟨_,_,rfl,rfl⟩ ?_); (iterate 3 (exact sd)); rintro _ _ ⟨rfl,rfl⟩) | ((first | refine call0D (iExO_ok _ _ _ _ ?_ ?_ ?_) ?_ | refine qcall0D (iExO_ok _ _ _ _ ?_ ?_ ?_) ⟨_,_,rfl,rfl⟩ ?_); (iterate 3 (exact sd)); rintro _ _ ⟨rfl,rfl⟩)) <;> (try simp (disch := omega) only [push_cast,seval]))
 | (refine awp_ret ⟨.inr rfl,_,rfl,?_⟩; (try simp (disch := omega) only [push_cast,seval]))))


set_option maxHeartbeats 32000000 in
theorem fExt_ok (bs : List Int) (hl : bs.length ≤ 9223372036854775807) (hb : ∀ x ∈ bs,0 ≤ x ∧ x ≤ 255) : PCall Try.prog 4 [.rows false (UL bs) bs.length] (fun r => r = .bool true) := by
  refine pcall_of l4_eq rfl ?_
  by_cases h : bs.length ≤ 1048576
  · have q : bs.length ≤ 1099511627776 ∧ ∀ x ∈ bs,0 ≤ x ∧ x ≤ 255 := ⟨by omega,hb⟩
    (repeat' (first
 | (refine awp_joinL (c1 := .reg l4r3) (fun x : List Tn × List (List Int) => mkS [(3,.rows true (TL true x.1) x.1.length),(4,.rows true (LL true x.2) x.2.length)] []) (fun x => ∃ out,prodF x.1 x.2 out) ?_ ?_)
 | (first | refine awp_seq ?_ | refine awp_block ?_)
 | ((first | refine awp_reg ?_ | refine awp_draw (mid := l4r14a) (post := l4r14b) mixed (by decide) ?_ | refine awp_draw (mid := l4r20a) (post := l4r20b) mixed (by decide) ?_ | refine awp_condB ?_ | refine awp_skip ?_ | refine awp_exit ?_); simp (disch := omega) only [push_cast,seval,l4r0,l4r1,l4r2,l4r3,l4r4,l4r5,l4r6,l4r7,l4r8,l4r9,l4r10,l4r11,l4r12,l4r13,l4r14a,l4r14b,l4r14,l4r15,l4r16,l4r17,l4r18,l4r19,l4r20a,l4r20b,l4r20,l4r21,l4r22,l4r23,innL_TL,innL_LL])
 | ((first | refine condB_split (fun h => ?_) (fun h => ?_) | refine gIf_split (fun h => ?_) (fun h => ?_) | refine qIf_split (fun h => ?_) (fun h => ?_)) <;> (try simp only [h]) <;> (try simp only [bitvec_to_nat] at h) <;> (try simp only [h]) <;> (first | (exfalso; omega) | (focus (exfalso; simp_all; done)) | (simp (disch := omega) only [push_cast,seval,innL_TL,innL_LL]) | skip))
 | ((first | refine callD_of false ?_ | refine qcallD_of false ?_); simp (disch := omega) only [push_cast,seval,innL_TL,innL_LL])
 | ((first | (refine call0D (BCall.ofP (drawEO_ok _ _ ?_ ?_)) ?_; (iterate 2 (exact sd)); rintro _ _ ⟨⟨ts,ls,out,hpf,rfl⟩,rfl⟩) | ((first | refine call0D (iExO_ok _ _ _ _ ?_ ?_ ?_) ?_ | refine qcall0D (iExO_ok _ _ _ _ ?_ ?_ ?_) ⟨_,_,rfl,rfl⟩ ?_); (iterate 3 (exact sd)); rintro _ _ ⟨rfl,rfl⟩) | ((first | refine call0D (sExO_ok _ _ _ _ ?_ ?_ ?_) ?_ | refine qcall0D (sExO_ok _ _ _ _ ?_ ?_ ?_) ⟨_,_,rfl,rfl⟩ ?_); (iterate 3 (exact sd)); rintro _ _ ⟨rfl,rfl⟩) | ((first | refine call0D (BCall.ofP (equalInts_ok _ _ _ _ ?_ ?_ ?_)) ?_ | refine qcall0D (BCall.ofP (equalInts_ok _ _ _ _ ?_ ?_ ?_)) ⟨_,_,rfl,rfl⟩ ?_); (iterate 3 (exact sd)); rintro _ _ ⟨rfl,rfl⟩) | ((first | refine call0D (BCall.ofP (isInL_ok _ _ _ ?_ ?_)) ?_ | refine qcall0D (BCall.ofP (isInL_ok _ _ _ ?_ ?_)) ⟨_,_,rfl,rfl⟩ ?_); (iterate 2 (exact sd)); rintro _ _ ⟨rfl,rfl⟩)) <;> (try simp (disch := omega) only [push_cast,seval,innL_TL,innL_LL]))
 | (refine awp_ret ⟨.inr rfl,_,rfl,?_⟩; (try simp (disch := omega) only [push_cast,seval,innL_TL,innL_LL]))))
    · exact exSub2 (by (refine Sub.of_lists ?_ ?_ ?_ ?_ ?_ <;> simp [Vw.mkS,Vw.lk,Vw.hk,AV.inn,innL,innL_ints,innL_append,innL_rep,-List.map_set,-List.getD_eq_getElem?_getD,innL_TL,innL_LL])) ⟨out,hpf⟩
    · refine ⟨?_⟩
      rintro ⟨ts,ls⟩ ⟨out,hpf⟩
      try simp only at hpf ⊢
      have hq := prodF_b hpf
      cases hx : exO ts ls with
 | none =>
        obtain ⟨A,hA⟩ : ∃ A : List Int,(exO ts ls).getD [] = A := ⟨_,rfl⟩
        have hAl : A.length ≤ 1099511627776 := by rw [← hA,hx]; simp
        have his : (exO ts ls).isSome = false := by rw [hx]; rfl
        clear hx
        (repeat' (first
 | (first | refine awp_seq ?_ | refine awp_block ?_)
 | ((first | refine awp_reg ?_ | refine awp_draw (mid := l4r14a) (post := l4r14b) mixed (by decide) ?_ | refine awp_draw (mid := l4r20a) (post := l4r20b) mixed (by decide) ?_ | refine awp_condB ?_ | refine awp_skip ?_ | refine awp_exit ?_); simp (disch := omega) only [push_cast,seval,l4r0,l4r1,l4r2,l4r3,l4r4,l4r5,l4r6,l4r7,l4r8,l4r9,l4r10,l4r11,l4r12,l4r13,l4r14a,l4r14b,l4r14,l4r15,l4r16,l4r17,l4r18,l4r19,l4r20a,l4r20b,l4r20,l4r21,l4r22,l4r23,hA,his,decide_true,innL_TL,innL_LL])
 | ((first | refine condB_split (fun h => ?_) (fun h => ?_) | refine gIf_split (fun h => ?_) (fun h => ?_) | refine qIf_split (fun h => ?_) (fun h => ?_)) <;> (try simp only [h]) <;> (try simp only [bitvec_to_nat] at h) <;> (try simp only [h]) <;> (first | (exfalso; omega) | (focus (exfalso; simp_all; done)) | (simp (disch := omega) only [push_cast,seval,hA,his,decide_true,innL_TL,innL_LL]) | skip))
 | ((first | refine callD_of false ?_ | refine qcallD_of false ?_); simp (disch := omega) only [push_cast,seval,hA,his,decide_true,innL_TL,innL_LL])
 | ((first | (refine call0D (BCall.ofP (drawEO_ok _ _ ?_ ?_)) ?_; (iterate 2 (exact sd)); rintro _ _ ⟨⟨ts,ls,out,hpf,rfl⟩,rfl⟩) | ((first | refine call0D (iExO_ok _ _ _ _ ?_ ?_ ?_) ?_ | refine qcall0D (iExO_ok _ _ _ _ ?_ ?_ ?_) ⟨_,_,rfl,rfl⟩ ?_); (iterate 3 (exact sd)); rintro _ _ ⟨rfl,rfl⟩) | ((first | refine call0D (sExO_ok _ _ _ _ ?_ ?_ ?_) ?_ | refine qcall0D (sExO_ok _ _ _ _ ?_ ?_ ?_) ⟨_,_,rfl,rfl⟩ ?_); (iterate 3 (exact sd)); rintro _ _ ⟨rfl,rfl⟩) | ((first | refine call0D (BCall.ofP (equalInts_ok _ _ _ _ ?_ ?_ ?_)) ?_ | refine qcall0D (BCall.ofP (equalInts_ok _ _ _ _ ?_ ?_ ?_)) ⟨_,_,rfl,rfl⟩ ?_); (iterate 3 (exact sd)); rintro _ _ ⟨rfl,rfl⟩) | ((first | refine call0D (BCall.ofP (isInL_ok _ _ _ ?_ ?_)) ?_ | refine qcall0D (BCall.ofP (isInL_ok _ _ _ ?_ ?_)) ⟨_,_,rfl,rfl⟩ ?_); (iterate 2 (exact sd)); rintro _ _ ⟨rfl,rfl⟩)) <;> (try simp (disch := omega) only [push_cast,seval,hA,his,decide_true,innL_TL,innL_LL]))
 | (refine awp_ret ⟨.inr rfl,_,rfl,?_⟩; (try simp (disch := omega) only [push_cast,seval,hA,his,decide_true,innL_TL,innL_LL]))))
        all_goals (try simp)
 | some e =>
        obtain ⟨h5,f1,f2,f3,f4,f5,f6,f7⟩ := exO_facts hx
        have htl := TL_length true ts
        have hll := LL_length true ls
        have h5b : e.length ≤ 1099511627776 := by omega
        have hul : ∀ i : Nat,i ≤ ls.length → (ls.take i).flatten.length ≤ 4 * i := fun i hi => by
          have := flatLen_le (n := 4) (ls := ls.take i) fun l hl => (hpf.2.2.1 l (List.mem_of_mem_take hl)).1
          have hlt : (ls.take i).length ≤ i := by rw [List.length_take]; omega
          omega
        obtain ⟨hn1,hn3,hn5⟩ := hpf.1
        obtain ⟨F,hF⟩ : ∃ F : Nat → List Int,∀ i,F i = (ls.take i).flatten := ⟨_,fun _ => rfl⟩
        have hF0 : F 0 = [] := hF 0
        (repeat' (first
 | (first | refine awp_seq ?_ | refine awp_block ?_)
 | ((first | refine awp_reg ?_ | refine awp_draw (mid := l4r14a) (post := l4r14b) mixed (by decide) ?_ | refine awp_draw (mid := l4r20a) (post := l4r20b) mixed (by decide) ?_ | refine awp_condB ?_ | refine awp_skip ?_ | refine awp_exit ?_); simp (disch := omega) only [push_cast,seval,l4r0,l4r1,l4r2,l4r3,l4r4,l4r5,l4r6,l4r7,l4r8,l4r9,l4r10,l4r11,l4r12,l4r13,l4r14a,l4r14b,l4r14,l4r15,l4r16,l4r17,l4r18,l4r19,l4r20a,l4r20b,l4r20,l4r21,l4r22,l4r23,hx,Option.isSome_some,Option.getD_some,decide_true,innL_TL,innL_LL])
 | ((first | refine condB_split (fun h => ?_) (fun h => ?_) | refine gIf_split (fun h => ?_) (fun h => ?_) | refine qIf_split (fun h => ?_) (fun h => ?_)) <;> (try simp only [h]) <;> (try simp only [bitvec_to_nat] at h) <;> (try simp only [h]) <;> (first | (exfalso; omega) | (focus (exfalso; simp_all; done)) | (simp (disch := omega) only [push_cast,seval,hx,Option.isSome_some,Option.getD_some,decide_true,innL_TL,innL_LL]) | skip))
 | ((first | refine callD_of false ?_ | refine qcallD_of false ?_); simp (disch := omega) only [push_cast,seval,hx,Option.isSome_some,Option.getD_some,decide_true,innL_TL,innL_LL])
 | ((first | (refine call0D (BCall.ofP (drawEO_ok _ _ ?_ ?_)) ?_; (iterate 2 (exact sd)); rintro _ _ ⟨⟨ts,ls,out,hpf,rfl⟩,rfl⟩) | ((first | refine call0D (iExO_ok _ _ _ _ ?_ ?_ ?_) ?_ | refine qcall0D (iExO_ok _ _ _ _ ?_ ?_ ?_) ⟨_,_,rfl,rfl⟩ ?_); (iterate 3 (exact sd)); rintro _ _ ⟨rfl,rfl⟩) | ((first | refine call0D (sExO_ok _ _ _ _ ?_ ?_ ?_) ?_ | refine qcall0D (sExO_ok _ _ _ _ ?_ ?_ ?_) ⟨_,_,rfl,rfl⟩ ?_); (iterate 3 (exact sd)); rintro _ _ ⟨rfl,rfl⟩) | ((first | refine call0D (BCall.ofP (equalInts_ok _ _ _ _ ?_ ?_ ?_)) ?_ | refine qcall0D (BCall.ofP (equalInts_ok _ _ _ _ ?_ ?_ ?_)) ⟨_,_,rfl,rfl⟩ ?_); (iterate 3 (exact sd)); rintro _ _ ⟨rfl,rfl⟩) | ((first | refine call0D (BCall.ofP (isInL_ok _ _ _ ?_ ?_)) ?_ | refine qcall0D (BCall.ofP (isInL_ok _ _ _ ?_ ?_)) ⟨_,_,rfl,rfl⟩ ?_); (iterate 2 (exact sd)); rintro _ _ ⟨rfl,rfl⟩)) <;> (try simp (disch := omega) only [push_cast,seval,hx,Option.isSome_some,Option.getD_some,decide_true,innL_TL,innL_LL]))
 | (refine awp_ret ⟨.inr rfl,_,rfl,?_⟩; (try simp (disch := omega) only [push_cast,seval,hx,Option.isSome_some,Option.getD_some,decide_true,innL_TL,innL_LL]))))
        refine awp_loop (fun i : Nat => mkS [(3,.rows true (TL true ts) ts.length),(4,.rows true (LL true ls) ls.length),(5,.own 384 e.length 1),(9,.own 864 (F i).length 1),(10,.int .i64 i)] [(384,IL e),(864,IL (F i))]) (fun i => i ≤ ts.length) (fun i => ts.length - i) 0 (Nat.zero_le _) ?_ ?_
        · (refine Sub.of_lists ?_ ?_ ?_ ?_ ?_ <;> simp [Vw.mkS,Vw.lk,Vw.hk,AV.inn,innL,innL_ints,innL_append,innL_rep,-List.map_set,-List.getD_eq_getElem?_getD,hF0,innL_TL,innL_LL])
        · intro i hi
          by_cases hlt : i < ts.length
          · obtain ⟨⟨x,y⟩,ht⟩ := mem_lt hlt
            obtain ⟨l,hli⟩ := mem_lt (l := ls) (i := i) (by omega)
            have hd := TL_drop true ts i ht
            have hd1 : ((TL true ts).drop (i * 2)).take 1 = [.rows true (IL x) x.length] := by
              have := congrArg (List.take 1) hd
              rwa [List.take_take] at this
            have hd2 := LL_drop true ls i hli
            simp only at hd
            have hil1 : i * 2 + 1 ≤ ts.length * 2 := by omega
            have hil2 : i + 1 ≤ ls.length := by omega
            obtain ⟨g1,g2⟩ := f5 i (x,y) l ht hli
            simp only at g1 g2
            have hlx : ∀ x ∈ l,0 ≤ x ∧ x ≤ 4 := fun v hv => f4 v (List.mem_flatten.2 ⟨l,List.mem_of_getElem? hli,hv⟩)
            have hl4 := (hpf.2.2.1 l (List.mem_of_getElem? hli)).1
            have hu := hul i (by omega)
            have hst := sumLen_step hli
            rw [← hF] at hu hst
            obtain ⟨G,hG⟩ : ∃ G : Nat → List Int,∀ j,G j = F i ++ l.take j := ⟨_,fun _ => rfl⟩
            have hG0 : G 0 = F i := by rw [hG]; simp
            (repeat' (first
 | (first | refine awp_seq ?_ | refine awp_block ?_)
 | ((first | refine awp_reg ?_ | refine awp_draw (mid := l4r14a) (post := l4r14b) mixed (by decide) ?_ | refine awp_draw (mid := l4r20a) (post := l4r20b) mixed (by decide) ?_ | refine awp_condB ?_ | refine awp_skip ?_ | refine awp_exit ?_); simp (disch := omega) only [push_cast,seval,l4r0,l4r1,l4r2,l4r3,l4r4,l4r5,l4r6,l4r7,l4r8,l4r9,l4r10,l4r11,l4r12,l4r13,l4r14a,l4r14b,l4r14,l4r15,l4r16,l4r17,l4r18,l4r19,l4r20a,l4r20b,l4r20,l4r21,l4r22,l4r23,hd2,hll,hil2,innL_TL,innL_LL])
 | ((first | refine condB_split (fun h => ?_) (fun h => ?_) | refine gIf_split (fun h => ?_) (fun h => ?_) | refine qIf_split (fun h => ?_) (fun h => ?_)) <;> (try simp only [h]) <;> (try simp only [bitvec_to_nat] at h) <;> (try simp only [h]) <;> (first | (exfalso; omega) | (focus (exfalso; simp_all; done)) | (simp (disch := omega) only [push_cast,seval,hd2,hll,hil2,innL_TL,innL_LL]) | skip))
 | ((first | refine callD_of false ?_ | refine qcallD_of false ?_); simp (disch := omega) only [push_cast,seval,hd2,hll,hil2,innL_TL,innL_LL])
 | ((first | (refine call0D (BCall.ofP (drawEO_ok _ _ ?_ ?_)) ?_; (iterate 2 (exact sd)); rintro _ _ ⟨⟨ts,ls,out,hpf,rfl⟩,rfl⟩) | ((first | refine call0D (iExO_ok _ _ _ _ ?_ ?_ ?_) ?_ | refine qcall0D (iExO_ok _ _ _ _ ?_ ?_ ?_) ⟨_,_,rfl,rfl⟩ ?_); (iterate 3 (exact sd)); rintro _ _ ⟨rfl,rfl⟩) | ((first | refine call0D (sExO_ok _ _ _ _ ?_ ?_ ?_) ?_ | refine qcall0D (sExO_ok _ _ _ _ ?_ ?_ ?_) ⟨_,_,rfl,rfl⟩ ?_); (iterate 3 (exact sd)); rintro _ _ ⟨rfl,rfl⟩) | ((first | refine call0D (BCall.ofP (equalInts_ok _ _ _ _ ?_ ?_ ?_)) ?_ | refine qcall0D (BCall.ofP (equalInts_ok _ _ _ _ ?_ ?_ ?_)) ⟨_,_,rfl,rfl⟩ ?_); (iterate 3 (exact sd)); rintro _ _ ⟨rfl,rfl⟩) | ((first | refine call0D (BCall.ofP (isInL_ok _ _ _ ?_ ?_)) ?_ | refine qcall0D (BCall.ofP (isInL_ok _ _ _ ?_ ?_)) ⟨_,_,rfl,rfl⟩ ?_); (iterate 2 (exact sd)); rintro _ _ ⟨rfl,rfl⟩)) <;> (try simp (disch := omega) only [push_cast,seval,hd2,hll,hil2,innL_TL,innL_LL]))
 | (refine awp_ret ⟨.inr rfl,_,rfl,?_⟩; (try simp (disch := omega) only [push_cast,seval,hd2,hll,hil2,innL_TL,innL_LL]))))
            refine awp_loop (fun j : Nat => mkS [(3,.rows true (TL true ts) ts.length),(4,.rows true (LL true ls) ls.length),(5,.own 384 e.length 1),(9,.own 864 (G j).length 1),(10,.int .i64 i),(11,.int .i64 j)] [(384,IL e),(864,IL (G j))]) (fun j => j ≤ l.length) (fun j => l.length - j) 0 (Nat.zero_le _) ?_ ?_
            · (refine Sub.of_lists ?_ ?_ ?_ ?_ ?_ <;> simp [Vw.mkS,Vw.lk,Vw.hk,AV.inn,innL,innL_ints,innL_append,innL_rep,-List.map_set,-List.getD_eq_getElem?_getD,hG0,innL_TL,innL_LL])
            · intro j hj
              by_cases hjl : j < l.length
              · have hk := hlx _ (getD_mem (xs := l) hjl)
                have hge := g2 j hjl
                obtain ⟨c,hc⟩ : ∃ c : Nat,l.getD j 0 = c := ⟨(l.getD j 0).toNat,by omega⟩
                have hgc : e.getD c 0 = x.getD j 0 := by rw [← hge]; unfold gE; rw [hc,Int.toNat_natCast]
                have hc5 : c < e.length := by omega
                have hjx : j < x.length := by omega
                have hst2 : G (j + 1) = G j ++ [(c : Int)] := by rw [hG,hG,take_succ_getD l j hjl,List.append_assoc,hc]
                have hul2 : (G j).length ≤ 100 := by rw [hG,List.length_append,List.length_take]; omega
                have hul3 : (G (j + 1)).length = (G j).length + 1 := by rw [hst2,List.length_append]; rfl
                clear hG hF hst
                (repeat' (first
 | (first | refine awp_seq ?_ | refine awp_block ?_)
 | ((first | refine awp_reg ?_ | refine awp_draw (mid := l4r14a) (post := l4r14b) mixed (by decide) ?_ | refine awp_draw (mid := l4r20a) (post := l4r20b) mixed (by decide) ?_ | refine awp_condB ?_ | refine awp_skip ?_ | refine awp_exit ?_); simp (disch := omega) only [push_cast,seval,l4r0,l4r1,l4r2,l4r3,l4r4,l4r5,l4r6,l4r7,l4r8,l4r9,l4r10,l4r11,l4r12,l4r13,l4r14a,l4r14b,l4r14,l4r15,l4r16,l4r17,l4r18,l4r19,l4r20a,l4r20b,l4r20,l4r21,l4r22,l4r23,hd,hd1,hd2,htl,hll,hil1,hil2,hc,hgc,innL_TL,innL_LL])
 | ((first | refine condB_split (fun h => ?_) (fun h => ?_) | refine gIf_split (fun h => ?_) (fun h => ?_) | refine qIf_split (fun h => ?_) (fun h => ?_)) <;> (try simp only [h]) <;> (try simp only [bitvec_to_nat] at h) <;> (try simp only [h]) <;> (first | (exfalso; omega) | (focus (exfalso; simp_all; done)) | (simp (disch := omega) only [push_cast,seval,hd,hd1,hd2,htl,hll,hil1,hil2,hc,hgc,innL_TL,innL_LL]) | skip))
 | ((first | refine callD_of false ?_ | refine qcallD_of false ?_); simp (disch := omega) only [push_cast,seval,hd,hd1,hd2,htl,hll,hil1,hil2,hc,hgc,innL_TL,innL_LL])
 | ((first | (refine call0D (BCall.ofP (drawEO_ok _ _ ?_ ?_)) ?_; (iterate 2 (exact sd)); rintro _ _ ⟨⟨ts,ls,out,hpf,rfl⟩,rfl⟩) | ((first | refine call0D (iExO_ok _ _ _ _ ?_ ?_ ?_) ?_ | refine qcall0D (iExO_ok _ _ _ _ ?_ ?_ ?_) ⟨_,_,rfl,rfl⟩ ?_); (iterate 3 (exact sd)); rintro _ _ ⟨rfl,rfl⟩) | ((first | refine call0D (sExO_ok _ _ _ _ ?_ ?_ ?_) ?_ | refine qcall0D (sExO_ok _ _ _ _ ?_ ?_ ?_) ⟨_,_,rfl,rfl⟩ ?_); (iterate 3 (exact sd)); rintro _ _ ⟨rfl,rfl⟩) | ((first | refine call0D (BCall.ofP (equalInts_ok _ _ _ _ ?_ ?_ ?_)) ?_ | refine qcall0D (BCall.ofP (equalInts_ok _ _ _ _ ?_ ?_ ?_)) ⟨_,_,rfl,rfl⟩ ?_); (iterate 3 (exact sd)); rintro _ _ ⟨rfl,rfl⟩) | ((first | refine call0D (BCall.ofP (isInL_ok _ _ _ ?_ ?_)) ?_ | refine qcall0D (BCall.ofP (isInL_ok _ _ _ ?_ ?_)) ⟨_,_,rfl,rfl⟩ ?_); (iterate 2 (exact sd)); rintro _ _ ⟨rfl,rfl⟩)) <;> (try simp (disch := omega) only [push_cast,seval,hd,hd1,hd2,htl,hll,hil1,hil2,hc,hgc,innL_TL,innL_LL]))
 | (refine awp_ret ⟨.inr rfl,_,rfl,?_⟩; (try simp (disch := omega) only [push_cast,seval,hd,hd1,hd2,htl,hll,hil1,hil2,hc,hgc,innL_TL,innL_LL]))))
                refine ⟨j + 1,by omega,by omega,?_⟩
                rw [hul3,hst2]
                (refine Sub.of_lists ?_ ?_ ?_ ?_ ?_ <;> simp [Vw.mkS,Vw.lk,Vw.hk,AV.inn,innL,innL_ints,innL_append,innL_rep,-List.map_set,-List.getD_eq_getElem?_getD,innL_TL,innL_LL])
              · have e2 : G j = F (i + 1) := by rw [hG,hst,hF i,List.take_of_length_le (l := l) (by omega)]
                rw [e2]
                clear hG hF hst e2 hG0
                (repeat' (first
 | (first | refine awp_seq ?_ | refine awp_block ?_)
 | ((first | refine awp_reg ?_ | refine awp_draw (mid := l4r14a) (post := l4r14b) mixed (by decide) ?_ | refine awp_draw (mid := l4r20a) (post := l4r20b) mixed (by decide) ?_ | refine awp_condB ?_ | refine awp_skip ?_ | refine awp_exit ?_); simp (disch := omega) only [push_cast,seval,l4r0,l4r1,l4r2,l4r3,l4r4,l4r5,l4r6,l4r7,l4r8,l4r9,l4r10,l4r11,l4r12,l4r13,l4r14a,l4r14b,l4r14,l4r15,l4r16,l4r17,l4r18,l4r19,l4r20a,l4r20b,l4r20,l4r21,l4r22,l4r23,hd2,hll,hil2,innL_TL,innL_LL])
 | ((first | refine condB_split (fun h => ?_) (fun h => ?_) | refine gIf_split (fun h => ?_) (fun h => ?_) | refine qIf_split (fun h => ?_) (fun h => ?_)) <;> (try simp only [h]) <;> (try simp only [bitvec_to_nat] at h) <;> (try simp only [h]) <;> (first | (exfalso; omega) | (focus (exfalso; simp_all; done)) | (simp (disch := omega) only [push_cast,seval,hd2,hll,hil2,innL_TL,innL_LL]) | skip))
 | ((first | refine callD_of false ?_ | refine qcallD_of false ?_); simp (disch := omega) only [push_cast,seval,hd2,hll,hil2,innL_TL,innL_LL])
 | ((first | (refine call0D (BCall.ofP (drawEO_ok _ _ ?_ ?_)) ?_; (iterate 2 (exact sd)); rintro _ _ ⟨⟨ts,ls,out,hpf,rfl⟩,rfl⟩) | ((first | refine call0D (iExO_ok _ _ _ _ ?_ ?_ ?_) ?_ | refine qcall0D (iExO_ok _ _ _ _ ?_ ?_ ?_) ⟨_,_,rfl,rfl⟩ ?_); (iterate 3 (exact sd)); rintro _ _ ⟨rfl,rfl⟩) | ((first | refine call0D (sExO_ok _ _ _ _ ?_ ?_ ?_) ?_ | refine qcall0D (sExO_ok _ _ _ _ ?_ ?_ ?_) ⟨_,_,rfl,rfl⟩ ?_); (iterate 3 (exact sd)); rintro _ _ ⟨rfl,rfl⟩) | ((first | refine call0D (BCall.ofP (equalInts_ok _ _ _ _ ?_ ?_ ?_)) ?_ | refine qcall0D (BCall.ofP (equalInts_ok _ _ _ _ ?_ ?_ ?_)) ⟨_,_,rfl,rfl⟩ ?_); (iterate 3 (exact sd)); rintro _ _ ⟨rfl,rfl⟩) | ((first | refine call0D (BCall.ofP (isInL_ok _ _ _ ?_ ?_)) ?_ | refine qcall0D (BCall.ofP (isInL_ok _ _ _ ?_ ?_)) ⟨_,_,rfl,rfl⟩ ?_); (iterate 2 (exact sd)); rintro _ _ ⟨rfl,rfl⟩)) <;> (try simp (disch := omega) only [push_cast,seval,hd2,hll,hil2,innL_TL,innL_LL]))
 | (refine awp_ret ⟨.inr rfl,_,rfl,?_⟩; (try simp (disch := omega) only [push_cast,seval,hd2,hll,hil2,innL_TL,innL_LL]))))
                refine ⟨i + 1,by omega,by omega,?_⟩
                (refine Sub.of_lists ?_ ?_ ?_ ?_ ?_ <;> simp [Vw.mkS,Vw.lk,Vw.hk,AV.inn,innL,innL_ints,innL_append,innL_rep,-List.map_set,-List.getD_eq_getElem?_getD,innL_TL,innL_LL])
          · have e2 : ls.take i = ls := List.take_of_length_le (by omega)
            have hu := hul i (by omega)
            rw [e2] at hu
            have e3 : F i = ls.flatten := by rw [hF,e2]
            rw [e3]
            clear hF e3
            have hin : ∀ k : Nat,k < 5 → (decide ((k : Int) ∈ ls.flatten) = decide (0 ≤ e.getD k 0)) := fun k hk => by
              by_cases hm : (k : Int) ∈ ls.flatten
              · have := f2 k hk hm
                simp only [hm,this.1,decide_true]
              · have := f1 k hk hm
                rw [decide_eq_false hm,decide_eq_false (by omega)]
            have hub : ls.flatten.length ≤ 1099511627776 := by omega
            generalize hU : ls.flatten = U at *
            (repeat' (first
 | (first | refine awp_seq ?_ | refine awp_block ?_)
 | ((first | refine awp_reg ?_ | refine awp_draw (mid := l4r14a) (post := l4r14b) mixed (by decide) ?_ | refine awp_draw (mid := l4r20a) (post := l4r20b) mixed (by decide) ?_ | refine awp_condB ?_ | refine awp_skip ?_ | refine awp_exit ?_); simp (disch := omega) only [push_cast,seval,l4r0,l4r1,l4r2,l4r3,l4r4,l4r5,l4r6,l4r7,l4r8,l4r9,l4r10,l4r11,l4r12,l4r13,l4r14a,l4r14b,l4r14,l4r15,l4r16,l4r17,l4r18,l4r19,l4r20a,l4r20b,l4r20,l4r21,l4r22,l4r23,innL_TL,innL_LL])
 | ((first | refine condB_split (fun h => ?_) (fun h => ?_) | refine gIf_split (fun h => ?_) (fun h => ?_) | refine qIf_split (fun h => ?_) (fun h => ?_)) <;> (try simp only [h]) <;> (try simp only [bitvec_to_nat] at h) <;> (try simp only [h]) <;> (first | (exfalso; omega) | (focus (exfalso; simp_all; done)) | (simp (disch := omega) only [push_cast,seval,innL_TL,innL_LL]) | skip))
 | ((first | refine callD_of false ?_ | refine qcallD_of false ?_); simp (disch := omega) only [push_cast,seval,innL_TL,innL_LL])
 | ((first | (refine call0D (BCall.ofP (drawEO_ok _ _ ?_ ?_)) ?_; (iterate 2 (exact sd)); rintro _ _ ⟨⟨ts,ls,out,hpf,rfl⟩,rfl⟩) | ((first | refine call0D (iExO_ok _ _ _ _ ?_ ?_ ?_) ?_ | refine qcall0D (iExO_ok _ _ _ _ ?_ ?_ ?_) ⟨_,_,rfl,rfl⟩ ?_); (iterate 3 (exact sd)); rintro _ _ ⟨rfl,rfl⟩) | ((first | refine call0D (sExO_ok _ _ _ _ ?_ ?_ ?_) ?_ | refine qcall0D (sExO_ok _ _ _ _ ?_ ?_ ?_) ⟨_,_,rfl,rfl⟩ ?_); (iterate 3 (exact sd)); rintro _ _ ⟨rfl,rfl⟩) | ((first | refine call0D (BCall.ofP (equalInts_ok _ _ _ _ ?_ ?_ ?_)) ?_ | refine qcall0D (BCall.ofP (equalInts_ok _ _ _ _ ?_ ?_ ?_)) ⟨_,_,rfl,rfl⟩ ?_); (iterate 3 (exact sd)); rintro _ _ ⟨rfl,rfl⟩) | ((first | refine call0D (BCall.ofP (isInL_ok _ _ _ ?_ ?_)) ?_ | refine qcall0D (BCall.ofP (isInL_ok _ _ _ ?_ ?_)) ⟨_,_,rfl,rfl⟩ ?_); (iterate 2 (exact sd)); rintro _ _ ⟨rfl,rfl⟩)) <;> (try simp (disch := omega) only [push_cast,seval,innL_TL,innL_LL]))
 | (refine awp_ret ⟨.inr rfl,_,rfl,?_⟩; (try simp (disch := omega) only [push_cast,seval,innL_TL,innL_LL]))))
            refine awp_loop (fun k : Nat => mkS [(5,.own 384 e.length 1),(9,.own 864 U.length 1),(12,.int .i64 k)] [(384,IL e),(864,IL U)]) (fun k => k ≤ 5) (fun k => 5 - k) 0 (Nat.zero_le _) ?_ ?_
            · (refine Sub.of_lists ?_ ?_ ?_ ?_ ?_ <;> simp [Vw.mkS,Vw.lk,Vw.hk,AV.inn,innL,innL_ints,innL_append,innL_rep,-List.map_set,-List.getD_eq_getElem?_getD])
            · intro k hk
              by_cases hk5 : k < 5
              · have hi5 := hin k hk5
                clear hin
                have hke : k < e.length := by omega
                (repeat' (first
 | (first | refine awp_seq ?_ | refine awp_block ?_)
 | ((first | refine awp_reg ?_ | refine awp_draw (mid := l4r14a) (post := l4r14b) mixed (by decide) ?_ | refine awp_draw (mid := l4r20a) (post := l4r20b) mixed (by decide) ?_ | refine awp_condB ?_ | refine awp_skip ?_ | refine awp_exit ?_); simp (disch := omega) only [push_cast,seval,l4r0,l4r1,l4r2,l4r3,l4r4,l4r5,l4r6,l4r7,l4r8,l4r9,l4r10,l4r11,l4r12,l4r13,l4r14a,l4r14b,l4r14,l4r15,l4r16,l4r17,l4r18,l4r19,l4r20a,l4r20b,l4r20,l4r21,l4r22,l4r23,h5,hi5,ne_eq,not_true_eq_false,decide_false])
 | ((first | refine condB_split (fun h => ?_) (fun h => ?_) | refine gIf_split (fun h => ?_) (fun h => ?_) | refine qIf_split (fun h => ?_) (fun h => ?_)) <;> (try simp only [h]) <;> (try simp only [bitvec_to_nat] at h) <;> (try simp only [h]) <;> (first | (exfalso; omega) | (focus (exfalso; simp_all; done)) | (simp (disch := omega) only [push_cast,seval,h5,hi5,ne_eq,not_true_eq_false,decide_false]) | skip))
 | ((first | refine callD_of false ?_ | refine qcallD_of false ?_); simp (disch := omega) only [push_cast,seval,h5,hi5,ne_eq,not_true_eq_false,decide_false])
 | ((first | (refine call0D (BCall.ofP (drawEO_ok _ _ ?_ ?_)) ?_; (iterate 2 (exact sd)); rintro _ _ ⟨⟨ts,ls,out,hpf,rfl⟩,rfl⟩) | ((first | refine call0D (iExO_ok _ _ _ _ ?_ ?_ ?_) ?_ | refine qcall0D (iExO_ok _ _ _ _ ?_ ?_ ?_) ⟨_,_,rfl,rfl⟩ ?_); (iterate 3 (exact sd)); rintro _ _ ⟨rfl,rfl⟩) | ((first | refine call0D (sExO_ok _ _ _ _ ?_ ?_ ?_) ?_ | refine qcall0D (sExO_ok _ _ _ _ ?_ ?_ ?_) ⟨_,_,rfl,rfl⟩ ?_); (iterate 3 (exact sd)); rintro _ _ ⟨rfl,rfl⟩) | ((first | refine call0D (BCall.ofP (equalInts_ok _ _ _ _ ?_ ?_ ?_)) ?_ | refine qcall0D (BCall.ofP (equalInts_ok _ _ _ _ ?_ ?_ ?_)) ⟨_,_,rfl,rfl⟩ ?_); (iterate 3 (exact sd)); rintro _ _ ⟨rfl,rfl⟩) | ((first | refine call0D (BCall.ofP (isInL_ok _ _ _ ?_ ?_)) ?_ | refine qcall0D (BCall.ofP (isInL_ok _ _ _ ?_ ?_)) ⟨_,_,rfl,rfl⟩ ?_); (iterate 2 (exact sd)); rintro _ _ ⟨rfl,rfl⟩)) <;> (try simp (disch := omega) only [push_cast,seval,h5,hi5,ne_eq,not_true_eq_false,decide_false]))
 | (refine awp_ret ⟨.inr rfl,_,rfl,?_⟩; (try simp (disch := omega) only [push_cast,seval,h5,hi5,ne_eq,not_true_eq_false,decide_false]))))
                all_goals first
                  | (refine ⟨k + 1,by omega,by omega,?_⟩
                     focus ((refine Sub.of_lists ?_ ?_ ?_ ?_ ?_ <;> simp [Vw.mkS,Vw.lk,Vw.hk,AV.inn,innL,innL_ints,innL_append,innL_rep,-List.map_set,-List.getD_eq_getElem?_getD]); done))
                  | simp
              · have hk' : ¬ (k : Int) < 5 := by omega
                clear hin
                (repeat' (first
 | (first | refine awp_seq ?_ | refine awp_block ?_)
 | ((first | refine awp_reg ?_ | refine awp_draw (mid := l4r14a) (post := l4r14b) mixed (by decide) ?_ | refine awp_draw (mid := l4r20a) (post := l4r20b) mixed (by decide) ?_ | refine awp_condB ?_ | refine awp_skip ?_ | refine awp_exit ?_); simp (disch := omega) only [push_cast,seval,l4r0,l4r1,l4r2,l4r3,l4r4,l4r5,l4r6,l4r7,l4r8,l4r9,l4r10,l4r11,l4r12,l4r13,l4r14a,l4r14b,l4r14,l4r15,l4r16,l4r17,l4r18,l4r19,l4r20a,l4r20b,l4r20,l4r21,l4r22,l4r23,h5,hk',decide_true])
 | ((first | refine condB_split (fun h => ?_) (fun h => ?_) | refine gIf_split (fun h => ?_) (fun h => ?_) | refine qIf_split (fun h => ?_) (fun h => ?_)) <;> (try simp only [h]) <;> (try simp only [bitvec_to_nat] at h) <;> (try simp only [h]) <;> (first | (exfalso; omega) | (focus (exfalso; simp_all; done)) | (simp (disch := omega) only [push_cast,seval,h5,hk',decide_true]) | skip))
 | ((first | refine callD_of false ?_ | refine qcallD_of false ?_); simp (disch := omega) only [push_cast,seval,h5,hk',decide_true])
 | ((first | (refine call0D (BCall.ofP (drawEO_ok _ _ ?_ ?_)) ?_; (iterate 2 (exact sd)); rintro _ _ ⟨⟨ts,ls,out,hpf,rfl⟩,rfl⟩) | ((first | refine call0D (iExO_ok _ _ _ _ ?_ ?_ ?_) ?_ | refine qcall0D (iExO_ok _ _ _ _ ?_ ?_ ?_) ⟨_,_,rfl,rfl⟩ ?_); (iterate 3 (exact sd)); rintro _ _ ⟨rfl,rfl⟩) | ((first | refine call0D (sExO_ok _ _ _ _ ?_ ?_ ?_) ?_ | refine qcall0D (sExO_ok _ _ _ _ ?_ ?_ ?_) ⟨_,_,rfl,rfl⟩ ?_); (iterate 3 (exact sd)); rintro _ _ ⟨rfl,rfl⟩) | ((first | refine call0D (BCall.ofP (equalInts_ok _ _ _ _ ?_ ?_ ?_)) ?_ | refine qcall0D (BCall.ofP (equalInts_ok _ _ _ _ ?_ ?_ ?_)) ⟨_,_,rfl,rfl⟩ ?_); (iterate 3 (exact sd)); rintro _ _ ⟨rfl,rfl⟩) | ((first | refine call0D (BCall.ofP (isInL_ok _ _ _ ?_ ?_)) ?_ | refine qcall0D (BCall.ofP (isInL_ok _ _ _ ?_ ?_)) ⟨_,_,rfl,rfl⟩ ?_); (iterate 2 (exact sd)); rintro _ _ ⟨rfl,rfl⟩)) <;> (try simp (disch := omega) only [push_cast,seval,h5,hk',decide_true]))
 | (refine awp_ret ⟨.inr rfl,_,rfl,?_⟩; (try simp (disch := omega) only [push_cast,seval,h5,hk',decide_true]))))
                all_goals (try simp [h5])
  · (repeat' (first
 | (first | refine awp_seq ?_ | refine awp_block ?_)
 | ((first | refine awp_reg ?_ | refine awp_draw (mid := l4r14a) (post := l4r14b) mixed (by decide) ?_ | refine awp_draw (mid := l4r20a) (post := l4r20b) mixed (by decide) ?_ | refine awp_condB ?_ | refine awp_skip ?_ | refine awp_exit ?_); simp (disch := omega) only [push_cast,seval,l4r0,l4r1,l4r2,l4r3,l4r4,l4r5,l4r6,l4r7,l4r8,l4r9,l4r10,l4r11,l4r12,l4r13,l4r14a,l4r14b,l4r14,l4r15,l4r16,l4r17,l4r18,l4r19,l4r20a,l4r20b,l4r20,l4r21,l4r22,l4r23])
 | ((first | refine condB_split (fun h => ?_) (fun h => ?_) | refine gIf_split (fun h => ?_) (fun h => ?_) | refine qIf_split (fun h => ?_) (fun h => ?_)) <;> (try simp only [h]) <;> (try simp only [bitvec_to_nat] at h) <;> (try simp only [h]) <;> (first | (exfalso; omega) | (focus (exfalso; simp_all; done)) | (simp (disch := omega) only [push_cast,seval]) | skip))
 | ((first | refine callD_of false ?_ | refine qcallD_of false ?_); simp (disch := omega) only [push_cast,seval])
 | ((first | (refine call0D (BCall.ofP (drawEO_ok _ _ ?_ ?_)) ?_; (iterate 2 (exact sd)); rintro _ _ ⟨⟨ts,ls,out,hpf,rfl⟩,rfl⟩) | ((first | refine call0D (iExO_ok _ _ _ _ ?_ ?_ ?_) ?_ | refine qcall0D (iExO_ok _ _ _ _ ?_ ?_ ?_) ⟨_,_,rfl,rfl⟩ ?_); (iterate 3 (exact sd)); rintro _ _ ⟨rfl,rfl⟩) | ((first | refine call0D (sExO_ok _ _ _ _ ?_ ?_ ?_) ?_ | refine qcall0D (sExO_ok _ _ _ _ ?_ ?_ ?_) ⟨_,_,rfl,rfl⟩ ?_); (iterate 3 (exact sd)); rintro _ _ ⟨rfl,rfl⟩) | ((first | refine call0D (BCall.ofP (equalInts_ok _ _ _ _ ?_ ?_ ?_)) ?_ | refine qcall0D (BCall.ofP (equalInts_ok _ _ _ _ ?_ ?_ ?_)) ⟨_,_,rfl,rfl⟩ ?_); (iterate 3 (exact sd)); rintro _ _ ⟨rfl,rfl⟩) | ((first | refine call0D (BCall.ofP (isInL_ok _ _ _ ?_ ?_)) ?_ | refine qcall0D (BCall.ofP (isInL_ok _ _ _ ?_ ?_)) ⟨_,_,rfl,rfl⟩ ?_); (iterate 2 (exact sd)); rintro _ _ ⟨rfl,rfl⟩)) <;> (try simp (disch := omega) only [push_cast,seval]))
 | (refine awp_ret ⟨.inr rfl,_,rfl,?_⟩; (try simp (disch := omega) only [push_cast,seval]))))

end Go.Proofs.Ytejbfjmiidofcaa
