import Derived.Test.YtejbfjmiidofcaaCKp13
import Derived.Test.YtejbfjmiidofcaaCM1
import Derived.Test.YtejbfjmiidofcaaCW3
set_option linter.unusedSimpArgs false
set_option linter.unusedVariables false
set_option maxRecDepth 4000
set_option maxHeartbeats 4000000
namespace Go.Proofs.Ytejbfjmiidofcaa
open VwM Vw Go

/-- What some tensors agree on,others with the same extents do. -/
theorem exO_sub {e : List Int} (us : List Tn) (ms : List (List Int)) (h1 : 1 ≤ us.length ∧ us.length ≤ 3) (h2 : ms.length = us.length)
    (h3 : ∀ (i : Nat) (t : Tn) (l : List Int),us[i]? = some t → ms[i]? = some l → vT t = true ∧ l.length = t.1.length ∧ (∀ x ∈ l,0 ≤ x ∧ x ≤ 4) ∧ ∀ j,j < l.length → gE e (l.getD j 0) = t.1.getD j 0) : ∃ e',exO us ms = some e' ∧ ∀ x ∈ ms.flatten,gE e' x = gE e x := by
  have hv : us.all vT = true := List.all_eq_true.2 fun t ht => by
    obtain ⟨i,hi⟩ := List.mem_iff_getElem?.1 ht
    have hil := (List.getElem?_eq_some_iff.1 hi).1
    exact (h3 i t _ hi (List.getElem?_eq_getElem (by omega))).1
  have hlab : labOk us ms = true := List.all_eq_true.2 fun p hp => by
    obtain ⟨i,hi⟩ := List.mem_iff_getElem?.1 hp
    obtain ⟨a,b⟩ := List.getElem?_zip_eq_some.1 hi
    obtain ⟨_,c,d,_⟩ := h3 i _ _ b a
    rw [Bool.and_eq_true,decide_eq_true_eq,allI_iff]
    exact ⟨c,d⟩
  obtain ⟨e',he'⟩ := extG_ok (f := fun k => e.getD k 0) (prsOf us ms) (e := ext0) (fun p hp => by
    obtain ⟨i,t,l,j,ht,hl,hj,hj2,rfl⟩ := mem_prs hp
    obtain ⟨_,c,d,g⟩ := h3 i t l ht hl
    have := d _ (getD_mem hj)
    exact ⟨by rw [ext0_length]; omega,g j hj⟩) (fun k hk h0 => by
    rw [ext0_length] at hk
    have : ext0.getD k 0 = -1 := by
      have : k = 0 ∨ k = 1 ∨ k = 2 ∨ k = 3 ∨ k = 4 := by omega
      rcases this with rfl | rfl | rfl | rfl | rfl <;> rfl
    omega)
  have hx : exO us ms = some e' := by
    unfold exO exT
    rw [hv,hlab,if_pos rfl,he',if_pos]
    simp only [Bool.true_and,Bool.and_eq_true,decide_eq_true_eq]
    exact ⟨h1,h2⟩
  refine ⟨e',hx,fun x hxm => ?_⟩
  obtain ⟨_,_,_,_,_,f5,_,_⟩ := exO_facts hx
  obtain ⟨l,hl,hxl⟩ := List.mem_flatten.1 hxm
  obtain ⟨i,hi⟩ := List.mem_iff_getElem?.1 hl
  obtain ⟨j,hj,rfl⟩ := mem_getD.1 hxl
  have hil := (List.getElem?_eq_some_iff.1 hi).1
  have ht : us[i]? = some (us[i]'(by omega)) := List.getElem?_eq_getElem _
  rw [(f5 i _ l ht hi).2 j hj,(h3 i _ l ht hi).2.2.2 j hj]
/-- Two of the tensors alone. -/
theorem exO_two {ts : List Tn} {ls : List (List Int)} {e : List Int} (hx : exO ts ls = some e) {p q : Nat} {t u : Tn} {a b : List Int} (ht : ts[p]? = some t) (hu : ts[q]? = some u) (ha : ls[p]? = some a) (hb : ls[q]? = some b) :
    ∃ e',exO [t,u] [a,b] = some e' ∧ pr (spE e') = pr (spE (selE e (a ++ b))) := by
  obtain ⟨h5,f1,f2,f3,f4,f5,f6,f7⟩ := exO_facts hx
  obtain ⟨e',h1,h2⟩ := exO_sub (e := e) [t,u] [a,b] (by simp) rfl (fun i t' l' ht' hl' => by
    have hi : i = 0 ∨ i = 1 := by have := (List.getElem?_eq_some_iff.1 ht').1; simp at this; omega
    rcases hi with rfl | rfl
    · simp at ht' hl'; subst ht' hl'
      obtain ⟨g1,g2⟩ := f5 p t a ht ha
      exact ⟨f6 t (List.mem_of_getElem? ht),g1,fun x hx => f4 x (List.mem_flatten.2 ⟨a,List.mem_of_getElem? ha,hx⟩),g2⟩
    · simp at ht' hl'; subst ht' hl'
      obtain ⟨g1,g2⟩ := f5 q u b hu hb
      exact ⟨f6 u (List.mem_of_getElem? hu),g1,fun x hx => f4 x (List.mem_flatten.2 ⟨b,List.mem_of_getElem? hb,hx⟩),g2⟩)
  refine ⟨e',h1,?_⟩
  obtain ⟨k5,g1,g2,g3,g4,g5,g6,g7⟩ := exO_facts h1
  have hfl : ([a,b] : List (List Int)).flatten = a ++ b := by simp
  rw [hfl] at g1 g2 h2
  rw [spE_lbS (U := a ++ b) k5 g1 (fun k hk hm => (g2 k hk hm).1),selE_cost (e := e) (U := a ++ b) fun k hk hm => (f2 k hk (by rcases List.mem_append.1 hm with h | h; exact List.mem_flatten.2 ⟨a,List.mem_of_getElem? ha,h⟩; exact List.mem_flatten.2 ⟨b,List.mem_of_getElem? hb,h⟩)).1]
  congr 1
  exact List.map_congr_left fun x hx => h2 x (mem_lbS.1 hx).2
theorem cbI_comm (ts : List Tn) (ls : List (List Int)) (out : List Int) (i j : Int) : cbI ts ls out j i = cbI ts ls out i j := by
  unfold cbI
  cases hx : exP ts ls out with
  | none => rfl
  | some e =>
    simp only
    have hp : pairB j i ts.length = pairB i j ts.length := by
      unfold pairB
      rw [Bool.eq_iff_iff]
      simp only [Bool.and_eq_true,Bool.not_eq_true',decide_eq_false_iff_not,decide_eq_true_eq]
      omega
    rw [hp]
    split
    · unfold cbN; rw [cbE_comm]
    · rfl
theorem cbI_pos {ts : List Tn} {ls : List (List Int)} {out : List Int} {i j : Int} (h : ¬ cbI ts ls out i j < 0) : ∃ (e : List Int) (p q : Nat),exP ts ls out = some e ∧ i = p ∧ j = q ∧ p < ts.length ∧ q < ts.length ∧ p ≠ q ∧ cbI ts ls out i j = cbN e ls out p q := by
  unfold cbI at h ⊢
  cases hx : exP ts ls out with
  | none => rw [hx] at h; simp at h
  | some e =>
    rw [hx] at h
    simp only at h ⊢
    cases hp : pairB i j ts.length with
    | false => rw [hp] at h; simp at h
    | true =>
      obtain ⟨p,q,rfl,rfl,h1,h2,h3⟩ := pairB_nat hp
      exact ⟨e,p,q,rfl,rfl,rfl,h1,h2,h3,by simp⟩
theorem prodF_b {ts : List Tn} {ls : List (List Int)} {out : List Int} (h : prodF ts ls out) : ts.length ≤ 1099511627776 ∧ ls.length ≤ 1099511627776 ∧ (∀ t ∈ ts,t.1.length ≤ 1099511627776 ∧ t.2.length ≤ 1099511627776) ∧ ∀ l ∈ ls,l.length ≤ 1099511627776 := by
  obtain ⟨h1,h2,h3,h4⟩ := h
  exact ⟨by omega,by omega,fun t ht => by have := h2 t ht; omega,fun l hl => by have := h3 l hl; omega⟩
theorem prodF_c {ts : List Tn} {ls : List (List Int)} {out : List Int} (h : prodF ts ls out) : ts.length ≤ 1048576 ∧ ls.length ≤ 1048576 ∧ out.length ≤ 1048576 ∧ (∀ t ∈ ts,t.1.length ≤ 1048576 ∧ t.2.length ≤ 1048576) ∧ ∀ l ∈ ls,l.length ≤ 1048576 := by
  obtain ⟨h1,h2,h3,h4⟩ := h
  exact ⟨by omega,by omega,by omega,fun t ht => by have := h2 t ht; omega,fun l hl => by have := h3 l hl; omega⟩


theorem vT_zero {x y : List Int} (h : vT (x,y) = true) : vT (x,List.replicate y.length 0) = true := by
  obtain ⟨h1,h2,_⟩ := vT_spec.1 h
  refine vT_spec.2 ⟨h1,by simpa using h2,fun v hv => ?_⟩
  rw [(List.mem_replicate.1 hv).2]; omega

end Go.Proofs.Ytejbfjmiidofcaa
