import Derived.Test.YtejbfjmiidofcaaCKp17
import Derived.Test.YtejbfjmiidofcaaCM1
import Derived.Test.YtejbfjmiidofcaaCW3
set_option linter.unusedSimpArgs false
set_option linter.unusedVariables false
set_option maxRecDepth 4000
set_option maxHeartbeats 4000000
namespace Go.Proofs.Ytejbfjmiidofcaa
open VwM Vw Go

theorem VLt_drop : ∀ (vs : List Vw3) (i : Nat) {v : Vw3},vs[i]? = some v → ((VLt vs).drop (i * 3)).take 3 = [.int .i64 v.1,.rows true (IL v.2.1) v.2.1.length,.rows true (IL v.2.2) v.2.2.length]
  | [],_,_,h => by simp at h
  | w :: r,0,v,h => by simp at h; subst h; simp [VLt]
  | w :: r,i + 1,v,h => by
    rw [show (i + 1) * 3 = i * 3 + 1 + 1 + 1 by omega]
    simp only [VLt,List.drop_succ_cons]
    exact VLt_drop r i (by simpa using h)
theorem mem_hoT {vs : List Vw3} {k x : Int} {n : Nat} : x ∈ hoT vs k n ↔ ∃ j : Nat,j < n ∧ k ∈ atV vs j ∧ (j : Int) = x := by
  simp only [hoT,List.mem_map,List.mem_filter,List.mem_range,decide_eq_true_eq,and_assoc]
theorem hoT_sorted (vs : List Vw3) (k : Int) (n : Nat) : (hoT vs k n).Pairwise (· < ·) := by
  unfold hoT
  refine List.pairwise_map.2 (List.Pairwise.imp ?_ (List.Pairwise.filter _ (List.pairwise_lt_range (n := n))))
  intro a b h
  omega
theorem atV_some {vs : List Vw3} {j : Nat} {v : Vw3} (h : vs[j]? = some v) : atV vs j = offs v.1 v.2.1 v.2.2 := by unfold atV; rw [h]
theorem til_facts {vs : List Vw3} {k : Int} (h : tiB vs k = true) : vvB vs = true ∧ (0 ≤ k ∧ k ≤ 60) ∧ (allO vs).Nodup ∧ (∀ x ∈ allO vs,0 ≤ x ∧ x ≤ k - 1) ∧ ∀ x,0 ≤ x → x < k → x ∈ allO vs := by
  unfold tiB at h
  simp only [Bool.and_eq_true,decide_eq_true_eq] at h
  obtain ⟨⟨hv,hk0,hk1⟩,h1,h2⟩ := h
  obtain ⟨n,rfl⟩ : ∃ n : Nat,k = n := ⟨k.toNat,by omega⟩
  rw [Int.toNat_natCast] at h1
  obtain ⟨h8,hall⟩ := vvB_spec.1 hv
  have hc : ∀ x ∈ allO vs,0 ≤ x ∧ x ≤ 59 := fun x hx => by
    obtain ⟨v,hv,hx⟩ := List.mem_flatMap.1 hx
    have := vV_cells (hall v hv) x hx
    omega
  obtain ⟨d1,d2,d3⟩ := (ti_iff (n := n) hc (by omega)).1 ⟨h1,h2⟩
  refine ⟨hv,by omega,d1,d2,fun x hx0 hx1 => ?_⟩
  have : x ∈ atL (cnt (allO vs)) 1 := by
    rw [h1,mem_nums]
    exact ⟨x.toNat,by omega,by omega⟩
  exact cnt_pos.1 (by have := (mem_atL.1 this).2; omega)
theorem allO_disj {vs : List Vw3} (h : (allO vs).Nodup) {i j : Nat} {v w : Vw3} (hi : vs[i]? = some v) (hj : vs[j]? = some w) (hij : i ≠ j) {x : Int} (hx : x ∈ offs v.1 v.2.1 v.2.2) : x ∉ offs w.1 w.2.1 w.2.2 := by
  have hp : vs.Pairwise fun a b => ∀ x ∈ offs a.1 a.2.1 a.2.2,x ∉ offs b.1 b.2.1 b.2.2 := by
    unfold allO at h
    induction vs with
    | nil => exact .nil
    | cons a r ih =>
      rw [List.flatMap_cons,List.nodup_append] at h
      clear hi hj
      refine List.pairwise_cons.2 ⟨fun b hb x hxa hxb => h.2.2 x hxa x (List.mem_flatMap.2 ⟨b,hb,hxb⟩) rfl,?_⟩
      have h2 := h.2.1
      clear h ih
      induction r with
 | nil => exact .nil
 | cons a r ih =>
        rw [List.flatMap_cons,List.nodup_append] at h2
        exact List.pairwise_cons.2 ⟨fun b hb x hxa hxb => h2.2.2 x hxa x (List.mem_flatMap.2 ⟨b,hb,hxb⟩) rfl,ih h2.2.1⟩
  obtain ⟨hil,hie⟩ := List.getElem?_eq_some_iff.1 hi
  obtain ⟨hjl,hje⟩ := List.getElem?_eq_some_iff.1 hj
  rcases Nat.lt_or_gt_of_ne hij with hlt | hlt
  · have := List.pairwise_iff_getElem.1 hp i j hil hjl hlt
    rw [hie,hje] at this
    exact this x hx
  · have := List.pairwise_iff_getElem.1 hp j i hjl hil hlt
    rw [hie,hje] at this
    exact fun hw => this x hw hx
theorem allO_one {vs : List Vw3} (h : (allO vs).Nodup) {i : Nat} {v : Vw3} (hi : vs[i]? = some v) : (offs v.1 v.2.1 v.2.2).Nodup := by
  unfold allO at h
  induction vs generalizing i with
  | nil => simp at hi
  | cons a r ih =>
    rw [List.flatMap_cons,List.nodup_append] at h
    cases i with
    | zero => simp at hi; subst hi; exact h.1
    | succ i => exact ih h.2.1 (by simpa using hi)
theorem hold_one {vs : List Vw3} {k x : Int} (h : tiB vs k = true) (h0 : 0 ≤ x) (h1 : x < k) : (MVL (vvB vs) (hoT vs x vs.length)).length = 1 := by
  obtain ⟨hv,hk,hd,hb,hall⟩ := til_facts h
  obtain ⟨v,hvm,hxv⟩ := List.mem_flatMap.1 (hall x h0 h1)
  obtain ⟨j,hj⟩ := List.mem_iff_getElem?.1 hvm
  have hjl := (List.getElem?_eq_some_iff.1 hj).1
  have he : hoT vs x vs.length = [(j : Int)] := by
    refine sorted_ext (hoT_sorted _ _ _) (List.pairwise_singleton ..) fun y => ?_
    rw [mem_hoT,List.mem_singleton]
    constructor
    · rintro ⟨i,hil,hxi,rfl⟩
      obtain ⟨w,hw⟩ : ∃ w,vs[i]? = some w := ⟨_,List.getElem?_eq_getElem hil⟩
      rw [atV_some hw] at hxi
      by_cases e : i = j
      · rw [e]
      · exact absurd hxv (allO_disj hd hw hj e hxi)
    · rintro rfl
      exact ⟨j,hjl,by rw [atV_some hj]; exact hxv,rfl⟩
  rw [hv,he]
  rfl
theorem til_do {vs : List Vw3} {k : Int} (h : tiB vs k = true) {i j : Nat} {v w : Vw3} (hi : vs[i]? = some v) (hj : vs[j]? = some w) (hij : i ≠ j) : doB v.1 v.2.1 v.2.2 w.1 w.2.1 w.2.2 = false := by
  obtain ⟨hv,hk,hd,hb,hall⟩ := til_facts h
  unfold doB
  have : (bothL (offs v.1 v.2.1 v.2.2) (offs w.1 w.2.1 w.2.2)) = [] := List.eq_nil_iff_forall_not_mem.2 fun x hx => by
    unfold bothL at hx
    have := (List.mem_filter.1 hx).2
    rw [decide_eq_true_eq] at this
    exact allO_disj hd hi hj hij this.1 this.2
  rw [this]
  unfold MVL
  split <;> simp
theorem til_fit {vs : List Vw3} {k : Int} (h : tiB vs k = true) {i : Nat} {v : Vw3} (hi : vs[i]? = some v) : oneB v.1 v.2.1 v.2.2 = true ∧ fitB v.1 v.2.1 v.2.2 k = true := by
  obtain ⟨hv,hk,hd,hb,hall⟩ := til_facts h
  have hvv := (vvB_spec.1 hv).2 v (List.mem_of_getElem? hi)
  refine ⟨by unfold oneB; rw [hvv,decide_eq_true (allO_one hd hi)]; rfl,?_⟩
  unfold fitB
  rw [hvv]
  simp only [Bool.true_and,Bool.and_eq_true,decide_eq_true_eq]
  exact ⟨hk,allI_iff.2 fun x hx => hb x (List.mem_flatMap.2 ⟨v,List.mem_of_getElem? hi,hx⟩)⟩
theorem tilF_b {vs : List Vw3} {k : Int} (h : tilF vs k) : vs.length ≤ 1099511627776 ∧ ∀ v ∈ vs,v.2.1.length ≤ 1099511627776 ∧ v.2.2.length ≤ 1099511627776 := by
  obtain ⟨h1,h2,h3⟩ := h
  exact ⟨by omega,fun v hv => by have := h2 v hv; omega⟩


set_option maxHeartbeats 8000000 in
theorem drawTilB_ok (bs : List Int) (n : Nat) (hn : bs.length = n) (hb : n ≤ 1099511627776 ∧ ∀ x ∈ bs,0 ≤ x ∧ x ≤ 255) : BCall Try.prog 29 [.rows false (UL bs) n] [] (fun r H' => ∃ (vs : List Vw3) (k : Int),tilF vs k ∧ r = .tup [.own 0 vs.length 3,.int .i64 k] ∧ H' = [VLt vs]) := by
  refine bcall_of (pins := []) (pin := 0) l29_eq rfl rfl rfl ?_
  (repeat' (first
 | (first | refine awp_seq ?_ | refine awp_block ?_)
 | ((first | refine awp_reg ?_ | refine awp_condB ?_ | refine awp_skip ?_ | refine awp_exit ?_); simp (disch := omega) only [push_cast,seval,l29r0,l29r1,innL_VLt])
 | ((first | refine condB_split (fun h => ?_) (fun h => ?_) | refine gIf_split (fun h => ?_) (fun h => ?_) | refine qIf_split (fun h => ?_) (fun h => ?_)) <;> (try simp only [h]) <;> (try simp only [bitvec_to_nat] at h) <;> (try simp only [h]) <;> (first | (exfalso; omega) | (focus (exfalso; simp_all; done)) | (simp (disch := omega) only [push_cast,seval,innL_VLt]) | skip))
 | ((first | ((with_reducible refine callD_of (f := 40) true ?_); simp (disch := omega) only [push_cast,seval,innL_VLt]; (refine call0D (newReader_ok _ _ ?_ ?_) ?_; (iterate 2 (exact sd)); rintro _ _ ⟨bs0,hbs0,rfl,rfl⟩)) | ((with_reducible refine callD_ids (f := 61) [80] true ?_); simp (disch := omega) only [push_cast,seval,innL_VLt]; (refine call1D (id := 80) (tiling_ok _ _ ?_ ?_) (by first | ((simp (disch := omega) only [push_cast,seval,innL_VLt]); done) | ((simp (disch := omega) only [push_cast,seval,innL_VLt]); rfl)) ?_; (iterate 2 (exact sd)); rintro _ _ ⟨vs,k,q,htf,hq,rfl,rfl⟩))) <;> (try simp (disch := omega) only [push_cast,seval,innL_VLt]))))
  all_goals ((refine awp_ret ⟨.inr rfl,[96],[],_,by decide,rfl,?_⟩; (try simp (disch := omega) only [push_cast,seval,↓allMem_nil,↓allMem_cons,↓List.map_cons,↓List.map_nil,innL_VLt])); exact ⟨vs,k,htf,rfl,rfl⟩)
theorem drawTil_ok (bs : List Int) (n : Nat) (hn : bs.length = n) (hb : n ≤ 1099511627776 ∧ ∀ x ∈ bs,0 ≤ x ∧ x ≤ 255) : PCall Try.prog 29 [.rows false (UL bs) n] (fun r => ∃ (vs : List Vw3) (k : Int),tilF vs k ∧ r = .tup [.rows true (VLt vs) vs.length,.int .i64 k]) := by
  refine (BCall.plain (drawTilB_ok bs n hn hb)).mono ?_
  rintro r ⟨r0,H',⟨vs,k,htf,rfl,rfl⟩,rfl⟩
  refine ⟨vs,k,htf,?_⟩
  have e := ren_VLs17 (ρ := fun _ => none) (Zh := nthH [VLt vs]) (b0 := true) (n := 1) vs
  simp [AV.ren,nthH,VLt_length]
  exact e


set_option maxHeartbeats 32000000 in
theorem fTil_ok (bs : List Int) (hl : bs.length ≤ 9223372036854775807) (hb : ∀ x ∈ bs,0 ≤ x ∧ x ≤ 255) : PCall Try.prog 8 [.rows false (UL bs) bs.length] (fun r => r = .bool true) := by
  refine pcall_of l8_eq rfl ?_
  by_cases h : bs.length ≤ 1048576
  · have q : bs.length ≤ 1099511627776 ∧ ∀ x ∈ bs,0 ≤ x ∧ x ≤ 255 := ⟨by omega,hb⟩
    (repeat' (first
 | (refine awp_joinL (c1 := .reg l8r3) (fun x : List Vw3 × Int => mkS [(3,.rows true (VLt x.1) x.1.length),(4,.int .i64 x.2)] []) (fun x => tilF x.1 x.2) ?_ ?_)
 | (first | refine awp_seq ?_ | refine awp_block ?_)
 | ((first | refine awp_reg ?_ | refine awp_draw (mid := l8r16a) (post := l8r16b) mixed (by decide) ?_ | refine awp_condB ?_ | refine awp_skip ?_ | refine awp_exit ?_); simp (disch := omega) only [push_cast,seval,l8r0,l8r1,l8r2,l8r3,l8r4,l8r5,l8r6,l8r7,l8r8,l8r9,l8r10,l8r11,l8r12,l8r13,l8r14,l8r15,l8r16a,l8r16b,l8r16,l8r17,l8r18,l8r19,l8r20,l8r21,l8r22,innL_VLt])
 | ((first | refine condB_split (fun h => ?_) (fun h => ?_) | refine gIf_split (fun h => ?_) (fun h => ?_) | refine qIf_split (fun h => ?_) (fun h => ?_)) <;> (try simp only [h]) <;> (try simp only [bitvec_to_nat] at h) <;> (try simp only [h]) <;> (first | (exfalso; omega) | (focus (exfalso; simp_all; done)) | (simp (disch := omega) only [push_cast,seval,innL_VLt]) | skip))
 | ((first | refine callD_of false ?_ | refine qcallD_of false ?_); simp (disch := omega) only [push_cast,seval,innL_VLt])
 | ((first | (refine call0D (BCall.ofP (drawTil_ok _ _ ?_ ?_)) ?_; (iterate 2 (exact sd)); rintro _ _ ⟨⟨vs,k,htf,rfl⟩,rfl⟩) | ((first | refine call0D (BCall.ofP (iTi_ok _ _ _ ?_ ?_)) ?_ | refine qcall0D (BCall.ofP (iTi_ok _ _ _ ?_ ?_)) ⟨_,_,rfl,rfl⟩ ?_); (iterate 2 (exact sd)); rintro _ _ ⟨rfl,rfl⟩) | ((first | refine call0D (BCall.ofP (sTi_ok _ _ _ ?_ ?_)) ?_ | refine qcall0D (BCall.ofP (sTi_ok _ _ _ ?_ ?_)) ⟨_,_,rfl,rfl⟩ ?_); (iterate 2 (exact sd)); rintro _ _ ⟨rfl,rfl⟩) | ((first | refine call0D (iHo_ok _ _ _ ?_ ?_) ?_ | refine qcall0D (iHo_ok _ _ _ ?_ ?_) ⟨_,_,rfl,rfl⟩ ?_); (iterate 2 (exact sd)); rintro _ _ ⟨rfl,rfl⟩) | ((first | refine call0D (BCall.ofP (iDo_ok _ _ _ _ _ _ _ _ _ _ ?_ ?_ ?_ ?_ ?_)) ?_ | refine qcall0D (BCall.ofP (iDo_ok _ _ _ _ _ _ _ _ _ _ ?_ ?_ ?_ ?_ ?_)) ⟨_,_,rfl,rfl⟩ ?_); (iterate 5 (exact sd)); rintro _ _ ⟨rfl,rfl⟩) | ((first | refine call0D (BCall.ofP (iIsOneToOne_ok _ _ _ _ _ ?_ ?_ ?_)) ?_ | refine qcall0D (BCall.ofP (iIsOneToOne_ok _ _ _ _ _ ?_ ?_ ?_)) ⟨_,_,rfl,rfl⟩ ?_); (iterate 3 (exact sd)); rintro _ _ ⟨rfl,rfl⟩) | ((first | refine call0D (BCall.ofP (iFitsIn_ok _ _ _ _ _ _ ?_ ?_ ?_)) ?_ | refine qcall0D (BCall.ofP (iFitsIn_ok _ _ _ _ _ _ ?_ ?_ ?_)) ⟨_,_,rfl,rfl⟩ ?_); (iterate 3 (exact sd)); rintro _ _ ⟨rfl,rfl⟩)) <;> (try simp (disch := omega) only [push_cast,seval,innL_VLt]))
 | (refine awp_ret ⟨.inr rfl,_,rfl,?_⟩; (try simp (disch := omega) only [push_cast,seval,innL_VLt]))))
    · refine ⟨(vs,k),htf,?_⟩
      (refine Sub.of_lists ?_ ?_ ?_ ?_ ?_ <;> simp [Vw.mkS,Vw.lk,Vw.hk,AV.inn,innL,innL_ints,innL_append,innL_rep,-List.map_set,-List.getD_eq_getElem?_getD,innL_VLt])
    · refine ⟨?_⟩
      rintro ⟨vs,k⟩ htf
      try simp only at htf ⊢
      have hq := tilF_b htf
      have hvl := VLt_length vs
      cases ht : tiB vs k with
 | false =>
        (repeat' (first
 | (first | refine awp_seq ?_ | refine awp_block ?_)
 | ((first | refine awp_reg ?_ | refine awp_draw (mid := l8r16a) (post := l8r16b) mixed (by decide) ?_ | refine awp_condB ?_ | refine awp_skip ?_ | refine awp_exit ?_); simp (disch := omega) only [push_cast,seval,l8r0,l8r1,l8r2,l8r3,l8r4,l8r5,l8r6,l8r7,l8r8,l8r9,l8r10,l8r11,l8r12,l8r13,l8r14,l8r15,l8r16a,l8r16b,l8r16,l8r17,l8r18,l8r19,l8r20,l8r21,l8r22,ht,decide_true,innL_VLt])
 | ((first | refine condB_split (fun h => ?_) (fun h => ?_) | refine gIf_split (fun h => ?_) (fun h => ?_) | refine qIf_split (fun h => ?_) (fun h => ?_)) <;> (try simp only [h]) <;> (try simp only [bitvec_to_nat] at h) <;> (try simp only [h]) <;> (first | (exfalso; omega) | (focus (exfalso; simp_all; done)) | (simp (disch := omega) only [push_cast,seval,ht,decide_true,innL_VLt]) | skip))
 | ((first | refine callD_of false ?_ | refine qcallD_of false ?_); simp (disch := omega) only [push_cast,seval,ht,decide_true,innL_VLt])
 | ((first | (refine call0D (BCall.ofP (drawTil_ok _ _ ?_ ?_)) ?_; (iterate 2 (exact sd)); rintro _ _ ⟨⟨vs,k,htf,rfl⟩,rfl⟩) | ((first | refine call0D (BCall.ofP (iTi_ok _ _ _ ?_ ?_)) ?_ | refine qcall0D (BCall.ofP (iTi_ok _ _ _ ?_ ?_)) ⟨_,_,rfl,rfl⟩ ?_); (iterate 2 (exact sd)); rintro _ _ ⟨rfl,rfl⟩) | ((first | refine call0D (BCall.ofP (sTi_ok _ _ _ ?_ ?_)) ?_ | refine qcall0D (BCall.ofP (sTi_ok _ _ _ ?_ ?_)) ⟨_,_,rfl,rfl⟩ ?_); (iterate 2 (exact sd)); rintro _ _ ⟨rfl,rfl⟩) | ((first | refine call0D (iHo_ok _ _ _ ?_ ?_) ?_ | refine qcall0D (iHo_ok _ _ _ ?_ ?_) ⟨_,_,rfl,rfl⟩ ?_); (iterate 2 (exact sd)); rintro _ _ ⟨rfl,rfl⟩) | ((first | refine call0D (BCall.ofP (iDo_ok _ _ _ _ _ _ _ _ _ _ ?_ ?_ ?_ ?_ ?_)) ?_ | refine qcall0D (BCall.ofP (iDo_ok _ _ _ _ _ _ _ _ _ _ ?_ ?_ ?_ ?_ ?_)) ⟨_,_,rfl,rfl⟩ ?_); (iterate 5 (exact sd)); rintro _ _ ⟨rfl,rfl⟩) | ((first | refine call0D (BCall.ofP (iIsOneToOne_ok _ _ _ _ _ ?_ ?_ ?_)) ?_ | refine qcall0D (BCall.ofP (iIsOneToOne_ok _ _ _ _ _ ?_ ?_ ?_)) ⟨_,_,rfl,rfl⟩ ?_); (iterate 3 (exact sd)); rintro _ _ ⟨rfl,rfl⟩) | ((first | refine call0D (BCall.ofP (iFitsIn_ok _ _ _ _ _ _ ?_ ?_ ?_)) ?_ | refine qcall0D (BCall.ofP (iFitsIn_ok _ _ _ _ _ _ ?_ ?_ ?_)) ⟨_,_,rfl,rfl⟩ ?_); (iterate 3 (exact sd)); rintro _ _ ⟨rfl,rfl⟩)) <;> (try simp (disch := omega) only [push_cast,seval,ht,decide_true,innL_VLt]))
 | (refine awp_ret ⟨.inr rfl,_,rfl,?_⟩; (try simp (disch := omega) only [push_cast,seval,ht,decide_true,innL_VLt]))))
        all_goals (try simp)
 | true =>
        obtain ⟨hvv,hk,hd,hbb,hall⟩ := til_facts ht
        obtain ⟨m,rfl⟩ : ∃ m : Nat,k = m := ⟨k.toNat,by omega⟩
        clear hd hbb hall
        (repeat' (first
 | (first | refine awp_seq ?_ | refine awp_block ?_)
 | ((first | refine awp_reg ?_ | refine awp_draw (mid := l8r16a) (post := l8r16b) mixed (by decide) ?_ | refine awp_condB ?_ | refine awp_skip ?_ | refine awp_exit ?_); simp (disch := omega) only [push_cast,seval,l8r0,l8r1,l8r2,l8r3,l8r4,l8r5,l8r6,l8r7,l8r8,l8r9,l8r10,l8r11,l8r12,l8r13,l8r14,l8r15,l8r16a,l8r16b,l8r16,l8r17,l8r18,l8r19,l8r20,l8r21,l8r22,ht,decide_true,innL_VLt])
 | ((first | refine condB_split (fun h => ?_) (fun h => ?_) | refine gIf_split (fun h => ?_) (fun h => ?_) | refine qIf_split (fun h => ?_) (fun h => ?_)) <;> (try simp only [h]) <;> (try simp only [bitvec_to_nat] at h) <;> (try simp only [h]) <;> (first | (exfalso; omega) | (focus (exfalso; simp_all; done)) | (simp (disch := omega) only [push_cast,seval,ht,decide_true,innL_VLt]) | skip))
 | ((first | refine callD_of false ?_ | refine qcallD_of false ?_); simp (disch := omega) only [push_cast,seval,ht,decide_true,innL_VLt])
 | ((first | (refine call0D (BCall.ofP (drawTil_ok _ _ ?_ ?_)) ?_; (iterate 2 (exact sd)); rintro _ _ ⟨⟨vs,k,htf,rfl⟩,rfl⟩) | ((first | refine call0D (BCall.ofP (iTi_ok _ _ _ ?_ ?_)) ?_ | refine qcall0D (BCall.ofP (iTi_ok _ _ _ ?_ ?_)) ⟨_,_,rfl,rfl⟩ ?_); (iterate 2 (exact sd)); rintro _ _ ⟨rfl,rfl⟩) | ((first | refine call0D (BCall.ofP (sTi_ok _ _ _ ?_ ?_)) ?_ | refine qcall0D (BCall.ofP (sTi_ok _ _ _ ?_ ?_)) ⟨_,_,rfl,rfl⟩ ?_); (iterate 2 (exact sd)); rintro _ _ ⟨rfl,rfl⟩) | ((first | refine call0D (iHo_ok _ _ _ ?_ ?_) ?_ | refine qcall0D (iHo_ok _ _ _ ?_ ?_) ⟨_,_,rfl,rfl⟩ ?_); (iterate 2 (exact sd)); rintro _ _ ⟨rfl,rfl⟩) | ((first | refine call0D (BCall.ofP (iDo_ok _ _ _ _ _ _ _ _ _ _ ?_ ?_ ?_ ?_ ?_)) ?_ | refine qcall0D (BCall.ofP (iDo_ok _ _ _ _ _ _ _ _ _ _ ?_ ?_ ?_ ?_ ?_)) ⟨_,_,rfl,rfl⟩ ?_); (iterate 5 (exact sd)); rintro _ _ ⟨rfl,rfl⟩) | ((first | refine call0D (BCall.ofP (iIsOneToOne_ok _ _ _ _ _ ?_ ?_ ?_)) ?_ | refine qcall0D (BCall.ofP (iIsOneToOne_ok _ _ _ _ _ ?_ ?_ ?_)) ⟨_,_,rfl,rfl⟩ ?_); (iterate 3 (exact sd)); rintro _ _ ⟨rfl,rfl⟩) | ((first | refine call0D (BCall.ofP (iFitsIn_ok _ _ _ _ _ _ ?_ ?_ ?_)) ?_ | refine qcall0D (BCall.ofP (iFitsIn_ok _ _ _ _ _ _ ?_ ?_ ?_)) ⟨_,_,rfl,rfl⟩ ?_); (iterate 3 (exact sd)); rintro _ _ ⟨rfl,rfl⟩)) <;> (try simp (disch := omega) only [push_cast,seval,ht,decide_true,innL_VLt]))
 | (refine awp_ret ⟨.inr rfl,_,rfl,?_⟩; (try simp (disch := omega) only [push_cast,seval,ht,decide_true,innL_VLt]))))
        refine awp_loop (fun c : Nat => mkS [(3,.rows true (VLt vs) vs.length),(4,.int .i64 m),(6,.int .i64 c)] []) (fun c => c ≤ m) (fun c => m - c) 0 (Nat.zero_le _) ?_ ?_
        · (refine Sub.of_lists ?_ ?_ ?_ ?_ ?_ <;> simp [Vw.mkS,Vw.lk,Vw.hk,AV.inn,innL,innL_ints,innL_append,innL_rep,-List.map_set,-List.getD_eq_getElem?_getD,innL_VLt])
        · intro c hc
          by_cases hcm : c < m
          · have h1 := hold_one (x := (c : Int)) ht (by omega) (by omega)
            have h1' : (MVL (vvB vs) (hoT vs (c : Int) vs.length)).length ≤ 1099511627776 := by omega
            generalize hM : MVL (vvB vs) (hoT vs (c : Int) vs.length) = M at *
            have h1'' : (M.length : Int) = 1 := by omega
            (repeat' (first
 | (first | refine awp_seq ?_ | refine awp_block ?_)
 | ((first | refine awp_reg ?_ | refine awp_draw (mid := l8r16a) (post := l8r16b) mixed (by decide) ?_ | refine awp_condB ?_ | refine awp_skip ?_ | refine awp_exit ?_); simp (disch := omega) only [push_cast,seval,l8r0,l8r1,l8r2,l8r3,l8r4,l8r5,l8r6,l8r7,l8r8,l8r9,l8r10,l8r11,l8r12,l8r13,l8r14,l8r15,l8r16a,l8r16b,l8r16,l8r17,l8r18,l8r19,l8r20,l8r21,l8r22,hM,h1'',ne_eq,not_true_eq_false,decide_false,innL_VLt])
 | ((first | refine condB_split (fun h => ?_) (fun h => ?_) | refine gIf_split (fun h => ?_) (fun h => ?_) | refine qIf_split (fun h => ?_) (fun h => ?_)) <;> (try simp only [h]) <;> (try simp only [bitvec_to_nat] at h) <;> (try simp only [h]) <;> (first | (exfalso; omega) | (focus (exfalso; simp_all; done)) | (simp (disch := omega) only [push_cast,seval,hM,h1'',ne_eq,not_true_eq_false,decide_false,innL_VLt]) | skip))
 | ((first | refine callD_of false ?_ | refine qcallD_of false ?_); simp (disch := omega) only [push_cast,seval,hM,h1'',ne_eq,not_true_eq_false,decide_false,innL_VLt])
 | ((first | (refine call0D (BCall.ofP (drawTil_ok _ _ ?_ ?_)) ?_; (iterate 2 (exact sd)); rintro _ _ ⟨⟨vs,k,htf,rfl⟩,rfl⟩) | ((first | refine call0D (BCall.ofP (iTi_ok _ _ _ ?_ ?_)) ?_ | refine qcall0D (BCall.ofP (iTi_ok _ _ _ ?_ ?_)) ⟨_,_,rfl,rfl⟩ ?_); (iterate 2 (exact sd)); rintro _ _ ⟨rfl,rfl⟩) | ((first | refine call0D (BCall.ofP (sTi_ok _ _ _ ?_ ?_)) ?_ | refine qcall0D (BCall.ofP (sTi_ok _ _ _ ?_ ?_)) ⟨_,_,rfl,rfl⟩ ?_); (iterate 2 (exact sd)); rintro _ _ ⟨rfl,rfl⟩) | ((first | refine call0D (iHo_ok _ _ _ ?_ ?_) ?_ | refine qcall0D (iHo_ok _ _ _ ?_ ?_) ⟨_,_,rfl,rfl⟩ ?_); (iterate 2 (exact sd)); rintro _ _ ⟨rfl,rfl⟩) | ((first | refine call0D (BCall.ofP (iDo_ok _ _ _ _ _ _ _ _ _ _ ?_ ?_ ?_ ?_ ?_)) ?_ | refine qcall0D (BCall.ofP (iDo_ok _ _ _ _ _ _ _ _ _ _ ?_ ?_ ?_ ?_ ?_)) ⟨_,_,rfl,rfl⟩ ?_); (iterate 5 (exact sd)); rintro _ _ ⟨rfl,rfl⟩) | ((first | refine call0D (BCall.ofP (iIsOneToOne_ok _ _ _ _ _ ?_ ?_ ?_)) ?_ | refine qcall0D (BCall.ofP (iIsOneToOne_ok _ _ _ _ _ ?_ ?_ ?_)) ⟨_,_,rfl,rfl⟩ ?_); (iterate 3 (exact sd)); rintro _ _ ⟨rfl,rfl⟩) | ((first | refine call0D (BCall.ofP (iFitsIn_ok _ _ _ _ _ _ ?_ ?_ ?_)) ?_ | refine qcall0D (BCall.ofP (iFitsIn_ok _ _ _ _ _ _ ?_ ?_ ?_)) ⟨_,_,rfl,rfl⟩ ?_); (iterate 3 (exact sd)); rintro _ _ ⟨rfl,rfl⟩)) <;> (try simp (disch := omega) only [push_cast,seval,hM,h1'',ne_eq,not_true_eq_false,decide_false,innL_VLt]))
 | (refine awp_ret ⟨.inr rfl,_,rfl,?_⟩; (try simp (disch := omega) only [push_cast,seval,hM,h1'',ne_eq,not_true_eq_false,decide_false,innL_VLt]))))
            refine ⟨c + 1,by omega,by omega,?_⟩
            (refine Sub.of_lists ?_ ?_ ?_ ?_ ?_ <;> simp [Vw.mkS,Vw.lk,Vw.hk,AV.inn,innL,innL_ints,innL_append,innL_rep,-List.map_set,-List.getD_eq_getElem?_getD,innL_VLt])
          · have hcm' : ¬ (c : Int) < m := by omega
            (repeat' (first
 | (first | refine awp_seq ?_ | refine awp_block ?_)
 | ((first | refine awp_reg ?_ | refine awp_draw (mid := l8r16a) (post := l8r16b) mixed (by decide) ?_ | refine awp_condB ?_ | refine awp_skip ?_ | refine awp_exit ?_); simp (disch := omega) only [push_cast,seval,l8r0,l8r1,l8r2,l8r3,l8r4,l8r5,l8r6,l8r7,l8r8,l8r9,l8r10,l8r11,l8r12,l8r13,l8r14,l8r15,l8r16a,l8r16b,l8r16,l8r17,l8r18,l8r19,l8r20,l8r21,l8r22,hcm',innL_VLt])
 | ((first | refine condB_split (fun h => ?_) (fun h => ?_) | refine gIf_split (fun h => ?_) (fun h => ?_) | refine qIf_split (fun h => ?_) (fun h => ?_)) <;> (try simp only [h]) <;> (try simp only [bitvec_to_nat] at h) <;> (try simp only [h]) <;> (first | (exfalso; omega) | (focus (exfalso; simp_all; done)) | (simp (disch := omega) only [push_cast,seval,hcm',innL_VLt]) | skip))
 | ((first | refine callD_of false ?_ | refine qcallD_of false ?_); simp (disch := omega) only [push_cast,seval,hcm',innL_VLt])
 | ((first | (refine call0D (BCall.ofP (drawTil_ok _ _ ?_ ?_)) ?_; (iterate 2 (exact sd)); rintro _ _ ⟨⟨vs,k,htf,rfl⟩,rfl⟩) | ((first | refine call0D (BCall.ofP (iTi_ok _ _ _ ?_ ?_)) ?_ | refine qcall0D (BCall.ofP (iTi_ok _ _ _ ?_ ?_)) ⟨_,_,rfl,rfl⟩ ?_); (iterate 2 (exact sd)); rintro _ _ ⟨rfl,rfl⟩) | ((first | refine call0D (BCall.ofP (sTi_ok _ _ _ ?_ ?_)) ?_ | refine qcall0D (BCall.ofP (sTi_ok _ _ _ ?_ ?_)) ⟨_,_,rfl,rfl⟩ ?_); (iterate 2 (exact sd)); rintro _ _ ⟨rfl,rfl⟩) | ((first | refine call0D (iHo_ok _ _ _ ?_ ?_) ?_ | refine qcall0D (iHo_ok _ _ _ ?_ ?_) ⟨_,_,rfl,rfl⟩ ?_); (iterate 2 (exact sd)); rintro _ _ ⟨rfl,rfl⟩) | ((first | refine call0D (BCall.ofP (iDo_ok _ _ _ _ _ _ _ _ _ _ ?_ ?_ ?_ ?_ ?_)) ?_ | refine qcall0D (BCall.ofP (iDo_ok _ _ _ _ _ _ _ _ _ _ ?_ ?_ ?_ ?_ ?_)) ⟨_,_,rfl,rfl⟩ ?_); (iterate 5 (exact sd)); rintro _ _ ⟨rfl,rfl⟩) | ((first | refine call0D (BCall.ofP (iIsOneToOne_ok _ _ _ _ _ ?_ ?_ ?_)) ?_ | refine qcall0D (BCall.ofP (iIsOneToOne_ok _ _ _ _ _ ?_ ?_ ?_)) ⟨_,_,rfl,rfl⟩ ?_); (iterate 3 (exact sd)); rintro _ _ ⟨rfl,rfl⟩) | ((first | refine call0D (BCall.ofP (iFitsIn_ok _ _ _ _ _ _ ?_ ?_ ?_)) ?_ | refine qcall0D (BCall.ofP (iFitsIn_ok _ _ _ _ _ _ ?_ ?_ ?_)) ⟨_,_,rfl,rfl⟩ ?_); (iterate 3 (exact sd)); rintro _ _ ⟨rfl,rfl⟩)) <;> (try simp (disch := omega) only [push_cast,seval,hcm',innL_VLt]))
 | (refine awp_ret ⟨.inr rfl,_,rfl,?_⟩; (try simp (disch := omega) only [push_cast,seval,hcm',innL_VLt]))))
            refine awp_loop (fun i : Nat => mkS [(3,.rows true (VLt vs) vs.length),(4,.int .i64 m),(7,.int .i64 i)] []) (fun i => i ≤ vs.length) (fun i => vs.length - i) 0 (Nat.zero_le _) ?_ ?_
            · (refine Sub.of_lists ?_ ?_ ?_ ?_ ?_ <;> simp [Vw.mkS,Vw.lk,Vw.hk,AV.inn,innL,innL_ints,innL_append,innL_rep,-List.map_set,-List.getD_eq_getElem?_getD,innL_VLt])
            · intro i hi
              by_cases hil : i < vs.length
              · obtain ⟨⟨b,sh,st⟩,hvi⟩ : ∃ v,vs[i]? = some v := ⟨_,List.getElem?_eq_getElem hil⟩
                have hbv := hq.2 _ (List.mem_of_getElem? hvi)
                have hdi := VLt_drop vs i hvi
                obtain ⟨g1,g2⟩ := til_fit ht hvi
                simp only at hdi hbv g1 g2
                have hi3 : i * 3 + 3 ≤ vs.length * 3 := by omega
                (repeat' (first
 | (first | refine awp_seq ?_ | refine awp_block ?_)
 | ((first | refine awp_reg ?_ | refine awp_draw (mid := l8r16a) (post := l8r16b) mixed (by decide) ?_ | refine awp_condB ?_ | refine awp_skip ?_ | refine awp_exit ?_); simp (disch := omega) only [push_cast,seval,l8r0,l8r1,l8r2,l8r3,l8r4,l8r5,l8r6,l8r7,l8r8,l8r9,l8r10,l8r11,l8r12,l8r13,l8r14,l8r15,l8r16a,l8r16b,l8r16,l8r17,l8r18,l8r19,l8r20,l8r21,l8r22,innL_VLt])
 | ((first | refine condB_split (fun h => ?_) (fun h => ?_) | refine gIf_split (fun h => ?_) (fun h => ?_) | refine qIf_split (fun h => ?_) (fun h => ?_)) <;> (try simp only [h]) <;> (try simp only [bitvec_to_nat] at h) <;> (try simp only [h]) <;> (first | (exfalso; omega) | (focus (exfalso; simp_all; done)) | (simp (disch := omega) only [push_cast,seval,innL_VLt]) | skip))
 | ((first | refine callD_of false ?_ | refine qcallD_of false ?_); simp (disch := omega) only [push_cast,seval,innL_VLt])
 | ((first | (refine call0D (BCall.ofP (drawTil_ok _ _ ?_ ?_)) ?_; (iterate 2 (exact sd)); rintro _ _ ⟨⟨vs,k,htf,rfl⟩,rfl⟩) | ((first | refine call0D (BCall.ofP (iTi_ok _ _ _ ?_ ?_)) ?_ | refine qcall0D (BCall.ofP (iTi_ok _ _ _ ?_ ?_)) ⟨_,_,rfl,rfl⟩ ?_); (iterate 2 (exact sd)); rintro _ _ ⟨rfl,rfl⟩) | ((first | refine call0D (BCall.ofP (sTi_ok _ _ _ ?_ ?_)) ?_ | refine qcall0D (BCall.ofP (sTi_ok _ _ _ ?_ ?_)) ⟨_,_,rfl,rfl⟩ ?_); (iterate 2 (exact sd)); rintro _ _ ⟨rfl,rfl⟩) | ((first | refine call0D (iHo_ok _ _ _ ?_ ?_) ?_ | refine qcall0D (iHo_ok _ _ _ ?_ ?_) ⟨_,_,rfl,rfl⟩ ?_); (iterate 2 (exact sd)); rintro _ _ ⟨rfl,rfl⟩) | ((first | refine call0D (BCall.ofP (iDo_ok _ _ _ _ _ _ _ _ _ _ ?_ ?_ ?_ ?_ ?_)) ?_ | refine qcall0D (BCall.ofP (iDo_ok _ _ _ _ _ _ _ _ _ _ ?_ ?_ ?_ ?_ ?_)) ⟨_,_,rfl,rfl⟩ ?_); (iterate 5 (exact sd)); rintro _ _ ⟨rfl,rfl⟩) | ((first | refine call0D (BCall.ofP (iIsOneToOne_ok _ _ _ _ _ ?_ ?_ ?_)) ?_ | refine qcall0D (BCall.ofP (iIsOneToOne_ok _ _ _ _ _ ?_ ?_ ?_)) ⟨_,_,rfl,rfl⟩ ?_); (iterate 3 (exact sd)); rintro _ _ ⟨rfl,rfl⟩) | ((first | refine call0D (BCall.ofP (iFitsIn_ok _ _ _ _ _ _ ?_ ?_ ?_)) ?_ | refine qcall0D (BCall.ofP (iFitsIn_ok _ _ _ _ _ _ ?_ ?_ ?_)) ⟨_,_,rfl,rfl⟩ ?_); (iterate 3 (exact sd)); rintro _ _ ⟨rfl,rfl⟩)) <;> (try simp (disch := omega) only [push_cast,seval,innL_VLt]))
 | (refine awp_ret ⟨.inr rfl,_,rfl,?_⟩; (try simp (disch := omega) only [push_cast,seval,innL_VLt]))))
                refine awp_loop (fun j : Nat => mkS [(3,.rows true (VLt vs) vs.length),(4,.int .i64 m),(7,.int .i64 i),(8,.int .i64 j)] []) (fun j => j ≤ i) (fun j => i - j) 0 (Nat.zero_le _) ?_ ?_
                · (refine Sub.of_lists ?_ ?_ ?_ ?_ ?_ <;> simp [Vw.mkS,Vw.lk,Vw.hk,AV.inn,innL,innL_ints,innL_append,innL_rep,-List.map_set,-List.getD_eq_getElem?_getD,innL_VLt])
                · intro j hj
                  by_cases hji : j < i
                  · obtain ⟨⟨b',sh',st'⟩,hvj⟩ : ∃ v,vs[j]? = some v := ⟨_,List.getElem?_eq_getElem (by omega)⟩
                    have hbw := hq.2 _ (List.mem_of_getElem? hvj)
                    have hdj := VLt_drop vs j hvj
                    have hdo := til_do ht hvi hvj (by omega)
                    simp only at hdj hbw hdo
                    have hj3 : j * 3 + 3 ≤ vs.length * 3 := by omega
                    have hb4 : (sh.length ≤ 1099511627776 ∧ st.length ≤ 1099511627776) ∧ sh'.length ≤ 1099511627776 ∧ st'.length ≤ 1099511627776 := ⟨hbv,hbw⟩
                    (repeat' (first
 | (first | refine awp_seq ?_ | refine awp_block ?_)
 | ((first | refine awp_reg ?_ | refine awp_draw (mid := l8r16a) (post := l8r16b) mixed (by decide) ?_ | refine awp_condB ?_ | refine awp_skip ?_ | refine awp_exit ?_); simp (disch := omega) only [push_cast,seval,l8r0,l8r1,l8r2,l8r3,l8r4,l8r5,l8r6,l8r7,l8r8,l8r9,l8r10,l8r11,l8r12,l8r13,l8r14,l8r15,l8r16a,l8r16b,l8r16,l8r17,l8r18,l8r19,l8r20,l8r21,l8r22,hdi,hdj,hvl,hi3,hj3,hdo,innL_VLt])
 | ((first | refine condB_split (fun h => ?_) (fun h => ?_) | refine gIf_split (fun h => ?_) (fun h => ?_) | refine qIf_split (fun h => ?_) (fun h => ?_)) <;> (try simp only [h]) <;> (try simp only [bitvec_to_nat] at h) <;> (try simp only [h]) <;> (first | (exfalso; omega) | (focus (exfalso; simp_all; done)) | (simp (disch := omega) only [push_cast,seval,hdi,hdj,hvl,hi3,hj3,hdo,innL_VLt]) | skip))
 | ((first | refine callD_of false ?_ | refine qcallD_of false ?_); simp (disch := omega) only [push_cast,seval,hdi,hdj,hvl,hi3,hj3,hdo,innL_VLt])
 | ((first | (refine call0D (BCall.ofP (drawTil_ok _ _ ?_ ?_)) ?_; (iterate 2 (exact sd)); rintro _ _ ⟨⟨vs,k,htf,rfl⟩,rfl⟩) | ((first | refine call0D (BCall.ofP (iTi_ok _ _ _ ?_ ?_)) ?_ | refine qcall0D (BCall.ofP (iTi_ok _ _ _ ?_ ?_)) ⟨_,_,rfl,rfl⟩ ?_); (iterate 2 (exact sd)); rintro _ _ ⟨rfl,rfl⟩) | ((first | refine call0D (BCall.ofP (sTi_ok _ _ _ ?_ ?_)) ?_ | refine qcall0D (BCall.ofP (sTi_ok _ _ _ ?_ ?_)) ⟨_,_,rfl,rfl⟩ ?_); (iterate 2 (exact sd)); rintro _ _ ⟨rfl,rfl⟩) | ((first | refine call0D (iHo_ok _ _ _ ?_ ?_) ?_ | refine qcall0D (iHo_ok _ _ _ ?_ ?_) ⟨_,_,rfl,rfl⟩ ?_); (iterate 2 (exact sd)); rintro _ _ ⟨rfl,rfl⟩) | ((first | refine call0D (BCall.ofP (iDo_ok _ _ _ _ _ _ _ _ _ _ ?_ ?_ ?_ ?_ ?_)) ?_ | refine qcall0D (BCall.ofP (iDo_ok _ _ _ _ _ _ _ _ _ _ ?_ ?_ ?_ ?_ ?_)) ⟨_,_,rfl,rfl⟩ ?_); (iterate 5 (exact sd)); rintro _ _ ⟨rfl,rfl⟩) | ((first | refine call0D (BCall.ofP (iIsOneToOne_ok _ _ _ _ _ ?_ ?_ ?_)) ?_ | refine qcall0D (BCall.ofP (iIsOneToOne_ok _ _ _ _ _ ?_ ?_ ?_)) ⟨_,_,rfl,rfl⟩ ?_); (iterate 3 (exact sd)); rintro _ _ ⟨rfl,rfl⟩) | ((first | refine call0D (BCall.ofP (iFitsIn_ok _ _ _ _ _ _ ?_ ?_ ?_)) ?_ | refine qcall0D (BCall.ofP (iFitsIn_ok _ _ _ _ _ _ ?_ ?_ ?_)) ⟨_,_,rfl,rfl⟩ ?_); (iterate 3 (exact sd)); rintro _ _ ⟨rfl,rfl⟩)) <;> (try simp (disch := omega) only [push_cast,seval,hdi,hdj,hvl,hi3,hj3,hdo,innL_VLt]))
 | (refine awp_ret ⟨.inr rfl,_,rfl,?_⟩; (try simp (disch := omega) only [push_cast,seval,hdi,hdj,hvl,hi3,hj3,hdo,innL_VLt]))))
                    refine ⟨j + 1,by omega,by omega,?_⟩
                    (refine Sub.of_lists ?_ ?_ ?_ ?_ ?_ <;> simp [Vw.mkS,Vw.lk,Vw.hk,AV.inn,innL,innL_ints,innL_append,innL_rep,-List.map_set,-List.getD_eq_getElem?_getD,innL_VLt])
                  · have hji' : ¬ (j : Int) < i := by omega
                    (repeat' (first
 | (first | refine awp_seq ?_ | refine awp_block ?_)
 | ((first | refine awp_reg ?_ | refine awp_draw (mid := l8r16a) (post := l8r16b) mixed (by decide) ?_ | refine awp_condB ?_ | refine awp_skip ?_ | refine awp_exit ?_); simp (disch := omega) only [push_cast,seval,l8r0,l8r1,l8r2,l8r3,l8r4,l8r5,l8r6,l8r7,l8r8,l8r9,l8r10,l8r11,l8r12,l8r13,l8r14,l8r15,l8r16a,l8r16b,l8r16,l8r17,l8r18,l8r19,l8r20,l8r21,l8r22,hji',hdi,hvl,hi3,g1,g2,innL_VLt])
 | ((first | refine condB_split (fun h => ?_) (fun h => ?_) | refine gIf_split (fun h => ?_) (fun h => ?_) | refine qIf_split (fun h => ?_) (fun h => ?_)) <;> (try simp only [h]) <;> (try simp only [bitvec_to_nat] at h) <;> (try simp only [h]) <;> (first | (exfalso; omega) | (focus (exfalso; simp_all; done)) | (simp (disch := omega) only [push_cast,seval,hji',hdi,hvl,hi3,g1,g2,innL_VLt]) | skip))
 | ((first | refine callD_of false ?_ | refine qcallD_of false ?_); simp (disch := omega) only [push_cast,seval,hji',hdi,hvl,hi3,g1,g2,innL_VLt])
 | ((first | (refine call0D (BCall.ofP (drawTil_ok _ _ ?_ ?_)) ?_; (iterate 2 (exact sd)); rintro _ _ ⟨⟨vs,k,htf,rfl⟩,rfl⟩) | ((first | refine call0D (BCall.ofP (iTi_ok _ _ _ ?_ ?_)) ?_ | refine qcall0D (BCall.ofP (iTi_ok _ _ _ ?_ ?_)) ⟨_,_,rfl,rfl⟩ ?_); (iterate 2 (exact sd)); rintro _ _ ⟨rfl,rfl⟩) | ((first | refine call0D (BCall.ofP (sTi_ok _ _ _ ?_ ?_)) ?_ | refine qcall0D (BCall.ofP (sTi_ok _ _ _ ?_ ?_)) ⟨_,_,rfl,rfl⟩ ?_); (iterate 2 (exact sd)); rintro _ _ ⟨rfl,rfl⟩) | ((first | refine call0D (iHo_ok _ _ _ ?_ ?_) ?_ | refine qcall0D (iHo_ok _ _ _ ?_ ?_) ⟨_,_,rfl,rfl⟩ ?_); (iterate 2 (exact sd)); rintro _ _ ⟨rfl,rfl⟩) | ((first | refine call0D (BCall.ofP (iDo_ok _ _ _ _ _ _ _ _ _ _ ?_ ?_ ?_ ?_ ?_)) ?_ | refine qcall0D (BCall.ofP (iDo_ok _ _ _ _ _ _ _ _ _ _ ?_ ?_ ?_ ?_ ?_)) ⟨_,_,rfl,rfl⟩ ?_); (iterate 5 (exact sd)); rintro _ _ ⟨rfl,rfl⟩) | ((first | refine call0D (BCall.ofP (iIsOneToOne_ok _ _ _ _ _ ?_ ?_ ?_)) ?_ | refine qcall0D (BCall.ofP (iIsOneToOne_ok _ _ _ _ _ ?_ ?_ ?_)) ⟨_,_,rfl,rfl⟩ ?_); (iterate 3 (exact sd)); rintro _ _ ⟨rfl,rfl⟩) | ((first | refine call0D (BCall.ofP (iFitsIn_ok _ _ _ _ _ _ ?_ ?_ ?_)) ?_ | refine qcall0D (BCall.ofP (iFitsIn_ok _ _ _ _ _ _ ?_ ?_ ?_)) ⟨_,_,rfl,rfl⟩ ?_); (iterate 3 (exact sd)); rintro _ _ ⟨rfl,rfl⟩)) <;> (try simp (disch := omega) only [push_cast,seval,hji',hdi,hvl,hi3,g1,g2,innL_VLt]))
 | (refine awp_ret ⟨.inr rfl,_,rfl,?_⟩; (try simp (disch := omega) only [push_cast,seval,hji',hdi,hvl,hi3,g1,g2,innL_VLt]))))
                    refine ⟨i + 1,by omega,by omega,?_⟩
                    (refine Sub.of_lists ?_ ?_ ?_ ?_ ?_ <;> simp [Vw.mkS,Vw.lk,Vw.hk,AV.inn,innL,innL_ints,innL_append,innL_rep,-List.map_set,-List.getD_eq_getElem?_getD,innL_VLt])
              · have hil' : ¬ (i : Int) < vs.length := by omega
                (repeat' (first
 | (first | refine awp_seq ?_ | refine awp_block ?_)
 | ((first | refine awp_reg ?_ | refine awp_draw (mid := l8r16a) (post := l8r16b) mixed (by decide) ?_ | refine awp_condB ?_ | refine awp_skip ?_ | refine awp_exit ?_); simp (disch := omega) only [push_cast,seval,l8r0,l8r1,l8r2,l8r3,l8r4,l8r5,l8r6,l8r7,l8r8,l8r9,l8r10,l8r11,l8r12,l8r13,l8r14,l8r15,l8r16a,l8r16b,l8r16,l8r17,l8r18,l8r19,l8r20,l8r21,l8r22,hil',decide_true,innL_VLt])
 | ((first | refine condB_split (fun h => ?_) (fun h => ?_) | refine gIf_split (fun h => ?_) (fun h => ?_) | refine qIf_split (fun h => ?_) (fun h => ?_)) <;> (try simp only [h]) <;> (try simp only [bitvec_to_nat] at h) <;> (try simp only [h]) <;> (first | (exfalso; omega) | (focus (exfalso; simp_all; done)) | (simp (disch := omega) only [push_cast,seval,hil',decide_true,innL_VLt]) | skip))
 | ((first | refine callD_of false ?_ | refine qcallD_of false ?_); simp (disch := omega) only [push_cast,seval,hil',decide_true,innL_VLt])
 | ((first | (refine call0D (BCall.ofP (drawTil_ok _ _ ?_ ?_)) ?_; (iterate 2 (exact sd)); rintro _ _ ⟨⟨vs,k,htf,rfl⟩,rfl⟩) | ((first | refine call0D (BCall.ofP (iTi_ok _ _ _ ?_ ?_)) ?_ | refine qcall0D (BCall.ofP (iTi_ok _ _ _ ?_ ?_)) ⟨_,_,rfl,rfl⟩ ?_); (iterate 2 (exact sd)); rintro _ _ ⟨rfl,rfl⟩) | ((first | refine call0D (BCall.ofP (sTi_ok _ _ _ ?_ ?_)) ?_ | refine qcall0D (BCall.ofP (sTi_ok _ _ _ ?_ ?_)) ⟨_,_,rfl,rfl⟩ ?_); (iterate 2 (exact sd)); rintro _ _ ⟨rfl,rfl⟩) | ((first | refine call0D (iHo_ok _ _ _ ?_ ?_) ?_ | refine qcall0D (iHo_ok _ _ _ ?_ ?_) ⟨_,_,rfl,rfl⟩ ?_); (iterate 2 (exact sd)); rintro _ _ ⟨rfl,rfl⟩) | ((first | refine call0D (BCall.ofP (iDo_ok _ _ _ _ _ _ _ _ _ _ ?_ ?_ ?_ ?_ ?_)) ?_ | refine qcall0D (BCall.ofP (iDo_ok _ _ _ _ _ _ _ _ _ _ ?_ ?_ ?_ ?_ ?_)) ⟨_,_,rfl,rfl⟩ ?_); (iterate 5 (exact sd)); rintro _ _ ⟨rfl,rfl⟩) | ((first | refine call0D (BCall.ofP (iIsOneToOne_ok _ _ _ _ _ ?_ ?_ ?_)) ?_ | refine qcall0D (BCall.ofP (iIsOneToOne_ok _ _ _ _ _ ?_ ?_ ?_)) ⟨_,_,rfl,rfl⟩ ?_); (iterate 3 (exact sd)); rintro _ _ ⟨rfl,rfl⟩) | ((first | refine call0D (BCall.ofP (iFitsIn_ok _ _ _ _ _ _ ?_ ?_ ?_)) ?_ | refine qcall0D (BCall.ofP (iFitsIn_ok _ _ _ _ _ _ ?_ ?_ ?_)) ⟨_,_,rfl,rfl⟩ ?_); (iterate 3 (exact sd)); rintro _ _ ⟨rfl,rfl⟩)) <;> (try simp (disch := omega) only [push_cast,seval,hil',decide_true,innL_VLt]))
 | (refine awp_ret ⟨.inr rfl,_,rfl,?_⟩; (try simp (disch := omega) only [push_cast,seval,hil',decide_true,innL_VLt]))))
  · (repeat' (first
 | (first | refine awp_seq ?_ | refine awp_block ?_)
 | ((first | refine awp_reg ?_ | refine awp_draw (mid := l8r16a) (post := l8r16b) mixed (by decide) ?_ | refine awp_condB ?_ | refine awp_skip ?_ | refine awp_exit ?_); simp (disch := omega) only [push_cast,seval,l8r0,l8r1,l8r2,l8r3,l8r4,l8r5,l8r6,l8r7,l8r8,l8r9,l8r10,l8r11,l8r12,l8r13,l8r14,l8r15,l8r16a,l8r16b,l8r16,l8r17,l8r18,l8r19,l8r20,l8r21,l8r22])
 | ((first | refine condB_split (fun h => ?_) (fun h => ?_) | refine gIf_split (fun h => ?_) (fun h => ?_) | refine qIf_split (fun h => ?_) (fun h => ?_)) <;> (try simp only [h]) <;> (try simp only [bitvec_to_nat] at h) <;> (try simp only [h]) <;> (first | (exfalso; omega) | (focus (exfalso; simp_all; done)) | (simp (disch := omega) only [push_cast,seval]) | skip))
 | ((first | refine callD_of false ?_ | refine qcallD_of false ?_); simp (disch := omega) only [push_cast,seval])
 | ((first | (refine call0D (BCall.ofP (drawTil_ok _ _ ?_ ?_)) ?_; (iterate 2 (exact sd)); rintro _ _ ⟨⟨vs,k,htf,rfl⟩,rfl⟩) | ((first | refine call0D (BCall.ofP (iTi_ok _ _ _ ?_ ?_)) ?_ | refine qcall0D (BCall.ofP (iTi_ok _ _ _ ?_ ?_)) ⟨_,_,rfl,rfl⟩ ?_); (iterate 2 (exact sd)); rintro _ _ ⟨rfl,rfl⟩) | ((first | refine call0D (BCall.ofP (sTi_ok _ _ _ ?_ ?_)) ?_ | refine qcall0D (BCall.ofP (sTi_ok _ _ _ ?_ ?_)) ⟨_,_,rfl,rfl⟩ ?_); (iterate 2 (exact sd)); rintro _ _ ⟨rfl,rfl⟩) | ((first | refine call0D (iHo_ok _ _ _ ?_ ?_) ?_ | refine qcall0D (iHo_ok _ _ _ ?_ ?_) ⟨_,_,rfl,rfl⟩ ?_); (iterate 2 (exact sd)); rintro _ _ ⟨rfl,rfl⟩) | ((first | refine call0D (BCall.ofP (iDo_ok _ _ _ _ _ _ _ _ _ _ ?_ ?_ ?_ ?_ ?_)) ?_ | refine qcall0D (BCall.ofP (iDo_ok _ _ _ _ _ _ _ _ _ _ ?_ ?_ ?_ ?_ ?_)) ⟨_,_,rfl,rfl⟩ ?_); (iterate 5 (exact sd)); rintro _ _ ⟨rfl,rfl⟩) | ((first | refine call0D (BCall.ofP (iIsOneToOne_ok _ _ _ _ _ ?_ ?_ ?_)) ?_ | refine qcall0D (BCall.ofP (iIsOneToOne_ok _ _ _ _ _ ?_ ?_ ?_)) ⟨_,_,rfl,rfl⟩ ?_); (iterate 3 (exact sd)); rintro _ _ ⟨rfl,rfl⟩) | ((first | refine call0D (BCall.ofP (iFitsIn_ok _ _ _ _ _ _ ?_ ?_ ?_)) ?_ | refine qcall0D (BCall.ofP (iFitsIn_ok _ _ _ _ _ _ ?_ ?_ ?_)) ⟨_,_,rfl,rfl⟩ ?_); (iterate 3 (exact sd)); rintro _ _ ⟨rfl,rfl⟩)) <;> (try simp (disch := omega) only [push_cast,seval]))
 | (refine awp_ret ⟨.inr rfl,_,rfl,?_⟩; (try simp (disch := omega) only [push_cast,seval]))))

end Go.Proofs.Ytejbfjmiidofcaa
