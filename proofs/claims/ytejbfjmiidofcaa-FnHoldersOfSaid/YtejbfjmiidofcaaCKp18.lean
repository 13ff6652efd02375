import Derived.Test.YtejbfjmiidofcaaCKp17
import Derived.Test.YtejbfjmiidofcaaCM1
import Derived.Test.YtejbfjmiidofcaaCW3
set_option linter.unusedSimpArgs false
set_option linter.unusedVariables false
set_option maxRecDepth 4000
set_option maxHeartbeats 4000000
namespace Go.Proofs.Ytejbfjmiidofcaa
open VwM Vw Go

theorem VLt_drop : ∀ (vs : List Vw3) (i : Nat) {v : Vw3},vs[i]? = some v → ((VLt vs).drop (i * 3)).take 3 = [.int .i64 v.1,.rows true (IL v.2.1) v.2.1.length,.rows true (IL v.2.2) v.2.2.length]
  | [],_,_,h => by simp at h
  | w :: r,0,v,h => by simp at h; subst h; simp [VLt]
  | w :: r,i + 1,v,h => by
    rw [show (i + 1) * 3 = i * 3 + 1 + 1 + 1 by omega]
    simp only [VLt,List.drop_succ_cons]
    exact VLt_drop r i (by simpa using h)
theorem mem_hoT {vs : List Vw3} {k x : Int} {n : Nat} : x ∈ hoT vs k n ↔ ∃ j : Nat,j < n ∧ k ∈ atV vs j ∧ (j : Int) = x := by
  simp only [hoT,List.mem_map,List.mem_filter,List.mem_range,decide_eq_true_eq,and_assoc]
theorem hoT_sorted (vs : List Vw3) (k : Int) (n : Nat) : (hoT vs k n).Pairwise (· < ·) := by
  unfold hoT
  refine List.pairwise_map.2 (List.Pairwise.imp ?_ (List.Pairwise.filter _ (List.pairwise_lt_range (n := n))))
  intro a b h
  omega
theorem atV_some {vs : List Vw3} {j : Nat} {v : Vw3} (h : vs[j]? = some v) : atV vs j = offs v.1 v.2.1 v.2.2 := by unfold atV; rw [h]
theorem til_facts {vs : List Vw3} {k : Int} (h : tiB vs k = true) : vvB vs = true ∧ (0 ≤ k ∧ k ≤ 60) ∧ (allO vs).Nodup ∧ (∀ x ∈ allO vs,0 ≤ x ∧ x ≤ k - 1) ∧ ∀ x,0 ≤ x → x < k → x ∈ allO vs := by
  unfold tiB at h
  simp only [Bool.and_eq_true,decide_eq_true_eq] at h
  obtain ⟨⟨hv,hk0,hk1⟩,h1,h2⟩ := h
  obtain ⟨n,rfl⟩ : ∃ n : Nat,k = n := ⟨k.toNat,by omega⟩
  rw [Int.toNat_natCast] at h1
  obtain ⟨h8,hall⟩ := vvB_spec.1 hv
  have hc : ∀ x ∈ allO vs,0 ≤ x ∧ x ≤ 59 := fun x hx => by
    obtain ⟨v,hv,hx⟩ := List.mem_flatMap.1 hx
    have := vV_cells (hall v hv) x hx
    omega
  obtain ⟨d1,d2,d3⟩ := (ti_iff (n := n) hc (by omega)).1 ⟨h1,h2⟩
  refine ⟨hv,by omega,d1,d2,fun x hx0 hx1 => ?_⟩
  have : x ∈ atL (cnt (allO vs)) 1 := by
    rw [h1,mem_nums]
    exact ⟨x.toNat,by omega,by omega⟩
  exact cnt_pos.1 (by have := (mem_atL.1 this).2; omega)
theorem allO_disj {vs : List Vw3} (h : (allO vs).Nodup) {i j : Nat} {v w : Vw3} (hi : vs[i]? = some v) (hj : vs[j]? = some w) (hij : i ≠ j) {x : Int} (hx : x ∈ offs v.1 v.2.1 v.2.2) : x ∉ offs w.1 w.2.1 w.2.2 := by
  have hp : vs.Pairwise fun a b => ∀ x ∈ offs a.1 a.2.1 a.2.2,x ∉ offs b.1 b.2.1 b.2.2 := by
    unfold allO at h
    induction vs with
    | nil => exact .nil
    | cons a r ih =>
      rw [List.flatMap_cons,List.nodup_append] at h
      clear hi hj
      refine List.pairwise_cons.2 ⟨fun b hb x hxa hxb => h.2.2 x hxa x (List.mem_flatMap.2 ⟨b,hb,hxb⟩) rfl,?_⟩
      have h2 := h.2.1
      clear h ih
      induction r with
 | nil => exact .nil
 | cons a r ih =>
        rw [List.flatMap_cons,List.nodup_append] at h2
        exact List.pairwise_cons.2 ⟨fun b hb x hxa hxb => h2.2.2 x hxa x (List.mem_flatMap.2 ⟨b,hb,hxb⟩) rfl,ih h2.2.1⟩
  obtain ⟨hil,hie⟩ := List.getElem?_eq_some_iff.1 hi
  obtain ⟨hjl,hje⟩ := List.getElem?_eq_some_iff.1 hj
  rcases Nat.lt_or_gt_of_ne hij with hlt | hlt
  · have := List.pairwise_iff_getElem.1 hp i j hil hjl hlt
    rw [hie,hje] at this
    exact this x hx
  · have := List.pairwise_iff_getElem.1 hp j i hjl hil hlt
    rw [hie,hje] at this
    exact fun hw => this x hw hx
theorem allO_one {vs : List Vw3} (h : (allO vs).Nodup) {i : Nat} {v : Vw3} (hi : vs[i]? = some v) : (offs v.1 v.2.1 v.2.2).Nodup := by
  unfold allO at h
  induction vs generalizing i with
  | nil => simp at hi
  | cons a r ih =>
    rw [List.flatMap_cons,List.nodup_append] at h
    cases i with
    | zero => simp at hi; subst hi; exact h.1
    | succ i => exact ih h.2.1 (by simpa using hi)
theorem hold_one {vs : List Vw3} {k x : Int} (h : tiB vs k = true) (h0 : 0 ≤ x) (h1 : x < k) : (MVL (vvB vs) (hoT vs x vs.length)).length = 1 := by
  obtain ⟨hv,hk,hd,hb,hall⟩ := til_facts h
  obtain ⟨v,hvm,hxv⟩ := List.mem_flatMap.1 (hall x h0 h1)
  obtain ⟨j,hj⟩ := List.mem_iff_getElem?.1 hvm
  have hjl := (List.getElem?_eq_some_iff.1 hj).1
  have he : hoT vs x vs.length = [(j : Int)] := by
    refine sorted_ext (hoT_sorted _ _ _) (List.pairwise_singleton ..) fun y => ?_
    rw [mem_hoT,List.mem_singleton]
    constructor
    · rintro ⟨i,hil,hxi,rfl⟩
      obtain ⟨w,hw⟩ : ∃ w,vs[i]? = some w := ⟨_,List.getElem?_eq_getElem hil⟩
      rw [atV_some hw] at hxi
      by_cases e : i = j
      · rw [e]
      · exact absurd hxv (allO_disj hd hw hj e hxi)
    · rintro rfl
      exact ⟨j,hjl,by rw [atV_some hj]; exact hxv,rfl⟩
  rw [hv,he]
  rfl
theorem til_do {vs : List Vw3} {k : Int} (h : tiB vs k = true) {i j : Nat} {v w : Vw3} (hi : vs[i]? = some v) (hj : vs[j]? = some w) (hij : i ≠ j) : doB v.1 v.2.1 v.2.2 w.1 w.2.1 w.2.2 = false := by
  obtain ⟨hv,hk,hd,hb,hall⟩ := til_facts h
  unfold doB
  have : (bothL (offs v.1 v.2.1 v.2.2) (offs w.1 w.2.1 w.2.2)) = [] := List.eq_nil_iff_forall_not_mem.2 fun x hx => by
    unfold bothL at hx
    have := (List.mem_filter.1 hx).2
    rw [decide_eq_true_eq] at this
    exact allO_disj hd hi hj hij this.1 this.2
  rw [this]
  unfold MVL
  split <;> simp
theorem til_fit {vs : List Vw3} {k : Int} (h : tiB vs k = true) {i : Nat} {v : Vw3} (hi : vs[i]? = some v) : oneB v.1 v.2.1 v.2.2 = true ∧ fitB v.1 v.2.1 v.2.2 k = true := by
  obtain ⟨hv,hk,hd,hb,hall⟩ := til_facts h
  have hvv := (vvB_spec.1 hv).2 v (List.mem_of_getElem? hi)
  refine ⟨by unfold oneB; rw [hvv,decide_eq_true (allO_one hd hi)]; rfl,?_⟩
  unfold fitB
  rw [hvv]
  simp only [Bool.true_and,Bool.and_eq_true,decide_eq_true_eq]
  exact ⟨hk,allI_iff.2 fun x hx => hb x (List.mem_flatMap.2 ⟨v,List.mem_of_getElem? hi,hx⟩)⟩
theorem tilF_b {vs : List Vw3} {k : Int} (h : tilF vs k) : vs.length ≤ 1099511627776 ∧ ∀ v ∈ vs,v.2.1.length ≤ 1099511627776 ∧ v.2.2.length ≤ 1099511627776 := by
  obtain ⟨h1,h2,h3⟩ := h
  exact ⟨by omega,fun v hv => by have := h2 v hv; omega⟩


set_option maxHeartbeats 8000000 in
theorem drawHolB_ok (bs : List Int) (n : Nat) (hn : bs.length = n) (hb : n ≤ 1099511627776 ∧ ∀ x ∈ bs,0 ≤ x ∧ x ≤ 255) : BCall Try.prog 36 [.rows false (UL bs) n] [] (fun r H' => ∃ (vs : List Vw3) (k : Int),tilF vs k ∧ r = .tup [.own 0 vs.length 3,.int .i64 k] ∧ H' = [VLt vs]) := by
  refine bcall_of (pins := []) (pin := 0) l36_eq rfl rfl rfl ?_
  (repeat' (first
 | (first | refine awp_seq ?_ | refine awp_block ?_)
 | ((first | refine awp_reg ?_ | refine awp_condB ?_ | refine awp_skip ?_ | refine awp_exit ?_); simp (disch := omega) only [push_cast,seval,l36r0,l36r1,l36r2,l36r3,innL_VLt])
 | ((first | refine condB_split (fun h => ?_) (fun h => ?_) | refine gIf_split (fun h => ?_) (fun h => ?_) | refine qIf_split (fun h => ?_) (fun h => ?_)) <;> (try simp only [h]) <;> (try simp only [bitvec_to_nat] at h) <;> (try simp only [h]) <;> (first | (exfalso; omega) | (focus (exfalso; simp_all; done)) | (simp (disch := omega) only [push_cast,seval,innL_VLt]) | skip))
 | ((first | ((with_reducible refine callD_of (f := 40) true ?_); simp (disch := omega) only [push_cast,seval,innL_VLt]; (refine call0D (newReader_ok _ _ ?_ ?_) ?_; (iterate 2 (exact sd)); rintro _ _ ⟨bs0,hbs0,rfl,rfl⟩)) | ((with_reducible refine callD_ids (f := 61) [128] true ?_); simp (disch := omega) only [push_cast,seval,innL_VLt]; (refine call1D (id := 128) (tiling_ok _ _ ?_ ?_) (by first | ((simp (disch := omega) only [push_cast,seval,innL_VLt]); done) | ((simp (disch := omega) only [push_cast,seval,innL_VLt]); rfl)) ?_; (iterate 2 (exact sd)); rintro _ _ ⟨vs,k,q,htf,hq,rfl,rfl⟩)) | ((with_reducible refine callD_ids (f := 78) [128] true ?_); simp (disch := omega) only [push_cast,seval,innL_VLt]; (refine call1D (id := 128) (pick_ok _ _ _ ?_ ?_) (by first | ((simp (disch := omega) only [push_cast,seval,innL_VLt]); done) | ((simp (disch := omega) only [push_cast,seval,innL_VLt]); rfl)) ?_; (iterate 2 (exact sd)); rintro _ _ ⟨x,hx0,hx1,rfl,rfl⟩)) | ((with_reducible refine qcallI_of (f := 78) [128] true ?_); simp (disch := omega) only [push_cast,seval,innL_VLt]; (refine qcall1D (id := 128) (pick_ok _ _ _ ?_ ?_) (by first | ((simp (disch := omega) only [push_cast,seval,innL_VLt]); done) | ((simp (disch := omega) only [push_cast,seval,innL_VLt]); rfl)) (by decide) ⟨_,_,0,by omega,Or.inr (Or.inr rfl),rfl,rfl⟩ ?_; (iterate 2 (exact sd)); rintro _ _ ⟨x,hx0,hx1,rfl,rfl⟩)) | ((with_reducible refine callD_ids (f := 46) (args := [Operand.tmp 15,Operand.tmp 18]) [128,288] true ?_); simp (disch := omega) only [push_cast,seval,innL_VLt]; (refine call2D (id := 128) (id' := 288) (by decide) (one_ok _ _ _ _ ?_ ?_ ?_ ?_ ?_) (by first | ((simp (disch := omega) only [push_cast,seval,innL_VLt]); done) | ((simp (disch := omega) only [push_cast,seval,innL_VLt]); rfl)) (by first | ((simp (disch := omega) only [push_cast,seval,innL_VLt]); done) | ((simp (disch := omega) only [push_cast,seval,innL_VLt]); rfl)) ?_; (iterate 5 (exact sd)); rintro _ _ ⟨x,hx,hx0,rfl,rfl⟩)) | ((with_reducible refine callD_ids (f := 46) [128] true ?_); simp (disch := omega) only [push_cast,seval,innL_VLt]; (refine call1D (id := 128) (oneR_ok _ _ _ _ ?_ ?_ ?_ ?_ ?_) (by first | ((simp (disch := omega) only [push_cast,seval,innL_VLt]); done) | ((simp (disch := omega) only [push_cast,seval,innL_VLt]); rfl)) ?_; (iterate 5 (exact sd)); rintro _ _ ⟨x,hx,hx0,rfl,rfl⟩)) | ((with_reducible refine qcallI_of (f := 46) [128] true ?_); simp (disch := omega) only [push_cast,seval,innL_VLt]; (refine qcall1D (id := 128) (oneR_ok _ _ _ _ ?_ ?_ ?_ ?_ ?_) (by first | ((simp (disch := omega) only [push_cast,seval,innL_VLt]); done) | ((simp (disch := omega) only [push_cast,seval,innL_VLt]); rfl)) (by decide) (by simp only [unI_cons,unI_nil];exact ⟨_,_,_,List.mem_cons_self,by omega,rfl,rfl⟩) ?_; (iterate 5 (exact sd)); rintro _ _ ⟨x,hx,hx0,rfl,rfl⟩))) <;> (try simp (disch := omega) only [push_cast,seval,innL_VLt]))))
  have hk : -10 ≤ x ∧ x ≤ 100 := by
    simp only [unI_cons,unI_nil,List.mem_cons,List.not_mem_nil,or_false] at hx
    omega
  all_goals ((refine awp_ret ⟨.inr rfl,[176],[],_,by decide,rfl,?_⟩; (try simp (disch := omega) only [push_cast,seval,↓allMem_nil,↓allMem_cons,↓List.map_cons,↓List.map_nil,innL_VLt])); exact ⟨vs,x,⟨htf.1,htf.2.1,hk⟩,rfl,rfl⟩)
theorem drawHol_ok (bs : List Int) (n : Nat) (hn : bs.length = n) (hb : n ≤ 1099511627776 ∧ ∀ x ∈ bs,0 ≤ x ∧ x ≤ 255) : PCall Try.prog 36 [.rows false (UL bs) n] (fun r => ∃ (vs : List Vw3) (k : Int),tilF vs k ∧ r = .tup [.rows true (VLt vs) vs.length,.int .i64 k]) := by
  refine (BCall.plain (drawHolB_ok bs n hn hb)).mono ?_
  rintro r ⟨r0,H',⟨vs,k,htf,rfl,rfl⟩,rfl⟩
  refine ⟨vs,k,htf,?_⟩
  have e := ren_VLs17 (ρ := fun _ => none) (Zh := nthH [VLt vs]) (b0 := true) (n := 1) vs
  simp [AV.ren,nthH,VLt_length]
  exact e


set_option maxHeartbeats 32000000 in
theorem fHol_ok (bs : List Int) (hl : bs.length ≤ 9223372036854775807) (hb : ∀ x ∈ bs,0 ≤ x ∧ x ≤ 255) : PCall Try.prog 9 [.rows false (UL bs) bs.length] (fun r => r = .bool true) := by
  refine pcall_of l9_eq rfl ?_
  by_cases h : bs.length ≤ 1048576
  · have q : bs.length ≤ 1099511627776 ∧ ∀ x ∈ bs,0 ≤ x ∧ x ≤ 255 := ⟨by omega,hb⟩
    (repeat' (first
 | (refine awp_joinL (c1 := .reg l9r3) (fun x : List Vw3 × Int => mkS [(3,.rows true (VLt x.1) x.1.length),(4,.int .i64 x.2)] []) (fun x => tilF x.1 x.2) ?_ ?_)
 | (first | refine awp_seq ?_ | refine awp_block ?_)
 | ((first | refine awp_reg ?_ | refine awp_draw (mid := l9r9a) (post := l9r9b) mixed (by decide) ?_ | refine awp_condB ?_ | refine awp_skip ?_ | refine awp_exit ?_); simp (disch := omega) only [push_cast,seval,l9r0,l9r1,l9r2,l9r3,l9r4,l9r5,l9r6,l9r7,l9r8,l9r9a,l9r9b,l9r9,l9r10,l9r11,l9r12,innL_VLt])
 | ((first | refine condB_split (fun h => ?_) (fun h => ?_) | refine gIf_split (fun h => ?_) (fun h => ?_) | refine qIf_split (fun h => ?_) (fun h => ?_)) <;> (try simp only [h]) <;> (try simp only [bitvec_to_nat] at h) <;> (try simp only [h]) <;> (first | (exfalso; omega) | (focus (exfalso; simp_all; done)) | (simp (disch := omega) only [push_cast,seval,innL_VLt]) | skip))
 | ((first | refine callD_of false ?_ | refine qcallD_of false ?_); simp (disch := omega) only [push_cast,seval,innL_VLt])
 | ((first | (refine call0D (BCall.ofP (drawHol_ok _ _ ?_ ?_)) ?_; (iterate 2 (exact sd)); rintro _ _ ⟨⟨vs,k,htf,rfl⟩,rfl⟩) | ((first | refine call0D (iHo_ok _ _ _ ?_ ?_) ?_ | refine qcall0D (iHo_ok _ _ _ ?_ ?_) ⟨_,_,rfl,rfl⟩ ?_); (iterate 2 (exact sd)); rintro _ _ ⟨rfl,rfl⟩) | ((first | refine call0D (sHo_ok _ _ _ ?_ ?_) ?_ | refine qcall0D (sHo_ok _ _ _ ?_ ?_) ⟨_,_,rfl,rfl⟩ ?_); (iterate 2 (exact sd)); rintro _ _ ⟨rfl,rfl⟩) | ((first | refine call0D (BCall.ofP (equalInts_ok _ _ _ _ ?_ ?_ ?_)) ?_ | refine qcall0D (BCall.ofP (equalInts_ok _ _ _ _ ?_ ?_ ?_)) ⟨_,_,rfl,rfl⟩ ?_); (iterate 3 (exact sd)); rintro _ _ ⟨rfl,rfl⟩) | ((first | refine call0D (BCall.ofP (isInL_ok _ _ _ ?_ ?_)) ?_ | refine qcall0D (BCall.ofP (isInL_ok _ _ _ ?_ ?_)) ⟨_,_,rfl,rfl⟩ ?_); (iterate 2 (exact sd)); rintro _ _ ⟨rfl,rfl⟩) | ((first | refine call0D (iCe_ok _ _ _ _ _ ?_ ?_ ?_) ?_ | refine qcall0D (iCe_ok _ _ _ _ _ ?_ ?_ ?_) ⟨_,_,rfl,rfl⟩ ?_); (iterate 3 (exact sd)); rintro _ _ ⟨rfl,rfl⟩) | ((first | refine call0D (BCall.ofP (ascends_ok _ _ ?_ ?_)) ?_ | refine qcall0D (BCall.ofP (ascends_ok _ _ ?_ ?_)) ⟨_,_,rfl,rfl⟩ ?_); (iterate 2 (exact sd)); rintro _ _ ⟨rfl,rfl⟩)) <;> (try simp (disch := omega) only [push_cast,seval,innL_VLt]))
 | (refine awp_ret ⟨.inr rfl,_,rfl,?_⟩; (try simp (disch := omega) only [push_cast,seval,innL_VLt]))))
    · refine ⟨(vs,k),htf,?_⟩
      (refine Sub.of_lists ?_ ?_ ?_ ?_ ?_ <;> simp [Vw.mkS,Vw.lk,Vw.hk,AV.inn,innL,innL_ints,innL_append,innL_rep,-List.map_set,-List.getD_eq_getElem?_getD,innL_VLt])
    · refine ⟨?_⟩
      rintro ⟨vs,k⟩ htf
      try simp only at htf ⊢
      have hq := tilF_b htf
      have hvl := VLt_length vs
      obtain ⟨M,hM⟩ : ∃ M,MVL (vvB vs) (hoT vs k vs.length) = M := ⟨_,rfl⟩
      have hMl : M.length ≤ 1099511627776 := by
        rw [← hM]
        have := hoT_le vs k vs.length
        unfold MVL
        split
        · omega
        · simp
      by_cases hM0 : (M.length : Int) = 0
      · (repeat' (first
 | (first | refine awp_seq ?_ | refine awp_block ?_)
 | ((first | refine awp_reg ?_ | refine awp_draw (mid := l9r9a) (post := l9r9b) mixed (by decide) ?_ | refine awp_condB ?_ | refine awp_skip ?_ | refine awp_exit ?_); simp (disch := omega) only [push_cast,seval,l9r0,l9r1,l9r2,l9r3,l9r4,l9r5,l9r6,l9r7,l9r8,l9r9a,l9r9b,l9r9,l9r10,l9r11,l9r12,hM,hM0,decide_true,innL_VLt])
 | ((first | refine condB_split (fun h => ?_) (fun h => ?_) | refine gIf_split (fun h => ?_) (fun h => ?_) | refine qIf_split (fun h => ?_) (fun h => ?_)) <;> (try simp only [h]) <;> (try simp only [bitvec_to_nat] at h) <;> (try simp only [h]) <;> (first | (exfalso; omega) | (focus (exfalso; simp_all; done)) | (simp (disch := omega) only [push_cast,seval,hM,hM0,decide_true,innL_VLt]) | skip))
 | ((first | refine callD_of false ?_ | refine qcallD_of false ?_); simp (disch := omega) only [push_cast,seval,hM,hM0,decide_true,innL_VLt])
 | ((first | (refine call0D (BCall.ofP (drawHol_ok _ _ ?_ ?_)) ?_; (iterate 2 (exact sd)); rintro _ _ ⟨⟨vs,k,htf,rfl⟩,rfl⟩) | ((first | refine call0D (iHo_ok _ _ _ ?_ ?_) ?_ | refine qcall0D (iHo_ok _ _ _ ?_ ?_) ⟨_,_,rfl,rfl⟩ ?_); (iterate 2 (exact sd)); rintro _ _ ⟨rfl,rfl⟩) | ((first | refine call0D (sHo_ok _ _ _ ?_ ?_) ?_ | refine qcall0D (sHo_ok _ _ _ ?_ ?_) ⟨_,_,rfl,rfl⟩ ?_); (iterate 2 (exact sd)); rintro _ _ ⟨rfl,rfl⟩) | ((first | refine call0D (BCall.ofP (equalInts_ok _ _ _ _ ?_ ?_ ?_)) ?_ | refine qcall0D (BCall.ofP (equalInts_ok _ _ _ _ ?_ ?_ ?_)) ⟨_,_,rfl,rfl⟩ ?_); (iterate 3 (exact sd)); rintro _ _ ⟨rfl,rfl⟩) | ((first | refine call0D (BCall.ofP (isInL_ok _ _ _ ?_ ?_)) ?_ | refine qcall0D (BCall.ofP (isInL_ok _ _ _ ?_ ?_)) ⟨_,_,rfl,rfl⟩ ?_); (iterate 2 (exact sd)); rintro _ _ ⟨rfl,rfl⟩) | ((first | refine call0D (iCe_ok _ _ _ _ _ ?_ ?_ ?_) ?_ | refine qcall0D (iCe_ok _ _ _ _ _ ?_ ?_ ?_) ⟨_,_,rfl,rfl⟩ ?_); (iterate 3 (exact sd)); rintro _ _ ⟨rfl,rfl⟩) | ((first | refine call0D (BCall.ofP (ascends_ok _ _ ?_ ?_)) ?_ | refine qcall0D (BCall.ofP (ascends_ok _ _ ?_ ?_)) ⟨_,_,rfl,rfl⟩ ?_); (iterate 2 (exact sd)); rintro _ _ ⟨rfl,rfl⟩)) <;> (try simp (disch := omega) only [push_cast,seval,hM,hM0,decide_true,innL_VLt]))
 | (refine awp_ret ⟨.inr rfl,_,rfl,?_⟩; (try simp (disch := omega) only [push_cast,seval,hM,hM0,decide_true,innL_VLt]))))
        all_goals (try simp)
      · have hvv : vvB vs = true := by
          cases hv : vvB vs with
          | true => rfl
          | false => rw [hv] at hM; subst hM; exact absurd rfl hM0
        have hM2 : hoT vs k vs.length = M := by rw [hvv] at hM; exact hM
        have hasc : M.length ≤ 1099511627776 ∧ ∀ i : Nat,1 ≤ i → i < M.length → M.getD (i - 1) 0 < M.getD i 0 := ⟨hMl,fun i h1 h2 => by
          have hs := hoT_sorted vs k vs.length
          rw [hM2] at hs
          have := List.pairwise_iff_getElem.1 hs (i - 1) i (by omega) h2 (by omega)
          simpa [List.getD,h2,show i - 1 < M.length by omega] using this⟩
        have hmem : ∀ (i : Nat) (v : Vw3),vs[i]? = some v → (decide ((i : Int) ∈ M) = decide (k ∈ MVL (vV v.1 v.2.1 v.2.2) (bothL (offs v.1 v.2.1 v.2.2) (offs v.1 v.2.1 v.2.2)))) := fun i v hvi => by
          have hvi2 := (vvB_spec.1 hvv).2 v (List.mem_of_getElem? hvi)
          rw [← hM2,hvi2]
          have e1 : ((i : Int) ∈ hoT vs k vs.length) ↔ k ∈ offs v.1 v.2.1 v.2.2 := by
            rw [mem_hoT]
            constructor
            · rintro ⟨j,hj,hk,e⟩
              have : j = i := by omega
              subst this
              rwa [atV_some hvi] at hk
            · intro hk
              exact ⟨i,(List.getElem?_eq_some_iff.1 hvi).1,by rw [atV_some hvi]; exact hk,rfl⟩
          have e2 : k ∈ MVL true (bothL (offs v.1 v.2.1 v.2.2) (offs v.1 v.2.1 v.2.2)) ↔ k ∈ offs v.1 v.2.1 v.2.2 := by
            show k ∈ bothL _ _ ↔ _
            unfold bothL
            rw [List.mem_filter,decide_eq_true_eq]
            constructor
            · exact fun h => h.2.1
            · intro hk
              have := vV_cells hvi2 k hk
              exact ⟨by rw [mem_nums]; exact ⟨k.toNat,by omega,by omega⟩,hk,hk⟩
          by_cases hk : k ∈ offs v.1 v.2.1 v.2.2
          · rw [decide_eq_true (e1.2 hk),decide_eq_true (e2.2 hk)]
          · rw [decide_eq_false fun h => hk (e1.1 h),decide_eq_false fun h => hk (e2.1 h)]
        have hbl : ∀ v : Vw3,(MVL (vV v.1 v.2.1 v.2.2) (bothL (offs v.1 v.2.1 v.2.2) (offs v.1 v.2.1 v.2.2))).length ≤ 60 := fun v => by
          have hb60 : (bothL (offs v.1 v.2.1 v.2.2) (offs v.1 v.2.1 v.2.2)).length ≤ 60 := by
            unfold bothL
            exact Nat.le_trans (List.length_filter_le ..) (by rw [nums_length]; exact Nat.le_refl _)
          unfold MVL
          split
          · exact hb60
          · simp
        clear hM2
        (repeat' (first
 | (first | refine awp_seq ?_ | refine awp_block ?_)
 | ((first | refine awp_reg ?_ | refine awp_draw (mid := l9r9a) (post := l9r9b) mixed (by decide) ?_ | refine awp_condB ?_ | refine awp_skip ?_ | refine awp_exit ?_); simp (disch := omega) only [push_cast,seval,l9r0,l9r1,l9r2,l9r3,l9r4,l9r5,l9r6,l9r7,l9r8,l9r9a,l9r9b,l9r9,l9r10,l9r11,l9r12,hM,hM0,decide_true,innL_VLt])
 | ((first | refine condB_split (fun h => ?_) (fun h => ?_) | refine gIf_split (fun h => ?_) (fun h => ?_) | refine qIf_split (fun h => ?_) (fun h => ?_)) <;> (try simp only [h]) <;> (try simp only [bitvec_to_nat] at h) <;> (try simp only [h]) <;> (first | (exfalso; omega) | (focus (exfalso; simp_all; done)) | (simp (disch := omega) only [push_cast,seval,hM,hM0,decide_true,innL_VLt]) | skip))
 | ((first | refine callD_of false ?_ | refine qcallD_of false ?_); simp (disch := omega) only [push_cast,seval,hM,hM0,decide_true,innL_VLt])
 | ((first | (refine call0D (BCall.ofP (drawHol_ok _ _ ?_ ?_)) ?_; (iterate 2 (exact sd)); rintro _ _ ⟨⟨vs,k,htf,rfl⟩,rfl⟩) | ((first | refine call0D (iHo_ok _ _ _ ?_ ?_) ?_ | refine qcall0D (iHo_ok _ _ _ ?_ ?_) ⟨_,_,rfl,rfl⟩ ?_); (iterate 2 (exact sd)); rintro _ _ ⟨rfl,rfl⟩) | ((first | refine call0D (sHo_ok _ _ _ ?_ ?_) ?_ | refine qcall0D (sHo_ok _ _ _ ?_ ?_) ⟨_,_,rfl,rfl⟩ ?_); (iterate 2 (exact sd)); rintro _ _ ⟨rfl,rfl⟩) | ((first | refine call0D (BCall.ofP (equalInts_ok _ _ _ _ ?_ ?_ ?_)) ?_ | refine qcall0D (BCall.ofP (equalInts_ok _ _ _ _ ?_ ?_ ?_)) ⟨_,_,rfl,rfl⟩ ?_); (iterate 3 (exact sd)); rintro _ _ ⟨rfl,rfl⟩) | ((first | refine call0D (BCall.ofP (isInL_ok _ _ _ ?_ ?_)) ?_ | refine qcall0D (BCall.ofP (isInL_ok _ _ _ ?_ ?_)) ⟨_,_,rfl,rfl⟩ ?_); (iterate 2 (exact sd)); rintro _ _ ⟨rfl,rfl⟩) | ((first | refine call0D (iCe_ok _ _ _ _ _ ?_ ?_ ?_) ?_ | refine qcall0D (iCe_ok _ _ _ _ _ ?_ ?_ ?_) ⟨_,_,rfl,rfl⟩ ?_); (iterate 3 (exact sd)); rintro _ _ ⟨rfl,rfl⟩) | ((first | refine call0D (BCall.ofP (ascends_ok _ _ ?_ ?_)) ?_ | refine qcall0D (BCall.ofP (ascends_ok _ _ ?_ ?_)) ⟨_,_,rfl,rfl⟩ ?_); (iterate 2 (exact sd)); rintro _ _ ⟨rfl,rfl⟩)) <;> (try simp (disch := omega) only [push_cast,seval,hM,hM0,decide_true,innL_VLt]))
 | (refine awp_ret ⟨.inr rfl,_,rfl,?_⟩; (try simp (disch := omega) only [push_cast,seval,hM,hM0,decide_true,innL_VLt]))))
        refine awp_loop (fun i : Nat => mkS [(3,.rows true (VLt vs) vs.length),(4,.int .i64 k),(5,.own 272 M.length 1),(6,.int .i64 i)] [(272,IL M)]) (fun i => i ≤ vs.length) (fun i => vs.length - i) 0 (Nat.zero_le _) ?_ ?_
        · (refine Sub.of_lists ?_ ?_ ?_ ?_ ?_ <;> simp [Vw.mkS,Vw.lk,Vw.hk,AV.inn,innL,innL_ints,innL_append,innL_rep,-List.map_set,-List.getD_eq_getElem?_getD,innL_VLt])
        · intro i hi
          by_cases hil : i < vs.length
          · obtain ⟨⟨b,sh,st⟩,hvi⟩ : ∃ v,vs[i]? = some v := ⟨_,List.getElem?_eq_getElem hil⟩
            have hbv := hq.2 _ (List.mem_of_getElem? hvi)
            have hdi := VLt_drop vs i hvi
            have hme := hmem i _ hvi
            have hb60 := hbl (b,sh,st)
            simp only at hdi hbv hme hb60
            have hi3 : i * 3 + 3 ≤ vs.length * 3 := by omega
            clear hmem hbl hasc
            generalize hB : MVL (vV b sh st) (bothL (offs b sh st) (offs b sh st)) = B at *
            have hBb : B.length ≤ 1099511627776 := by omega
            (repeat' (first
 | (first | refine awp_seq ?_ | refine awp_block ?_)
 | ((first | refine awp_reg ?_ | refine awp_draw (mid := l9r9a) (post := l9r9b) mixed (by decide) ?_ | refine awp_condB ?_ | refine awp_skip ?_ | refine awp_exit ?_); simp (disch := omega) only [push_cast,seval,l9r0,l9r1,l9r2,l9r3,l9r4,l9r5,l9r6,l9r7,l9r8,l9r9a,l9r9b,l9r9,l9r10,l9r11,l9r12,hdi,hvl,hi3,hB,hme,ne_eq,not_true_eq_false,decide_false,innL_VLt])
 | ((first | refine condB_split (fun h => ?_) (fun h => ?_) | refine gIf_split (fun h => ?_) (fun h => ?_) | refine qIf_split (fun h => ?_) (fun h => ?_)) <;> (try simp only [h]) <;> (try simp only [bitvec_to_nat] at h) <;> (try simp only [h]) <;> (first | (exfalso; omega) | (focus (exfalso; simp_all; done)) | (simp (disch := omega) only [push_cast,seval,hdi,hvl,hi3,hB,hme,ne_eq,not_true_eq_false,decide_false,innL_VLt]) | skip))
 | ((first | refine callD_of false ?_ | refine qcallD_of false ?_); simp (disch := omega) only [push_cast,seval,hdi,hvl,hi3,hB,hme,ne_eq,not_true_eq_false,decide_false,innL_VLt])
 | ((first | (refine call0D (BCall.ofP (drawHol_ok _ _ ?_ ?_)) ?_; (iterate 2 (exact sd)); rintro _ _ ⟨⟨vs,k,htf,rfl⟩,rfl⟩) | ((first | refine call0D (iHo_ok _ _ _ ?_ ?_) ?_ | refine qcall0D (iHo_ok _ _ _ ?_ ?_) ⟨_,_,rfl,rfl⟩ ?_); (iterate 2 (exact sd)); rintro _ _ ⟨rfl,rfl⟩) | ((first | refine call0D (sHo_ok _ _ _ ?_ ?_) ?_ | refine qcall0D (sHo_ok _ _ _ ?_ ?_) ⟨_,_,rfl,rfl⟩ ?_); (iterate 2 (exact sd)); rintro _ _ ⟨rfl,rfl⟩) | ((first | refine call0D (BCall.ofP (equalInts_ok _ _ _ _ ?_ ?_ ?_)) ?_ | refine qcall0D (BCall.ofP (equalInts_ok _ _ _ _ ?_ ?_ ?_)) ⟨_,_,rfl,rfl⟩ ?_); (iterate 3 (exact sd)); rintro _ _ ⟨rfl,rfl⟩) | ((first | refine call0D (BCall.ofP (isInL_ok _ _ _ ?_ ?_)) ?_ | refine qcall0D (BCall.ofP (isInL_ok _ _ _ ?_ ?_)) ⟨_,_,rfl,rfl⟩ ?_); (iterate 2 (exact sd)); rintro _ _ ⟨rfl,rfl⟩) | ((first | refine call0D (iCe_ok _ _ _ _ _ ?_ ?_ ?_) ?_ | refine qcall0D (BCall.ofP (plainI (iCe_ok _ _ _ _ _ ?_ ?_ ?_))) ⟨_,_,rfl,rfl⟩ ?_); (iterate 3 (exact sd)); rintro _ _ ⟨rfl,rfl⟩) | ((first | refine call0D (BCall.ofP (ascends_ok _ _ ?_ ?_)) ?_ | refine qcall0D (BCall.ofP (ascends_ok _ _ ?_ ?_)) ⟨_,_,rfl,rfl⟩ ?_); (iterate 2 (exact sd)); rintro _ _ ⟨rfl,rfl⟩)) <;> (try simp (disch := omega) only [push_cast,seval,hdi,hvl,hi3,hB,hme,ne_eq,not_true_eq_false,decide_false,innL_VLt]))
 | (refine awp_ret ⟨.inr rfl,_,rfl,?_⟩; (try simp (disch := omega) only [push_cast,seval,hdi,hvl,hi3,hB,hme,ne_eq,not_true_eq_false,decide_false,innL_VLt]))))
            all_goals first
              | (refine ⟨i + 1,by omega,by omega,?_⟩
                 focus ((refine Sub.of_lists ?_ ?_ ?_ ?_ ?_ <;> simp [Vw.mkS,Vw.lk,Vw.hk,AV.inn,innL,innL_ints,innL_append,innL_rep,-List.map_set,-List.getD_eq_getElem?_getD,innL_VLt]); done))
              | simp
          · have hil' : ¬ (i : Int) < vs.length := by omega
            clear hmem hbl
            (repeat' (first
 | (first | refine awp_seq ?_ | refine awp_block ?_)
 | ((first | refine awp_reg ?_ | refine awp_draw (mid := l9r9a) (post := l9r9b) mixed (by decide) ?_ | refine awp_condB ?_ | refine awp_skip ?_ | refine awp_exit ?_); simp (disch := omega) only [push_cast,seval,l9r0,l9r1,l9r2,l9r3,l9r4,l9r5,l9r6,l9r7,l9r8,l9r9a,l9r9b,l9r9,l9r10,l9r11,l9r12,hil',decide_true,innL_VLt])
 | ((first | refine condB_split (fun h => ?_) (fun h => ?_) | refine gIf_split (fun h => ?_) (fun h => ?_) | refine qIf_split (fun h => ?_) (fun h => ?_)) <;> (try simp only [h]) <;> (try simp only [bitvec_to_nat] at h) <;> (try simp only [h]) <;> (first | (exfalso; omega) | (focus (exfalso; simp_all; done)) | (simp (disch := omega) only [push_cast,seval,hil',decide_true,innL_VLt]) | skip))
 | ((first | refine callD_of false ?_ | refine qcallD_of false ?_); simp (disch := omega) only [push_cast,seval,hil',decide_true,innL_VLt])
 | ((first | (refine call0D (BCall.ofP (drawHol_ok _ _ ?_ ?_)) ?_; (iterate 2 (exact sd)); rintro _ _ ⟨⟨vs,k,htf,rfl⟩,rfl⟩) | ((first | refine call0D (iHo_ok _ _ _ ?_ ?_) ?_ | refine qcall0D (iHo_ok _ _ _ ?_ ?_) ⟨_,_,rfl,rfl⟩ ?_); (iterate 2 (exact sd)); rintro _ _ ⟨rfl,rfl⟩) | ((first | refine call0D (sHo_ok _ _ _ ?_ ?_) ?_ | refine qcall0D (sHo_ok _ _ _ ?_ ?_) ⟨_,_,rfl,rfl⟩ ?_); (iterate 2 (exact sd)); rintro _ _ ⟨rfl,rfl⟩) | ((first | refine call0D (BCall.ofP (equalInts_ok _ _ _ _ ?_ ?_ ?_)) ?_ | refine qcall0D (BCall.ofP (equalInts_ok _ _ _ _ ?_ ?_ ?_)) ⟨_,_,rfl,rfl⟩ ?_); (iterate 3 (exact sd)); rintro _ _ ⟨rfl,rfl⟩) | ((first | refine call0D (BCall.ofP (isInL_ok _ _ _ ?_ ?_)) ?_ | refine qcall0D (BCall.ofP (isInL_ok _ _ _ ?_ ?_)) ⟨_,_,rfl,rfl⟩ ?_); (iterate 2 (exact sd)); rintro _ _ ⟨rfl,rfl⟩) | ((first | refine call0D (iCe_ok _ _ _ _ _ ?_ ?_ ?_) ?_ | refine qcall0D (iCe_ok _ _ _ _ _ ?_ ?_ ?_) ⟨_,_,rfl,rfl⟩ ?_); (iterate 3 (exact sd)); rintro _ _ ⟨rfl,rfl⟩) | ((first | refine call0D (BCall.ofP (ascends_ok _ _ ?_ ?_)) ?_ | refine qcall0D (BCall.ofP (ascends_ok _ _ ?_ ?_)) ⟨_,_,rfl,rfl⟩ ?_); (iterate 2 (exact sd)); rintro _ _ ⟨rfl,rfl⟩)) <;> (try simp (disch := omega) only [push_cast,seval,hil',decide_true,innL_VLt]))
 | (refine awp_ret ⟨.inr rfl,_,rfl,?_⟩; (try simp (disch := omega) only [push_cast,seval,hil',decide_true,innL_VLt]))))
  · (repeat' (first
 | (first | refine awp_seq ?_ | refine awp_block ?_)
 | ((first | refine awp_reg ?_ | refine awp_draw (mid := l9r9a) (post := l9r9b) mixed (by decide) ?_ | refine awp_condB ?_ | refine awp_skip ?_ | refine awp_exit ?_); simp (disch := omega) only [push_cast,seval,l9r0,l9r1,l9r2,l9r3,l9r4,l9r5,l9r6,l9r7,l9r8,l9r9a,l9r9b,l9r9,l9r10,l9r11,l9r12])
 | ((first | refine condB_split (fun h => ?_) (fun h => ?_) | refine gIf_split (fun h => ?_) (fun h => ?_) | refine qIf_split (fun h => ?_) (fun h => ?_)) <;> (try simp only [h]) <;> (try simp only [bitvec_to_nat] at h) <;> (try simp only [h]) <;> (first | (exfalso; omega) | (focus (exfalso; simp_all; done)) | (simp (disch := omega) only [push_cast,seval]) | skip))
 | ((first | refine callD_of false ?_ | refine qcallD_of false ?_); simp (disch := omega) only [push_cast,seval])
 | ((first | (refine call0D (BCall.ofP (drawHol_ok _ _ ?_ ?_)) ?_; (iterate 2 (exact sd)); rintro _ _ ⟨⟨vs,k,htf,rfl⟩,rfl⟩) | ((first | refine call0D (iHo_ok _ _ _ ?_ ?_) ?_ | refine qcall0D (iHo_ok _ _ _ ?_ ?_) ⟨_,_,rfl,rfl⟩ ?_); (iterate 2 (exact sd)); rintro _ _ ⟨rfl,rfl⟩) | ((first | refine call0D (sHo_ok _ _ _ ?_ ?_) ?_ | refine qcall0D (sHo_ok _ _ _ ?_ ?_) ⟨_,_,rfl,rfl⟩ ?_); (iterate 2 (exact sd)); rintro _ _ ⟨rfl,rfl⟩) | ((first | refine call0D (BCall.ofP (equalInts_ok _ _ _ _ ?_ ?_ ?_)) ?_ | refine qcall0D (BCall.ofP (equalInts_ok _ _ _ _ ?_ ?_ ?_)) ⟨_,_,rfl,rfl⟩ ?_); (iterate 3 (exact sd)); rintro _ _ ⟨rfl,rfl⟩) | ((first | refine call0D (BCall.ofP (isInL_ok _ _ _ ?_ ?_)) ?_ | refine qcall0D (BCall.ofP (isInL_ok _ _ _ ?_ ?_)) ⟨_,_,rfl,rfl⟩ ?_); (iterate 2 (exact sd)); rintro _ _ ⟨rfl,rfl⟩) | ((first | refine call0D (iCe_ok _ _ _ _ _ ?_ ?_ ?_) ?_ | refine qcall0D (iCe_ok _ _ _ _ _ ?_ ?_ ?_) ⟨_,_,rfl,rfl⟩ ?_); (iterate 3 (exact sd)); rintro _ _ ⟨rfl,rfl⟩) | ((first | refine call0D (BCall.ofP (ascends_ok _ _ ?_ ?_)) ?_ | refine qcall0D (BCall.ofP (ascends_ok _ _ ?_ ?_)) ⟨_,_,rfl,rfl⟩ ?_); (iterate 2 (exact sd)); rintro _ _ ⟨rfl,rfl⟩)) <;> (try simp (disch := omega) only [push_cast,seval]))
 | (refine awp_ret ⟨.inr rfl,_,rfl,?_⟩; (try simp (disch := omega) only [push_cast,seval]))))

end Go.Proofs.Ytejbfjmiidofcaa
