import Derived.Test.YtgkgnphonihheaaCKv3
import Derived.Test.YtgkgnphonihheaaCM1
import Derived.Test.YtgkgnphonihheaaCW3
set_option linter.unusedSimpArgs false
set_option linter.unusedVariables false
set_option maxRecDepth 4000
set_option maxHeartbeats 4000000
namespace Go.Proofs.Ytgkgnphonihheaa
open VwM Vw Go

theorem lwithin_ok (xs ys : List Int) (n m : Nat) (hn : xs.length = n) (hm : ys.length = m) (hb : (n ≤ 1099511627776 ∧ m ≤ 1099511627776) ∧ ∀ x ∈ xs,x ∈ ys) : PCall Try.prog 19 [.rows false (IL xs) n,.rows false (IL ys) m] (fun r => r = .bool true) := by
  subst hn hm
  obtain ⟨⟨hb1,hb2⟩,hb⟩ := hb
  refine pcall_of l19_eq rfl ?_
  (repeat' (first
 | (first | refine awp_seq ?_ | refine awp_block ?_)
 | ((first | refine awp_reg ?_ | refine awp_condB ?_ | refine awp_skip ?_ | refine awp_exit ?_); simp (disch := omega) only [push_cast,seval,l19r0,l19r1,l19r2,l19r3,l19r4,l19r5,l19r6])
 | ((first | refine condB_split (fun h => ?_) (fun h => ?_) | refine gIf_split (fun h => ?_) (fun h => ?_) | refine qIf_split (fun h => ?_) (fun h => ?_)) <;> (try simp only [h]) <;> (try simp only [bitvec_to_nat] at h) <;> (try simp only [h]) <;> (first | (exfalso; omega) | (focus (exfalso; simp_all; done)) | (simp (disch := omega) only [push_cast,seval]) | skip))
 | ((first | refine callD_of false ?_ | refine qcallD_of false ?_); simp (disch := omega) only [push_cast,seval])
 | ((first | ((first | refine call0D (BCall.ofP (isInL_ok _ _ _ ?_ ?_)) ?_ | refine qcall0D (BCall.ofP (isInL_ok _ _ _ ?_ ?_)) ⟨_,_,rfl,rfl⟩ ?_); (iterate 2 (exact sd)); rintro _ _ ⟨rfl,rfl⟩)) <;> (try simp (disch := omega) only [push_cast,seval]))
 | (refine awp_ret ⟨.inr rfl,_,rfl,?_⟩; (try simp (disch := omega) only [push_cast,seval]))))
  refine awp_loop (fun k : Nat => mkS [(0,RI xs),(1,RI ys),(5,.int .i64 k)] []) (fun k => k ≤ xs.length) (fun k => xs.length - k) 0 (Nat.zero_le _) ?_ ?_
  · (refine Sub.of_lists ?_ ?_ ?_ ?_ ?_ <;> simp [Vw.mkS,Vw.lk,Vw.hk,AV.inn,innL,innL_ints,innL_append,innL_rep,-List.map_set,-List.getD_eq_getElem?_getD])
  · intro k hk
    by_cases hlt : k < xs.length
    · have hm : decide (xs.getD k 0 ∈ ys) = true := decide_eq_true (hb _ (getD_mem hlt))
      (repeat' (first
 | (first | refine awp_seq ?_ | refine awp_block ?_)
 | ((first | refine awp_reg ?_ | refine awp_condB ?_ | refine awp_skip ?_ | refine awp_exit ?_); simp (disch := omega) only [push_cast,seval,l19r0,l19r1,l19r2,l19r3,l19r4,l19r5,l19r6,hm])
 | ((first | refine condB_split (fun h => ?_) (fun h => ?_) | refine gIf_split (fun h => ?_) (fun h => ?_) | refine qIf_split (fun h => ?_) (fun h => ?_)) <;> (try simp only [h]) <;> (try simp only [bitvec_to_nat] at h) <;> (try simp only [h]) <;> (first | (exfalso; omega) | (focus (exfalso; simp_all; done)) | (simp (disch := omega) only [push_cast,seval,hm]) | skip))
 | ((first | refine callD_of false ?_ | refine qcallD_of false ?_); simp (disch := omega) only [push_cast,seval,hm])
 | ((first | ((first | refine call0D (BCall.ofP (isInL_ok _ _ _ ?_ ?_)) ?_ | refine qcall0D (BCall.ofP (isInL_ok _ _ _ ?_ ?_)) ⟨_,_,rfl,rfl⟩ ?_); (iterate 2 (exact sd)); rintro _ _ ⟨rfl,rfl⟩)) <;> (try simp (disch := omega) only [push_cast,seval,hm]))
 | (refine awp_ret ⟨.inr rfl,_,rfl,?_⟩; (try simp (disch := omega) only [push_cast,seval,hm]))))
      refine ⟨k + 1,by omega,by omega,?_⟩
      (refine Sub.of_lists ?_ ?_ ?_ ?_ ?_ <;> simp [Vw.mkS,Vw.lk,Vw.hk,AV.inn,innL,innL_ints,innL_append,innL_rep,-List.map_set,-List.getD_eq_getElem?_getD])
    · (repeat' (first
 | (first | refine awp_seq ?_ | refine awp_block ?_)
 | ((first | refine awp_reg ?_ | refine awp_condB ?_ | refine awp_skip ?_ | refine awp_exit ?_); simp (disch := omega) only [push_cast,seval,l19r0,l19r1,l19r2,l19r3,l19r4,l19r5,l19r6])
 | ((first | refine condB_split (fun h => ?_) (fun h => ?_) | refine gIf_split (fun h => ?_) (fun h => ?_) | refine qIf_split (fun h => ?_) (fun h => ?_)) <;> (try simp only [h]) <;> (try simp only [bitvec_to_nat] at h) <;> (try simp only [h]) <;> (first | (exfalso; omega) | (focus (exfalso; simp_all; done)) | (simp (disch := omega) only [push_cast,seval]) | skip))
 | ((first | refine callD_of false ?_ | refine qcallD_of false ?_); simp (disch := omega) only [push_cast,seval])
 | ((first | ((first | refine call0D (BCall.ofP (isInL_ok _ _ _ ?_ ?_)) ?_ | refine qcall0D (BCall.ofP (isInL_ok _ _ _ ?_ ?_)) ⟨_,_,rfl,rfl⟩ ?_); (iterate 2 (exact sd)); rintro _ _ ⟨rfl,rfl⟩)) <;> (try simp (disch := omega) only [push_cast,seval]))
 | (refine awp_ret ⟨.inr rfl,_,rfl,?_⟩; (try simp (disch := omega) only [push_cast,seval]))))


theorem lplace_ok (xs : List Int) (n : Nat) (x : Int) (hn : xs.length = n) (hb : n ≤ 1099511627776) : PCall Try.prog 31 [.rows false (IL xs) n,.int .i64 x] (fun r => r = .int .i64 (placeI xs x)) := by
  subst hn
  refine pcall_of l31_eq rfl ?_
  (repeat' (first
 | (first | refine awp_seq ?_ | refine awp_block ?_)
 | ((first | refine awp_reg ?_ | refine awp_condB ?_ | refine awp_skip ?_ | refine awp_exit ?_); simp (disch := omega) only [push_cast,seval,l31r0,l31r1,l31r2,l31r3,l31r4,l31r5,l31r6])
 | ((first | refine condB_split (fun h => ?_) (fun h => ?_) | refine gIf_split (fun h => ?_) (fun h => ?_) | refine qIf_split (fun h => ?_) (fun h => ?_)) <;> (try simp only [h]) <;> (try simp only [bitvec_to_nat] at h) <;> (try simp only [h]) <;> (first | (exfalso; omega) | (focus (exfalso; simp_all; done)) | (simp (disch := omega) only [push_cast,seval]) | skip))
 | (refine awp_ret ⟨.inr rfl,_,rfl,?_⟩; (try simp (disch := omega) only [push_cast,seval]))))
  refine awp_loop (fun k : Nat => mkS [(0,RI xs),(1,.int .i64 x),(5,.int .i64 k)] []) (fun k => k ≤ xs.length ∧ ∀ j : Nat,j < k → xs.getD j 0 ≠ x) (fun k => xs.length - k) 0 ⟨Nat.zero_le _,fun j h => absurd h (Nat.not_lt_zero _)⟩ ?_ ?_
  · (refine Sub.of_lists ?_ ?_ ?_ ?_ ?_ <;> simp [Vw.mkS,Vw.lk,Vw.hk,AV.inn,innL,innL_ints,innL_append,innL_rep,-List.map_set,-List.getD_eq_getElem?_getD])
  · rintro k ⟨hk,hj⟩
    (repeat' (first
 | (first | refine awp_seq ?_ | refine awp_block ?_)
 | ((first | refine awp_reg ?_ | refine awp_condB ?_ | refine awp_skip ?_ | refine awp_exit ?_); simp (disch := omega) only [push_cast,seval,l31r0,l31r1,l31r2,l31r3,l31r4,l31r5,l31r6])
 | ((first | refine condB_split (fun h => ?_) (fun h => ?_) | refine gIf_split (fun h => ?_) (fun h => ?_) | refine qIf_split (fun h => ?_) (fun h => ?_)) <;> (try simp only [h]) <;> (try simp only [bitvec_to_nat] at h) <;> (try simp only [h]) <;> (first | (exfalso; omega) | (focus (exfalso; simp_all; done)) | (simp (disch := omega) only [push_cast,seval]) | skip))
 | (refine awp_ret ⟨.inr rfl,_,rfl,?_⟩; (try simp (disch := omega) only [push_cast,seval]))))
    · rw [placeI_some (j := k) (by omega) (by assumption) hj]
    · refine ⟨k + 1,⟨by omega,fun j h => ?_⟩,by omega,?_⟩
      · by_cases hjk : j = k
        · subst hjk; assumption
        · exact hj j (by omega)
      · (refine Sub.of_lists ?_ ?_ ?_ ?_ ?_ <;> simp [Vw.mkS,Vw.lk,Vw.hk,AV.inn,innL,innL_ints,innL_append,innL_rep,-List.map_set,-List.getD_eq_getElem?_getD])
    · rw [placeI_none fun j h => hj j (by omega)]


def viewP (r : AV) : Prop := ∃ b sh st k1 k2,(sh.length = k1 ∧ st.length = k2 ∧ sh.length ≤ 100 ∧ st.length ≤ 100) ∧ r = .agg [.int .i64 b,.rows true (IL sh) k1,.rows true (IL st) k2]
def viewB (r : AV) (H' : List (List AV)) : Prop := ∃ b sh st,(sh.length ≤ 100 ∧ st.length ≤ 100) ∧ r = .agg [.int .i64 b,.own 0 sh.length 1,.own 1 st.length 1] ∧ H' = [IL sh,IL st]
theorem view_plain {P : Program} {f : Nat} {args : List AV} (h : BCall P f args [] viewB) : PCall P f args viewP := by
  refine (BCall.plain h).mono ?_
  rintro r ⟨r0,H',⟨b,sh,st,⟨h1,h2⟩,rfl,rfl⟩,rfl⟩
  exact ⟨b,sh,st,_,_,⟨rfl,rfl,h1,h2⟩,by simp [AV.ren,nthH,List.map_map,Function.comp_def]⟩
theorem both_asc (xs ys : List Int) : (bothL xs ys).length ≤ 1099511627776 ∧ ∀ i : Nat,1 ≤ i → i < (bothL xs ys).length → (bothL xs ys).getD (i - 1) 0 < (bothL xs ys).getD i 0 := ⟨by have := bothL_le xs ys; omega,fun i h1 h2 => asc_get (bothL_sorted xs ys) (by omega) h2⟩
theorem at_asc (f : Int → Nat) (t : Nat) : (atL f t).length ≤ 1099511627776 ∧ ∀ i : Nat,1 ≤ i → i < (atL f t).length → (atL f t).getD (i - 1) 0 < (atL f t).getD i 0 := ⟨by have := atL_len f t; omega,fun i h1 h2 => asc_get (atL_sorted f t) (by omega) h2⟩
theorem rep_nil {xs : List Int} (h : ∀ x ∈ xs,0 ≤ x ∧ x ≤ 59) : (repL xs).length = 0 ↔ xs.Nodup := by
  rw [List.length_eq_zero_iff,List.nodup_iff_count]
  constructor
  · intro e a
    by_cases hc : xs.count a ≤ 1
    · exact hc
    · have hm : a ∈ xs := List.count_pos_iff.1 (by omega)
      have : a ∈ repL xs := mem_atL.2 ⟨h a hm,by show 2 ≤ xs.count a; omega⟩
      rw [e] at this; cases this
  · intro h1
    refine List.eq_nil_iff_forall_not_mem.2 fun a ha => ?_
    have h2 : 2 ≤ xs.count a := (mem_atL.1 ha).2
    have := h1 a
    omega
theorem both_full {xs : List Int} (h : ∀ x ∈ xs,0 ≤ x ∧ x ≤ 59) : (bothL xs xs).length = xs.length ↔ xs.Nodup := by
  have hn : (bothL xs xs).Nodup := (bothL_sorted xs xs).imp fun h => by omega
  have hs : ∀ x,x ∈ bothL xs xs ↔ x ∈ xs := fun x => ⟨fun hx => (mem_bothL.1 hx).2.1,fun hx => mem_bothL.2 ⟨h x hx,hx,hx⟩⟩
  constructor
  · intro e
    exact (pigeon hn (fun x hx => (hs x).1 hx) (by omega)).2
  · intro hx
    exact ((List.perm_ext_iff_of_nodup hn hx).2 hs).length_eq


set_option maxHeartbeats 32000000 in
theorem drawCeb_ok (bs : List Int) (n : Nat) (hn : bs.length = n) (hb : n ≤ 1099511627776 ∧ ∀ x ∈ bs,0 ≤ x ∧ x ≤ 255) : BCall Try.prog 32 [.rows false (UL bs) n] [] viewB := by
  refine bcall_of (pins := []) (pin := 0) l32_eq rfl rfl rfl ?_
  unfold viewB
  (repeat' (first
 | (first | refine awp_seq ?_ | refine awp_block ?_)
 | ((first | refine awp_reg ?_ | refine awp_condB ?_ | refine awp_skip ?_ | refine awp_exit ?_); simp (disch := omega) only [push_cast,seval,l32r0,l32r1])
 | ((first | refine condB_split (fun h => ?_) (fun h => ?_) | refine gIf_split (fun h => ?_) (fun h => ?_) | refine qIf_split (fun h => ?_) (fun h => ?_)) <;> (try simp only [h]) <;> (try simp only [bitvec_to_nat] at h) <;> (try simp only [h]) <;> (first | (exfalso; omega) | (focus (exfalso; simp_all; done)) | (simp (disch := omega) only [push_cast,seval]) | skip))
 | ((first | ((with_reducible refine callD_of (f := 46) true ?_); simp (disch := omega) only [push_cast,seval]; (refine call0D (newReader_ok _ _ ?_ ?_) ?_; (iterate 2 (exact sd)); rintro _ _ ⟨bs0,hbs0,rfl,rfl⟩)) | ((with_reducible refine callD_ids (f := 64) [64] true ?_); simp (disch := omega) only [push_cast,seval]; (refine call1D (id := 64) (someView_ok _ _ ?_ ?_) (by first | ((simp (disch := omega) only [push_cast,seval]); done) | ((simp (disch := omega) only [push_cast,seval]); rfl)) ?_; (iterate 2 (exact sd)); rintro _ _ ⟨b,sh,st,q,⟨hl1,hl9,hl2⟩,hq,rfl,rfl⟩))) <;> (try simp (disch := omega) only [push_cast,seval]))
 | (refine awp_ret ⟨.inr rfl,[80,81],[],_,by decide,rfl,?_⟩; (try simp (disch := omega) only [push_cast,seval,↓allMem_nil,↓allMem_cons,↓List.map_cons,↓List.map_nil]))))
  exact ⟨b,sh,st,⟨by have := hl1.2; omega,by omega⟩,rfl,rfl⟩
theorem drawCe_ok (bs : List Int) (n : Nat) (hn : bs.length = n) (hb : n ≤ 1099511627776 ∧ ∀ x ∈ bs,0 ≤ x ∧ x ≤ 255) : PCall Try.prog 32 [.rows false (UL bs) n] viewP := view_plain (drawCeb_ok bs n hn hb)


set_option maxHeartbeats 32000000 in
theorem drawRpb_ok (bs : List Int) (n : Nat) (hn : bs.length = n) (hb : n ≤ 1099511627776 ∧ ∀ x ∈ bs,0 ≤ x ∧ x ≤ 255) : BCall Try.prog 34 [.rows false (UL bs) n] [] viewB := by
  refine bcall_of (pins := []) (pin := 0) l34_eq rfl rfl rfl ?_
  unfold viewB
  (repeat' (first
 | (first | refine awp_seq ?_ | refine awp_block ?_)
 | ((first | refine awp_reg ?_ | refine awp_condB ?_ | refine awp_skip ?_ | refine awp_exit ?_); simp (disch := omega) only [push_cast,seval,l34r0,l34r1])
 | ((first | refine condB_split (fun h => ?_) (fun h => ?_) | refine gIf_split (fun h => ?_) (fun h => ?_) | refine qIf_split (fun h => ?_) (fun h => ?_)) <;> (try simp only [h]) <;> (try simp only [bitvec_to_nat] at h) <;> (try simp only [h]) <;> (first | (exfalso; omega) | (focus (exfalso; simp_all; done)) | (simp (disch := omega) only [push_cast,seval]) | skip))
 | ((first | ((with_reducible refine callD_of (f := 46) true ?_); simp (disch := omega) only [push_cast,seval]; (refine call0D (newReader_ok _ _ ?_ ?_) ?_; (iterate 2 (exact sd)); rintro _ _ ⟨bs0,hbs0,rfl,rfl⟩)) | ((with_reducible refine callD_ids (f := 64) [64] true ?_); simp (disch := omega) only [push_cast,seval]; (refine call1D (id := 64) (someView_ok _ _ ?_ ?_) (by first | ((simp (disch := omega) only [push_cast,seval]); done) | ((simp (disch := omega) only [push_cast,seval]); rfl)) ?_; (iterate 2 (exact sd)); rintro _ _ ⟨b,sh,st,q,⟨hl1,hl9,hl2⟩,hq,rfl,rfl⟩))) <;> (try simp (disch := omega) only [push_cast,seval]))
 | (refine awp_ret ⟨.inr rfl,[80,81],[],_,by decide,rfl,?_⟩; (try simp (disch := omega) only [push_cast,seval,↓allMem_nil,↓allMem_cons,↓List.map_cons,↓List.map_nil]))))
  exact ⟨b,sh,st,⟨by have := hl1.2; omega,by omega⟩,rfl,rfl⟩
theorem drawRp_ok (bs : List Int) (n : Nat) (hn : bs.length = n) (hb : n ≤ 1099511627776 ∧ ∀ x ∈ bs,0 ≤ x ∧ x ≤ 255) : PCall Try.prog 34 [.rows false (UL bs) n] viewP := view_plain (drawRpb_ok bs n hn hb)


set_option maxHeartbeats 32000000 in
theorem drawOOb_ok (bs : List Int) (n : Nat) (hn : bs.length = n) (hb : n ≤ 1099511627776 ∧ ∀ x ∈ bs,0 ≤ x ∧ x ≤ 255) : BCall Try.prog 37 [.rows false (UL bs) n] [] viewB := by
  refine bcall_of (pins := []) (pin := 0) l37_eq rfl rfl rfl ?_
  unfold viewB
  (repeat' (first
 | (first | refine awp_seq ?_ | refine awp_block ?_)
 | ((first | refine awp_reg ?_ | refine awp_condB ?_ | refine awp_skip ?_ | refine awp_exit ?_); simp (disch := omega) only [push_cast,seval,l37r0,l37r1])
 | ((first | refine condB_split (fun h => ?_) (fun h => ?_) | refine gIf_split (fun h => ?_) (fun h => ?_) | refine qIf_split (fun h => ?_) (fun h => ?_)) <;> (try simp only [h]) <;> (try simp only [bitvec_to_nat] at h) <;> (try simp only [h]) <;> (first | (exfalso; omega) | (focus (exfalso; simp_all; done)) | (simp (disch := omega) only [push_cast,seval]) | skip))
 | ((first | ((with_reducible refine callD_of (f := 46) true ?_); simp (disch := omega) only [push_cast,seval]; (refine call0D (newReader_ok _ _ ?_ ?_) ?_; (iterate 2 (exact sd)); rintro _ _ ⟨bs0,hbs0,rfl,rfl⟩)) | ((with_reducible refine callD_ids (f := 64) [64] true ?_); simp (disch := omega) only [push_cast,seval]; (refine call1D (id := 64) (someView_ok _ _ ?_ ?_) (by first | ((simp (disch := omega) only [push_cast,seval]); done) | ((simp (disch := omega) only [push_cast,seval]); rfl)) ?_; (iterate 2 (exact sd)); rintro _ _ ⟨b,sh,st,q,⟨hl1,hl9,hl2⟩,hq,rfl,rfl⟩))) <;> (try simp (disch := omega) only [push_cast,seval]))
 | (refine awp_ret ⟨.inr rfl,[80,81],[],_,by decide,rfl,?_⟩; (try simp (disch := omega) only [push_cast,seval,↓allMem_nil,↓allMem_cons,↓List.map_cons,↓List.map_nil]))))
  exact ⟨b,sh,st,⟨by have := hl1.2; omega,by omega⟩,rfl,rfl⟩
theorem drawOO_ok (bs : List Int) (n : Nat) (hn : bs.length = n) (hb : n ≤ 1099511627776 ∧ ∀ x ∈ bs,0 ≤ x ∧ x ≤ 255) : PCall Try.prog 37 [.rows false (UL bs) n] viewP := view_plain (drawOOb_ok bs n hn hb)


set_option maxHeartbeats 32000000 in
theorem lFnCe_ok (bs : List Int) (hl : bs.length ≤ 9223372036854775807) (hb : ∀ x ∈ bs,0 ≤ x ∧ x ≤ 255) : PCall Try.prog 7 [.rows false (UL bs) bs.length] (fun r => r = .bool true) := by
  refine pcall_of l7_eq rfl ?_
  by_cases h : bs.length ≤ 1048576
  · have q : bs.length ≤ 1099511627776 ∧ ∀ x ∈ bs,0 ≤ x ∧ x ≤ 255 := ⟨by omega,hb⟩
    (repeat' (first
 | (refine awp_joinL (c1 := .reg l7r3) (fun x : Int × List Int × List Int => mkS [(3,.ref 48 3 0)] [(48,[.int .i64 x.1,.rows true (IL x.2.1) x.2.1.length,.rows true (IL x.2.2) x.2.2.length])]) (fun x => x.2.1.length ≤ 100 ∧ x.2.2.length ≤ 100) ?_ ?_)
 | (first | refine awp_seq ?_ | refine awp_block ?_)
 | ((first | refine awp_reg ?_ | refine awp_condB ?_ | refine awp_skip ?_ | refine awp_exit ?_); simp (disch := omega) only [push_cast,seval,l7r0,l7r1,l7r2,l7r3,l7r4,l7r5,l7r6,l7r7,l7r8])
 | ((first | refine condB_split (fun h => ?_) (fun h => ?_) | refine gIf_split (fun h => ?_) (fun h => ?_) | refine qIf_split (fun h => ?_) (fun h => ?_)) <;> (try simp only [h]) <;> (try simp only [bitvec_to_nat] at h) <;> (try simp only [h]) <;> (first | (exfalso; omega) | (focus (exfalso; simp_all; done)) | (simp (disch := omega) only [push_cast,seval]) | skip))
 | ((first | refine callD_of false ?_ | refine qcallD_of false ?_); simp (disch := omega) only [push_cast,seval])
 | ((first | (refine call0D (BCall.ofP (drawCe_ok _ _ ?_ ?_)) ?_; (iterate 2 (exact sd)); rintro _ _ ⟨⟨b,sh,st,_,_,⟨rfl,rfl,hl1,hl2⟩,rfl⟩,rfl⟩) | ((first | refine call0D (iCe_ok _ _ _ _ _ ?_ ?_ ?_) ?_ | refine qcall0D (iCe_ok _ _ _ _ _ ?_ ?_ ?_) ⟨_,_,rfl,rfl⟩ ?_); (iterate 3 (exact sd)); rintro _ _ ⟨rfl,rfl⟩) | ((first | refine call0D (sCe_ok _ _ _ _ _ ?_ ?_ ?_) ?_ | refine qcall0D (sCe_ok _ _ _ _ _ ?_ ?_ ?_) ⟨_,_,rfl,rfl⟩ ?_); (iterate 3 (exact sd)); rintro _ _ ⟨rfl,rfl⟩) | ((first | refine call0D (BCall.ofP (equalInts_ok _ _ _ _ ?_ ?_ ?_)) ?_ | refine qcall0D (BCall.ofP (equalInts_ok _ _ _ _ ?_ ?_ ?_)) ⟨_,_,rfl,rfl⟩ ?_); (iterate 3 (exact sd)); rintro _ _ ⟨rfl,rfl⟩) | ((first | refine call0D (BCall.ofP (iValidView_ok _ _ _ _ _ ?_ ?_ ?_)) ?_ | refine qcall0D (BCall.ofP (iValidView_ok _ _ _ _ _ ?_ ?_ ?_)) ⟨_,_,rfl,rfl⟩ ?_); (iterate 3 (exact sd)); rintro _ _ ⟨rfl,rfl⟩) | ((first | refine call0D (iOffsetsOf_ok _ _ _ _ _ ?_ ?_ ?_) ?_ | refine qcall0D (iOffsetsOf_ok _ _ _ _ _ ?_ ?_ ?_) ⟨_,_,rfl,rfl⟩ ?_); (iterate 3 (exact sd)); rintro _ _ ⟨rfl,rfl⟩) | ((first | refine call0D (BCall.ofP (ascends_ok _ _ ?_ ?_)) ?_ | refine qcall0D (BCall.ofP (ascends_ok _ _ ?_ ?_)) ⟨_,_,rfl,rfl⟩ ?_); (iterate 2 (exact sd)); rintro _ _ ⟨rfl,rfl⟩) | ((first | refine call0D (BCall.ofP (lwithin_ok _ _ _ _ ?_ ?_ ?_)) ?_ | refine qcall0D (BCall.ofP (lwithin_ok _ _ _ _ ?_ ?_ ?_)) ⟨_,_,rfl,rfl⟩ ?_); (iterate 3 (exact sd)); rintro _ _ ⟨rfl,rfl⟩)) <;> (try simp (disch := omega) only [push_cast,seval]))
 | (refine awp_ret ⟨.inr rfl,_,rfl,?_⟩; (try simp (disch := omega) only [push_cast,seval]))))
    · (refine exSub3 (Sub.of_eqs rfl rfl ?_ ?_ ?_) ?_; (focus (simp [Vw.mkS,Vw.lk,Vw.hk,AV.inn,innL,innL_ints,innL_append,innL_rep,-List.map_set,-List.getD_eq_getElem?_getD,innL_ints]; done)); (focus (simp [AV.inn,innL,Vw.hk,innL_ints]; done)); (focus (simp [AV.inn,innL,innL_ints,innL_append,innL_rep,Vw.hk,innL_ints]; done)); (try simp only); (first | omega | (refine ⟨?_,?_⟩ <;> first | assumption | omega) | (refine ⟨?_,?_,?_⟩ <;> first | assumption | omega) | (refine ⟨?_,?_,?_,?_⟩ <;> first | assumption | omega)))
    · refine ⟨?_⟩
      rintro ⟨b,sh,st⟩ ⟨hl1,hl2⟩
      try simp only at hl1 hl2 ⊢
      have hq : sh.length ≤ 1099511627776 ∧ st.length ≤ 1099511627776 := by omega
      cases hv : vV b sh st with
 | false =>
        have hWl : (MVL false (bothL (offs b sh st) (offs b sh st))).length = 0 := rfl
        generalize hW : MVL false (bothL (offs b sh st) (offs b sh st)) = W at *
        have hW2 : W.length ≤ 1099511627776 ∧ W.length ≤ 1099511627776 := by omega
        (repeat' (first
 | (first | refine awp_seq ?_ | refine awp_block ?_)
 | ((first | refine awp_reg ?_ | refine awp_condB ?_ | refine awp_skip ?_ | refine awp_exit ?_); simp (disch := omega) only [push_cast,seval,l7r0,l7r1,l7r2,l7r3,l7r4,l7r5,l7r6,l7r7,l7r8,hv,hW,decide_true])
 | ((first | refine condB_split (fun h => ?_) (fun h => ?_) | refine gIf_split (fun h => ?_) (fun h => ?_) | refine qIf_split (fun h => ?_) (fun h => ?_)) <;> (try simp only [h]) <;> (try simp only [bitvec_to_nat] at h) <;> (try simp only [h]) <;> (first | (exfalso; omega) | (focus (exfalso; simp_all; done)) | (simp (disch := omega) only [push_cast,seval,hv,hW,decide_true]) | skip))
 | ((first | refine callD_of false ?_ | refine qcallD_of false ?_); simp (disch := omega) only [push_cast,seval,hv,hW,decide_true])
 | ((first | (refine call0D (BCall.ofP (drawCe_ok _ _ ?_ ?_)) ?_; (iterate 2 (exact sd)); rintro _ _ ⟨⟨b,sh,st,_,_,⟨rfl,rfl,hl1,hl2⟩,rfl⟩,rfl⟩) | ((first | refine call0D (iCe_ok _ _ _ _ _ ?_ ?_ ?_) ?_ | refine qcall0D (iCe_ok _ _ _ _ _ ?_ ?_ ?_) ⟨_,_,rfl,rfl⟩ ?_); (iterate 3 (exact sd)); rintro _ _ ⟨rfl,rfl⟩) | ((first | refine call0D (sCe_ok _ _ _ _ _ ?_ ?_ ?_) ?_ | refine qcall0D (sCe_ok _ _ _ _ _ ?_ ?_ ?_) ⟨_,_,rfl,rfl⟩ ?_); (iterate 3 (exact sd)); rintro _ _ ⟨rfl,rfl⟩) | ((first | refine call0D (BCall.ofP (equalInts_ok _ _ _ _ ?_ ?_ ?_)) ?_ | refine qcall0D (BCall.ofP (equalInts_ok _ _ _ _ ?_ ?_ ?_)) ⟨_,_,rfl,rfl⟩ ?_); (iterate 3 (exact sd)); rintro _ _ ⟨rfl,rfl⟩) | ((first | refine call0D (BCall.ofP (iValidView_ok _ _ _ _ _ ?_ ?_ ?_)) ?_ | refine qcall0D (BCall.ofP (iValidView_ok _ _ _ _ _ ?_ ?_ ?_)) ⟨_,_,rfl,rfl⟩ ?_); (iterate 3 (exact sd)); rintro _ _ ⟨rfl,rfl⟩) | ((first | refine call0D (iOffsetsOf_ok _ _ _ _ _ ?_ ?_ ?_) ?_ | refine qcall0D (iOffsetsOf_ok _ _ _ _ _ ?_ ?_ ?_) ⟨_,_,rfl,rfl⟩ ?_); (iterate 3 (exact sd)); rintro _ _ ⟨rfl,rfl⟩) | ((first | refine call0D (BCall.ofP (ascends_ok _ _ ?_ ?_)) ?_ | refine qcall0D (BCall.ofP (ascends_ok _ _ ?_ ?_)) ⟨_,_,rfl,rfl⟩ ?_); (iterate 2 (exact sd)); rintro _ _ ⟨rfl,rfl⟩) | ((first | refine call0D (BCall.ofP (lwithin_ok _ _ _ _ ?_ ?_ ?_)) ?_ | refine qcall0D (BCall.ofP (lwithin_ok _ _ _ _ ?_ ?_ ?_)) ⟨_,_,rfl,rfl⟩ ?_); (iterate 3 (exact sd)); rintro _ _ ⟨rfl,rfl⟩)) <;> (try simp (disch := omega) only [push_cast,seval,hv,hW,decide_true]))
 | (refine awp_ret ⟨.inr rfl,_,rfl,?_⟩; (try simp (disch := omega) only [push_cast,seval,hv,hW,decide_true]))))
        all_goals (try simp)
 | true =>
        have hcs : ∀ x ∈ offs b sh st,0 ≤ x ∧ x ≤ 59 := fun x hx => by have := vV_cells hv x hx; omega
        have hol := offs_length b sh st
        have hs1 := (vV_spec.1 hv).1
        have hpb := (vSh_good hs1).2
        have e3 : (if vV b sh st = true then offs b sh st else []) = offs b sh st := if_pos hv
        have e4 : (if vSh sh = true then pr sh else -1) = pr sh := if_pos hs1
        generalize hO : offs b sh st = O at *
        have hO60 : O.length ≤ 60 := by omega
        have hM : MVL true (bothL O O) = bothL O O := rfl
        have hCl := bothL_le O O
        have hasc := both_asc O O
        have hw1 : ((bothL O O).length ≤ 1099511627776 ∧ O.length ≤ 1099511627776) ∧ ∀ x ∈ bothL O O,x ∈ O := ⟨by omega,fun x hx => (mem_bothL.1 hx).2.1⟩
        have hw2 : (O.length ≤ 1099511627776 ∧ (bothL O O).length ≤ 1099511627776) ∧ ∀ x ∈ O,x ∈ bothL O O := ⟨by omega,fun x hx => mem_bothL.2 ⟨hcs x hx,hx,hx⟩⟩
        generalize hC : bothL O O = C at *
        have hC2 : C.length ≤ 1099511627776 ∧ C.length ≤ 1099511627776 := by omega
        (repeat' (first
 | (first | refine awp_seq ?_ | refine awp_block ?_)
 | ((first | refine awp_reg ?_ | refine awp_condB ?_ | refine awp_skip ?_ | refine awp_exit ?_); simp (disch := omega) only [push_cast,seval,l7r0,l7r1,l7r2,l7r3,l7r4,l7r5,l7r6,l7r7,l7r8,hv,hO,hM,hC,e3,decide_true])
 | ((first | refine condB_split (fun h => ?_) (fun h => ?_) | refine gIf_split (fun h => ?_) (fun h => ?_) | refine qIf_split (fun h => ?_) (fun h => ?_)) <;> (try simp only [h]) <;> (try simp only [bitvec_to_nat] at h) <;> (try simp only [h]) <;> (first | (exfalso; omega) | (focus (exfalso; simp_all; done)) | (simp (disch := omega) only [push_cast,seval,hv,hO,hM,hC,e3,decide_true]) | skip))
 | ((first | refine callD_of false ?_ | refine qcallD_of false ?_); simp (disch := omega) only [push_cast,seval,hv,hO,hM,hC,e3,decide_true])
 | ((first | (refine call0D (BCall.ofP (drawCe_ok _ _ ?_ ?_)) ?_; (iterate 2 (exact sd)); rintro _ _ ⟨⟨b,sh,st,_,_,⟨rfl,rfl,hl1,hl2⟩,rfl⟩,rfl⟩) | ((first | refine call0D (iCe_ok _ _ _ _ _ ?_ ?_ ?_) ?_ | refine qcall0D (iCe_ok _ _ _ _ _ ?_ ?_ ?_) ⟨_,_,rfl,rfl⟩ ?_); (iterate 3 (exact sd)); rintro _ _ ⟨rfl,rfl⟩) | ((first | refine call0D (sCe_ok _ _ _ _ _ ?_ ?_ ?_) ?_ | refine qcall0D (sCe_ok _ _ _ _ _ ?_ ?_ ?_) ⟨_,_,rfl,rfl⟩ ?_); (iterate 3 (exact sd)); rintro _ _ ⟨rfl,rfl⟩) | ((first | refine call0D (BCall.ofP (equalInts_ok _ _ _ _ ?_ ?_ ?_)) ?_ | refine qcall0D (BCall.ofP (equalInts_ok _ _ _ _ ?_ ?_ ?_)) ⟨_,_,rfl,rfl⟩ ?_); (iterate 3 (exact sd)); rintro _ _ ⟨rfl,rfl⟩) | ((first | refine call0D (BCall.ofP (iValidView_ok _ _ _ _ _ ?_ ?_ ?_)) ?_ | refine qcall0D (BCall.ofP (iValidView_ok _ _ _ _ _ ?_ ?_ ?_)) ⟨_,_,rfl,rfl⟩ ?_); (iterate 3 (exact sd)); rintro _ _ ⟨rfl,rfl⟩) | ((first | refine call0D (iOffsetsOf_ok _ _ _ _ _ ?_ ?_ ?_) ?_ | refine qcall0D (iOffsetsOf_ok _ _ _ _ _ ?_ ?_ ?_) ⟨_,_,rfl,rfl⟩ ?_); (iterate 3 (exact sd)); rintro _ _ ⟨rfl,rfl⟩) | ((first | refine call0D (BCall.ofP (ascends_ok _ _ ?_ ?_)) ?_ | refine qcall0D (BCall.ofP (ascends_ok _ _ ?_ ?_)) ⟨_,_,rfl,rfl⟩ ?_); (iterate 2 (exact sd)); rintro _ _ ⟨rfl,rfl⟩) | ((first | refine call0D (BCall.ofP (lwithin_ok _ _ _ _ ?_ ?_ ?_)) ?_ | refine qcall0D (BCall.ofP (lwithin_ok _ _ _ _ ?_ ?_ ?_)) ⟨_,_,rfl,rfl⟩ ?_); (iterate 3 (exact sd)); rintro _ _ ⟨rfl,rfl⟩)) <;> (try simp (disch := omega) only [push_cast,seval,hv,hO,hM,hC,e3,decide_true]))
 | (refine awp_ret ⟨.inr rfl,_,rfl,?_⟩; (try simp (disch := omega) only [push_cast,seval,hv,hO,hM,hC,e3,decide_true]))))
        all_goals (try simp)
  · (repeat' (first
 | (first | refine awp_seq ?_ | refine awp_block ?_)
 | ((first | refine awp_reg ?_ | refine awp_condB ?_ | refine awp_skip ?_ | refine awp_exit ?_); simp (disch := omega) only [push_cast,seval,l7r0,l7r1,l7r2,l7r3,l7r4,l7r5,l7r6,l7r7,l7r8])
 | ((first | refine condB_split (fun h => ?_) (fun h => ?_) | refine gIf_split (fun h => ?_) (fun h => ?_) | refine qIf_split (fun h => ?_) (fun h => ?_)) <;> (try simp only [h]) <;> (try simp only [bitvec_to_nat] at h) <;> (try simp only [h]) <;> (first | (exfalso; omega) | (focus (exfalso; simp_all; done)) | (simp (disch := omega) only [push_cast,seval]) | skip))
 | ((first | refine callD_of false ?_ | refine qcallD_of false ?_); simp (disch := omega) only [push_cast,seval])
 | ((first | (refine call0D (BCall.ofP (drawCe_ok _ _ ?_ ?_)) ?_; (iterate 2 (exact sd)); rintro _ _ ⟨⟨b,sh,st,_,_,⟨rfl,rfl,hl1,hl2⟩,rfl⟩,rfl⟩) | ((first | refine call0D (iCe_ok _ _ _ _ _ ?_ ?_ ?_) ?_ | refine qcall0D (iCe_ok _ _ _ _ _ ?_ ?_ ?_) ⟨_,_,rfl,rfl⟩ ?_); (iterate 3 (exact sd)); rintro _ _ ⟨rfl,rfl⟩) | ((first | refine call0D (sCe_ok _ _ _ _ _ ?_ ?_ ?_) ?_ | refine qcall0D (sCe_ok _ _ _ _ _ ?_ ?_ ?_) ⟨_,_,rfl,rfl⟩ ?_); (iterate 3 (exact sd)); rintro _ _ ⟨rfl,rfl⟩) | ((first | refine call0D (BCall.ofP (equalInts_ok _ _ _ _ ?_ ?_ ?_)) ?_ | refine qcall0D (BCall.ofP (equalInts_ok _ _ _ _ ?_ ?_ ?_)) ⟨_,_,rfl,rfl⟩ ?_); (iterate 3 (exact sd)); rintro _ _ ⟨rfl,rfl⟩) | ((first | refine call0D (BCall.ofP (iValidView_ok _ _ _ _ _ ?_ ?_ ?_)) ?_ | refine qcall0D (BCall.ofP (iValidView_ok _ _ _ _ _ ?_ ?_ ?_)) ⟨_,_,rfl,rfl⟩ ?_); (iterate 3 (exact sd)); rintro _ _ ⟨rfl,rfl⟩) | ((first | refine call0D (iOffsetsOf_ok _ _ _ _ _ ?_ ?_ ?_) ?_ | refine qcall0D (iOffsetsOf_ok _ _ _ _ _ ?_ ?_ ?_) ⟨_,_,rfl,rfl⟩ ?_); (iterate 3 (exact sd)); rintro _ _ ⟨rfl,rfl⟩) | ((first | refine call0D (BCall.ofP (ascends_ok _ _ ?_ ?_)) ?_ | refine qcall0D (BCall.ofP (ascends_ok _ _ ?_ ?_)) ⟨_,_,rfl,rfl⟩ ?_); (iterate 2 (exact sd)); rintro _ _ ⟨rfl,rfl⟩) | ((first | refine call0D (BCall.ofP (lwithin_ok _ _ _ _ ?_ ?_ ?_)) ?_ | refine qcall0D (BCall.ofP (lwithin_ok _ _ _ _ ?_ ?_ ?_)) ⟨_,_,rfl,rfl⟩ ?_); (iterate 3 (exact sd)); rintro _ _ ⟨rfl,rfl⟩)) <;> (try simp (disch := omega) only [push_cast,seval]))
 | (refine awp_ret ⟨.inr rfl,_,rfl,?_⟩; (try simp (disch := omega) only [push_cast,seval]))))


set_option maxHeartbeats 32000000 in
theorem lFnRp_ok (bs : List Int) (hl : bs.length ≤ 9223372036854775807) (hb : ∀ x ∈ bs,0 ≤ x ∧ x ≤ 255) : PCall Try.prog 8 [.rows false (UL bs) bs.length] (fun r => r = .bool true) := by
  refine pcall_of l8_eq rfl ?_
  by_cases h : bs.length ≤ 1048576
  · have q : bs.length ≤ 1099511627776 ∧ ∀ x ∈ bs,0 ≤ x ∧ x ≤ 255 := ⟨by omega,hb⟩
    (repeat' (first
 | (refine awp_joinL (c1 := .reg l8r3) (fun x : Int × List Int × List Int => mkS [(3,.ref 48 3 0)] [(48,[.int .i64 x.1,.rows true (IL x.2.1) x.2.1.length,.rows true (IL x.2.2) x.2.2.length])]) (fun x => x.2.1.length ≤ 100 ∧ x.2.2.length ≤ 100) ?_ ?_)
 | (first | refine awp_seq ?_ | refine awp_block ?_)
 | ((first | refine awp_reg ?_ | refine awp_draw (mid := l8r11a) (post := l8r11b) mixed (by decide) ?_ | refine awp_condB ?_ | refine awp_skip ?_ | refine awp_exit ?_); simp (disch := omega) only [push_cast,seval,l8r0,l8r1,l8r2,l8r3,l8r4,l8r5,l8r6,l8r7,l8r8,l8r9,l8r10,l8r11a,l8r11b,l8r11,l8r12,l8r13,l8r14])
 | ((first | refine condB_split (fun h => ?_) (fun h => ?_) | refine gIf_split (fun h => ?_) (fun h => ?_) | refine qIf_split (fun h => ?_) (fun h => ?_)) <;> (try simp only [h]) <;> (try simp only [bitvec_to_nat] at h) <;> (try simp only [h]) <;> (first | (exfalso; omega) | (focus (exfalso; simp_all; done)) | (simp (disch := omega) only [push_cast,seval]) | skip))
 | ((first | refine callD_of false ?_ | refine qcallD_of false ?_); simp (disch := omega) only [push_cast,seval])
 | ((first | (refine call0D (BCall.ofP (drawRp_ok _ _ ?_ ?_)) ?_; (iterate 2 (exact sd)); rintro _ _ ⟨⟨b,sh,st,_,_,⟨rfl,rfl,hl1,hl2⟩,rfl⟩,rfl⟩) | ((first | refine call0D (iRp_ok _ _ _ _ _ ?_ ?_ ?_) ?_ | refine qcall0D (iRp_ok _ _ _ _ _ ?_ ?_ ?_) ⟨_,_,rfl,rfl⟩ ?_); (iterate 3 (exact sd)); rintro _ _ ⟨rfl,rfl⟩) | ((first | refine call0D (sRp_ok _ _ _ _ _ ?_ ?_ ?_) ?_ | refine qcall0D (sRp_ok _ _ _ _ _ ?_ ?_ ?_) ⟨_,_,rfl,rfl⟩ ?_); (iterate 3 (exact sd)); rintro _ _ ⟨rfl,rfl⟩) | ((first | refine call0D (BCall.ofP (equalInts_ok _ _ _ _ ?_ ?_ ?_)) ?_ | refine qcall0D (BCall.ofP (equalInts_ok _ _ _ _ ?_ ?_ ?_)) ⟨_,_,rfl,rfl⟩ ?_); (iterate 3 (exact sd)); rintro _ _ ⟨rfl,rfl⟩) | ((first | refine call0D (BCall.ofP (iValidView_ok _ _ _ _ _ ?_ ?_ ?_)) ?_ | refine qcall0D (BCall.ofP (iValidView_ok _ _ _ _ _ ?_ ?_ ?_)) ⟨_,_,rfl,rfl⟩ ?_); (iterate 3 (exact sd)); rintro _ _ ⟨rfl,rfl⟩) | ((first | refine call0D (iOffsetsOf_ok _ _ _ _ _ ?_ ?_ ?_) ?_ | refine qcall0D (iOffsetsOf_ok _ _ _ _ _ ?_ ?_ ?_) ⟨_,_,rfl,rfl⟩ ?_); (iterate 3 (exact sd)); rintro _ _ ⟨rfl,rfl⟩) | ((first | refine call0D (BCall.ofP (lplace_ok _ _ _ ?_ ?_)) ?_ | refine qcall0D (BCall.ofP (lplace_ok _ _ _ ?_ ?_)) ⟨_,_,rfl,rfl⟩ ?_); (iterate 2 (exact sd)); rintro _ _ ⟨rfl,rfl⟩) | ((first | refine call0D (BCall.ofP (isInL_ok _ _ _ ?_ ?_)) ?_ | refine qcall0D (BCall.ofP (isInL_ok _ _ _ ?_ ?_)) ⟨_,_,rfl,rfl⟩ ?_); (iterate 2 (exact sd)); rintro _ _ ⟨rfl,rfl⟩) | ((first | refine call0D (BCall.ofP (ascends_ok _ _ ?_ ?_)) ?_ | refine qcall0D (BCall.ofP (ascends_ok _ _ ?_ ?_)) ⟨_,_,rfl,rfl⟩ ?_); (iterate 2 (exact sd)); rintro _ _ ⟨rfl,rfl⟩) | ((first | refine call0D (BCall.ofP (lwithin_ok _ _ _ _ ?_ ?_ ?_)) ?_ | refine qcall0D (BCall.ofP (lwithin_ok _ _ _ _ ?_ ?_ ?_)) ⟨_,_,rfl,rfl⟩ ?_); (iterate 3 (exact sd)); rintro _ _ ⟨rfl,rfl⟩)) <;> (try simp (disch := omega) only [push_cast,seval]))
 | (refine awp_ret ⟨.inr rfl,_,rfl,?_⟩; (try simp (disch := omega) only [push_cast,seval]))))
    · (refine exSub3 (Sub.of_eqs rfl rfl ?_ ?_ ?_) ?_; (focus (simp [Vw.mkS,Vw.lk,Vw.hk,AV.inn,innL,innL_ints,innL_append,innL_rep,-List.map_set,-List.getD_eq_getElem?_getD,innL_ints]; done)); (focus (simp [AV.inn,innL,Vw.hk,innL_ints]; done)); (focus (simp [AV.inn,innL,innL_ints,innL_append,innL_rep,Vw.hk,innL_ints]; done)); (try simp only); (first | omega | (refine ⟨?_,?_⟩ <;> first | assumption | omega) | (refine ⟨?_,?_,?_⟩ <;> first | assumption | omega) | (refine ⟨?_,?_,?_,?_⟩ <;> first | assumption | omega)))
    · refine ⟨?_⟩
      rintro ⟨b,sh,st⟩ ⟨hl1,hl2⟩
      try simp only at hl1 hl2 ⊢
      have hq : sh.length ≤ 1099511627776 ∧ st.length ≤ 1099511627776 := by omega
      cases hv : vV b sh st with
 | false =>
        have hWl : (MVL false (repL (offs b sh st))).length = 0 := rfl
        generalize hW : MVL false (repL (offs b sh st)) = W at *
        have hW2 : W.length ≤ 1099511627776 ∧ W.length ≤ 1099511627776 := by omega
        (repeat' (first
 | (first | refine awp_seq ?_ | refine awp_block ?_)
 | ((first | refine awp_reg ?_ | refine awp_draw (mid := l8r11a) (post := l8r11b) mixed (by decide) ?_ | refine awp_condB ?_ | refine awp_skip ?_ | refine awp_exit ?_); simp (disch := omega) only [push_cast,seval,l8r0,l8r1,l8r2,l8r3,l8r4,l8r5,l8r6,l8r7,l8r8,l8r9,l8r10,l8r11a,l8r11b,l8r11,l8r12,l8r13,l8r14,hv,hW,decide_true])
 | ((first | refine condB_split (fun h => ?_) (fun h => ?_) | refine gIf_split (fun h => ?_) (fun h => ?_) | refine qIf_split (fun h => ?_) (fun h => ?_)) <;> (try simp only [h]) <;> (try simp only [bitvec_to_nat] at h) <;> (try simp only [h]) <;> (first | (exfalso; omega) | (focus (exfalso; simp_all; done)) | (simp (disch := omega) only [push_cast,seval,hv,hW,decide_true]) | skip))
 | ((first | refine callD_of false ?_ | refine qcallD_of false ?_); simp (disch := omega) only [push_cast,seval,hv,hW,decide_true])
 | ((first | (refine call0D (BCall.ofP (drawRp_ok _ _ ?_ ?_)) ?_; (iterate 2 (exact sd)); rintro _ _ ⟨⟨b,sh,st,_,_,⟨rfl,rfl,hl1,hl2⟩,rfl⟩,rfl⟩) | ((first | refine call0D (iRp_ok _ _ _ _ _ ?_ ?_ ?_) ?_ | refine qcall0D (iRp_ok _ _ _ _ _ ?_ ?_ ?_) ⟨_,_,rfl,rfl⟩ ?_); (iterate 3 (exact sd)); rintro _ _ ⟨rfl,rfl⟩) | ((first | refine call0D (sRp_ok _ _ _ _ _ ?_ ?_ ?_) ?_ | refine qcall0D (sRp_ok _ _ _ _ _ ?_ ?_ ?_) ⟨_,_,rfl,rfl⟩ ?_); (iterate 3 (exact sd)); rintro _ _ ⟨rfl,rfl⟩) | ((first | refine call0D (BCall.ofP (equalInts_ok _ _ _ _ ?_ ?_ ?_)) ?_ | refine qcall0D (BCall.ofP (equalInts_ok _ _ _ _ ?_ ?_ ?_)) ⟨_,_,rfl,rfl⟩ ?_); (iterate 3 (exact sd)); rintro _ _ ⟨rfl,rfl⟩) | ((first | refine call0D (BCall.ofP (iValidView_ok _ _ _ _ _ ?_ ?_ ?_)) ?_ | refine qcall0D (BCall.ofP (iValidView_ok _ _ _ _ _ ?_ ?_ ?_)) ⟨_,_,rfl,rfl⟩ ?_); (iterate 3 (exact sd)); rintro _ _ ⟨rfl,rfl⟩) | ((first | refine call0D (iOffsetsOf_ok _ _ _ _ _ ?_ ?_ ?_) ?_ | refine qcall0D (iOffsetsOf_ok _ _ _ _ _ ?_ ?_ ?_) ⟨_,_,rfl,rfl⟩ ?_); (iterate 3 (exact sd)); rintro _ _ ⟨rfl,rfl⟩) | ((first | refine call0D (BCall.ofP (lplace_ok _ _ _ ?_ ?_)) ?_ | refine qcall0D (BCall.ofP (lplace_ok _ _ _ ?_ ?_)) ⟨_,_,rfl,rfl⟩ ?_); (iterate 2 (exact sd)); rintro _ _ ⟨rfl,rfl⟩) | ((first | refine call0D (BCall.ofP (isInL_ok _ _ _ ?_ ?_)) ?_ | refine qcall0D (BCall.ofP (isInL_ok _ _ _ ?_ ?_)) ⟨_,_,rfl,rfl⟩ ?_); (iterate 2 (exact sd)); rintro _ _ ⟨rfl,rfl⟩) | ((first | refine call0D (BCall.ofP (ascends_ok _ _ ?_ ?_)) ?_ | refine qcall0D (BCall.ofP (ascends_ok _ _ ?_ ?_)) ⟨_,_,rfl,rfl⟩ ?_); (iterate 2 (exact sd)); rintro _ _ ⟨rfl,rfl⟩) | ((first | refine call0D (BCall.ofP (lwithin_ok _ _ _ _ ?_ ?_ ?_)) ?_ | refine qcall0D (BCall.ofP (lwithin_ok _ _ _ _ ?_ ?_ ?_)) ⟨_,_,rfl,rfl⟩ ?_); (iterate 3 (exact sd)); rintro _ _ ⟨rfl,rfl⟩)) <;> (try simp (disch := omega) only [push_cast,seval,hv,hW,decide_true]))
 | (refine awp_ret ⟨.inr rfl,_,rfl,?_⟩; (try simp (disch := omega) only [push_cast,seval,hv,hW,decide_true]))))
        all_goals (try simp)
 | true =>
        have hcs : ∀ x ∈ offs b sh st,0 ≤ x ∧ x ≤ 59 := fun x hx => by have := vV_cells hv x hx; omega
        have hol := offs_length b sh st
        have hs1 := (vV_spec.1 hv).1
        have hpb := (vSh_good hs1).2
        have e3 : (if vV b sh st = true then offs b sh st else []) = offs b sh st := if_pos hv
        have e4 : (if vSh sh = true then pr sh else -1) = pr sh := if_pos hs1
        generalize hO : offs b sh st = O at *
        have hO60 : O.length ≤ 60 := by omega
        have hM : MVL true (repL O) = repL O := rfl
        have hCl : (repL O).length ≤ 60 := atL_len (cnt O) 2
        have hasc : (repL O).length ≤ 1099511627776 ∧ ∀ i : Nat,1 ≤ i → i < (repL O).length → (repL O).getD (i - 1) 0 < (repL O).getD i 0 := at_asc (cnt O) 2
        have hmem : ∀ x,x ∈ O → (x ∈ repL O ↔ x ∈ O.drop (O.idxOf x + 1)) := fun x hx => ⟨fun h => (cnt_two hx).1 (mem_atL.1 h).2,fun h => mem_atL.2 ⟨hcs x hx,(cnt_two hx).2 h⟩⟩
        have hw1 : ((repL O).length ≤ 1099511627776 ∧ O.length ≤ 1099511627776) ∧ ∀ x ∈ repL O,x ∈ O := ⟨by omega,fun x hx => cnt_pos.1 (by have := (mem_atL.1 hx).2; omega)⟩
        generalize hC : repL O = C at *
        have hC2 : C.length ≤ 1099511627776 ∧ C.length ≤ 1099511627776 := by omega
        (repeat' (first
 | (first | refine awp_seq ?_ | refine awp_block ?_)
 | ((first | refine awp_reg ?_ | refine awp_draw (mid := l8r11a) (post := l8r11b) mixed (by decide) ?_ | refine awp_condB ?_ | refine awp_skip ?_ | refine awp_exit ?_); simp (disch := omega) only [push_cast,seval,l8r0,l8r1,l8r2,l8r3,l8r4,l8r5,l8r6,l8r7,l8r8,l8r9,l8r10,l8r11a,l8r11b,l8r11,l8r12,l8r13,l8r14,hv,hO,hM,hC,e3,decide_true])
 | ((first | refine condB_split (fun h => ?_) (fun h => ?_) | refine gIf_split (fun h => ?_) (fun h => ?_) | refine qIf_split (fun h => ?_) (fun h => ?_)) <;> (try simp only [h]) <;> (try simp only [bitvec_to_nat] at h) <;> (try simp only [h]) <;> (first | (exfalso; omega) | (focus (exfalso; simp_all; done)) | (simp (disch := omega) only [push_cast,seval,hv,hO,hM,hC,e3,decide_true]) | skip))
 | ((first | refine callD_of false ?_ | refine qcallD_of false ?_); simp (disch := omega) only [push_cast,seval,hv,hO,hM,hC,e3,decide_true])
 | ((first | (refine call0D (BCall.ofP (drawRp_ok _ _ ?_ ?_)) ?_; (iterate 2 (exact sd)); rintro _ _ ⟨⟨b,sh,st,_,_,⟨rfl,rfl,hl1,hl2⟩,rfl⟩,rfl⟩) | ((first | refine call0D (iRp_ok _ _ _ _ _ ?_ ?_ ?_) ?_ | refine qcall0D (iRp_ok _ _ _ _ _ ?_ ?_ ?_) ⟨_,_,rfl,rfl⟩ ?_); (iterate 3 (exact sd)); rintro _ _ ⟨rfl,rfl⟩) | ((first | refine call0D (sRp_ok _ _ _ _ _ ?_ ?_ ?_) ?_ | refine qcall0D (sRp_ok _ _ _ _ _ ?_ ?_ ?_) ⟨_,_,rfl,rfl⟩ ?_); (iterate 3 (exact sd)); rintro _ _ ⟨rfl,rfl⟩) | ((first | refine call0D (BCall.ofP (equalInts_ok _ _ _ _ ?_ ?_ ?_)) ?_ | refine qcall0D (BCall.ofP (equalInts_ok _ _ _ _ ?_ ?_ ?_)) ⟨_,_,rfl,rfl⟩ ?_); (iterate 3 (exact sd)); rintro _ _ ⟨rfl,rfl⟩) | ((first | refine call0D (BCall.ofP (iValidView_ok _ _ _ _ _ ?_ ?_ ?_)) ?_ | refine qcall0D (BCall.ofP (iValidView_ok _ _ _ _ _ ?_ ?_ ?_)) ⟨_,_,rfl,rfl⟩ ?_); (iterate 3 (exact sd)); rintro _ _ ⟨rfl,rfl⟩) | ((first | refine call0D (iOffsetsOf_ok _ _ _ _ _ ?_ ?_ ?_) ?_ | refine qcall0D (iOffsetsOf_ok _ _ _ _ _ ?_ ?_ ?_) ⟨_,_,rfl,rfl⟩ ?_); (iterate 3 (exact sd)); rintro _ _ ⟨rfl,rfl⟩) | ((first | refine call0D (BCall.ofP (lplace_ok _ _ _ ?_ ?_)) ?_ | refine qcall0D (BCall.ofP (lplace_ok _ _ _ ?_ ?_)) ⟨_,_,rfl,rfl⟩ ?_); (iterate 2 (exact sd)); rintro _ _ ⟨rfl,rfl⟩) | ((first | refine call0D (BCall.ofP (isInL_ok _ _ _ ?_ ?_)) ?_ | refine qcall0D (BCall.ofP (isInL_ok _ _ _ ?_ ?_)) ⟨_,_,rfl,rfl⟩ ?_); (iterate 2 (exact sd)); rintro _ _ ⟨rfl,rfl⟩) | ((first | refine call0D (BCall.ofP (ascends_ok _ _ ?_ ?_)) ?_ | refine qcall0D (BCall.ofP (ascends_ok _ _ ?_ ?_)) ⟨_,_,rfl,rfl⟩ ?_); (iterate 2 (exact sd)); rintro _ _ ⟨rfl,rfl⟩) | ((first | refine call0D (BCall.ofP (lwithin_ok _ _ _ _ ?_ ?_ ?_)) ?_ | refine qcall0D (BCall.ofP (lwithin_ok _ _ _ _ ?_ ?_ ?_)) ⟨_,_,rfl,rfl⟩ ?_); (iterate 3 (exact sd)); rintro _ _ ⟨rfl,rfl⟩)) <;> (try simp (disch := omega) only [push_cast,seval,hv,hO,hM,hC,e3,decide_true]))
 | (refine awp_ret ⟨.inr rfl,_,rfl,?_⟩; (try simp (disch := omega) only [push_cast,seval,hv,hO,hM,hC,e3,decide_true]))))
        refine awp_loop (fun k : Nat => mkS [(3,.ref 48 3 0),(4,.own 224 C.length 1),(5,.own 480 O.length 1),(6,.int .i64 k)] [(48,[.int .i64 b,.rows true (IL sh) sh.length,.rows true (IL st) st.length]),(224,IL C),(480,IL O)]) (fun k => k ≤ O.length) (fun k => O.length - k) 0 (Nat.zero_le _) ?_ ?_
        · (refine Sub.of_lists ?_ ?_ ?_ ?_ ?_ <;> simp [Vw.mkS,Vw.lk,Vw.hk,AV.inn,innL,innL_ints,innL_append,innL_rep,-List.map_set,-List.getD_eq_getElem?_getD])
        · intro k hk
          by_cases hlt : k < O.length
          · have hm := getD_mem hlt
            have hme := hmem _ hm
            have e1 : placeI O (O.getD k 0) = ((O.idxOf (O.getD k 0) : Nat) : Int) := if_pos hm
            have hix := List.idxOf_lt_length_of_mem hm
            generalize hi : O.idxOf (O.getD k 0) = i at *
            have hcut := IL_cut O (i + 1)
            by_cases h3 : O.getD k 0 ∈ O.drop (i + 1)
            · have d1 : decide (O.getD k 0 ∈ C) = true := decide_eq_true (hme.2 h3)
              have d2 : decide (O.getD k 0 ∈ O.drop (i + 1)) = true := decide_eq_true h3
              (repeat' (first
 | (first | refine awp_seq ?_ | refine awp_block ?_)
 | ((first | refine awp_reg ?_ | refine awp_draw (mid := l8r11a) (post := l8r11b) mixed (by decide) ?_ | refine awp_condB ?_ | refine awp_skip ?_ | refine awp_exit ?_); simp (disch := omega) only [push_cast,seval,l8r0,l8r1,l8r2,l8r3,l8r4,l8r5,l8r6,l8r7,l8r8,l8r9,l8r10,l8r11a,l8r11b,l8r11,l8r12,l8r13,l8r14,e1,hcut,d1,d2])
 | ((first | refine condB_split (fun h => ?_) (fun h => ?_) | refine gIf_split (fun h => ?_) (fun h => ?_) | refine qIf_split (fun h => ?_) (fun h => ?_)) <;> (try simp only [h]) <;> (try simp only [bitvec_to_nat] at h) <;> (try simp only [h]) <;> (first | (exfalso; omega) | (focus (exfalso; simp_all; done)) | (simp (disch := omega) only [push_cast,seval,e1,hcut,d1,d2]) | skip))
 | ((first | refine callD_of false ?_ | refine qcallD_of false ?_); simp (disch := omega) only [push_cast,seval,e1,hcut,d1,d2])
 | ((first | (refine call0D (BCall.ofP (drawRp_ok _ _ ?_ ?_)) ?_; (iterate 2 (exact sd)); rintro _ _ ⟨⟨b,sh,st,_,_,⟨rfl,rfl,hl1,hl2⟩,rfl⟩,rfl⟩) | ((first | refine call0D (iRp_ok _ _ _ _ _ ?_ ?_ ?_) ?_ | refine qcall0D (iRp_ok _ _ _ _ _ ?_ ?_ ?_) ⟨_,_,rfl,rfl⟩ ?_); (iterate 3 (exact sd)); rintro _ _ ⟨rfl,rfl⟩) | ((first | refine call0D (sRp_ok _ _ _ _ _ ?_ ?_ ?_) ?_ | refine qcall0D (sRp_ok _ _ _ _ _ ?_ ?_ ?_) ⟨_,_,rfl,rfl⟩ ?_); (iterate 3 (exact sd)); rintro _ _ ⟨rfl,rfl⟩) | ((first | refine call0D (BCall.ofP (equalInts_ok _ _ _ _ ?_ ?_ ?_)) ?_ | refine qcall0D (BCall.ofP (equalInts_ok _ _ _ _ ?_ ?_ ?_)) ⟨_,_,rfl,rfl⟩ ?_); (iterate 3 (exact sd)); rintro _ _ ⟨rfl,rfl⟩) | ((first | refine call0D (BCall.ofP (iValidView_ok _ _ _ _ _ ?_ ?_ ?_)) ?_ | refine qcall0D (BCall.ofP (iValidView_ok _ _ _ _ _ ?_ ?_ ?_)) ⟨_,_,rfl,rfl⟩ ?_); (iterate 3 (exact sd)); rintro _ _ ⟨rfl,rfl⟩) | ((first | refine call0D (iOffsetsOf_ok _ _ _ _ _ ?_ ?_ ?_) ?_ | refine qcall0D (iOffsetsOf_ok _ _ _ _ _ ?_ ?_ ?_) ⟨_,_,rfl,rfl⟩ ?_); (iterate 3 (exact sd)); rintro _ _ ⟨rfl,rfl⟩) | ((first | refine call0D (BCall.ofP (lplace_ok _ _ _ ?_ ?_)) ?_ | refine qcall0D (BCall.ofP (lplace_ok _ _ _ ?_ ?_)) ⟨_,_,rfl,rfl⟩ ?_); (iterate 2 (exact sd)); rintro _ _ ⟨rfl,rfl⟩) | ((first | refine call0D (BCall.ofP (isInL_ok _ _ _ ?_ ?_)) ?_ | refine qcall0D (BCall.ofP (isInL_ok _ _ _ ?_ ?_)) ⟨_,_,rfl,rfl⟩ ?_); (iterate 2 (exact sd)); rintro _ _ ⟨rfl,rfl⟩) | ((first | refine call0D (BCall.ofP (ascends_ok _ _ ?_ ?_)) ?_ | refine qcall0D (BCall.ofP (ascends_ok _ _ ?_ ?_)) ⟨_,_,rfl,rfl⟩ ?_); (iterate 2 (exact sd)); rintro _ _ ⟨rfl,rfl⟩) | ((first | refine call0D (BCall.ofP (lwithin_ok _ _ _ _ ?_ ?_ ?_)) ?_ | refine qcall0D (BCall.ofP (lwithin_ok _ _ _ _ ?_ ?_ ?_)) ⟨_,_,rfl,rfl⟩ ?_); (iterate 3 (exact sd)); rintro _ _ ⟨rfl,rfl⟩)) <;> (try simp (disch := omega) only [push_cast,seval,e1,hcut,d1,d2]))
 | (refine awp_ret ⟨.inr rfl,_,rfl,?_⟩; (try simp (disch := omega) only [push_cast,seval,e1,hcut,d1,d2]))))
              refine ⟨k + 1,by omega,by omega,?_⟩
              (refine Sub.of_lists ?_ ?_ ?_ ?_ ?_ <;> simp [Vw.mkS,Vw.lk,Vw.hk,AV.inn,innL,innL_ints,innL_append,innL_rep,-List.map_set,-List.getD_eq_getElem?_getD])
            · have d1 : decide (O.getD k 0 ∈ C) = false := decide_eq_false fun h => h3 (hme.1 h)
              have d2 : decide (O.getD k 0 ∈ O.drop (i + 1)) = false := decide_eq_false h3
              (repeat' (first
 | (first | refine awp_seq ?_ | refine awp_block ?_)
 | ((first | refine awp_reg ?_ | refine awp_draw (mid := l8r11a) (post := l8r11b) mixed (by decide) ?_ | refine awp_condB ?_ | refine awp_skip ?_ | refine awp_exit ?_); simp (disch := omega) only [push_cast,seval,l8r0,l8r1,l8r2,l8r3,l8r4,l8r5,l8r6,l8r7,l8r8,l8r9,l8r10,l8r11a,l8r11b,l8r11,l8r12,l8r13,l8r14,e1,hcut,d1,d2])
 | ((first | refine condB_split (fun h => ?_) (fun h => ?_) | refine gIf_split (fun h => ?_) (fun h => ?_) | refine qIf_split (fun h => ?_) (fun h => ?_)) <;> (try simp only [h]) <;> (try simp only [bitvec_to_nat] at h) <;> (try simp only [h]) <;> (first | (exfalso; omega) | (focus (exfalso; simp_all; done)) | (simp (disch := omega) only [push_cast,seval,e1,hcut,d1,d2]) | skip))
 | ((first | refine callD_of false ?_ | refine qcallD_of false ?_); simp (disch := omega) only [push_cast,seval,e1,hcut,d1,d2])
 | ((first | (refine call0D (BCall.ofP (drawRp_ok _ _ ?_ ?_)) ?_; (iterate 2 (exact sd)); rintro _ _ ⟨⟨b,sh,st,_,_,⟨rfl,rfl,hl1,hl2⟩,rfl⟩,rfl⟩) | ((first | refine call0D (iRp_ok _ _ _ _ _ ?_ ?_ ?_) ?_ | refine qcall0D (iRp_ok _ _ _ _ _ ?_ ?_ ?_) ⟨_,_,rfl,rfl⟩ ?_); (iterate 3 (exact sd)); rintro _ _ ⟨rfl,rfl⟩) | ((first | refine call0D (sRp_ok _ _ _ _ _ ?_ ?_ ?_) ?_ | refine qcall0D (sRp_ok _ _ _ _ _ ?_ ?_ ?_) ⟨_,_,rfl,rfl⟩ ?_); (iterate 3 (exact sd)); rintro _ _ ⟨rfl,rfl⟩) | ((first | refine call0D (BCall.ofP (equalInts_ok _ _ _ _ ?_ ?_ ?_)) ?_ | refine qcall0D (BCall.ofP (equalInts_ok _ _ _ _ ?_ ?_ ?_)) ⟨_,_,rfl,rfl⟩ ?_); (iterate 3 (exact sd)); rintro _ _ ⟨rfl,rfl⟩) | ((first | refine call0D (BCall.ofP (iValidView_ok _ _ _ _ _ ?_ ?_ ?_)) ?_ | refine qcall0D (BCall.ofP (iValidView_ok _ _ _ _ _ ?_ ?_ ?_)) ⟨_,_,rfl,rfl⟩ ?_); (iterate 3 (exact sd)); rintro _ _ ⟨rfl,rfl⟩) | ((first | refine call0D (iOffsetsOf_ok _ _ _ _ _ ?_ ?_ ?_) ?_ | refine qcall0D (iOffsetsOf_ok _ _ _ _ _ ?_ ?_ ?_) ⟨_,_,rfl,rfl⟩ ?_); (iterate 3 (exact sd)); rintro _ _ ⟨rfl,rfl⟩) | ((first | refine call0D (BCall.ofP (lplace_ok _ _ _ ?_ ?_)) ?_ | refine qcall0D (BCall.ofP (lplace_ok _ _ _ ?_ ?_)) ⟨_,_,rfl,rfl⟩ ?_); (iterate 2 (exact sd)); rintro _ _ ⟨rfl,rfl⟩) | ((first | refine call0D (BCall.ofP (isInL_ok _ _ _ ?_ ?_)) ?_ | refine qcall0D (BCall.ofP (isInL_ok _ _ _ ?_ ?_)) ⟨_,_,rfl,rfl⟩ ?_); (iterate 2 (exact sd)); rintro _ _ ⟨rfl,rfl⟩) | ((first | refine call0D (BCall.ofP (ascends_ok _ _ ?_ ?_)) ?_ | refine qcall0D (BCall.ofP (ascends_ok _ _ ?_ ?_)) ⟨_,_,rfl,rfl⟩ ?_); (iterate 2 (exact sd)); rintro _ _ ⟨rfl,rfl⟩) | ((first | refine call0D (BCall.ofP (lwithin_ok _ _ _ _ ?_ ?_ ?_)) ?_ | refine qcall0D (BCall.ofP (lwithin_ok _ _ _ _ ?_ ?_ ?_)) ⟨_,_,rfl,rfl⟩ ?_); (iterate 3 (exact sd)); rintro _ _ ⟨rfl,rfl⟩)) <;> (try simp (disch := omega) only [push_cast,seval,e1,hcut,d1,d2]))
 | (refine awp_ret ⟨.inr rfl,_,rfl,?_⟩; (try simp (disch := omega) only [push_cast,seval,e1,hcut,d1,d2]))))
              refine ⟨k + 1,by omega,by omega,?_⟩
              (refine Sub.of_lists ?_ ?_ ?_ ?_ ?_ <;> simp [Vw.mkS,Vw.lk,Vw.hk,AV.inn,innL,innL_ints,innL_append,innL_rep,-List.map_set,-List.getD_eq_getElem?_getD])
          · (repeat' (first
 | (first | refine awp_seq ?_ | refine awp_block ?_)
 | ((first | refine awp_reg ?_ | refine awp_draw (mid := l8r11a) (post := l8r11b) mixed (by decide) ?_ | refine awp_condB ?_ | refine awp_skip ?_ | refine awp_exit ?_); simp (disch := omega) only [push_cast,seval,l8r0,l8r1,l8r2,l8r3,l8r4,l8r5,l8r6,l8r7,l8r8,l8r9,l8r10,l8r11a,l8r11b,l8r11,l8r12,l8r13,l8r14])
 | ((first | refine condB_split (fun h => ?_) (fun h => ?_) | refine gIf_split (fun h => ?_) (fun h => ?_) | refine qIf_split (fun h => ?_) (fun h => ?_)) <;> (try simp only [h]) <;> (try simp only [bitvec_to_nat] at h) <;> (try simp only [h]) <;> (first | (exfalso; omega) | (focus (exfalso; simp_all; done)) | (simp (disch := omega) only [push_cast,seval]) | skip))
 | ((first | refine callD_of false ?_ | refine qcallD_of false ?_); simp (disch := omega) only [push_cast,seval])
 | ((first | (refine call0D (BCall.ofP (drawRp_ok _ _ ?_ ?_)) ?_; (iterate 2 (exact sd)); rintro _ _ ⟨⟨b,sh,st,_,_,⟨rfl,rfl,hl1,hl2⟩,rfl⟩,rfl⟩) | ((first | refine call0D (iRp_ok _ _ _ _ _ ?_ ?_ ?_) ?_ | refine qcall0D (iRp_ok _ _ _ _ _ ?_ ?_ ?_) ⟨_,_,rfl,rfl⟩ ?_); (iterate 3 (exact sd)); rintro _ _ ⟨rfl,rfl⟩) | ((first | refine call0D (sRp_ok _ _ _ _ _ ?_ ?_ ?_) ?_ | refine qcall0D (sRp_ok _ _ _ _ _ ?_ ?_ ?_) ⟨_,_,rfl,rfl⟩ ?_); (iterate 3 (exact sd)); rintro _ _ ⟨rfl,rfl⟩) | ((first | refine call0D (BCall.ofP (equalInts_ok _ _ _ _ ?_ ?_ ?_)) ?_ | refine qcall0D (BCall.ofP (equalInts_ok _ _ _ _ ?_ ?_ ?_)) ⟨_,_,rfl,rfl⟩ ?_); (iterate 3 (exact sd)); rintro _ _ ⟨rfl,rfl⟩) | ((first | refine call0D (BCall.ofP (iValidView_ok _ _ _ _ _ ?_ ?_ ?_)) ?_ | refine qcall0D (BCall.ofP (iValidView_ok _ _ _ _ _ ?_ ?_ ?_)) ⟨_,_,rfl,rfl⟩ ?_); (iterate 3 (exact sd)); rintro _ _ ⟨rfl,rfl⟩) | ((first | refine call0D (iOffsetsOf_ok _ _ _ _ _ ?_ ?_ ?_) ?_ | refine qcall0D (iOffsetsOf_ok _ _ _ _ _ ?_ ?_ ?_) ⟨_,_,rfl,rfl⟩ ?_); (iterate 3 (exact sd)); rintro _ _ ⟨rfl,rfl⟩) | ((first | refine call0D (BCall.ofP (lplace_ok _ _ _ ?_ ?_)) ?_ | refine qcall0D (BCall.ofP (lplace_ok _ _ _ ?_ ?_)) ⟨_,_,rfl,rfl⟩ ?_); (iterate 2 (exact sd)); rintro _ _ ⟨rfl,rfl⟩) | ((first | refine call0D (BCall.ofP (isInL_ok _ _ _ ?_ ?_)) ?_ | refine qcall0D (BCall.ofP (isInL_ok _ _ _ ?_ ?_)) ⟨_,_,rfl,rfl⟩ ?_); (iterate 2 (exact sd)); rintro _ _ ⟨rfl,rfl⟩) | ((first | refine call0D (BCall.ofP (ascends_ok _ _ ?_ ?_)) ?_ | refine qcall0D (BCall.ofP (ascends_ok _ _ ?_ ?_)) ⟨_,_,rfl,rfl⟩ ?_); (iterate 2 (exact sd)); rintro _ _ ⟨rfl,rfl⟩) | ((first | refine call0D (BCall.ofP (lwithin_ok _ _ _ _ ?_ ?_ ?_)) ?_ | refine qcall0D (BCall.ofP (lwithin_ok _ _ _ _ ?_ ?_ ?_)) ⟨_,_,rfl,rfl⟩ ?_); (iterate 3 (exact sd)); rintro _ _ ⟨rfl,rfl⟩)) <;> (try simp (disch := omega) only [push_cast,seval]))
 | (refine awp_ret ⟨.inr rfl,_,rfl,?_⟩; (try simp (disch := omega) only [push_cast,seval]))))
            all_goals (try simp)
  · (repeat' (first
 | (first | refine awp_seq ?_ | refine awp_block ?_)
 | ((first | refine awp_reg ?_ | refine awp_draw (mid := l8r11a) (post := l8r11b) mixed (by decide) ?_ | refine awp_condB ?_ | refine awp_skip ?_ | refine awp_exit ?_); simp (disch := omega) only [push_cast,seval,l8r0,l8r1,l8r2,l8r3,l8r4,l8r5,l8r6,l8r7,l8r8,l8r9,l8r10,l8r11a,l8r11b,l8r11,l8r12,l8r13,l8r14])
 | ((first | refine condB_split (fun h => ?_) (fun h => ?_) | refine gIf_split (fun h => ?_) (fun h => ?_) | refine qIf_split (fun h => ?_) (fun h => ?_)) <;> (try simp only [h]) <;> (try simp only [bitvec_to_nat] at h) <;> (try simp only [h]) <;> (first | (exfalso; omega) | (focus (exfalso; simp_all; done)) | (simp (disch := omega) only [push_cast,seval]) | skip))
 | ((first | refine callD_of false ?_ | refine qcallD_of false ?_); simp (disch := omega) only [push_cast,seval])
 | ((first | (refine call0D (BCall.ofP (drawRp_ok _ _ ?_ ?_)) ?_; (iterate 2 (exact sd)); rintro _ _ ⟨⟨b,sh,st,_,_,⟨rfl,rfl,hl1,hl2⟩,rfl⟩,rfl⟩) | ((first | refine call0D (iRp_ok _ _ _ _ _ ?_ ?_ ?_) ?_ | refine qcall0D (iRp_ok _ _ _ _ _ ?_ ?_ ?_) ⟨_,_,rfl,rfl⟩ ?_); (iterate 3 (exact sd)); rintro _ _ ⟨rfl,rfl⟩) | ((first | refine call0D (sRp_ok _ _ _ _ _ ?_ ?_ ?_) ?_ | refine qcall0D (sRp_ok _ _ _ _ _ ?_ ?_ ?_) ⟨_,_,rfl,rfl⟩ ?_); (iterate 3 (exact sd)); rintro _ _ ⟨rfl,rfl⟩) | ((first | refine call0D (BCall.ofP (equalInts_ok _ _ _ _ ?_ ?_ ?_)) ?_ | refine qcall0D (BCall.ofP (equalInts_ok _ _ _ _ ?_ ?_ ?_)) ⟨_,_,rfl,rfl⟩ ?_); (iterate 3 (exact sd)); rintro _ _ ⟨rfl,rfl⟩) | ((first | refine call0D (BCall.ofP (iValidView_ok _ _ _ _ _ ?_ ?_ ?_)) ?_ | refine qcall0D (BCall.ofP (iValidView_ok _ _ _ _ _ ?_ ?_ ?_)) ⟨_,_,rfl,rfl⟩ ?_); (iterate 3 (exact sd)); rintro _ _ ⟨rfl,rfl⟩) | ((first | refine call0D (iOffsetsOf_ok _ _ _ _ _ ?_ ?_ ?_) ?_ | refine qcall0D (iOffsetsOf_ok _ _ _ _ _ ?_ ?_ ?_) ⟨_,_,rfl,rfl⟩ ?_); (iterate 3 (exact sd)); rintro _ _ ⟨rfl,rfl⟩) | ((first | refine call0D (BCall.ofP (lplace_ok _ _ _ ?_ ?_)) ?_ | refine qcall0D (BCall.ofP (lplace_ok _ _ _ ?_ ?_)) ⟨_,_,rfl,rfl⟩ ?_); (iterate 2 (exact sd)); rintro _ _ ⟨rfl,rfl⟩) | ((first | refine call0D (BCall.ofP (isInL_ok _ _ _ ?_ ?_)) ?_ | refine qcall0D (BCall.ofP (isInL_ok _ _ _ ?_ ?_)) ⟨_,_,rfl,rfl⟩ ?_); (iterate 2 (exact sd)); rintro _ _ ⟨rfl,rfl⟩) | ((first | refine call0D (BCall.ofP (ascends_ok _ _ ?_ ?_)) ?_ | refine qcall0D (BCall.ofP (ascends_ok _ _ ?_ ?_)) ⟨_,_,rfl,rfl⟩ ?_); (iterate 2 (exact sd)); rintro _ _ ⟨rfl,rfl⟩) | ((first | refine call0D (BCall.ofP (lwithin_ok _ _ _ _ ?_ ?_ ?_)) ?_ | refine qcall0D (BCall.ofP (lwithin_ok _ _ _ _ ?_ ?_ ?_)) ⟨_,_,rfl,rfl⟩ ?_); (iterate 3 (exact sd)); rintro _ _ ⟨rfl,rfl⟩)) <;> (try simp (disch := omega) only [push_cast,seval]))
 | (refine awp_ret ⟨.inr rfl,_,rfl,?_⟩; (try simp (disch := omega) only [push_cast,seval]))))


set_option maxHeartbeats 32000000 in
theorem lFnOO_ok (bs : List Int) (hl : bs.length ≤ 9223372036854775807) (hb : ∀ x ∈ bs,0 ≤ x ∧ x ≤ 255) : PCall Try.prog 9 [.rows false (UL bs) bs.length] (fun r => r = .bool true) := by
  refine pcall_of l9_eq rfl ?_
  by_cases h : bs.length ≤ 1048576
  · have q : bs.length ≤ 1099511627776 ∧ ∀ x ∈ bs,0 ≤ x ∧ x ≤ 255 := ⟨by omega,hb⟩
    (repeat' (first
 | (refine awp_joinL (c1 := .reg l9r3) (fun x : Int × List Int × List Int => mkS [(3,.ref 48 3 0)] [(48,[.int .i64 x.1,.rows true (IL x.2.1) x.2.1.length,.rows true (IL x.2.2) x.2.2.length])]) (fun x => x.2.1.length ≤ 100 ∧ x.2.2.length ≤ 100) ?_ ?_)
 | (first | refine awp_seq ?_ | refine awp_block ?_)
 | ((first | refine awp_reg ?_ | refine awp_draw (mid := l9r7a) (post := l9r7b) mixed (by decide) ?_ | refine awp_condB ?_ | refine awp_skip ?_ | refine awp_exit ?_); simp (disch := omega) only [push_cast,seval,l9r0,l9r1,l9r2,l9r3,l9r4,l9r5,l9r6,l9r7a,l9r7b,l9r7])
 | ((first | refine condB_split (fun h => ?_) (fun h => ?_) | refine gIf_split (fun h => ?_) (fun h => ?_) | refine qIf_split (fun h => ?_) (fun h => ?_)) <;> (try simp only [h]) <;> (try simp only [bitvec_to_nat] at h) <;> (try simp only [h]) <;> (first | (exfalso; omega) | (focus (exfalso; simp_all; done)) | (simp (disch := omega) only [push_cast,seval]) | skip))
 | ((first | refine callD_of false ?_ | refine qcallD_of false ?_); simp (disch := omega) only [push_cast,seval])
 | ((first | (refine call0D (BCall.ofP (drawOO_ok _ _ ?_ ?_)) ?_; (iterate 2 (exact sd)); rintro _ _ ⟨⟨b,sh,st,_,_,⟨rfl,rfl,hl1,hl2⟩,rfl⟩,rfl⟩) | ((first | refine call0D (BCall.ofP (iIsOneToOne_ok _ _ _ _ _ ?_ ?_ ?_)) ?_ | refine qcall0D (BCall.ofP (iIsOneToOne_ok _ _ _ _ _ ?_ ?_ ?_)) ⟨_,_,rfl,rfl⟩ ?_); (iterate 3 (exact sd)); rintro _ _ ⟨rfl,rfl⟩) | ((first | refine call0D (BCall.ofP (sIsOneToOne_ok _ _ _ _ _ ?_ ?_ ?_)) ?_ | refine qcall0D (BCall.ofP (sIsOneToOne_ok _ _ _ _ _ ?_ ?_ ?_)) ⟨_,_,rfl,rfl⟩ ?_); (iterate 3 (exact sd)); rintro _ _ ⟨rfl,rfl⟩) | ((first | refine call0D (BCall.ofP (iValidView_ok _ _ _ _ _ ?_ ?_ ?_)) ?_ | refine qcall0D (BCall.ofP (iValidView_ok _ _ _ _ _ ?_ ?_ ?_)) ⟨_,_,rfl,rfl⟩ ?_); (iterate 3 (exact sd)); rintro _ _ ⟨rfl,rfl⟩) | ((first | refine call0D (iRp_ok _ _ _ _ _ ?_ ?_ ?_) ?_ | refine qcall0D (iRp_ok _ _ _ _ _ ?_ ?_ ?_) ⟨_,_,rfl,rfl⟩ ?_); (iterate 3 (exact sd)); rintro _ _ ⟨rfl,rfl⟩) | ((first | refine call0D (iCe_ok _ _ _ _ _ ?_ ?_ ?_) ?_ | refine qcall0D (iCe_ok _ _ _ _ _ ?_ ?_ ?_) ⟨_,_,rfl,rfl⟩ ?_); (iterate 3 (exact sd)); rintro _ _ ⟨rfl,rfl⟩) | ((first | refine call0D (BCall.ofP (iCountOf_ok _ _ ?_ ?_)) ?_ | refine qcall0D (BCall.ofP (iCountOf_ok _ _ ?_ ?_)) ⟨_,_,rfl,rfl⟩ ?_); (iterate 2 (exact sd)); rintro _ _ ⟨rfl,rfl⟩)) <;> (try simp (disch := omega) only [push_cast,seval]))
 | (refine awp_ret ⟨.inr rfl,_,rfl,?_⟩; (try simp (disch := omega) only [push_cast,seval]))))
    · (refine exSub3 (Sub.of_eqs rfl rfl ?_ ?_ ?_) ?_; (focus (simp [Vw.mkS,Vw.lk,Vw.hk,AV.inn,innL,innL_ints,innL_append,innL_rep,-List.map_set,-List.getD_eq_getElem?_getD,innL_ints]; done)); (focus (simp [AV.inn,innL,Vw.hk,innL_ints]; done)); (focus (simp [AV.inn,innL,innL_ints,innL_append,innL_rep,Vw.hk,innL_ints]; done)); (try simp only); (first | omega | (refine ⟨?_,?_⟩ <;> first | assumption | omega) | (refine ⟨?_,?_,?_⟩ <;> first | assumption | omega) | (refine ⟨?_,?_,?_,?_⟩ <;> first | assumption | omega)))
    · refine ⟨?_⟩
      rintro ⟨b,sh,st⟩ ⟨hl1,hl2⟩
      try simp only at hl1 hl2 ⊢
      have hq : sh.length ≤ 1099511627776 ∧ st.length ≤ 1099511627776 := by omega
      cases hv : vV b sh st with
 | false =>
        have hone : oneB b sh st = false := by simp [oneB,hv]
        (repeat' (first
 | (first | refine awp_seq ?_ | refine awp_block ?_)
 | ((first | refine awp_reg ?_ | refine awp_draw (mid := l9r7a) (post := l9r7b) mixed (by decide) ?_ | refine awp_condB ?_ | refine awp_skip ?_ | refine awp_exit ?_); simp (disch := omega) only [push_cast,seval,l9r0,l9r1,l9r2,l9r3,l9r4,l9r5,l9r6,l9r7a,l9r7b,l9r7,hv,hone,decide_true])
 | ((first | refine condB_split (fun h => ?_) (fun h => ?_) | refine gIf_split (fun h => ?_) (fun h => ?_) | refine qIf_split (fun h => ?_) (fun h => ?_)) <;> (try simp only [h]) <;> (try simp only [bitvec_to_nat] at h) <;> (try simp only [h]) <;> (first | (exfalso; omega) | (focus (exfalso; simp_all; done)) | (simp (disch := omega) only [push_cast,seval,hv,hone,decide_true]) | skip))
 | ((first | refine callD_of false ?_ | refine qcallD_of false ?_); simp (disch := omega) only [push_cast,seval,hv,hone,decide_true])
 | ((first | (refine call0D (BCall.ofP (drawOO_ok _ _ ?_ ?_)) ?_; (iterate 2 (exact sd)); rintro _ _ ⟨⟨b,sh,st,_,_,⟨rfl,rfl,hl1,hl2⟩,rfl⟩,rfl⟩) | ((first | refine call0D (BCall.ofP (iIsOneToOne_ok _ _ _ _ _ ?_ ?_ ?_)) ?_ | refine qcall0D (BCall.ofP (iIsOneToOne_ok _ _ _ _ _ ?_ ?_ ?_)) ⟨_,_,rfl,rfl⟩ ?_); (iterate 3 (exact sd)); rintro _ _ ⟨rfl,rfl⟩) | ((first | refine call0D (BCall.ofP (sIsOneToOne_ok _ _ _ _ _ ?_ ?_ ?_)) ?_ | refine qcall0D (BCall.ofP (sIsOneToOne_ok _ _ _ _ _ ?_ ?_ ?_)) ⟨_,_,rfl,rfl⟩ ?_); (iterate 3 (exact sd)); rintro _ _ ⟨rfl,rfl⟩) | ((first | refine call0D (BCall.ofP (iValidView_ok _ _ _ _ _ ?_ ?_ ?_)) ?_ | refine qcall0D (BCall.ofP (iValidView_ok _ _ _ _ _ ?_ ?_ ?_)) ⟨_,_,rfl,rfl⟩ ?_); (iterate 3 (exact sd)); rintro _ _ ⟨rfl,rfl⟩) | ((first | refine call0D (iRp_ok _ _ _ _ _ ?_ ?_ ?_) ?_ | refine qcall0D (iRp_ok _ _ _ _ _ ?_ ?_ ?_) ⟨_,_,rfl,rfl⟩ ?_); (iterate 3 (exact sd)); rintro _ _ ⟨rfl,rfl⟩) | ((first | refine call0D (iCe_ok _ _ _ _ _ ?_ ?_ ?_) ?_ | refine qcall0D (iCe_ok _ _ _ _ _ ?_ ?_ ?_) ⟨_,_,rfl,rfl⟩ ?_); (iterate 3 (exact sd)); rintro _ _ ⟨rfl,rfl⟩) | ((first | refine call0D (BCall.ofP (iCountOf_ok _ _ ?_ ?_)) ?_ | refine qcall0D (BCall.ofP (iCountOf_ok _ _ ?_ ?_)) ⟨_,_,rfl,rfl⟩ ?_); (iterate 2 (exact sd)); rintro _ _ ⟨rfl,rfl⟩)) <;> (try simp (disch := omega) only [push_cast,seval,hv,hone,decide_true]))
 | (refine awp_ret ⟨.inr rfl,_,rfl,?_⟩; (try simp (disch := omega) only [push_cast,seval,hv,hone,decide_true]))))
        all_goals (try simp)
 | true =>
        have hone : oneB b sh st = decide (offs b sh st).Nodup := by simp [oneB,hv]
        have hcs : ∀ x ∈ offs b sh st,0 ≤ x ∧ x ≤ 59 := fun x hx => by have := vV_cells hv x hx; omega
        have hol := offs_length b sh st
        have hs1 := (vV_spec.1 hv).1
        have hpb := (vSh_good hs1).2
        have e3 : (if vV b sh st = true then offs b sh st else []) = offs b sh st := if_pos hv
        have e4 : (if vSh sh = true then pr sh else -1) = pr sh := if_pos hs1
        generalize hO : offs b sh st = O at *
        have hO60 : O.length ≤ 60 := by omega
        have hM : MVL true (repL O) = repL O := rfl
        have hM2 : MVL true (bothL O O) = bothL O O := rfl
        have hRl : (repL O).length ≤ 60 := atL_len (cnt O) 2
        have hCl := bothL_le O O
        have hr := rep_nil hcs
        have hf := both_full hcs
        generalize hR : repL O = R at *
        generalize hC : bothL O O = C at *
        by_cases hd : O.Nodup
        · have d0 : oneB b sh st = true := by rw [hone]; exact decide_eq_true hd
          have d1 : (R.length : Int) = 0 := by have := hr.2 hd; omega
          have d2 : (C.length : Int) = pr sh := by have := hf.2 hd; omega
          clear hone
          (repeat' (first
 | (first | refine awp_seq ?_ | refine awp_block ?_)
 | ((first | refine awp_reg ?_ | refine awp_draw (mid := l9r7a) (post := l9r7b) mixed (by decide) ?_ | refine awp_condB ?_ | refine awp_skip ?_ | refine awp_exit ?_); simp (disch := omega) only [push_cast,seval,l9r0,l9r1,l9r2,l9r3,l9r4,l9r5,l9r6,l9r7a,l9r7b,l9r7,hv,hO,hM,hM2,hR,hC,d0,d1,d2,e4,decide_true])
 | ((first | refine condB_split (fun h => ?_) (fun h => ?_) | refine gIf_split (fun h => ?_) (fun h => ?_) | refine qIf_split (fun h => ?_) (fun h => ?_)) <;> (try simp only [h]) <;> (try simp only [bitvec_to_nat] at h) <;> (try simp only [h]) <;> (first | (exfalso; omega) | (focus (exfalso; simp_all; done)) | (simp (disch := omega) only [push_cast,seval,hv,hO,hM,hM2,hR,hC,d0,d1,d2,e4,decide_true]) | skip))
 | ((first | refine callD_of false ?_ | refine qcallD_of false ?_); simp (disch := omega) only [push_cast,seval,hv,hO,hM,hM2,hR,hC,d0,d1,d2,e4,decide_true])
 | ((first | (refine call0D (BCall.ofP (drawOO_ok _ _ ?_ ?_)) ?_; (iterate 2 (exact sd)); rintro _ _ ⟨⟨b,sh,st,_,_,⟨rfl,rfl,hl1,hl2⟩,rfl⟩,rfl⟩) | ((first | refine call0D (BCall.ofP (iIsOneToOne_ok _ _ _ _ _ ?_ ?_ ?_)) ?_ | refine qcall0D (BCall.ofP (iIsOneToOne_ok _ _ _ _ _ ?_ ?_ ?_)) ⟨_,_,rfl,rfl⟩ ?_); (iterate 3 (exact sd)); rintro _ _ ⟨rfl,rfl⟩) | ((first | refine call0D (BCall.ofP (sIsOneToOne_ok _ _ _ _ _ ?_ ?_ ?_)) ?_ | refine qcall0D (BCall.ofP (sIsOneToOne_ok _ _ _ _ _ ?_ ?_ ?_)) ⟨_,_,rfl,rfl⟩ ?_); (iterate 3 (exact sd)); rintro _ _ ⟨rfl,rfl⟩) | ((first | refine call0D (BCall.ofP (iValidView_ok _ _ _ _ _ ?_ ?_ ?_)) ?_ | refine qcall0D (BCall.ofP (iValidView_ok _ _ _ _ _ ?_ ?_ ?_)) ⟨_,_,rfl,rfl⟩ ?_); (iterate 3 (exact sd)); rintro _ _ ⟨rfl,rfl⟩) | ((first | refine call0D (iRp_ok _ _ _ _ _ ?_ ?_ ?_) ?_ | refine qcall0D (BCall.ofP (plainI (iRp_ok _ _ _ _ _ ?_ ?_ ?_))) ⟨_,_,rfl,rfl⟩ ?_); (iterate 3 (exact sd)); rintro _ _ ⟨rfl,rfl⟩) | ((first | refine call0D (iCe_ok _ _ _ _ _ ?_ ?_ ?_) ?_ | refine qcall0D (BCall.ofP (plainI (iCe_ok _ _ _ _ _ ?_ ?_ ?_))) ⟨_,_,rfl,rfl⟩ ?_); (iterate 3 (exact sd)); rintro _ _ ⟨rfl,rfl⟩) | ((first | refine call0D (BCall.ofP (iCountOf_ok _ _ ?_ ?_)) ?_ | refine qcall0D (BCall.ofP (iCountOf_ok _ _ ?_ ?_)) ⟨_,_,rfl,rfl⟩ ?_); (iterate 2 (exact sd)); rintro _ _ ⟨rfl,rfl⟩)) <;> (try simp (disch := omega) only [push_cast,seval,hv,hO,hM,hM2,hR,hC,d0,d1,d2,e4,decide_true]))
 | (refine awp_ret ⟨.inr rfl,_,rfl,?_⟩; (try simp (disch := omega) only [push_cast,seval,hv,hO,hM,hM2,hR,hC,d0,d1,d2,e4,decide_true]))))
          all_goals (try simp [d1,d2])
        · have d0 : oneB b sh st = false := by rw [hone]; exact decide_eq_false hd
          have d1 : ¬ (R.length : Int) = 0 := fun e => hd (hr.1 (by omega))
          have d2 : ¬ (C.length : Int) = pr sh := fun e => hd (hf.1 (by omega))
          clear hone
          (repeat' (first
 | (first | refine awp_seq ?_ | refine awp_block ?_)
 | ((first | refine awp_reg ?_ | refine awp_draw (mid := l9r7a) (post := l9r7b) mixed (by decide) ?_ | refine awp_condB ?_ | refine awp_skip ?_ | refine awp_exit ?_); simp (disch := omega) only [push_cast,seval,l9r0,l9r1,l9r2,l9r3,l9r4,l9r5,l9r6,l9r7a,l9r7b,l9r7,hv,hO,hM,hM2,hR,hC,d0,d1,d2,e4,decide_true,decide_false])
 | ((first | refine condB_split (fun h => ?_) (fun h => ?_) | refine gIf_split (fun h => ?_) (fun h => ?_) | refine qIf_split (fun h => ?_) (fun h => ?_)) <;> (try simp only [h]) <;> (try simp only [bitvec_to_nat] at h) <;> (try simp only [h]) <;> (first | (exfalso; omega) | (focus (exfalso; simp_all; done)) | (simp (disch := omega) only [push_cast,seval,hv,hO,hM,hM2,hR,hC,d0,d1,d2,e4,decide_true,decide_false]) | skip))
 | ((first | refine callD_of false ?_ | refine qcallD_of false ?_); simp (disch := omega) only [push_cast,seval,hv,hO,hM,hM2,hR,hC,d0,d1,d2,e4,decide_true,decide_false])
 | ((first | (refine call0D (BCall.ofP (drawOO_ok _ _ ?_ ?_)) ?_; (iterate 2 (exact sd)); rintro _ _ ⟨⟨b,sh,st,_,_,⟨rfl,rfl,hl1,hl2⟩,rfl⟩,rfl⟩) | ((first | refine call0D (BCall.ofP (iIsOneToOne_ok _ _ _ _ _ ?_ ?_ ?_)) ?_ | refine qcall0D (BCall.ofP (iIsOneToOne_ok _ _ _ _ _ ?_ ?_ ?_)) ⟨_,_,rfl,rfl⟩ ?_); (iterate 3 (exact sd)); rintro _ _ ⟨rfl,rfl⟩) | ((first | refine call0D (BCall.ofP (sIsOneToOne_ok _ _ _ _ _ ?_ ?_ ?_)) ?_ | refine qcall0D (BCall.ofP (sIsOneToOne_ok _ _ _ _ _ ?_ ?_ ?_)) ⟨_,_,rfl,rfl⟩ ?_); (iterate 3 (exact sd)); rintro _ _ ⟨rfl,rfl⟩) | ((first | refine call0D (BCall.ofP (iValidView_ok _ _ _ _ _ ?_ ?_ ?_)) ?_ | refine qcall0D (BCall.ofP (iValidView_ok _ _ _ _ _ ?_ ?_ ?_)) ⟨_,_,rfl,rfl⟩ ?_); (iterate 3 (exact sd)); rintro _ _ ⟨rfl,rfl⟩) | ((first | refine call0D (iRp_ok _ _ _ _ _ ?_ ?_ ?_) ?_ | refine qcall0D (BCall.ofP (plainI (iRp_ok _ _ _ _ _ ?_ ?_ ?_))) ⟨_,_,rfl,rfl⟩ ?_); (iterate 3 (exact sd)); rintro _ _ ⟨rfl,rfl⟩) | ((first | refine call0D (iCe_ok _ _ _ _ _ ?_ ?_ ?_) ?_ | refine qcall0D (BCall.ofP (plainI (iCe_ok _ _ _ _ _ ?_ ?_ ?_))) ⟨_,_,rfl,rfl⟩ ?_); (iterate 3 (exact sd)); rintro _ _ ⟨rfl,rfl⟩) | ((first | refine call0D (BCall.ofP (iCountOf_ok _ _ ?_ ?_)) ?_ | refine qcall0D (BCall.ofP (iCountOf_ok _ _ ?_ ?_)) ⟨_,_,rfl,rfl⟩ ?_); (iterate 2 (exact sd)); rintro _ _ ⟨rfl,rfl⟩)) <;> (try simp (disch := omega) only [push_cast,seval,hv,hO,hM,hM2,hR,hC,d0,d1,d2,e4,decide_true,decide_false]))
 | (refine awp_ret ⟨.inr rfl,_,rfl,?_⟩; (try simp (disch := omega) only [push_cast,seval,hv,hO,hM,hM2,hR,hC,d0,d1,d2,e4,decide_true,decide_false]))))
          all_goals (try simp [d1,d2])
  · (repeat' (first
 | (first | refine awp_seq ?_ | refine awp_block ?_)
 | ((first | refine awp_reg ?_ | refine awp_draw (mid := l9r7a) (post := l9r7b) mixed (by decide) ?_ | refine awp_condB ?_ | refine awp_skip ?_ | refine awp_exit ?_); simp (disch := omega) only [push_cast,seval,l9r0,l9r1,l9r2,l9r3,l9r4,l9r5,l9r6,l9r7a,l9r7b,l9r7])
 | ((first | refine condB_split (fun h => ?_) (fun h => ?_) | refine gIf_split (fun h => ?_) (fun h => ?_) | refine qIf_split (fun h => ?_) (fun h => ?_)) <;> (try simp only [h]) <;> (try simp only [bitvec_to_nat] at h) <;> (try simp only [h]) <;> (first | (exfalso; omega) | (focus (exfalso; simp_all; done)) | (simp (disch := omega) only [push_cast,seval]) | skip))
 | ((first | refine callD_of false ?_ | refine qcallD_of false ?_); simp (disch := omega) only [push_cast,seval])
 | ((first | (refine call0D (BCall.ofP (drawOO_ok _ _ ?_ ?_)) ?_; (iterate 2 (exact sd)); rintro _ _ ⟨⟨b,sh,st,_,_,⟨rfl,rfl,hl1,hl2⟩,rfl⟩,rfl⟩) | ((first | refine call0D (BCall.ofP (iIsOneToOne_ok _ _ _ _ _ ?_ ?_ ?_)) ?_ | refine qcall0D (BCall.ofP (iIsOneToOne_ok _ _ _ _ _ ?_ ?_ ?_)) ⟨_,_,rfl,rfl⟩ ?_); (iterate 3 (exact sd)); rintro _ _ ⟨rfl,rfl⟩) | ((first | refine call0D (BCall.ofP (sIsOneToOne_ok _ _ _ _ _ ?_ ?_ ?_)) ?_ | refine qcall0D (BCall.ofP (sIsOneToOne_ok _ _ _ _ _ ?_ ?_ ?_)) ⟨_,_,rfl,rfl⟩ ?_); (iterate 3 (exact sd)); rintro _ _ ⟨rfl,rfl⟩) | ((first | refine call0D (BCall.ofP (iValidView_ok _ _ _ _ _ ?_ ?_ ?_)) ?_ | refine qcall0D (BCall.ofP (iValidView_ok _ _ _ _ _ ?_ ?_ ?_)) ⟨_,_,rfl,rfl⟩ ?_); (iterate 3 (exact sd)); rintro _ _ ⟨rfl,rfl⟩) | ((first | refine call0D (iRp_ok _ _ _ _ _ ?_ ?_ ?_) ?_ | refine qcall0D (iRp_ok _ _ _ _ _ ?_ ?_ ?_) ⟨_,_,rfl,rfl⟩ ?_); (iterate 3 (exact sd)); rintro _ _ ⟨rfl,rfl⟩) | ((first | refine call0D (iCe_ok _ _ _ _ _ ?_ ?_ ?_) ?_ | refine qcall0D (iCe_ok _ _ _ _ _ ?_ ?_ ?_) ⟨_,_,rfl,rfl⟩ ?_); (iterate 3 (exact sd)); rintro _ _ ⟨rfl,rfl⟩) | ((first | refine call0D (BCall.ofP (iCountOf_ok _ _ ?_ ?_)) ?_ | refine qcall0D (BCall.ofP (iCountOf_ok _ _ ?_ ?_)) ⟨_,_,rfl,rfl⟩ ?_); (iterate 2 (exact sd)); rintro _ _ ⟨rfl,rfl⟩)) <;> (try simp (disch := omega) only [push_cast,seval]))
 | (refine awp_ret ⟨.inr rfl,_,rfl,?_⟩; (try simp (disch := omega) only [push_cast,seval]))))

end Go.Proofs.Ytgkgnphonihheaa
