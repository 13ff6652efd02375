import Derived.Test.YtfphjgmkpgoomaaGreatCKw5
import Derived.Test.YtfphjgmkpgoomaaGreatCM1
import Derived.Test.YtfphjgmkpgoomaaGreatCW3
set_option linter.unusedSimpArgs false
set_option linter.unusedVariables false
set_option maxRecDepth 4000
set_option maxHeartbeats 4000000
namespace Go.Proofs.YtfphjgmkpgoomaaGreat
open VwM Vw Go

theorem numsOf_PRg {s c : Int} {n : Nat} (h0 : c ≠ 0) (hb : ∀ i : Nat,i < n → -100 ≤ s + (i : Int) * c ∧ s + (i : Int) * c ≤ 100) : numsOf (pS s n) (pE s c n) (pC c n) = nums s c n := by
  obtain ⟨h1,h2,-⟩ := PRg_valid h0 hb
  unfold numsOf
  rw [if_pos h1,h2,nums_PR]
theorem ln_list {xs : List Int} (h : xs.length = 1) : xs = [xs.getD 0 0] := by
  match xs,h with
  | [x],_ => rfl
theorem line_prog {b : Int} {sh st : List Int} (hv : vV b sh st = true) (h1 : sh.length = 1) : ∃ (s c : Int) (n : Nat),1 ≤ c ∧ bothL (offs b sh st) (offs b sh st) = nums s c n ∧ ∀ i : Nat,i < n → -100 ≤ s + (i : Int) * c ∧ s + (i : Int) * c ≤ 100 := by
  have e1 := ln_list h1
  have e2 := ln_list (xs := st) (by rw [(okV_valid hv).2,h1])
  have hcs : ∀ x ∈ offs b sh st,0 ≤ x ∧ x ≤ 59 := fun x hx => by have := vV_cells hv x hx; omega
  have h0 := good4_at (vSh_good (vV_spec.1 hv).1).1 (k := 0) (by omega)
  have O1 : offs b sh st = nums b (st.getD 0 0) (sh.getD 0 0).toNat := by
    conv => lhs; rw [e1,e2]
    exact offs_line _ _ _ h0.1
  rw [O1] at hcs ⊢
  generalize st.getD 0 0 = c at *
  generalize (sh.getD 0 0).toNat = n at *
  have hbd : ∀ (s k : Int) (m : Nat),(∀ x,x ∈ nums s k m ↔ x ∈ nums b c n) → ∀ i : Nat,i < m → -100 ≤ s + (i : Int) * k ∧ s + (i : Int) * k ≤ 100 := fun s k m hm i hi => by
    have := hcs _ ((hm _).1 (mem_nums.2 ⟨i,hi,rfl⟩))
    omega
  by_cases hc : c = 0
  · subst hc
    have hm : ∀ x,x ∈ nums b 1 (min n 1) ↔ x ∈ nums b 0 n := fun x => by
      rw [mem_nums,mem_nums]
      constructor
      · rintro ⟨i,hi,e⟩
        have h0 : i = 0 := by omega
        subst h0
        exact ⟨0,by omega,by simpa using e⟩
      · rintro ⟨i,hi,e⟩; exact ⟨0,by omega,by simpa using e⟩
    exact ⟨b,1,min n 1,by omega,bothL_self hcs (nums_sorted (by omega) _) hm,hbd _ _ _ hm⟩
  · have hm : ∀ x,x ∈ nums (aS b c n) (aC c) n ↔ x ∈ nums b c n := fun x => by rw [← ascL_nums b c n hc,mem_ascL]
    exact ⟨aS b c n,aC c,n,aC_pos hc,bothL_self hcs (nums_sorted (aC_pos hc) _) hm,hbd _ _ _ hm⟩
theorem w63_v : vV 2 [6] [3] = true := by decide
theorem w63_o : offs 2 [6] [3] = nums 2 3 6 := offs_line 2 6 3 (by decide)
theorem w63_b : bothL (nums 2 3 6) (nums 2 3 6) = nums 2 3 6 := bothL_self (by decide) (nums_sorted (by decide) _) fun _ => Iff.rfl
theorem w63_1 : pS 2 ((6 : Nat) : Int) = 2 := by decide
theorem w63_2 : pE 2 3 ((6 : Nat) : Int) = 18 := by decide
theorem w63_3 : pC 3 ((6 : Nat) : Int) = 3 := by decide
theorem w63_l : lineA 2 [6] [3] = rng 2 18 3 := by
  unfold lineA
  rw [if_pos ⟨w63_v,rfl⟩,w63_o,w63_b,nrmA_nums,PR,w63_1,w63_2,w63_3]
theorem line_meet {s c : Int} {n : Nat} (hc : 1 ≤ c) (hb : ∀ i : Nat,i < n → -100 ≤ s + (i : Int) * c ∧ s + (i : Int) * c ≤ 100) : ∃ x y z : Int,∃ X : List Int,meA (pS s n) (pE s c n) (pC c n) 2 18 3 = rng x y z ∧ numsOf x y z = X ∧ (∀ v,v ∈ X ↔ v ∈ nums s c n ∧ v ∈ nums 2 3 6) ∧ X.Pairwise (· < ·) := by
  obtain ⟨v1,v2,-⟩ := PRg_valid (s := s) (c := c) (n := n) (by omega) hb
  have hb' : ∀ i : Nat,i < 6 → -100 ≤ (2 : Int) + (i : Int) * 3 ∧ (2 : Int) + (i : Int) * 3 ≤ 100 := fun i hi => by omega
  obtain ⟨v1',v2',-⟩ := PRg_valid (s := 2) (c := 3) (n := 6) (by omega) hb'
  obtain ⟨f,l,m,l1,e1,-,hmem,hbd,-⟩ := meA_info v1 v1'
  rw [v2,v2',nums_PR,nums_PR] at hmem
  rw [w63_1,w63_2,w63_3] at e1
  exact ⟨_,_,_,nums f l m,e1,numsOf_PRg (by omega) hbd,hmem,nums_sorted l1 m⟩


set_option maxHeartbeats 16000000 in
theorem lineView_ok (bs : List Int) (p : Int) (hb : okB bs) (hp : 0 ≤ p ∧ p ≤ 600000) : BCall Tryz.prog 74 [.ref 0 2 0] [RD bs p] (fun r H' => ∃ b sh st q,(sh.length = 1 ∧ st.length = 1) ∧ (p ≤ q ∧ q ≤ p + 50) ∧ r = .agg [.int .i64 b,.own 1 sh.length 1,.own 2 st.length 1] ∧ H' = [RD bs q,IL sh,IL st]) := by
  refine bcall_of (pins := [0]) (pin := 1) l74_eq rfl rfl rfl ?_
  (repeat' (first
 | (first | refine awp_seq ?_ | refine awp_block ?_)
 | ((first | refine awp_reg ?_ | refine awp_condB ?_ | refine awp_skip ?_ | refine awp_exit ?_); simp (disch := omega) only [push_cast,seval,l74r0,l74r1,l74r2,l74r3,l74r4,l74r5,l74r6])
 | ((first | refine condB_split (fun h => ?_) (fun h => ?_) | refine gIf_split (fun h => ?_) (fun h => ?_) | refine qIf_split (fun h => ?_) (fun h => ?_)) <;> (try simp only [h]) <;> (try simp only [bitvec_to_nat] at h) <;> (try simp only [h]) <;> (first | (exfalso; omega) | (focus (exfalso; simp_all; done)) | (simp (disch := omega) only [push_cast,seval]) | skip))
 | ((first | ((with_reducible refine callD_ids (f := 66) (args := [Operand.tmp 6,Operand.tmp 7]) [0,112] true ?_); simp (disch := omega) only [push_cast,seval]; (refine call2D (id := 0) (id' := 112) (by decide) (one_ok _ _ _ _ ?_ ?_ ?_ ?_ ?_) (by first | ((simp (disch := omega) only [push_cast,seval]); done) | ((simp (disch := omega) only [push_cast,seval]); rfl)) (by first | ((simp (disch := omega) only [push_cast,seval]); done) | ((simp (disch := omega) only [push_cast,seval]); rfl)) ?_; (iterate 5 (exact sd)); rintro _ _ ⟨x,hx,hx0,rfl,rfl⟩)) | ((with_reducible refine callD_ids (f := 66) (args := [Operand.tmp 9,Operand.tmp 10]) [0,160] true ?_); simp (disch := omega) only [push_cast,seval]; (refine call2D (id := 0) (id' := 160) (by decide) (one_ok _ _ _ _ ?_ ?_ ?_ ?_ ?_) (by first | ((simp (disch := omega) only [push_cast,seval]); done) | ((simp (disch := omega) only [push_cast,seval]); rfl)) (by first | ((simp (disch := omega) only [push_cast,seval]); done) | ((simp (disch := omega) only [push_cast,seval]); rfl)) ?_; (iterate 5 (exact sd)); rintro _ _ ⟨x,hx,hx0,rfl,rfl⟩)) | ((with_reducible refine callD_ids (f := 66) [0] true ?_); simp (disch := omega) only [push_cast,seval]; (refine call1D (id := 0) (oneR_ok _ _ _ _ ?_ ?_ ?_ ?_ ?_) (by first | ((simp (disch := omega) only [push_cast,seval]); done) | ((simp (disch := omega) only [push_cast,seval]); rfl)) ?_; (iterate 5 (exact sd)); rintro _ _ ⟨x,hx,hx0,rfl,rfl⟩)) | ((with_reducible refine qcallI_of (f := 66) [0] true ?_); simp (disch := omega) only [push_cast,seval]; (refine qcall1D (id := 0) (oneR_ok _ _ _ _ ?_ ?_ ?_ ?_ ?_) (by first | ((simp (disch := omega) only [push_cast,seval]); done) | ((simp (disch := omega) only [push_cast,seval]); rfl)) (by decide) (by simp only [unI_cons,unI_nil];exact ⟨_,_,_,List.mem_cons_self,by omega,rfl,rfl⟩) ?_; (iterate 5 (exact sd)); rintro _ _ ⟨x,hx,hx0,rfl,rfl⟩)) | ((with_reducible refine callD_ids (f := 65) [0] true ?_); simp (disch := omega) only [push_cast,seval]; (refine call1D (id := 0) (pick_ok _ _ _ ?_ ?_) (by first | ((simp (disch := omega) only [push_cast,seval]); done) | ((simp (disch := omega) only [push_cast,seval]); rfl)) ?_; (iterate 2 (exact sd)); rintro _ _ ⟨x,hx0,hx1,rfl,rfl⟩)) | ((with_reducible refine qcallI_of (f := 65) [0] true ?_); simp (disch := omega) only [push_cast,seval]; (refine qcall1D (id := 0) (pick_ok _ _ _ ?_ ?_) (by first | ((simp (disch := omega) only [push_cast,seval]); done) | ((simp (disch := omega) only [push_cast,seval]); rfl)) (by decide) ⟨_,_,0,by omega,Or.inr (Or.inr rfl),rfl,rfl⟩ ?_; (iterate 2 (exact sd)); rintro _ _ ⟨x,hx0,hx1,rfl,rfl⟩))) <;> (try simp (disch := omega) only [push_cast,seval]))
 | (refine awp_ret ⟨.inr rfl,[240,272],[],_,by decide,rfl,?_⟩; (try simp (disch := omega) only [push_cast,seval,↓allMem_nil,↓allMem_cons,↓List.map_cons,↓List.map_nil]))))
  all_goals exact ⟨_,[_],[_],_,⟨rfl,rfl⟩,by omega,rfl,rfl⟩


set_option maxHeartbeats 32000000 in
theorem drawLnb_ok (bs : List Int) (n : Nat) (hn : bs.length = n) (hb : n ≤ 1099511627776 ∧ ∀ x ∈ bs,0 ≤ x ∧ x ≤ 255) : BCall Tryz.prog 20 [.rows false (UL bs) n] [] viewB := by
  refine bcall_of (pins := []) (pin := 0) l20_eq rfl rfl rfl ?_
  unfold viewB
  (repeat' (first
 | (first | refine awp_seq ?_ | refine awp_block ?_)
 | ((first | refine awp_reg ?_ | refine awp_condB ?_ | refine awp_skip ?_ | refine awp_exit ?_); simp (disch := omega) only [push_cast,seval,l20r0,l20r1,l20r2,l20r3,l20r4])
 | ((first | refine condB_split (fun h => ?_) (fun h => ?_) | refine gIf_split (fun h => ?_) (fun h => ?_) | refine qIf_split (fun h => ?_) (fun h => ?_)) <;> (try simp only [h]) <;> (try simp only [bitvec_to_nat] at h) <;> (try simp only [h]) <;> (first | (exfalso; omega) | (focus (exfalso; simp_all; done)) | (simp (disch := omega) only [push_cast,seval]) | skip))
 | ((first | ((with_reducible refine callD_of (f := 35) true ?_); simp (disch := omega) only [push_cast,seval]; (refine call0D (newReader_ok _ _ ?_ ?_) ?_; (iterate 2 (exact sd)); rintro _ _ ⟨bs0,hbs0,rfl,rfl⟩)) | ((with_reducible refine callD_ids (f := 65) [80] true ?_); simp (disch := omega) only [push_cast,seval]; (refine call1D (id := 80) (pick_ok _ _ _ ?_ ?_) (by first | ((simp (disch := omega) only [push_cast,seval]); done) | ((simp (disch := omega) only [push_cast,seval]); rfl)) ?_; (iterate 2 (exact sd)); rintro _ _ ⟨x,hx0,hx1,rfl,rfl⟩)) | ((with_reducible refine qcallI_of (f := 65) [80] true ?_); simp (disch := omega) only [push_cast,seval]; (refine qcall1D (id := 80) (pick_ok _ _ _ ?_ ?_) (by first | ((simp (disch := omega) only [push_cast,seval]); done) | ((simp (disch := omega) only [push_cast,seval]); rfl)) (by decide) ⟨_,_,0,by omega,Or.inr (Or.inr rfl),rfl,rfl⟩ ?_; (iterate 2 (exact sd)); rintro _ _ ⟨x,hx0,hx1,rfl,rfl⟩)) | ((with_reducible refine callD_ids (f := 63) [80] true ?_); simp (disch := omega) only [push_cast,seval]; (refine call1D (id := 80) (someView_ok _ _ ?_ ?_) (by first | ((simp (disch := omega) only [push_cast,seval]); done) | ((simp (disch := omega) only [push_cast,seval]); rfl)) ?_; (iterate 2 (exact sd)); rintro _ _ ⟨b,sh,st,q,⟨hl1,hl9,hl2⟩,hq,rfl,rfl⟩)) | ((with_reducible refine callD_ids (f := 74) [80] true ?_); simp (disch := omega) only [push_cast,seval]; (refine call1D (id := 80) (lineView_ok _ _ ?_ ?_) (by first | ((simp (disch := omega) only [push_cast,seval]); done) | ((simp (disch := omega) only [push_cast,seval]); rfl)) ?_; (iterate 2 (exact sd)); rintro _ _ ⟨b,sh,st,q,⟨hl1,hl2⟩,hq,rfl,rfl⟩))) <;> (try simp (disch := omega) only [push_cast,seval]))))
  all_goals first
    | ((refine awp_ret ⟨.inr rfl,[160,161],[],_,by decide,rfl,?_⟩; (try simp (disch := omega) only [push_cast,seval,↓allMem_nil,↓allMem_cons,↓List.map_cons,↓List.map_nil])); exact ⟨b,sh,st,⟨by first | omega | (have := hl1.2; omega),by omega⟩,rfl,rfl⟩)
    | ((refine awp_ret ⟨.inr rfl,[192,193],[],_,by decide,rfl,?_⟩; (try simp (disch := omega) only [push_cast,seval,↓allMem_nil,↓allMem_cons,↓List.map_cons,↓List.map_nil])); exact ⟨b,sh,st,⟨by first | omega | (have := hl1.2; omega),by omega⟩,rfl,rfl⟩)
theorem drawLn_ok (bs : List Int) (n : Nat) (hn : bs.length = n) (hb : n ≤ 1099511627776 ∧ ∀ x ∈ bs,0 ≤ x ∧ x ≤ 255) : PCall Tryz.prog 20 [.rows false (UL bs) n] viewP := view_plain (drawLnb_ok bs n hn hb)


theorem iLine63_ok : PCall Tryz.prog 21 [.agg [.int .i64 2,.rows false [.int .i64 6] 1,.rows false [.int .i64 3] 1]] (fun r => r = rng 2 18 3) := (iLineOf_ok 2 [6] [3] 1 1 rfl rfl ⟨by decide,by decide⟩).mono fun r h => h.trans w63_l


theorem iOv63_ok (b : Int) (sh st : List Int) (n m : Nat) (hn : sh.length = n) (hm : st.length = m) (hb : n ≤ 1099511627776 ∧ m ≤ 1099511627776) : BCall Tryz.prog 27 [.agg [.int .i64 b,.rows false (IL sh) n,.rows false (IL st) m],.agg [.int .i64 2,.rows false [.int .i64 6] 1,.rows false [.int .i64 3] 1]] [] (OI (MVL (vV b sh st) (bothL (offs b sh st) (nums 2 3 6)))) := by
  have h := iOv_ok b sh st 2 [6] [3] n m 1 1 hn hm rfl rfl ⟨hb,by decide,by decide⟩
  rw [show ovB b sh st 2 [6] [3] = vV b sh st by unfold ovB; rw [w63_v,Bool.and_true],w63_o] at h
  exact h


set_option maxHeartbeats 32000000 in
theorem lFnLn_ok (bs : List Int) (hl : bs.length ≤ 9223372036854775807) (hb : ∀ x ∈ bs,0 ≤ x ∧ x ≤ 255) : PCall Tryz.prog 5 [.rows false (UL bs) bs.length] (fun r => r = .bool true) := by
  refine pcall_of l5_eq rfl ?_
  by_cases h : bs.length ≤ 1048576
  · have q : bs.length ≤ 1099511627776 ∧ ∀ x ∈ bs,0 ≤ x ∧ x ≤ 255 := ⟨by omega,hb⟩
    (repeat' (first
 | (refine awp_joinL (c1 := .reg l5r3) (fun x : Int × List Int × List Int => mkS [(3,.ref 48 3 0)] [(48,[.int .i64 x.1,.rows true (IL x.2.1) x.2.1.length,.rows true (IL x.2.2) x.2.2.length])]) (fun x => x.2.1.length ≤ 100 ∧ x.2.2.length ≤ 100) ?_ ?_)
 | (first | refine awp_seq ?_ | refine awp_block ?_)
 | ((first | refine awp_reg ?_ | refine awp_draw (mid := l5r5a) (post := l5r5b) mixed (by decide) ?_ | refine awp_draw (mid := l5r6a) (post := l5r6b) mixed (by decide) ?_ | refine awp_draw (mid := l5r8a) (post := l5r8b) mixed (by decide) ?_ | refine awp_condB ?_ | refine awp_skip ?_ | refine awp_exit ?_); simp (disch := omega) only [push_cast,seval,l5r0,l5r1,l5r2,l5r3,l5r4,l5r5a,l5r5b,l5r5,l5r6a,l5r6b,l5r6,l5r7,l5r8a,l5r8b,l5r8])
 | ((first | refine condB_split (fun h => ?_) (fun h => ?_) | refine gIf_split (fun h => ?_) (fun h => ?_) | refine qIf_split (fun h => ?_) (fun h => ?_)) <;> (try simp only [h]) <;> (try simp only [bitvec_to_nat] at h) <;> (try simp only [h]) <;> (first | (exfalso; omega) | (focus (exfalso; simp_all; done)) | (simp (disch := omega) only [push_cast,seval]) | skip))
 | ((first | refine callD_of false ?_ | refine qcallD_of false ?_); simp (disch := omega) only [push_cast,seval])
 | ((first | (refine call0D (BCall.ofP (drawLn_ok _ _ ?_ ?_)) ?_; (iterate 2 (exact sd)); rintro _ _ ⟨⟨b,sh,st,_,_,⟨rfl,rfl,hl1,hl2⟩,rfl⟩,rfl⟩) | ((first | refine call0D (BCall.ofP (iLineOf_ok _ _ _ _ _ ?_ ?_ ?_)) ?_ | refine qcall0D (BCall.ofP (iLineOf_ok _ _ _ _ _ ?_ ?_ ?_)) ⟨_,_,rfl,rfl⟩ ?_); (iterate 3 (exact sd)); rintro _ _ ⟨rfl,rfl⟩) | ((first | refine call0D (BCall.ofP (iLine63_ok)) ?_ | refine qcall0D (BCall.ofP (iLine63_ok)) ⟨_,_,rfl,rfl⟩ ?_); rintro _ _ ⟨rfl,rfl⟩) | ((first | refine call0D (BCall.ofP (sLineOf_ok _ _ _ _ _ ?_ ?_ ?_)) ?_ | refine qcall0D (BCall.ofP (sLineOf_ok _ _ _ _ _ ?_ ?_ ?_)) ⟨_,_,rfl,rfl⟩ ?_); (iterate 3 (exact sd)); rintro _ _ ⟨rfl,rfl⟩) | ((first | refine call0D (BCall.ofP (equalRange_ok _ _ _ _ _ _)) ?_ | refine qcall0D (BCall.ofP (equalRange_ok _ _ _ _ _ _)) ⟨_,_,rfl,rfl⟩ ?_); rintro _ _ ⟨rfl,rfl⟩) | ((first | refine call0D (iNumbersOf_ok _ _ _) ?_ | refine qcall0D (iNumbersOf_ok _ _ _) ⟨_,_,rfl,rfl⟩ ?_); rintro _ _ ⟨rfl,rfl⟩) | ((first | refine call0D (iCe_ok _ _ _ _ _ ?_ ?_ ?_) ?_ | refine qcall0D (iCe_ok _ _ _ _ _ ?_ ?_ ?_) ⟨_,_,rfl,rfl⟩ ?_); (iterate 3 (exact sd)); rintro _ _ ⟨rfl,rfl⟩) | ((first | refine call0D (BCall.ofP (equalInts_ok _ _ _ _ ?_ ?_ ?_)) ?_ | refine qcall0D (BCall.ofP (equalInts_ok _ _ _ _ ?_ ?_ ?_)) ⟨_,_,rfl,rfl⟩ ?_); (iterate 3 (exact sd)); rintro _ _ ⟨rfl,rfl⟩) | ((first | refine call0D (BCall.ofP (iMeetRanges_ok _ _ _ _ _ _)) ?_ | refine qcall0D (BCall.ofP (iMeetRanges_ok _ _ _ _ _ _)) ⟨_,_,rfl,rfl⟩ ?_); rintro _ _ ⟨rfl,rfl⟩) | ((first | refine call0D (iOv_ok _ _ _ _ _ _ _ _ _ _ ?_ ?_ ?_ ?_ ?_) ?_ | refine qcall0D (iOv_ok _ _ _ _ _ _ _ _ _ _ ?_ ?_ ?_ ?_ ?_) ⟨_,_,rfl,rfl⟩ ?_); (iterate 5 (exact sd)); rintro _ _ ⟨rfl,rfl⟩) | ((first | refine call0D (iOv63_ok _ _ _ _ _ ?_ ?_ ?_) ?_ | refine qcall0D (iOv63_ok _ _ _ _ _ ?_ ?_ ?_) ⟨_,_,rfl,rfl⟩ ?_); (iterate 3 (exact sd)); rintro _ _ ⟨rfl,rfl⟩)) <;> (try simp (disch := omega) only [push_cast,seval]))
 | (refine awp_ret ⟨.inr rfl,_,rfl,?_⟩; (try simp (disch := omega) only [push_cast,seval]))))
    · (refine exSub3 (Sub.of_eqs rfl rfl ?_ ?_ ?_) ?_; (focus (simp [Vw.mkS,Vw.lk,Vw.hk,AV.inn,innL,innL_ints,innL_append,innL_rep,-List.map_set,-List.getD_eq_getElem?_getD,innL_ints]; done)); (focus (simp [AV.inn,innL,Vw.hk,innL_ints]; done)); (focus (simp [AV.inn,innL,innL_ints,innL_append,innL_rep,Vw.hk,innL_ints]; done)); (try simp only); (first | omega | (refine ⟨?_,?_⟩ <;> first | assumption | omega) | (refine ⟨?_,?_,?_⟩ <;> first | assumption | omega) | (refine ⟨?_,?_,?_,?_⟩ <;> first | assumption | omega)))
    · refine ⟨?_⟩
      rintro ⟨b,sh,st⟩ ⟨hl1,hl2⟩
      try simp only at hl1 hl2 ⊢
      have hq : sh.length ≤ 1099511627776 ∧ st.length ≤ 1099511627776 := by omega
      by_cases hl : vV b sh st = true ∧ sh.length = 1
      · obtain ⟨hv,h1⟩ := hl
        obtain ⟨s,c,n,hc,hC,hbd⟩ := line_prog hv h1
        obtain ⟨x,y,z,X,hme,hX,hXm,hXs⟩ := line_meet hc hbd
        have hln : lineA b sh st = rng (pS s n) (pE s c n) (pC c n) := by unfold lineA; rw [if_pos ⟨hv,h1⟩,hC,nrmA_nums]
        have hno := numsOf_PRg (by omega) hbd
        have hCl := bothL_le (offs b sh st) (offs b sh st)
        have hov : bothL (offs b sh st) (nums 2 3 6) = X := by
          refine sorted_ext (bothL_sorted _ _) hXs fun v => ?_
          rw [hXm,← hC,mem_bothL,mem_bothL]
          constructor
          · rintro ⟨a1,a2,a3⟩; exact ⟨⟨a1,a2,a2⟩,a3⟩
          · rintro ⟨⟨a1,a2,_⟩,a3⟩; exact ⟨a1,a2,a3⟩
        have hXl := bothL_le (offs b sh st) (nums 2 3 6)
        rw [hov] at hXl
        rw [hC] at hCl
        clear hXm hXs hbd
        generalize hN : nums s c n = C at *
        generalize hP1 : pS s n = p1 at *
        generalize hP2 : pE s c n = p2 at *
        generalize hP3 : pC c n = p3 at *
        have hM : ∀ X : List Int,MVL true X = X := fun X => rfl
        have hC2 : C.length ≤ 1099511627776 ∧ C.length ≤ 1099511627776 := by omega
        have hX2 : X.length ≤ 1099511627776 ∧ X.length ≤ 1099511627776 := by omega
        by_cases h3 : p3 = 0
        · (repeat' (first
 | (first | refine awp_seq ?_ | refine awp_block ?_)
 | ((first | refine awp_reg ?_ | refine awp_draw (mid := l5r5a) (post := l5r5b) mixed (by decide) ?_ | refine awp_draw (mid := l5r6a) (post := l5r6b) mixed (by decide) ?_ | refine awp_draw (mid := l5r8a) (post := l5r8b) mixed (by decide) ?_ | refine awp_condB ?_ | refine awp_skip ?_ | refine awp_exit ?_); simp (disch := omega) only [push_cast,seval,l5r0,l5r1,l5r2,l5r3,l5r4,l5r5a,l5r5b,l5r5,l5r6a,l5r6b,l5r6,l5r7,l5r8a,l5r8b,l5r8,hv,hln,h3,decide_true])
 | ((first | refine condB_split (fun h => ?_) (fun h => ?_) | refine gIf_split (fun h => ?_) (fun h => ?_) | refine qIf_split (fun h => ?_) (fun h => ?_)) <;> (try simp only [h]) <;> (try simp only [bitvec_to_nat] at h) <;> (try simp only [h]) <;> (first | (exfalso; omega) | (focus (exfalso; simp_all; done)) | (simp (disch := omega) only [push_cast,seval,hv,hln,h3,decide_true]) | skip))
 | ((first | refine callD_of false ?_ | refine qcallD_of false ?_); simp (disch := omega) only [push_cast,seval,hv,hln,h3,decide_true])
 | ((first | (refine call0D (BCall.ofP (drawLn_ok _ _ ?_ ?_)) ?_; (iterate 2 (exact sd)); rintro _ _ ⟨⟨b,sh,st,_,_,⟨rfl,rfl,hl1,hl2⟩,rfl⟩,rfl⟩) | ((first | refine call0D (BCall.ofP (iLineOf_ok _ _ _ _ _ ?_ ?_ ?_)) ?_ | refine qcall0D (BCall.ofP (iLineOf_ok _ _ _ _ _ ?_ ?_ ?_)) ⟨_,_,rfl,rfl⟩ ?_); (iterate 3 (exact sd)); rintro _ _ ⟨rfl,rfl⟩) | ((first | refine call0D (BCall.ofP (iLine63_ok)) ?_ | refine qcall0D (BCall.ofP (iLine63_ok)) ⟨_,_,rfl,rfl⟩ ?_); rintro _ _ ⟨rfl,rfl⟩) | ((first | refine call0D (BCall.ofP (sLineOf_ok _ _ _ _ _ ?_ ?_ ?_)) ?_ | refine qcall0D (BCall.ofP (sLineOf_ok _ _ _ _ _ ?_ ?_ ?_)) ⟨_,_,rfl,rfl⟩ ?_); (iterate 3 (exact sd)); rintro _ _ ⟨rfl,rfl⟩) | ((first | refine call0D (BCall.ofP (equalRange_ok _ _ _ _ _ _)) ?_ | refine qcall0D (BCall.ofP (equalRange_ok _ _ _ _ _ _)) ⟨_,_,rfl,rfl⟩ ?_); rintro _ _ ⟨rfl,rfl⟩) | ((first | refine call0D (iNumbersOf_ok _ _ _) ?_ | refine qcall0D (iNumbersOf_ok _ _ _) ⟨_,_,rfl,rfl⟩ ?_); rintro _ _ ⟨rfl,rfl⟩) | ((first | refine call0D (iCe_ok _ _ _ _ _ ?_ ?_ ?_) ?_ | refine qcall0D (iCe_ok _ _ _ _ _ ?_ ?_ ?_) ⟨_,_,rfl,rfl⟩ ?_); (iterate 3 (exact sd)); rintro _ _ ⟨rfl,rfl⟩) | ((first | refine call0D (BCall.ofP (equalInts_ok _ _ _ _ ?_ ?_ ?_)) ?_ | refine qcall0D (BCall.ofP (equalInts_ok _ _ _ _ ?_ ?_ ?_)) ⟨_,_,rfl,rfl⟩ ?_); (iterate 3 (exact sd)); rintro _ _ ⟨rfl,rfl⟩) | ((first | refine call0D (BCall.ofP (iMeetRanges_ok _ _ _ _ _ _)) ?_ | refine qcall0D (BCall.ofP (iMeetRanges_ok _ _ _ _ _ _)) ⟨_,_,rfl,rfl⟩ ?_); rintro _ _ ⟨rfl,rfl⟩) | ((first | refine call0D (iOv_ok _ _ _ _ _ _ _ _ _ _ ?_ ?_ ?_ ?_ ?_) ?_ | refine qcall0D (iOv_ok _ _ _ _ _ _ _ _ _ _ ?_ ?_ ?_ ?_ ?_) ⟨_,_,rfl,rfl⟩ ?_); (iterate 5 (exact sd)); rintro _ _ ⟨rfl,rfl⟩) | ((first | refine call0D (iOv63_ok _ _ _ _ _ ?_ ?_ ?_) ?_ | refine qcall0D (iOv63_ok _ _ _ _ _ ?_ ?_ ?_) ⟨_,_,rfl,rfl⟩ ?_); (iterate 3 (exact sd)); rintro _ _ ⟨rfl,rfl⟩)) <;> (try simp (disch := omega) only [push_cast,seval,hv,hln,h3,decide_true]))
 | (refine awp_ret ⟨.inr rfl,_,rfl,?_⟩; (try simp (disch := omega) only [push_cast,seval,hv,hln,h3,decide_true]))))
          all_goals (try simp)
        · (repeat' (first
 | (first | refine awp_seq ?_ | refine awp_block ?_)
 | ((first | refine awp_reg ?_ | refine awp_drawX (mid := l5r5a) (post := l5r5b) [] mixed (by decide) ?_ | refine awp_drawX (mid := l5r6a) (post := l5r6b) [] mixed (by decide) ?_ | refine awp_drawX (mid := l5r8a) (post := l5r8b) [] mixed (by decide) ?_ | refine awp_condB ?_ | refine awp_skip ?_ | refine awp_exit ?_); simp (disch := omega) only [push_cast,seval,l5r0,l5r1,l5r2,l5r3,l5r4,l5r5a,l5r5b,l5r5,l5r6a,l5r6b,l5r6,l5r7,l5r8a,l5r8b,l5r8,hv,hln,h3,hme,hno,hX,hC,hov,hM,decide_true,decide_false])
 | ((first | refine condB_split (fun h => ?_) (fun h => ?_) | refine gIf_split (fun h => ?_) (fun h => ?_) | refine qIf_split (fun h => ?_) (fun h => ?_)) <;> (try simp only [h]) <;> (try simp only [bitvec_to_nat] at h) <;> (try simp only [h]) <;> (first | (exfalso; omega) | (focus (exfalso; simp_all; done)) | (simp (disch := omega) only [push_cast,seval,hv,hln,h3,hme,hno,hX,hC,hov,hM,decide_true,decide_false]) | skip))
 | ((first | refine callD_of false ?_ | refine qcallD_of false ?_); simp (disch := omega) only [push_cast,seval,hv,hln,h3,hme,hno,hX,hC,hov,hM,decide_true,decide_false])
 | ((first | (refine call0D (BCall.ofP (drawLn_ok _ _ ?_ ?_)) ?_; (iterate 2 (exact sd)); rintro _ _ ⟨⟨b,sh,st,_,_,⟨rfl,rfl,hl1,hl2⟩,rfl⟩,rfl⟩) | ((first | refine call0D (BCall.ofP (iLineOf_ok _ _ _ _ _ ?_ ?_ ?_)) ?_ | refine qcall0D (BCall.ofP (iLineOf_ok _ _ _ _ _ ?_ ?_ ?_)) ⟨_,_,rfl,rfl⟩ ?_); (iterate 3 (exact sd)); rintro _ _ ⟨rfl,rfl⟩) | ((first | refine call0D (BCall.ofP (iLine63_ok)) ?_ | refine qcall0D (BCall.ofP (iLine63_ok)) ⟨_,_,rfl,rfl⟩ ?_); rintro _ _ ⟨rfl,rfl⟩) | ((first | refine call0D (BCall.ofP (sLineOf_ok _ _ _ _ _ ?_ ?_ ?_)) ?_ | refine qcall0D (BCall.ofP (sLineOf_ok _ _ _ _ _ ?_ ?_ ?_)) ⟨_,_,rfl,rfl⟩ ?_); (iterate 3 (exact sd)); rintro _ _ ⟨rfl,rfl⟩) | ((first | refine call0D (BCall.ofP (equalRange_ok _ _ _ _ _ _)) ?_ | refine qcall0D (BCall.ofP (equalRange_ok _ _ _ _ _ _)) ⟨_,_,rfl,rfl⟩ ?_); rintro _ _ ⟨rfl,rfl⟩) | ((first | refine call0D (iNumbersOf_ok _ _ _) ?_ | refine qcall0D (BCall.ofP (plainI (iNumbersOf_ok _ _ _))) ⟨_,_,rfl,rfl⟩ ?_); rintro _ _ ⟨rfl,rfl⟩) | ((first | refine call0D (iCe_ok _ _ _ _ _ ?_ ?_ ?_) ?_ | refine qcall0D (BCall.ofP (plainI (iCe_ok _ _ _ _ _ ?_ ?_ ?_))) ⟨_,_,rfl,rfl⟩ ?_); (iterate 3 (exact sd)); rintro _ _ ⟨rfl,rfl⟩) | ((first | refine call0D (BCall.ofP (equalInts_ok _ _ _ _ ?_ ?_ ?_)) ?_ | refine qcall0D (BCall.ofP (equalInts_ok _ _ _ _ ?_ ?_ ?_)) ⟨_,_,rfl,rfl⟩ ?_); (iterate 3 (exact sd)); rintro _ _ ⟨rfl,rfl⟩) | ((first | refine call0D (BCall.ofP (iMeetRanges_ok _ _ _ _ _ _)) ?_ | refine qcall0D (BCall.ofP (iMeetRanges_ok _ _ _ _ _ _)) ⟨_,_,rfl,rfl⟩ ?_); rintro _ _ ⟨rfl,rfl⟩) | ((first | refine call0D (iOv_ok _ _ _ _ _ _ _ _ _ _ ?_ ?_ ?_ ?_ ?_) ?_ | refine qcall0D (BCall.ofP (plainI (iOv_ok _ _ _ _ _ _ _ _ _ _ ?_ ?_ ?_ ?_ ?_))) ⟨_,_,rfl,rfl⟩ ?_); (iterate 5 (exact sd)); rintro _ _ ⟨rfl,rfl⟩) | ((first | refine call0D (iOv63_ok _ _ _ _ _ ?_ ?_ ?_) ?_ | refine qcall0D (BCall.ofP (plainI (iOv63_ok _ _ _ _ _ ?_ ?_ ?_))) ⟨_,_,rfl,rfl⟩ ?_); (iterate 3 (exact sd)); rintro _ _ ⟨rfl,rfl⟩)) <;> (try simp (disch := omega) only [push_cast,seval,hv,hln,h3,hme,hno,hX,hC,hov,hM,decide_true,decide_false]))
 | (refine awp_ret ⟨.inr rfl,_,rfl,?_⟩; (try simp (disch := omega) only [push_cast,seval,hv,hln,h3,hme,hno,hX,hC,hov,hM,decide_true,decide_false]))))
          all_goals (try simp)
      · have hln : lineA b sh st = rng 0 0 0 := if_neg hl
        (repeat' (first
 | (first | refine awp_seq ?_ | refine awp_block ?_)
 | ((first | refine awp_reg ?_ | refine awp_draw (mid := l5r5a) (post := l5r5b) mixed (by decide) ?_ | refine awp_draw (mid := l5r6a) (post := l5r6b) mixed (by decide) ?_ | refine awp_draw (mid := l5r8a) (post := l5r8b) mixed (by decide) ?_ | refine awp_condB ?_ | refine awp_skip ?_ | refine awp_exit ?_); simp (disch := omega) only [push_cast,seval,l5r0,l5r1,l5r2,l5r3,l5r4,l5r5a,l5r5b,l5r5,l5r6a,l5r6b,l5r6,l5r7,l5r8a,l5r8b,l5r8,hln,decide_true])
 | ((first | refine condB_split (fun h => ?_) (fun h => ?_) | refine gIf_split (fun h => ?_) (fun h => ?_) | refine qIf_split (fun h => ?_) (fun h => ?_)) <;> (try simp only [h]) <;> (try simp only [bitvec_to_nat] at h) <;> (try simp only [h]) <;> (first | (exfalso; omega) | (focus (exfalso; simp_all; done)) | (simp (disch := omega) only [push_cast,seval,hln,decide_true]) | skip))
 | ((first | refine callD_of false ?_ | refine qcallD_of false ?_); simp (disch := omega) only [push_cast,seval,hln,decide_true])
 | ((first | (refine call0D (BCall.ofP (drawLn_ok _ _ ?_ ?_)) ?_; (iterate 2 (exact sd)); rintro _ _ ⟨⟨b,sh,st,_,_,⟨rfl,rfl,hl1,hl2⟩,rfl⟩,rfl⟩) | ((first | refine call0D (BCall.ofP (iLineOf_ok _ _ _ _ _ ?_ ?_ ?_)) ?_ | refine qcall0D (BCall.ofP (iLineOf_ok _ _ _ _ _ ?_ ?_ ?_)) ⟨_,_,rfl,rfl⟩ ?_); (iterate 3 (exact sd)); rintro _ _ ⟨rfl,rfl⟩) | ((first | refine call0D (BCall.ofP (iLine63_ok)) ?_ | refine qcall0D (BCall.ofP (iLine63_ok)) ⟨_,_,rfl,rfl⟩ ?_); rintro _ _ ⟨rfl,rfl⟩) | ((first | refine call0D (BCall.ofP (sLineOf_ok _ _ _ _ _ ?_ ?_ ?_)) ?_ | refine qcall0D (BCall.ofP (sLineOf_ok _ _ _ _ _ ?_ ?_ ?_)) ⟨_,_,rfl,rfl⟩ ?_); (iterate 3 (exact sd)); rintro _ _ ⟨rfl,rfl⟩) | ((first | refine call0D (BCall.ofP (equalRange_ok _ _ _ _ _ _)) ?_ | refine qcall0D (BCall.ofP (equalRange_ok _ _ _ _ _ _)) ⟨_,_,rfl,rfl⟩ ?_); rintro _ _ ⟨rfl,rfl⟩) | ((first | refine call0D (iNumbersOf_ok _ _ _) ?_ | refine qcall0D (iNumbersOf_ok _ _ _) ⟨_,_,rfl,rfl⟩ ?_); rintro _ _ ⟨rfl,rfl⟩) | ((first | refine call0D (iCe_ok _ _ _ _ _ ?_ ?_ ?_) ?_ | refine qcall0D (iCe_ok _ _ _ _ _ ?_ ?_ ?_) ⟨_,_,rfl,rfl⟩ ?_); (iterate 3 (exact sd)); rintro _ _ ⟨rfl,rfl⟩) | ((first | refine call0D (BCall.ofP (equalInts_ok _ _ _ _ ?_ ?_ ?_)) ?_ | refine qcall0D (BCall.ofP (equalInts_ok _ _ _ _ ?_ ?_ ?_)) ⟨_,_,rfl,rfl⟩ ?_); (iterate 3 (exact sd)); rintro _ _ ⟨rfl,rfl⟩) | ((first | refine call0D (BCall.ofP (iMeetRanges_ok _ _ _ _ _ _)) ?_ | refine qcall0D (BCall.ofP (iMeetRanges_ok _ _ _ _ _ _)) ⟨_,_,rfl,rfl⟩ ?_); rintro _ _ ⟨rfl,rfl⟩) | ((first | refine call0D (iOv_ok _ _ _ _ _ _ _ _ _ _ ?_ ?_ ?_ ?_ ?_) ?_ | refine qcall0D (iOv_ok _ _ _ _ _ _ _ _ _ _ ?_ ?_ ?_ ?_ ?_) ⟨_,_,rfl,rfl⟩ ?_); (iterate 5 (exact sd)); rintro _ _ ⟨rfl,rfl⟩) | ((first | refine call0D (iOv63_ok _ _ _ _ _ ?_ ?_ ?_) ?_ | refine qcall0D (iOv63_ok _ _ _ _ _ ?_ ?_ ?_) ⟨_,_,rfl,rfl⟩ ?_); (iterate 3 (exact sd)); rintro _ _ ⟨rfl,rfl⟩)) <;> (try simp (disch := omega) only [push_cast,seval,hln,decide_true]))
 | (refine awp_ret ⟨.inr rfl,_,rfl,?_⟩; (try simp (disch := omega) only [push_cast,seval,hln,decide_true]))))
        all_goals (try simp)
  · (repeat' (first
 | (first | refine awp_seq ?_ | refine awp_block ?_)
 | ((first | refine awp_reg ?_ | refine awp_draw (mid := l5r5a) (post := l5r5b) mixed (by decide) ?_ | refine awp_draw (mid := l5r6a) (post := l5r6b) mixed (by decide) ?_ | refine awp_draw (mid := l5r8a) (post := l5r8b) mixed (by decide) ?_ | refine awp_condB ?_ | refine awp_skip ?_ | refine awp_exit ?_); simp (disch := omega) only [push_cast,seval,l5r0,l5r1,l5r2,l5r3,l5r4,l5r5a,l5r5b,l5r5,l5r6a,l5r6b,l5r6,l5r7,l5r8a,l5r8b,l5r8])
 | ((first | refine condB_split (fun h => ?_) (fun h => ?_) | refine gIf_split (fun h => ?_) (fun h => ?_) | refine qIf_split (fun h => ?_) (fun h => ?_)) <;> (try simp only [h]) <;> (try simp only [bitvec_to_nat] at h) <;> (try simp only [h]) <;> (first | (exfalso; omega) | (focus (exfalso; simp_all; done)) | (simp (disch := omega) only [push_cast,seval]) | skip))
 | ((first | refine callD_of false ?_ | refine qcallD_of false ?_); simp (disch := omega) only [push_cast,seval])
 | ((first | (refine call0D (BCall.ofP (drawLn_ok _ _ ?_ ?_)) ?_; (iterate 2 (exact sd)); rintro _ _ ⟨⟨b,sh,st,_,_,⟨rfl,rfl,hl1,hl2⟩,rfl⟩,rfl⟩) | ((first | refine call0D (BCall.ofP (iLineOf_ok _ _ _ _ _ ?_ ?_ ?_)) ?_ | refine qcall0D (BCall.ofP (iLineOf_ok _ _ _ _ _ ?_ ?_ ?_)) ⟨_,_,rfl,rfl⟩ ?_); (iterate 3 (exact sd)); rintro _ _ ⟨rfl,rfl⟩) | ((first | refine call0D (BCall.ofP (iLine63_ok)) ?_ | refine qcall0D (BCall.ofP (iLine63_ok)) ⟨_,_,rfl,rfl⟩ ?_); rintro _ _ ⟨rfl,rfl⟩) | ((first | refine call0D (BCall.ofP (sLineOf_ok _ _ _ _ _ ?_ ?_ ?_)) ?_ | refine qcall0D (BCall.ofP (sLineOf_ok _ _ _ _ _ ?_ ?_ ?_)) ⟨_,_,rfl,rfl⟩ ?_); (iterate 3 (exact sd)); rintro _ _ ⟨rfl,rfl⟩) | ((first | refine call0D (BCall.ofP (equalRange_ok _ _ _ _ _ _)) ?_ | refine qcall0D (BCall.ofP (equalRange_ok _ _ _ _ _ _)) ⟨_,_,rfl,rfl⟩ ?_); rintro _ _ ⟨rfl,rfl⟩) | ((first | refine call0D (iNumbersOf_ok _ _ _) ?_ | refine qcall0D (iNumbersOf_ok _ _ _) ⟨_,_,rfl,rfl⟩ ?_); rintro _ _ ⟨rfl,rfl⟩) | ((first | refine call0D (iCe_ok _ _ _ _ _ ?_ ?_ ?_) ?_ | refine qcall0D (iCe_ok _ _ _ _ _ ?_ ?_ ?_) ⟨_,_,rfl,rfl⟩ ?_); (iterate 3 (exact sd)); rintro _ _ ⟨rfl,rfl⟩) | ((first | refine call0D (BCall.ofP (equalInts_ok _ _ _ _ ?_ ?_ ?_)) ?_ | refine qcall0D (BCall.ofP (equalInts_ok _ _ _ _ ?_ ?_ ?_)) ⟨_,_,rfl,rfl⟩ ?_); (iterate 3 (exact sd)); rintro _ _ ⟨rfl,rfl⟩) | ((first | refine call0D (BCall.ofP (iMeetRanges_ok _ _ _ _ _ _)) ?_ | refine qcall0D (BCall.ofP (iMeetRanges_ok _ _ _ _ _ _)) ⟨_,_,rfl,rfl⟩ ?_); rintro _ _ ⟨rfl,rfl⟩) | ((first | refine call0D (iOv_ok _ _ _ _ _ _ _ _ _ _ ?_ ?_ ?_ ?_ ?_) ?_ | refine qcall0D (iOv_ok _ _ _ _ _ _ _ _ _ _ ?_ ?_ ?_ ?_ ?_) ⟨_,_,rfl,rfl⟩ ?_); (iterate 5 (exact sd)); rintro _ _ ⟨rfl,rfl⟩) | ((first | refine call0D (iOv63_ok _ _ _ _ _ ?_ ?_ ?_) ?_ | refine qcall0D (iOv63_ok _ _ _ _ _ ?_ ?_ ?_) ⟨_,_,rfl,rfl⟩ ?_); (iterate 3 (exact sd)); rintro _ _ ⟨rfl,rfl⟩)) <;> (try simp (disch := omega) only [push_cast,seval]))
 | (refine awp_ret ⟨.inr rfl,_,rfl,?_⟩; (try simp (disch := omega) only [push_cast,seval]))))

end Go.Proofs.YtfphjgmkpgoomaaGreat
