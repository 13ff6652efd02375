import Derived.Test.YtejbfjmiidofcaaCKw15
import Derived.Test.YtejbfjmiidofcaaCM1
import Derived.Test.YtejbfjmiidofcaaCW3
set_option linter.unusedSimpArgs false
set_option linter.unusedVariables false
set_option maxRecDepth 4000
set_option maxHeartbeats 4000000
namespace Go.Proofs.Ytejbfjmiidofcaa
open VwM Vw Go

theorem sw_VLt (a b : Nat) : ∀ vs : List Vw3,swL a b (VLt vs) = VLt vs
  | [] => rfl
  | t :: r => by simp only [VLt,swL,AV.sw,sw_VLt a b r,swL_ints]
theorem ren_VLs17 {ρ : Nat → Option Nat} {Zh : Nat → Option (List AV)} {b0 : Bool} {n : Nat} : ∀ vs : List Vw3,(VLt vs).map (AV.ren ρ Zh b0 some (n + 2)) = VLt vs
  | [] => rfl
  | v :: r => by
    simp only [VLt,List.map_cons,ren_VLs17 r,List.cons.injEq,and_true]
    refine ⟨rfl,?_,?_⟩ <;> simp [AV.ren,List.map_map,Function.comp_def]
theorem fz_VLt {H : Nat → Option (List AV)} {n : Nat} : ∀ vs : List Vw3,(VLt vs).map (AV.fz H (n + 2)) = VLt vs
  | [] => rfl
  | v :: r => by
    simp only [VLt,List.map_cons,fz_VLt r,List.cons.injEq,and_true]
    refine ⟨rfl,?_,?_⟩ <;> simp [AV.fz,List.map_map,Function.comp_def]
attribute [push_cast] ren_VLs17 fz_VLt
/-- What a draw of tiles is sure to be. -/
def tilF (vs : List Vw3) (k : Int) : Prop := (1 ≤ vs.length ∧ vs.length ≤ 5) ∧ (∀ v ∈ vs,v.2.1.length ≤ 5 ∧ v.2.2.length ≤ 5) ∧ -10 ≤ k ∧ k ≤ 100
theorem deal_ok {n : Int} {W : Nat} (hn : n = 12 ∨ n = 8 ∨ n = 10 ∨ n = 6 ∨ n = 15) (hw : W = 2 ∨ W = 3 ∨ W = 1 ∨ W = 4) : dealN 0 n 1 W = W ∧ ∀ i,i < W → (((dealL 0 n 1 W).drop (i * 3)).take 3 = [(dealF 0 n 1 W i).1,(dealF 0 n 1 W i).2.1,(dealF 0 n 1 W i).2.2] ∧ vR (dealF 0 n 1 W i).1 (dealF 0 n 1 W i).2.1 (dealF 0 n 1 W i).2.2 = true ∧ 1 ≤ cntN (dealF 0 n 1 W i).1 (dealF 0 n 1 W i).2.1 (dealF 0 n 1 W i).2.2 ∧ cntN (dealF 0 n 1 W i).1 (dealF 0 n 1 W i).2.1 (dealF 0 n 1 W i).2.2 ≤ 15) := by
  rcases hn with rfl | rfl | rfl | rfl | rfl <;> rcases hw with rfl | rfl | rfl | rfl <;> decide
theorem IL_drop3 {xs : List Int} {i : Nat} {a b c : Int} (h : (xs.drop i).take 3 = [a,b,c]) : ((xs.map (AV.int .i64)).drop i).take 3 = [.int .i64 a,.int .i64 b,.int .i64 c] := by
  rw [← List.map_drop,← List.map_take,h]; rfl
theorem VLt_snoc (vs : List Vw3) (b x y : Int) : VLt vs ++ [.int .i64 b,.rows true [.int .i64 x] 1,.rows true [.int .i64 y] 1] = VLt (vs ++ [(b,[x],[y])]) := by rw [VLt_append]; rfl


set_option maxHeartbeats 64000000 in
theorem tiling_ok (bs : List Int) (p : Int) (hb : okB bs) (hp : 0 ≤ p ∧ p ≤ 600000) : BCall Try.prog 61 [.ref 0 2 0] [RD bs p] (fun r H' => ∃ vs k q,tilF vs k ∧ (p ≤ q ∧ q ≤ p + 1000) ∧ r = .tup [.own 1 vs.length 3,.int .i64 k] ∧ H' = [RD bs q,VLt vs]) := by
  refine bcall_of (pins := [0]) (pin := 1) l61_eq rfl rfl rfl ?_
  (repeat' (first
 | (first | refine awp_seq ?_ | refine awp_block ?_)
 | ((first | refine awp_reg ?_ | refine awp_condB ?_ | refine awp_skip ?_ | refine awp_exit ?_); simp (disch := omega) only [push_cast,seval,l61r0,l61r1,l61r2,l61r3,l61r4,l61r5,l61r6,l61r7,l61r8,l61r9,l61r10,l61r11,l61r12,l61r13,l61r14,l61r15,l61r16,innL_VLt])
 | ((first | refine condB_split (fun h => ?_) (fun h => ?_) | refine gIf_split (fun h => ?_) (fun h => ?_) | refine qIf_split (fun h => ?_) (fun h => ?_)) <;> (try simp only [h]) <;> (try simp only [bitvec_to_nat] at h) <;> (try simp only [h]) <;> (first | (exfalso; omega) | (focus (exfalso; simp_all; done)) | (simp (disch := omega) only [push_cast,seval,innL_VLt]) | skip))
 | ((first | ((with_reducible refine callD_ids (f := 46) (args := [Operand.tmp 10,Operand.tmp 11]) [0,176] true ?_); simp (disch := omega) only [push_cast,seval,innL_VLt]; (refine call2D (id := 0) (id' := 176) (by decide) (one_ok _ _ _ _ ?_ ?_ ?_ ?_ ?_) (by first | ((simp (disch := omega) only [push_cast,seval,innL_VLt]); done) | ((simp (disch := omega) only [push_cast,seval,innL_VLt]); rfl)) (by first | ((simp (disch := omega) only [push_cast,seval,innL_VLt]); done) | ((simp (disch := omega) only [push_cast,seval,innL_VLt]); rfl)) ?_; (iterate 5 (exact sd)); rintro _ _ ⟨x,hx,hx0,rfl,rfl⟩)) | ((with_reducible refine callD_ids (f := 46) (args := [Operand.tmp 13,Operand.tmp 14]) [0,224] true ?_); simp (disch := omega) only [push_cast,seval,innL_VLt]; (refine call2D (id := 0) (id' := 224) (by decide) (one_ok _ _ _ _ ?_ ?_ ?_ ?_ ?_) (by first | ((simp (disch := omega) only [push_cast,seval,innL_VLt]); done) | ((simp (disch := omega) only [push_cast,seval,innL_VLt]); rfl)) (by first | ((simp (disch := omega) only [push_cast,seval,innL_VLt]); done) | ((simp (disch := omega) only [push_cast,seval,innL_VLt]); rfl)) ?_; (iterate 5 (exact sd)); rintro _ _ ⟨x,hx,hx0,rfl,rfl⟩)) | ((with_reducible refine callD_ids (f := 46) (args := [Operand.tmp 63,Operand.tmp 69]) [0,1104] true ?_); simp (disch := omega) only [push_cast,seval,innL_VLt]; (refine call2D (id := 0) (id' := 1104) (by decide) (one_ok _ _ _ _ ?_ ?_ ?_ ?_ ?_) (by first | ((simp (disch := omega) only [push_cast,seval,innL_VLt]); done) | ((simp (disch := omega) only [push_cast,seval,innL_VLt]); rfl)) (by first | ((simp (disch := omega) only [push_cast,seval,innL_VLt]); done) | ((simp (disch := omega) only [push_cast,seval,innL_VLt]); rfl)) ?_; (iterate 5 (exact sd)); rintro _ _ ⟨x,hx,hx0,rfl,rfl⟩)) | ((with_reducible refine callD_ids (f := 46) [0] true ?_); simp (disch := omega) only [push_cast,seval,innL_VLt]; (refine call1D (id := 0) (oneR_ok _ _ _ _ ?_ ?_ ?_ ?_ ?_) (by first | ((simp (disch := omega) only [push_cast,seval,innL_VLt]); done) | ((simp (disch := omega) only [push_cast,seval,innL_VLt]); rfl)) ?_; (iterate 5 (exact sd)); rintro _ _ ⟨x,hx,hx0,rfl,rfl⟩)) | ((with_reducible refine qcallI_of (f := 46) [0] true ?_); simp (disch := omega) only [push_cast,seval,innL_VLt]; (refine qcall1D (id := 0) (oneR_ok _ _ _ _ ?_ ?_ ?_ ?_ ?_) (by first | ((simp (disch := omega) only [push_cast,seval,innL_VLt]); done) | ((simp (disch := omega) only [push_cast,seval,innL_VLt]); rfl)) (by decide) (by simp only [unI_cons,unI_nil];exact ⟨_,_,_,List.mem_cons_self,by omega,rfl,rfl⟩) ?_; (iterate 5 (exact sd)); rintro _ _ ⟨x,hx,hx0,rfl,rfl⟩)) | ((with_reducible refine callD_ids (f := 78) [0] true ?_); simp (disch := omega) only [push_cast,seval,innL_VLt]; (refine call1D (id := 0) (pick_ok _ _ _ ?_ ?_) (by first | ((simp (disch := omega) only [push_cast,seval,innL_VLt]); done) | ((simp (disch := omega) only [push_cast,seval,innL_VLt]); rfl)) ?_; (iterate 2 (exact sd)); rintro _ _ ⟨x,hx0,hx1,rfl,rfl⟩)) | ((with_reducible refine qcallI_of (f := 78) [0] true ?_); simp (disch := omega) only [push_cast,seval,innL_VLt]; (refine qcall1D (id := 0) (pick_ok _ _ _ ?_ ?_) (by first | ((simp (disch := omega) only [push_cast,seval,innL_VLt]); done) | ((simp (disch := omega) only [push_cast,seval,innL_VLt]); rfl)) (by decide) ⟨_,_,0,by omega,Or.inr (Or.inr rfl),rfl,rfl⟩ ?_; (iterate 2 (exact sd)); rintro _ _ ⟨x,hx0,hx1,rfl,rfl⟩)) | ((with_reducible refine callD_ids (f := 96) [0] true ?_); simp (disch := omega) only [push_cast,seval,innL_VLt]; (refine call1D (id := 0) (goodView_ok _ _ ?_ ?_) (by first | ((simp (disch := omega) only [push_cast,seval,innL_VLt]); done) | ((simp (disch := omega) only [push_cast,seval,innL_VLt]); rfl)) ?_; (iterate 2 (exact sd)); rintro _ _ ⟨b,sh,st,q,⟨hl1,hl9,hl2⟩,hq,rfl,rfl⟩)) | ((with_reducible refine callD_ids (f := 97) [0] true ?_); simp (disch := omega) only [push_cast,seval,innL_VLt]; (refine call1D (id := 0) (someView_ok _ _ ?_ ?_) (by first | ((simp (disch := omega) only [push_cast,seval,innL_VLt]); done) | ((simp (disch := omega) only [push_cast,seval,innL_VLt]); rfl)) ?_; (iterate 2 (exact sd)); rintro _ _ ⟨b,sh,st,q,⟨hl1,hl9,hl2⟩,hq,rfl,rfl⟩))) <;> (try simp (disch := omega) only [push_cast,seval,innL_VLt]))
 | ((first | refine callD_of false ?_ | refine qcallD_of false ?_); simp (disch := omega) only [push_cast,seval,innL_VLt])
 | ((first | ((first | refine call0D (sDealRange_ok _ _ _ _) ?_ | refine qcall0D (sDealRange_ok _ _ _ _) ⟨_,_,rfl,rfl⟩ ?_); rintro _ _ ⟨rfl,rfl⟩) | ((first | refine call0D (snumbers_ok _ _ _ ?_) ?_ | refine qcall0D (snumbers_ok _ _ _ ?_) ⟨_,_,rfl,rfl⟩ ?_); (exact sd); rintro _ _ ⟨rfl,rfl⟩)) <;> (try simp (disch := omega) only [push_cast,seval,innL_VLt]))))
  rename_i n hn hn0
  have hn5 : n = 12 ∨ n = 8 ∨ n = 10 ∨ n = 6 ∨ n = 15 := by
    simp only [unI_cons,unI_nil,List.mem_cons,List.not_mem_nil,or_false] at hn
    omega
  have hw4 : x = 2 ∨ x = 3 ∨ x = 1 ∨ x = 4 := by
    simp only [unI_cons,unI_nil,List.mem_cons,List.not_mem_nil,or_false] at hx
    omega
  clear hn hn0 hx hx0
  obtain ⟨W,rfl⟩ : ∃ W : Nat,x = W := ⟨x.toNat,by omega⟩
  obtain ⟨hdN,hdl⟩ := deal_ok (W := W) hn5 (by omega)
  have hW : 1 ≤ W ∧ W ≤ 4 := by omega
  have hDl := dealL_length 0 n 1 W
  rw [hdN] at hDl ⊢
  generalize hD : dealL 0 n 1 W = D at *
  have hq1 : p + 1 + 1 ≤ 700000 := by omega
  have hv0 : VLt [] = [] := rfl
  refine awp_loopW (fun z : List Vw3 => mkS [(0,.ref 0 2 0),(4,.int .i64 n),(5,.int .i64 W),(6,.own 256 z.length 3),(7,.own 320 W 3),(8,.int .i64 z.length)] [(0,RD bs (p + 1 + 1)),(256,VLt z),(320,IL D)])
    (fun z => z.length ≤ W ∧ ∀ v ∈ z,v.2.1.length ≤ 5 ∧ v.2.2.length ≤ 5) (fun z => W - z.length) [] ⟨Nat.zero_le _,fun v h => by cases h⟩ ?_ ?_
  · refine SubW.of ?_
    (refine Sub.of_lists ?_ ?_ ?_ ?_ ?_ <;> simp [Vw.mkS,Vw.lk,Vw.hk,AV.inn,innL,innL_ints,innL_append,innL_rep,-List.map_set,-List.getD_eq_getElem?_getD,hv0,innL_VLt])
  · rintro vs ⟨hvl,hva⟩
    have hVl := VLt_length vs
    by_cases hlt : vs.length < W
    · obtain ⟨g1,g2,g3,g4⟩ := hdl vs.length hlt
      have g5 := IL_drop3 g1
      obtain ⟨r1,hr1⟩ : ∃ r1,(dealF 0 n 1 W vs.length).1 = r1 := ⟨_,rfl⟩
      obtain ⟨r2,hr2⟩ : ∃ r2,(dealF 0 n 1 W vs.length).2.1 = r2 := ⟨_,rfl⟩
      obtain ⟨r3,hr3⟩ : ∃ r3,(dealF 0 n 1 W vs.length).2.2 = r3 := ⟨_,rfl⟩
      rw [hr1,hr2,hr3] at g5 g2 g3 g4
      have hil : vs.length * 3 + 3 ≤ W * 3 := by omega
      have hnl := nums_length r1 r3 (cntN r1 r2 r3)
      have hlt' : (vs.length : Int) < W := by omega
      clear hdl g1 hr1 hr2 hr3
      generalize hX : nums r1 r3 (cntN r1 r2 r3) = X at *
      have hX1 : 1 ≤ X.length ∧ X.length ≤ 15 := by omega
      (repeat' (first
 | (first | refine awp_seq ?_ | refine awp_block ?_)
 | ((first | refine awp_reg ?_ | refine awp_condB ?_ | refine awp_skip ?_ | refine awp_exit ?_); simp (disch := omega) only [push_cast,seval,l61r0,l61r1,l61r2,l61r3,l61r4,l61r5,l61r6,l61r7,l61r8,l61r9,l61r10,l61r11,l61r12,l61r13,l61r14,l61r15,l61r16,hlt',g5,hDl,hil,hX,hVl,List.length_map,innL_VLt])
 | ((first | refine condB_split (fun h => ?_) (fun h => ?_) | refine gIf_split (fun h => ?_) (fun h => ?_) | refine qIf_split (fun h => ?_) (fun h => ?_)) <;> (try simp only [h]) <;> (try simp only [bitvec_to_nat] at h) <;> (try simp only [h]) <;> (first | (exfalso; omega) | (focus (exfalso; simp_all; done)) | (simp (disch := omega) only [push_cast,seval,hlt',g5,hDl,hil,hX,hVl,List.length_map,innL_VLt]) | skip))
 | ((first | ((with_reducible refine callD_ids (f := 46) (args := [Operand.tmp 10,Operand.tmp 11]) [0,176] true ?_); simp (disch := omega) only [push_cast,seval,hlt',g5,hDl,hil,hX,hVl,List.length_map,innL_VLt]; (refine call2D (id := 0) (id' := 176) (by decide) (one_ok _ _ _ _ ?_ ?_ ?_ ?_ ?_) (by first | ((simp (disch := omega) only [push_cast,seval,hlt',g5,hDl,hil,hX,hVl,List.length_map,innL_VLt]); done) | ((simp (disch := omega) only [push_cast,seval,hlt',g5,hDl,hil,hX,hVl,List.length_map,innL_VLt]); rfl)) (by first | ((simp (disch := omega) only [push_cast,seval,hlt',g5,hDl,hil,hX,hVl,List.length_map,innL_VLt]); done) | ((simp (disch := omega) only [push_cast,seval,hlt',g5,hDl,hil,hX,hVl,List.length_map,innL_VLt]); rfl)) ?_; (iterate 5 (exact sd)); rintro _ _ ⟨x,hx,hx0,rfl,rfl⟩)) | ((with_reducible refine callD_ids (f := 46) (args := [Operand.tmp 13,Operand.tmp 14]) [0,224] true ?_); simp (disch := omega) only [push_cast,seval,hlt',g5,hDl,hil,hX,hVl,List.length_map,innL_VLt]; (refine call2D (id := 0) (id' := 224) (by decide) (one_ok _ _ _ _ ?_ ?_ ?_ ?_ ?_) (by first | ((simp (disch := omega) only [push_cast,seval,hlt',g5,hDl,hil,hX,hVl,List.length_map,innL_VLt]); done) | ((simp (disch := omega) only [push_cast,seval,hlt',g5,hDl,hil,hX,hVl,List.length_map,innL_VLt]); rfl)) (by first | ((simp (disch := omega) only [push_cast,seval,hlt',g5,hDl,hil,hX,hVl,List.length_map,innL_VLt]); done) | ((simp (disch := omega) only [push_cast,seval,hlt',g5,hDl,hil,hX,hVl,List.length_map,innL_VLt]); rfl)) ?_; (iterate 5 (exact sd)); rintro _ _ ⟨x,hx,hx0,rfl,rfl⟩)) | ((with_reducible refine callD_ids (f := 46) (args := [Operand.tmp 63,Operand.tmp 69]) [0,1104] true ?_); simp (disch := omega) only [push_cast,seval,hlt',g5,hDl,hil,hX,hVl,List.length_map,innL_VLt]; (refine call2D (id := 0) (id' := 1104) (by decide) (one_ok _ _ _ _ ?_ ?_ ?_ ?_ ?_) (by first | ((simp (disch := omega) only [push_cast,seval,hlt',g5,hDl,hil,hX,hVl,List.length_map,innL_VLt]); done) | ((simp (disch := omega) only [push_cast,seval,hlt',g5,hDl,hil,hX,hVl,List.length_map,innL_VLt]); rfl)) (by first | ((simp (disch := omega) only [push_cast,seval,hlt',g5,hDl,hil,hX,hVl,List.length_map,innL_VLt]); done) | ((simp (disch := omega) only [push_cast,seval,hlt',g5,hDl,hil,hX,hVl,List.length_map,innL_VLt]); rfl)) ?_; (iterate 5 (exact sd)); rintro _ _ ⟨x,hx,hx0,rfl,rfl⟩)) | ((with_reducible refine callD_ids (f := 46) [0] true ?_); simp (disch := omega) only [push_cast,seval,hlt',g5,hDl,hil,hX,hVl,List.length_map,innL_VLt]; (refine call1D (id := 0) (oneR_ok _ _ _ _ ?_ ?_ ?_ ?_ ?_) (by first | ((simp (disch := omega) only [push_cast,seval,hlt',g5,hDl,hil,hX,hVl,List.length_map,innL_VLt]); done) | ((simp (disch := omega) only [push_cast,seval,hlt',g5,hDl,hil,hX,hVl,List.length_map,innL_VLt]); rfl)) ?_; (iterate 5 (exact sd)); rintro _ _ ⟨x,hx,hx0,rfl,rfl⟩)) | ((with_reducible refine qcallI_of (f := 46) [0] true ?_); simp (disch := omega) only [push_cast,seval,hlt',g5,hDl,hil,hX,hVl,List.length_map,innL_VLt]; (refine qcall1D (id := 0) (oneR_ok _ _ _ _ ?_ ?_ ?_ ?_ ?_) (by first | ((simp (disch := omega) only [push_cast,seval,hlt',g5,hDl,hil,hX,hVl,List.length_map,innL_VLt]); done) | ((simp (disch := omega) only [push_cast,seval,hlt',g5,hDl,hil,hX,hVl,List.length_map,innL_VLt]); rfl)) (by decide) (by simp only [unI_cons,unI_nil];exact ⟨_,_,_,List.mem_cons_self,by omega,rfl,rfl⟩) ?_; (iterate 5 (exact sd)); rintro _ _ ⟨x,hx,hx0,rfl,rfl⟩)) | ((with_reducible refine callD_ids (f := 78) [0] true ?_); simp (disch := omega) only [push_cast,seval,hlt',g5,hDl,hil,hX,hVl,List.length_map,innL_VLt]; (refine call1D (id := 0) (pick_ok _ _ _ ?_ ?_) (by first | ((simp (disch := omega) only [push_cast,seval,hlt',g5,hDl,hil,hX,hVl,List.length_map,innL_VLt]); done) | ((simp (disch := omega) only [push_cast,seval,hlt',g5,hDl,hil,hX,hVl,List.length_map,innL_VLt]); rfl)) ?_; (iterate 2 (exact sd)); rintro _ _ ⟨x,hx0,hx1,rfl,rfl⟩)) | ((with_reducible refine qcallI_of (f := 78) [0] true ?_); simp (disch := omega) only [push_cast,seval,hlt',g5,hDl,hil,hX,hVl,List.length_map,innL_VLt]; (refine qcall1D (id := 0) (pick_ok _ _ _ ?_ ?_) (by first | ((simp (disch := omega) only [push_cast,seval,hlt',g5,hDl,hil,hX,hVl,List.length_map,innL_VLt]); done) | ((simp (disch := omega) only [push_cast,seval,hlt',g5,hDl,hil,hX,hVl,List.length_map,innL_VLt]); rfl)) (by decide) ⟨_,_,0,by omega,Or.inr (Or.inr rfl),rfl,rfl⟩ ?_; (iterate 2 (exact sd)); rintro _ _ ⟨x,hx0,hx1,rfl,rfl⟩)) | ((with_reducible refine callD_ids (f := 96) [0] true ?_); simp (disch := omega) only [push_cast,seval,hlt',g5,hDl,hil,hX,hVl,List.length_map,innL_VLt]; (refine call1D (id := 0) (goodView_ok _ _ ?_ ?_) (by first | ((simp (disch := omega) only [push_cast,seval,hlt',g5,hDl,hil,hX,hVl,List.length_map,innL_VLt]); done) | ((simp (disch := omega) only [push_cast,seval,hlt',g5,hDl,hil,hX,hVl,List.length_map,innL_VLt]); rfl)) ?_; (iterate 2 (exact sd)); rintro _ _ ⟨b,sh,st,q,⟨hl1,hl9,hl2⟩,hq,rfl,rfl⟩)) | ((with_reducible refine callD_ids (f := 97) [0] true ?_); simp (disch := omega) only [push_cast,seval,hlt',g5,hDl,hil,hX,hVl,List.length_map,innL_VLt]; (refine call1D (id := 0) (someView_ok _ _ ?_ ?_) (by first | ((simp (disch := omega) only [push_cast,seval,hlt',g5,hDl,hil,hX,hVl,List.length_map,innL_VLt]); done) | ((simp (disch := omega) only [push_cast,seval,hlt',g5,hDl,hil,hX,hVl,List.length_map,innL_VLt]); rfl)) ?_; (iterate 2 (exact sd)); rintro _ _ ⟨b,sh,st,q,⟨hl1,hl9,hl2⟩,hq,rfl,rfl⟩))) <;> (try simp (disch := omega) only [push_cast,seval,hlt',g5,hDl,hil,hX,hVl,List.length_map,innL_VLt]))
 | ((first | refine callD_of false ?_ | refine qcallD_of false ?_); simp (disch := omega) only [push_cast,seval,hlt',g5,hDl,hil,hX,hVl,List.length_map,innL_VLt])
 | ((first | ((first | refine call0D (sDealRange_ok _ _ _ _) ?_ | refine qcall0D (sDealRange_ok _ _ _ _) ⟨_,_,rfl,rfl⟩ ?_); rintro _ _ ⟨rfl,rfl⟩) | ((first | refine call0D (snumbers_ok _ _ _ ?_) ?_ | refine qcall0D (snumbers_ok _ _ _ ?_) ⟨_,_,rfl,rfl⟩ ?_); (exact sd); rintro _ _ ⟨rfl,rfl⟩)) <;> (try simp (disch := omega) only [push_cast,seval,hlt',g5,hDl,hil,hX,hVl,List.length_map,innL_VLt]))))
      refine ⟨vs ++ [(X.getD 0 0,[(X.length : Int)],[(W : Int)])],⟨by simp; omega,fun v hv => ?_⟩,by simp; omega,?_⟩
      · rcases List.mem_append.1 hv with h | h
        · exact hva v h
        · rw [List.mem_singleton] at h; subst h; simp
      · refine SubW.trans (s1 := mkS [(0,.ref 0 2 0),(4,.int .i64 n),(5,.int .i64 W),(6,.own 256 (vs.length + 1) 3),(7,.own 320 W 3),(8,.int .i64 ((vs.length : Int) + 1))] [(0,RD bs (p + 1 + 1)),(256,VLt vs ++ [.int .i64 (X.getD 0 0),.own 656 1 1,.own 688 1 1]),(320,IL D),(656,[.int .i64 X.length]),(688,[.int .i64 W])]) (SubW.of (by (refine Sub.of_lists ?_ ?_ ?_ ?_ ?_ <;> simp [Vw.mkS,Vw.lk,Vw.hk,AV.inn,innL,innL_ints,innL_append,innL_rep,-List.map_set,-List.getD_eq_getElem?_getD,innL_VLt]))) ?_
        refine SubW.freeze [656,688] (by decide) (SubW.of ?_)
        simp (disch := omega) only [push_cast,seval,frzA,frzH,rhoF,List.contains_cons,List.contains_nil,Bool.or_false,Bool.false_eq_true,List.map_append,List.map_cons,List.map_nil,List.length_map,List.cons_append,VLt_snoc]
        (refine Sub.of_lists ?_ ?_ ?_ ?_ ?_ <;> simp [Vw.mkS,Vw.lk,Vw.hk,AV.inn,innL,innL_ints,innL_append,innL_rep,-List.map_set,-List.getD_eq_getElem?_getD,innL_VLt])
    · have hvW : vs.length = W := by omega
      have hlt' : ¬ (vs.length : Int) < W := by omega
      obtain ⟨v0,vs',rfl⟩ : ∃ v0 vs',vs = v0 :: vs' := by
        cases vs with
        | nil => simp at hvW; omega
        | cons t ts => exact ⟨t,ts,rfl⟩
      clear hdl
      simp only [VLt,List.length_cons] at hVl hvW hlt' hvl ⊢
      have hVl' : vs'.length ≤ 3 := by omega
      have hF : ∀ (ws : List Vw3) (k : Int),((1 ≤ ws.length ∧ ws.length ≤ 5) ∧ ∀ v ∈ ws,v.2.1.length ≤ 5 ∧ v.2.2.length ≤ 5) → k ∈ unI [AV.int .i64 n,AV.int .i64 n,AV.int .i64 n,AV.int .i64 (n + 1),AV.int .i64 61] → tilF ws k := fun ws k h1 h2 => by
        simp only [unI_cons,unI_nil,List.mem_cons,List.not_mem_nil,or_false] at h2
        exact ⟨h1.1,h1.2,by omega,by omega⟩
      have hnb : -1000 ≤ n ∧ n ≤ 900 := by omega
      (repeat' (first
 | (first | refine awp_seq ?_ | refine awp_block ?_)
 | ((first | refine awp_reg ?_ | refine awp_condB ?_ | refine awp_skip ?_ | refine awp_exit ?_); simp (disch := omega) only [push_cast,seval,l61r0,l61r1,l61r2,l61r3,l61r4,l61r5,l61r6,l61r7,l61r8,l61r9,l61r10,l61r11,l61r12,l61r13,l61r14,l61r15,l61r16,hlt',hVl,innL_VLt])
 | ((first | refine condB_split (fun h => ?_) (fun h => ?_) | refine gIf_split (fun h => ?_) (fun h => ?_) | refine qIf_split (fun h => ?_) (fun h => ?_)) <;> (try simp only [h]) <;> (try simp only [bitvec_to_nat] at h) <;> (try simp only [h]) <;> (first | (exfalso; omega) | (focus (exfalso; simp_all; done)) | (simp (disch := omega) only [push_cast,seval,hlt',hVl,innL_VLt]) | skip))
 | ((first | ((with_reducible refine callD_ids (f := 46) (args := [Operand.tmp 10,Operand.tmp 11]) [0,176] true ?_); simp (disch := omega) only [push_cast,seval,hlt',hVl,innL_VLt]; (refine call2D (id := 0) (id' := 176) (by decide) (one_ok _ _ _ _ ?_ ?_ ?_ ?_ ?_) (by first | ((simp (disch := omega) only [push_cast,seval,hlt',hVl,innL_VLt]); done) | ((simp (disch := omega) only [push_cast,seval,hlt',hVl,innL_VLt]); rfl)) (by first | ((simp (disch := omega) only [push_cast,seval,hlt',hVl,innL_VLt]); done) | ((simp (disch := omega) only [push_cast,seval,hlt',hVl,innL_VLt]); rfl)) ?_; (iterate 5 (exact sd)); rintro _ _ ⟨x,hx,hx0,rfl,rfl⟩)) | ((with_reducible refine callD_ids (f := 46) (args := [Operand.tmp 13,Operand.tmp 14]) [0,224] true ?_); simp (disch := omega) only [push_cast,seval,hlt',hVl,innL_VLt]; (refine call2D (id := 0) (id' := 224) (by decide) (one_ok _ _ _ _ ?_ ?_ ?_ ?_ ?_) (by first | ((simp (disch := omega) only [push_cast,seval,hlt',hVl,innL_VLt]); done) | ((simp (disch := omega) only [push_cast,seval,hlt',hVl,innL_VLt]); rfl)) (by first | ((simp (disch := omega) only [push_cast,seval,hlt',hVl,innL_VLt]); done) | ((simp (disch := omega) only [push_cast,seval,hlt',hVl,innL_VLt]); rfl)) ?_; (iterate 5 (exact sd)); rintro _ _ ⟨x,hx,hx0,rfl,rfl⟩)) | ((with_reducible refine callD_ids (f := 46) (args := [Operand.tmp 63,Operand.tmp 69]) [0,1104] true ?_); simp (disch := omega) only [push_cast,seval,hlt',hVl,innL_VLt]; (refine call2D (id := 0) (id' := 1104) (by decide) (one_ok _ _ _ _ ?_ ?_ ?_ ?_ ?_) (by first | ((simp (disch := omega) only [push_cast,seval,hlt',hVl,innL_VLt]); done) | ((simp (disch := omega) only [push_cast,seval,hlt',hVl,innL_VLt]); rfl)) (by first | ((simp (disch := omega) only [push_cast,seval,hlt',hVl,innL_VLt]); done) | ((simp (disch := omega) only [push_cast,seval,hlt',hVl,innL_VLt]); rfl)) ?_; (iterate 5 (exact sd)); rintro _ _ ⟨x,hx,hx0,rfl,rfl⟩)) | ((with_reducible refine callD_ids (f := 46) [0] true ?_); simp (disch := omega) only [push_cast,seval,hlt',hVl,innL_VLt]; (refine call1D (id := 0) (oneR_ok _ _ _ _ ?_ ?_ ?_ ?_ ?_) (by first | ((simp (disch := omega) only [push_cast,seval,hlt',hVl,innL_VLt]); done) | ((simp (disch := omega) only [push_cast,seval,hlt',hVl,innL_VLt]); rfl)) ?_; (iterate 5 (exact sd)); rintro _ _ ⟨x,hx,hx0,rfl,rfl⟩)) | ((with_reducible refine qcallI_of (f := 46) [0] true ?_); simp (disch := omega) only [push_cast,seval,hlt',hVl,innL_VLt]; (refine qcall1D (id := 0) (oneR_ok _ _ _ _ ?_ ?_ ?_ ?_ ?_) (by first | ((simp (disch := omega) only [push_cast,seval,hlt',hVl,innL_VLt]); done) | ((simp (disch := omega) only [push_cast,seval,hlt',hVl,innL_VLt]); rfl)) (by decide) (by simp only [unI_cons,unI_nil];exact ⟨_,_,_,List.mem_cons_self,by omega,rfl,rfl⟩) ?_; (iterate 5 (exact sd)); rintro _ _ ⟨x,hx,hx0,rfl,rfl⟩)) | ((with_reducible refine callD_ids (f := 78) [0] true ?_); simp (disch := omega) only [push_cast,seval,hlt',hVl,innL_VLt]; (refine call1D (id := 0) (pick_ok _ _ _ ?_ ?_) (by first | ((simp (disch := omega) only [push_cast,seval,hlt',hVl,innL_VLt]); done) | ((simp (disch := omega) only [push_cast,seval,hlt',hVl,innL_VLt]); rfl)) ?_; (iterate 2 (exact sd)); rintro _ _ ⟨x,hx0,hx1,rfl,rfl⟩)) | ((with_reducible refine qcallI_of (f := 78) [0] true ?_); simp (disch := omega) only [push_cast,seval,hlt',hVl,innL_VLt]; (refine qcall1D (id := 0) (pick_ok _ _ _ ?_ ?_) (by first | ((simp (disch := omega) only [push_cast,seval,hlt',hVl,innL_VLt]); done) | ((simp (disch := omega) only [push_cast,seval,hlt',hVl,innL_VLt]); rfl)) (by decide) ⟨_,_,0,by omega,Or.inr (Or.inr rfl),rfl,rfl⟩ ?_; (iterate 2 (exact sd)); rintro _ _ ⟨x,hx0,hx1,rfl,rfl⟩)) | ((with_reducible refine callD_ids (f := 96) [0] true ?_); simp (disch := omega) only [push_cast,seval,hlt',hVl,innL_VLt]; (refine call1D (id := 0) (goodView_ok _ _ ?_ ?_) (by first | ((simp (disch := omega) only [push_cast,seval,hlt',hVl,innL_VLt]); done) | ((simp (disch := omega) only [push_cast,seval,hlt',hVl,innL_VLt]); rfl)) ?_; (iterate 2 (exact sd)); rintro _ _ ⟨b,sh,st,q,⟨hl1,hl9,hl2⟩,hq,rfl,rfl⟩)) | ((with_reducible refine callD_ids (f := 97) [0] true ?_); simp (disch := omega) only [push_cast,seval,hlt',hVl,innL_VLt]; (refine call1D (id := 0) (someView_ok _ _ ?_ ?_) (by first | ((simp (disch := omega) only [push_cast,seval,hlt',hVl,innL_VLt]); done) | ((simp (disch := omega) only [push_cast,seval,hlt',hVl,innL_VLt]); rfl)) ?_; (iterate 2 (exact sd)); rintro _ _ ⟨b,sh,st,q,⟨hl1,hl9,hl2⟩,hq,rfl,rfl⟩))) <;> (try simp (disch := omega) only [push_cast,seval,hlt',hVl,innL_VLt]))
 | ((first | refine callD_of false ?_ | refine qcallD_of false ?_); simp (disch := omega) only [push_cast,seval,hlt',hVl,innL_VLt])
 | ((first | ((first | refine call0D (sDealRange_ok _ _ _ _) ?_ | refine qcall0D (sDealRange_ok _ _ _ _) ⟨_,_,rfl,rfl⟩ ?_); rintro _ _ ⟨rfl,rfl⟩) | ((first | refine call0D (snumbers_ok _ _ _ ?_) ?_ | refine qcall0D (snumbers_ok _ _ _ ?_) ⟨_,_,rfl,rfl⟩ ?_); (exact sd); rintro _ _ ⟨rfl,rfl⟩)) <;> (try simp (disch := omega) only [push_cast,seval,hlt',hVl,innL_VLt]))))
      · (refine awp_ret ⟨.inr rfl,[256],[],_,by decide,rfl,?_⟩; (try simp (disch := omega) only [push_cast,seval,↓allMem_nil,↓allMem_cons,↓List.map_cons,↓List.map_nil,List.map_append,List.length_map,innL_VLt]))
        refine ⟨v0 :: vs' ++ [(b,sh,st)],x,q + 1,hF _ _ ⟨by simp; omega,fun v hv => ?_⟩ hx,by omega,?_,?_⟩
        · rcases List.mem_append.1 hv with h | h
          · exact hva v h
          · rw [List.mem_singleton] at h; subst h; simp only; omega
        · simp
        · simp [VLt,VLt_append]
      · (refine awp_ret ⟨.inr rfl,[256],[],_,by decide,rfl,?_⟩; (try simp (disch := omega) only [push_cast,seval,↓allMem_nil,↓allMem_cons,↓List.map_cons,↓List.map_nil,List.map_append,List.length_map,innL_VLt]))
        refine ⟨(b,sh,st) :: vs',x,q + 1,hF _ _ ⟨by simp; omega,fun v hv => ?_⟩ hx,by omega,?_,?_⟩
        · rcases List.mem_cons.1 hv with h | h
          · subst h; simp only; omega
          · exact hva v (by simp [h])
        · simp
        · simp [VLt]
      · (refine awp_ret ⟨.inr rfl,[256],[],_,by decide,rfl,?_⟩; (try simp (disch := omega) only [push_cast,seval,↓allMem_nil,↓allMem_cons,↓List.map_cons,↓List.map_nil,List.map_append,List.length_map,innL_VLt]))
        refine ⟨v0 :: vs',x,_,hF _ _ ⟨by simp; omega,hva⟩ hx,?_,?_,rfl⟩
        · omega
        · simp

end Go.Proofs.Ytejbfjmiidofcaa
