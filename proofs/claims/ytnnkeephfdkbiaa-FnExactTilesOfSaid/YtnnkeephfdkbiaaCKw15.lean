import Derived.Test.YtnnkeephfdkbiaaCKw14
import Derived.Test.YtnnkeephfdkbiaaCM1
import Derived.Test.YtnnkeephfdkbiaaCW3
set_option linter.unusedSimpArgs false
set_option linter.unusedVariables false
set_option maxRecDepth 4000
set_option maxHeartbeats 4000000
namespace Go.Proofs.Ytnnkeephfdkbiaa
open VwM Vw Go

def VLt : List Vw3 → List AV
  | [] => []
  | v :: r => .int .i64 v.1 :: .rows true (IL v.2.1) v.2.1.length :: .rows true (IL v.2.2) v.2.2.length :: VLt r
theorem VLt_length : ∀ vs : List Vw3,(VLt vs).length = vs.length * 3
  | [] => rfl
  | v :: r => by simp only [VLt,List.length_cons,VLt_length r]; omega
theorem VLt_append : ∀ vs ws : List Vw3,VLt (vs ++ ws) = VLt vs ++ VLt ws
  | [],_ => rfl
  | v :: r,ws => by simp only [List.cons_append,VLt,VLt_append r ws]
theorem innL_VLt (p : Nat → Bool) : ∀ vs : List Vw3,innL p (VLt vs) = true
  | [] => rfl
  | v :: r => by
    simp only [VLt,innL,AV.inn,innL_VLt p r,Bool.and_true,Bool.true_and,Bool.and_eq_true]
    constructor <;> simp [innL_ints]
theorem innL_all {p : Nat → Bool} : ∀ {L : List AV},(∀ a ∈ L,a.inn p = true) → innL p L = true
  | [],_ => rfl
  | a :: r,h => by
    simp only [innL,Bool.and_eq_true]
    exact ⟨h a (by simp),innL_all fun x hx => h x (by simp [hx])⟩
theorem innL_mem {p : Nat → Bool} : ∀ {L : List AV},innL p L = true → ∀ a ∈ L,a.inn p = true
  | a :: r,h,x,hx => by
    simp only [innL,Bool.and_eq_true] at h
    rcases List.mem_cons.1 hx with e | e
    · rw [e]; exact h.1
    · exact innL_mem h.2 x e
theorem zc_mem {zs : List AV} {n : Nat} {a : AV} (h : a ∈ zcells zs n) : a ∈ zs ∨ a = .unk := by
  simp only [zcells,List.mem_map,List.mem_range] at h
  obtain ⟨i,_,rfl⟩ := h
  by_cases hi : i % zs.length < zs.length
  · left; simp [List.getD,hi]
  · right; simp [List.getD,List.getElem?_eq_none (Nat.le_of_not_lt hi)]
theorem ren_VLt {ρ : Nat → Option Nat} {Zh : Nat → Option (List AV)} {n : Nat} : ∀ vs : List Vw3,(VLt vs).map (AV.ren ρ Zh true some (n + 2)) = VLt vs
  | [] => rfl
  | v :: r => by
    simp only [VLt,List.map_cons,ren_VLt r,List.cons.injEq,and_true]
    refine ⟨rfl,?_,?_⟩ <;> simp [AV.ren,List.map_map,Function.comp_def]
theorem set3 {A D : List AV} {p : Nat} (h : A.length = p) (hD : 3 ≤ D.length) (a b c : AV) : (((A ++ D).set p a).set (p + 1) b).set (p + 2) c = A ++ [a,b,c] ++ D.drop 3 := by
  subst h
  match D,hD with
  | d0 :: d1 :: d2 :: D,_ =>
    simp [List.set_append]
theorem VLt_step {vs : List Vw3} {i : Nat} {b : Int} {sh st : List Int} (hv : vs[i]? = some (b,sh,st)) {Z : List AV} (hZ : Z.length = vs.length * 3) :
    (((VLt (vs.take i) ++ Z.drop (i * 3)).set (i * 3) (.int .i64 b)).set (i * 3 + 1) (.rows true (IL sh) sh.length)).set (i * 3 + 2) (.rows true (IL st) st.length) = VLt (vs.take (i + 1)) ++ Z.drop ((i + 1) * 3) := by
  have hi : i < vs.length := by
    rcases Nat.lt_or_ge i vs.length with h | h
    · exact h
    · rw [List.getElem?_eq_none h] at hv; cases hv
  rw [set3 (by rw [VLt_length,List.length_take]; omega) (by rw [List.length_drop]; omega),List.drop_drop,List.take_add_one,hv,VLt_append,show i * 3 + 3 = (i + 1) * 3 by omega]
  rfl


theorem toViewP_ok (b : Int) (sh st : List Int) (n m : Nat) (hn : sh.length = n) (hm : st.length = m) (hb : n ≤ 1099511627776 ∧ m ≤ 1099511627776) : PCall Try.prog 14 [.agg [.int .i64 b,.rows false (IL sh) n,.rows false (IL st) m]] (fun r => r = .agg [.int .i64 b,.rows true (IL sh) sh.length,.rows true (IL st) st.length]) := plainV (toView_ok b sh st n m hn hm hb)


set_option maxHeartbeats 8000000 in
theorem toViewS_ok (vs : List Vw3) (n : Nat) (hn : vs.length = n) (hb : n ≤ 1048576 ∧ ∀ v ∈ vs,v.2.1.length ≤ 1099511627776 ∧ v.2.2.length ≤ 1099511627776) : BCall Try.prog 35 [.rows false (VLs vs) n] [] (fun r H' => r = .own 0 n 3 ∧ H' = [VLt vs]) := by
  subst hn
  obtain ⟨hb1,hb2⟩ := hb
  refine bcall_of (pins := []) (pin := 0) l35_eq rfl rfl rfl ?_
  have hvl := VLs_length vs
  have hzl : (zcells [AV.int .i64 0,.val (.slice none 0 0),.val (.slice none 0 0)] vs.length).length = vs.length * 3 := by simp [zcells,Nat.mul_comm]
  have hz0 : (zcells [AV.int .i64 0,.val (.slice none 0 0),.val (.slice none 0 0)] vs.length).drop (0 * 3) = zcells [AV.int .i64 0,.val (.slice none 0 0),.val (.slice none 0 0)] vs.length := by rw [Nat.zero_mul,List.drop_zero]
  have hzi : ∀ p : Nat → Bool,innL p (zcells [AV.int .i64 0,.val (.slice none 0 0),.val (.slice none 0 0)] vs.length) = true := fun p => innL_all fun a ha => by
    rcases zc_mem ha with h | h
    · simp at h; rcases h with rfl | rfl <;> rfl
    · rw [h]; rfl
  (repeat' (first
 | (first | refine awp_seq ?_ | refine awp_block ?_)
 | ((first | refine awp_reg ?_ | refine awp_condB ?_ | refine awp_skip ?_ | refine awp_exit ?_); simp (disch := omega) only [push_cast,seval,l35r0,l35r1,l35r2,l35r3,l35r4,l35r5,l35r6,innL_VLs])
 | ((first | refine condB_split (fun h => ?_) (fun h => ?_) | refine gIf_split (fun h => ?_) (fun h => ?_) | refine qIf_split (fun h => ?_) (fun h => ?_)) <;> (try simp only [h]) <;> (try simp only [bitvec_to_nat] at h) <;> (try simp only [h]) <;> (first | (exfalso; omega) | (focus (exfalso; simp_all; done)) | (simp (disch := omega) only [push_cast,seval,innL_VLs]) | skip))
 | ((first | refine callD_of false ?_ | refine qcallD_of false ?_); simp (disch := omega) only [push_cast,seval,innL_VLs])
 | ((first | ((first | refine call0D (BCall.ofP (toViewP_ok _ _ _ _ _ ?_ ?_ ?_)) ?_ | refine qcall0D (BCall.ofP (toViewP_ok _ _ _ _ _ ?_ ?_ ?_)) ⟨_,_,rfl,rfl⟩ ?_); (iterate 3 (exact sd)); rintro _ _ ⟨rfl,rfl⟩)) <;> (try simp (disch := omega) only [push_cast,seval,innL_VLs]))
 | (refine awp_ret ⟨.inr rfl,[112],[],_,by decide,rfl,?_⟩; (try simp (disch := omega) only [push_cast,seval,↓allMem_nil,↓allMem_cons,↓List.map_cons,↓List.map_nil,innL_VLs]))))
  generalize hZ : zcells [AV.int .i64 0,.val (.slice none 0 0),.val (.slice none 0 0)] vs.length = Z at *
  refine awp_loop (fun i : Nat => mkS [(0,.rows false (VLs vs) vs.length),(3,.own 112 vs.length 3),(4,.int .i64 i)] [(112,VLt (vs.take i) ++ Z.drop (i * 3))]) (fun i => i ≤ vs.length) (fun i => vs.length - i) 0 (Nat.zero_le _) ?_ ?_
  · (refine Sub.of_lists ?_ ?_ ?_ ?_ ?_ <;> simp [Vw.mkS,Vw.lk,Vw.hk,AV.inn,innL,innL_ints,innL_append,innL_rep,-List.map_set,-List.getD_eq_getElem?_getD,innL_VLs,VLt,hzi])
  · intro i hi
    by_cases hlt : i < vs.length
    · obtain ⟨⟨b,sh,st⟩,hvi⟩ : ∃ v,vs[i]? = some v := ⟨_,List.getElem?_eq_getElem hlt⟩
      have hbb := hb2 _ (List.mem_of_getElem? hvi)
      simp only at hbb
      have hd := VLs_drop vs i hvi
      simp only at hd
      have hil : i * 3 + 3 ≤ vs.length * 3 := by omega
      have hst := VLt_step hvi hzl
      have hwl : (VLt (vs.take i) ++ Z.drop (i * 3)).length = vs.length * 3 := by rw [List.length_append,VLt_length,List.length_take,List.length_drop,hzl]; omega
      have hwi : ∀ p : Nat → Bool,innL p (VLt (vs.take (i + 1)) ++ Z.drop ((i + 1) * 3)) = true := fun p => innL_all fun a ha => by
        rcases List.mem_append.1 ha with h | h
        · exact innL_mem (innL_VLt p _) a h
        · exact innL_mem (hzi p) a (List.mem_of_mem_drop h)
      generalize hW : VLt (vs.take i) ++ Z.drop (i * 3) = W at *
      generalize hW2 : VLt (vs.take (i + 1)) ++ Z.drop ((i + 1) * 3) = W2 at *
      (repeat' (first
 | (first | refine awp_seq ?_ | refine awp_block ?_)
 | ((first | refine awp_reg ?_ | refine awp_condB ?_ | refine awp_skip ?_ | refine awp_exit ?_); simp (disch := omega) only [push_cast,seval,l35r0,l35r1,l35r2,l35r3,l35r4,l35r5,l35r6,hd,hvl,hil,hwl,innL_VLs])
 | ((first | refine condB_split (fun h => ?_) (fun h => ?_) | refine gIf_split (fun h => ?_) (fun h => ?_) | refine qIf_split (fun h => ?_) (fun h => ?_)) <;> (try simp only [h]) <;> (try simp only [bitvec_to_nat] at h) <;> (try simp only [h]) <;> (first | (exfalso; omega) | (focus (exfalso; simp_all; done)) | (simp (disch := omega) only [push_cast,seval,hd,hvl,hil,hwl,innL_VLs]) | skip))
 | ((first | refine callD_of false ?_ | refine qcallD_of false ?_); simp (disch := omega) only [push_cast,seval,hd,hvl,hil,hwl,innL_VLs])
 | ((first | ((first | refine call0D (BCall.ofP (toViewP_ok _ _ _ _ _ ?_ ?_ ?_)) ?_ | refine qcall0D (BCall.ofP (toViewP_ok _ _ _ _ _ ?_ ?_ ?_)) ⟨_,_,rfl,rfl⟩ ?_); (iterate 3 (exact sd)); rintro _ _ ⟨rfl,rfl⟩)) <;> (try simp (disch := omega) only [push_cast,seval,hd,hvl,hil,hwl,innL_VLs]))
 | (refine awp_ret ⟨.inr rfl,[112],[],_,by decide,rfl,?_⟩; (try simp (disch := omega) only [push_cast,seval,↓allMem_nil,↓allMem_cons,↓List.map_cons,↓List.map_nil,hd,hvl,hil,hwl,innL_VLs]))))
      refine ⟨i + 1,by omega,by omega,?_⟩
      (refine Sub.of_lists ?_ ?_ ?_ ?_ ?_ <;> simp [Vw.mkS,Vw.lk,Vw.hk,AV.inn,innL,innL_ints,innL_append,innL_rep,-List.map_set,-List.getD_eq_getElem?_getD,hst,hW2,hwi,innL_VLs])
    · have e : i = vs.length := by omega
      subst e
      have hfin : VLt (vs.take vs.length) ++ Z.drop (vs.length * 3) = VLt vs := by rw [List.take_length,List.drop_eq_nil_of_le (by omega),List.append_nil]
      rw [hfin]
      (repeat' (first
 | (first | refine awp_seq ?_ | refine awp_block ?_)
 | ((first | refine awp_reg ?_ | refine awp_condB ?_ | refine awp_skip ?_ | refine awp_exit ?_); simp (disch := omega) only [push_cast,seval,l35r0,l35r1,l35r2,l35r3,l35r4,l35r5,l35r6,innL_VLs])
 | ((first | refine condB_split (fun h => ?_) (fun h => ?_) | refine gIf_split (fun h => ?_) (fun h => ?_) | refine qIf_split (fun h => ?_) (fun h => ?_)) <;> (try simp only [h]) <;> (try simp only [bitvec_to_nat] at h) <;> (try simp only [h]) <;> (first | (exfalso; omega) | (focus (exfalso; simp_all; done)) | (simp (disch := omega) only [push_cast,seval,innL_VLs]) | skip))
 | ((first | refine callD_of false ?_ | refine qcallD_of false ?_); simp (disch := omega) only [push_cast,seval,innL_VLs])
 | ((first | ((first | refine call0D (BCall.ofP (toViewP_ok _ _ _ _ _ ?_ ?_ ?_)) ?_ | refine qcall0D (BCall.ofP (toViewP_ok _ _ _ _ _ ?_ ?_ ?_)) ⟨_,_,rfl,rfl⟩ ?_); (iterate 3 (exact sd)); rintro _ _ ⟨rfl,rfl⟩)) <;> (try simp (disch := omega) only [push_cast,seval,innL_VLs]))
 | (refine awp_ret ⟨.inr rfl,[112],[],_,by decide,rfl,?_⟩; (try simp (disch := omega) only [push_cast,seval,↓allMem_nil,↓allMem_cons,↓List.map_cons,↓List.map_nil,innL_VLs]))))
      all_goals (rw [ren_VLt])


theorem ren_VLtD {ρ : Nat → Option Nat} {Zh : Nat → Option (List AV)} {n : Nat} : ∀ vs : List Vw3,(VLt vs).map (AV.ren ρ Zh false phiD (n + 2)) = VLs vs
  | [] => rfl
  | v :: r => by
    simp only [VLt,VLs,List.map_cons,ren_VLtD r,List.cons.injEq,and_true]
    refine ⟨rfl,?_,?_⟩ <;> simp [AV.ren,phiD,List.map_map,Function.comp_def]
theorem ren_VLtU {ρ : Nat → Option Nat} {Zh : Nat → Option (List AV)} {n : Nat} {b : Bool} : ∀ vs : List Vw3,(VLt vs).map (AV.ren ρ Zh true (phiU b) (n + 2)) = VLt vs
  | [] => rfl
  | v :: r => by
    simp only [VLt,List.map_cons,ren_VLtU r,List.cons.injEq,and_true]
    refine ⟨rfl,?_,?_⟩ <;> simp [AV.ren,phiU,List.map_map,Function.comp_def]
attribute [push_cast] ren_VLtD ren_VLtU


theorem toViewSP_ok (vs : List Vw3) (n : Nat) (hn : vs.length = n) (hb : n ≤ 1048576 ∧ ∀ v ∈ vs,v.2.1.length ≤ 1099511627776 ∧ v.2.2.length ≤ 1099511627776) : PCall Try.prog 35 [.rows false (VLs vs) n] (fun r => r = .rows true (VLt vs) n) := by
  refine (BCall.plain (toViewS_ok vs n hn hb)).mono ?_
  rintro r ⟨r0,H',⟨rfl,rfl⟩,rfl⟩
  have e := ren_VLt (ρ := fun _ => none) (Zh := nthH [VLt vs]) (n := 2) vs
  simp [AV.ren,nthH,VLt_length,hn]
  exact e


set_option maxHeartbeats 8000000 in
theorem szViewS_ok (vs : List Vw3) (n : Nat) (k : Int) (hn : vs.length = n) (hk : 0 ≤ k ∧ k ≤ 1048576) (hb : n ≤ 9223372036854775807 ∧ ∀ v ∈ vs,v.2.1.length ≤ 9223372036854775807 ∧ v.2.2.length ≤ 9223372036854775807) : PCall Try.prog 33 [.rows false (VLs vs) n,.int .i64 k] (fun r => ∃ z : Int,(0 ≤ z → vs.length ≤ 1048576 ∧ ∀ v ∈ vs,v.2.1.length ≤ 1048576 ∧ v.2.2.length ≤ 1048576) ∧ r = .int .i64 z) := by
  subst hn
  obtain ⟨hb1,hb2⟩ := hb
  refine pcall_of l33_eq rfl ?_
  have hvl := VLs_length vs
  by_cases h0 : k - (vs.length : Int) < 0
  · (repeat' (first
 | (first | refine awp_seq ?_ | refine awp_block ?_)
 | ((first | refine awp_reg ?_ | refine awp_condB ?_ | refine awp_skip ?_ | refine awp_exit ?_); simp (disch := omega) only [push_cast,seval,l33r0,l33r1,l33r2,l33r3,l33r4,l33r5,l33r6,l33r7,l33r8,l33r9,l33r10,h0,innL_VLs])
 | ((first | refine condB_split (fun h => ?_) (fun h => ?_) | refine gIf_split (fun h => ?_) (fun h => ?_) | refine qIf_split (fun h => ?_) (fun h => ?_)) <;> (try simp only [h]) <;> (try simp only [bitvec_to_nat] at h) <;> (try simp only [h]) <;> (first | (exfalso; omega) | (focus (exfalso; simp_all; done)) | (simp (disch := omega) only [push_cast,seval,h0,innL_VLs]) | skip))
 | ((first | refine callD_of false ?_ | refine qcallD_of false ?_); simp (disch := omega) only [push_cast,seval,h0,innL_VLs])
 | ((first | ((first | refine call0D (BCall.ofP (szView_ok _ _ _ _ _ _ ?_ ?_)) ?_ | refine qcall0D (BCall.ofP (szView_ok _ _ _ _ _ _ ?_ ?_)) ⟨_,_,rfl,rfl⟩ ?_); (iterate 2 (exact sd)); rintro _ _ ⟨rfl,rfl⟩)) <;> (try simp (disch := omega) only [push_cast,seval,h0,innL_VLs]))
 | (refine awp_ret ⟨.inr rfl,_,rfl,?_⟩; (try simp (disch := omega) only [push_cast,seval,h0,innL_VLs]))))
    all_goals exact ⟨_,by omega,rfl⟩
  · (repeat' (first
 | (first | refine awp_seq ?_ | refine awp_block ?_)
 | ((first | refine awp_reg ?_ | refine awp_condB ?_ | refine awp_skip ?_ | refine awp_exit ?_); simp (disch := omega) only [push_cast,seval,l33r0,l33r1,l33r2,l33r3,l33r4,l33r5,l33r6,l33r7,l33r8,l33r9,l33r10,h0,innL_VLs])
 | ((first | refine condB_split (fun h => ?_) (fun h => ?_) | refine gIf_split (fun h => ?_) (fun h => ?_) | refine qIf_split (fun h => ?_) (fun h => ?_)) <;> (try simp only [h]) <;> (try simp only [bitvec_to_nat] at h) <;> (try simp only [h]) <;> (first | (exfalso; omega) | (focus (exfalso; simp_all; done)) | (simp (disch := omega) only [push_cast,seval,h0,innL_VLs]) | skip))
 | ((first | refine callD_of false ?_ | refine qcallD_of false ?_); simp (disch := omega) only [push_cast,seval,h0,innL_VLs])
 | ((first | ((first | refine call0D (BCall.ofP (szView_ok _ _ _ _ _ _ ?_ ?_)) ?_ | refine qcall0D (BCall.ofP (szView_ok _ _ _ _ _ _ ?_ ?_)) ⟨_,_,rfl,rfl⟩ ?_); (iterate 2 (exact sd)); rintro _ _ ⟨rfl,rfl⟩)) <;> (try simp (disch := omega) only [push_cast,seval,h0,innL_VLs]))
 | (refine awp_ret ⟨.inr rfl,_,rfl,?_⟩; (try simp (disch := omega) only [push_cast,seval,h0,innL_VLs]))))
    refine awp_loop (fun x : Nat × Int => mkS [(0,.rows false (VLs vs) vs.length),(1,.int .i64 x.2),(5,.int .i64 x.1)] []) (fun x => x.1 ≤ vs.length ∧ (0 ≤ x.2 ∧ x.2 ≤ 1048576) ∧ ∀ j v,j < x.1 → vs[j]? = some v → v.2.1.length ≤ 1048576 ∧ v.2.2.length ≤ 1048576) (fun x => vs.length - x.1) (0,k - vs.length) ⟨Nat.zero_le _,by simp only; omega,fun j v h => absurd h (Nat.not_lt_zero _)⟩ ?_ ?_
    · (refine Sub.of_lists ?_ ?_ ?_ ?_ ?_ <;> simp [Vw.mkS,Vw.lk,Vw.hk,AV.inn,innL,innL_ints,innL_append,innL_rep,-List.map_set,-List.getD_eq_getElem?_getD,innL_VLs])
    · rintro ⟨i,z⟩ ⟨hi,hz,hall⟩
      simp only at hi hz hall ⊢
      by_cases hlt : i < vs.length
      · obtain ⟨⟨b,sh,st⟩,hvi⟩ : ∃ v,vs[i]? = some v := ⟨_,List.getElem?_eq_getElem hlt⟩
        have hbb := hb2 _ (List.mem_of_getElem? hvi)
        simp only at hbb
        have hd := VLs_drop vs i hvi
        simp only at hd
        have hil : i * 3 + 3 ≤ vs.length * 3 := by omega
        by_cases hs : z - (sh.length : Int) - st.length < 0
        · (repeat' (first
 | (first | refine awp_seq ?_ | refine awp_block ?_)
 | ((first | refine awp_reg ?_ | refine awp_condB ?_ | refine awp_skip ?_ | refine awp_exit ?_); simp (disch := omega) only [push_cast,seval,l33r0,l33r1,l33r2,l33r3,l33r4,l33r5,l33r6,l33r7,l33r8,l33r9,l33r10,hd,hvl,hil,hs,innL_VLs])
 | ((first | refine condB_split (fun h => ?_) (fun h => ?_) | refine gIf_split (fun h => ?_) (fun h => ?_) | refine qIf_split (fun h => ?_) (fun h => ?_)) <;> (try simp only [h]) <;> (try simp only [bitvec_to_nat] at h) <;> (try simp only [h]) <;> (first | (exfalso; omega) | (focus (exfalso; simp_all; done)) | (simp (disch := omega) only [push_cast,seval,hd,hvl,hil,hs,innL_VLs]) | skip))
 | ((first | refine callD_of false ?_ | refine qcallD_of false ?_); simp (disch := omega) only [push_cast,seval,hd,hvl,hil,hs,innL_VLs])
 | ((first | ((first | refine call0D (BCall.ofP (szView_ok _ _ _ _ _ _ ?_ ?_)) ?_ | refine qcall0D (BCall.ofP (szView_ok _ _ _ _ _ _ ?_ ?_)) ⟨_,_,rfl,rfl⟩ ?_); (iterate 2 (exact sd)); rintro _ _ ⟨rfl,rfl⟩)) <;> (try simp (disch := omega) only [push_cast,seval,hd,hvl,hil,hs,innL_VLs]))
 | (refine awp_ret ⟨.inr rfl,_,rfl,?_⟩; (try simp (disch := omega) only [push_cast,seval,hd,hvl,hil,hs,innL_VLs]))))
          all_goals exact ⟨_,by omega,rfl⟩
        · (repeat' (first
 | (first | refine awp_seq ?_ | refine awp_block ?_)
 | ((first | refine awp_reg ?_ | refine awp_condB ?_ | refine awp_skip ?_ | refine awp_exit ?_); simp (disch := omega) only [push_cast,seval,l33r0,l33r1,l33r2,l33r3,l33r4,l33r5,l33r6,l33r7,l33r8,l33r9,l33r10,hd,hvl,hil,hs,innL_VLs])
 | ((first | refine condB_split (fun h => ?_) (fun h => ?_) | refine gIf_split (fun h => ?_) (fun h => ?_) | refine qIf_split (fun h => ?_) (fun h => ?_)) <;> (try simp only [h]) <;> (try simp only [bitvec_to_nat] at h) <;> (try simp only [h]) <;> (first | (exfalso; omega) | (focus (exfalso; simp_all; done)) | (simp (disch := omega) only [push_cast,seval,hd,hvl,hil,hs,innL_VLs]) | skip))
 | ((first | refine callD_of false ?_ | refine qcallD_of false ?_); simp (disch := omega) only [push_cast,seval,hd,hvl,hil,hs,innL_VLs])
 | ((first | ((first | refine call0D (BCall.ofP (szView_ok _ _ _ _ _ _ ?_ ?_)) ?_ | refine qcall0D (BCall.ofP (szView_ok _ _ _ _ _ _ ?_ ?_)) ⟨_,_,rfl,rfl⟩ ?_); (iterate 2 (exact sd)); rintro _ _ ⟨rfl,rfl⟩)) <;> (try simp (disch := omega) only [push_cast,seval,hd,hvl,hil,hs,innL_VLs]))
 | (refine awp_ret ⟨.inr rfl,_,rfl,?_⟩; (try simp (disch := omega) only [push_cast,seval,hd,hvl,hil,hs,innL_VLs]))))
          refine ⟨(i + 1,z - sh.length - st.length),⟨by simp only; omega,by simp only; omega,fun j v hj hjv => ?_⟩,by simp only; omega,?_⟩
          · simp only at hj
            by_cases e : j = i
            · subst e; rw [hvi] at hjv; cases hjv; simp only; omega
            · exact hall j v (by omega) hjv
          · (refine Sub.of_lists ?_ ?_ ?_ ?_ ?_ <;> simp [Vw.mkS,Vw.lk,Vw.hk,AV.inn,innL,innL_ints,innL_append,innL_rep,-List.map_set,-List.getD_eq_getElem?_getD,innL_VLs])
      · (repeat' (first
 | (first | refine awp_seq ?_ | refine awp_block ?_)
 | ((first | refine awp_reg ?_ | refine awp_condB ?_ | refine awp_skip ?_ | refine awp_exit ?_); simp (disch := omega) only [push_cast,seval,l33r0,l33r1,l33r2,l33r3,l33r4,l33r5,l33r6,l33r7,l33r8,l33r9,l33r10,innL_VLs])
 | ((first | refine condB_split (fun h => ?_) (fun h => ?_) | refine gIf_split (fun h => ?_) (fun h => ?_) | refine qIf_split (fun h => ?_) (fun h => ?_)) <;> (try simp only [h]) <;> (try simp only [bitvec_to_nat] at h) <;> (try simp only [h]) <;> (first | (exfalso; omega) | (focus (exfalso; simp_all; done)) | (simp (disch := omega) only [push_cast,seval,innL_VLs]) | skip))
 | ((first | refine callD_of false ?_ | refine qcallD_of false ?_); simp (disch := omega) only [push_cast,seval,innL_VLs])
 | ((first | ((first | refine call0D (BCall.ofP (szView_ok _ _ _ _ _ _ ?_ ?_)) ?_ | refine qcall0D (BCall.ofP (szView_ok _ _ _ _ _ _ ?_ ?_)) ⟨_,_,rfl,rfl⟩ ?_); (iterate 2 (exact sd)); rintro _ _ ⟨rfl,rfl⟩)) <;> (try simp (disch := omega) only [push_cast,seval,innL_VLs]))
 | (refine awp_ret ⟨.inr rfl,_,rfl,?_⟩; (try simp (disch := omega) only [push_cast,seval,innL_VLs]))))
        all_goals (refine ⟨_,fun _ => ⟨by omega,fun v hv => ?_⟩,rfl⟩; obtain ⟨j,hj,e⟩ := List.mem_iff_getElem.1 hv; exact hall j v (by omega) (by rw [List.getElem?_eq_getElem hj,e]))


set_option maxHeartbeats 8000000 in
theorem eqViewS_ok (vs : List Vw3) (n : Nat) (hn : vs.length = n) (hb : n ≤ 1099511627776 ∧ ∀ v ∈ vs,v.2.1.length ≤ 1099511627776 ∧ v.2.2.length ≤ 1099511627776) : PCall Try.prog 37 [.rows false (VLs vs) n,.rows false (VLs vs) n] (fun r => r = .bool true) := by
  subst hn
  obtain ⟨hb1,hb2⟩ := hb
  refine pcall_of l37_eq rfl ?_
  have hvl := VLs_length vs
  (repeat' (first
 | (first | refine awp_seq ?_ | refine awp_block ?_)
 | ((first | refine awp_reg ?_ | refine awp_draw (mid := l37r5a) (post := l37r5b) mixed (by decide) ?_ | refine awp_condB ?_ | refine awp_skip ?_ | refine awp_exit ?_); simp (disch := omega) only [push_cast,seval,l37r0,l37r1,l37r2,l37r3,l37r4,l37r5a,l37r5b,l37r5,l37r6,l37r7,l37r8,innL_VLs,decide_true])
 | ((first | refine condB_split (fun h => ?_) (fun h => ?_) | refine gIf_split (fun h => ?_) (fun h => ?_) | refine qIf_split (fun h => ?_) (fun h => ?_)) <;> (try simp only [h]) <;> (try simp only [bitvec_to_nat] at h) <;> (try simp only [h]) <;> (first | (exfalso; omega) | (focus (exfalso; simp_all; done)) | (simp (disch := omega) only [push_cast,seval,innL_VLs,decide_true]) | skip))
 | ((first | refine callD_of false ?_ | refine qcallD_of false ?_); simp (disch := omega) only [push_cast,seval,innL_VLs,decide_true])
 | ((first | ((first | refine call0D (BCall.ofP (eqView_ok _ _ _ _ _ _ _ _ _ _ ?_ ?_ ?_ ?_ ?_)) ?_ | refine qcall0D (BCall.ofP (eqView_ok _ _ _ _ _ _ _ _ _ _ ?_ ?_ ?_ ?_ ?_)) ⟨_,_,rfl,rfl⟩ ?_); (iterate 5 (exact sd)); rintro _ _ ⟨rfl,rfl⟩)) <;> (try simp (disch := omega) only [push_cast,seval,innL_VLs,decide_true]))
 | (refine awp_ret ⟨.inr rfl,_,rfl,?_⟩; (try simp (disch := omega) only [push_cast,seval,innL_VLs,decide_true]))))
  refine awp_loop (fun i : Nat => mkS [(0,.rows false (VLs vs) vs.length),(1,.rows false (VLs vs) vs.length),(5,.int .i64 i)] []) (fun i => i ≤ vs.length) (fun i => vs.length - i) 0 (Nat.zero_le _) ?_ ?_
  · (refine Sub.of_lists ?_ ?_ ?_ ?_ ?_ <;> simp [Vw.mkS,Vw.lk,Vw.hk,AV.inn,innL,innL_ints,innL_append,innL_rep,-List.map_set,-List.getD_eq_getElem?_getD,innL_VLs])
  · intro i hi
    by_cases hlt : i < vs.length
    · obtain ⟨⟨b,sh,st⟩,hvi⟩ : ∃ v,vs[i]? = some v := ⟨_,List.getElem?_eq_getElem hlt⟩
      have hbb := hb2 _ (List.mem_of_getElem? hvi)
      simp only at hbb
      have hq : (sh.length ≤ 1099511627776 ∧ st.length ≤ 1099511627776) ∧ sh.length ≤ 1099511627776 ∧ st.length ≤ 1099511627776 := ⟨hbb,hbb⟩
      have hd := VLs_drop vs i hvi
      simp only at hd
      have hil : i * 3 + 3 ≤ vs.length * 3 := by omega
      (repeat' (first
 | (first | refine awp_seq ?_ | refine awp_block ?_)
 | ((first | refine awp_reg ?_ | refine awp_draw (mid := l37r5a) (post := l37r5b) mixed (by decide) ?_ | refine awp_condB ?_ | refine awp_skip ?_ | refine awp_exit ?_); simp (disch := omega) only [push_cast,seval,l37r0,l37r1,l37r2,l37r3,l37r4,l37r5a,l37r5b,l37r5,l37r6,l37r7,l37r8,hd,hvl,hil,innL_VLs,decide_true,Bool.and_self])
 | ((first | refine condB_split (fun h => ?_) (fun h => ?_) | refine gIf_split (fun h => ?_) (fun h => ?_) | refine qIf_split (fun h => ?_) (fun h => ?_)) <;> (try simp only [h]) <;> (try simp only [bitvec_to_nat] at h) <;> (try simp only [h]) <;> (first | (exfalso; omega) | (focus (exfalso; simp_all; done)) | (simp (disch := omega) only [push_cast,seval,hd,hvl,hil,innL_VLs,decide_true,Bool.and_self]) | skip))
 | ((first | refine callD_of false ?_ | refine qcallD_of false ?_); simp (disch := omega) only [push_cast,seval,hd,hvl,hil,innL_VLs,decide_true,Bool.and_self])
 | ((first | ((first | refine call0D (BCall.ofP (eqView_ok _ _ _ _ _ _ _ _ _ _ ?_ ?_ ?_ ?_ ?_)) ?_ | refine qcall0D (BCall.ofP (eqView_ok _ _ _ _ _ _ _ _ _ _ ?_ ?_ ?_ ?_ ?_)) ⟨_,_,rfl,rfl⟩ ?_); (iterate 5 (exact sd)); rintro _ _ ⟨rfl,rfl⟩)) <;> (try simp (disch := omega) only [push_cast,seval,hd,hvl,hil,innL_VLs,decide_true,Bool.and_self]))
 | (refine awp_ret ⟨.inr rfl,_,rfl,?_⟩; (try simp (disch := omega) only [push_cast,seval,hd,hvl,hil,innL_VLs,decide_true,Bool.and_self]))))
      refine ⟨i + 1,by omega,by omega,?_⟩
      (refine Sub.of_lists ?_ ?_ ?_ ?_ ?_ <;> simp [Vw.mkS,Vw.lk,Vw.hk,AV.inn,innL,innL_ints,innL_append,innL_rep,-List.map_set,-List.getD_eq_getElem?_getD,innL_VLs])
    · (repeat' (first
 | (first | refine awp_seq ?_ | refine awp_block ?_)
 | ((first | refine awp_reg ?_ | refine awp_draw (mid := l37r5a) (post := l37r5b) mixed (by decide) ?_ | refine awp_condB ?_ | refine awp_skip ?_ | refine awp_exit ?_); simp (disch := omega) only [push_cast,seval,l37r0,l37r1,l37r2,l37r3,l37r4,l37r5a,l37r5b,l37r5,l37r6,l37r7,l37r8,innL_VLs])
 | ((first | refine condB_split (fun h => ?_) (fun h => ?_) | refine gIf_split (fun h => ?_) (fun h => ?_) | refine qIf_split (fun h => ?_) (fun h => ?_)) <;> (try simp only [h]) <;> (try simp only [bitvec_to_nat] at h) <;> (try simp only [h]) <;> (first | (exfalso; omega) | (focus (exfalso; simp_all; done)) | (simp (disch := omega) only [push_cast,seval,innL_VLs]) | skip))
 | ((first | refine callD_of false ?_ | refine qcallD_of false ?_); simp (disch := omega) only [push_cast,seval,innL_VLs])
 | ((first | ((first | refine call0D (BCall.ofP (eqView_ok _ _ _ _ _ _ _ _ _ _ ?_ ?_ ?_ ?_ ?_)) ?_ | refine qcall0D (BCall.ofP (eqView_ok _ _ _ _ _ _ _ _ _ _ ?_ ?_ ?_ ?_ ?_)) ⟨_,_,rfl,rfl⟩ ?_); (iterate 5 (exact sd)); rintro _ _ ⟨rfl,rfl⟩)) <;> (try simp (disch := omega) only [push_cast,seval,innL_VLs]))
 | (refine awp_ret ⟨.inr rfl,_,rfl,?_⟩; (try simp (disch := omega) only [push_cast,seval,innL_VLs]))))


set_option maxHeartbeats 16000000 in
theorem lTilesOf_ok (vs : List Vw3) (k : Int) (hn : vs.length ≤ 9223372036854775807) (hb : ∀ v ∈ vs,v.2.1.length ≤ 9223372036854775807 ∧ v.2.2.length ≤ 9223372036854775807) : PCall Try.prog 10 [.rows false (VLs vs) vs.length,.int .i64 k] (fun r => r = .bool true) := by
  refine pcall_of l10_eq rfl ?_
  have hq : vs.length ≤ 9223372036854775807 ∧ ∀ v ∈ vs,v.2.1.length ≤ 9223372036854775807 ∧ v.2.2.length ≤ 9223372036854775807 := ⟨hn,hb⟩
  (repeat' (first
 | (first | refine awp_seq ?_ | refine awp_block ?_)
 | ((first | refine awp_reg ?_ | refine awp_condB ?_ | refine awp_skip ?_ | refine awp_exit ?_); simp (disch := omega) only [push_cast,seval,l10r0,l10r1,l10r2,l10r3,l10r4,l10r5,l10r6,l10r7,l10r8,l10r9,l10r10,l10r11,l10r12,innL_VLs])
 | ((first | refine condB_split (fun h => ?_) (fun h => ?_) | refine gIf_split (fun h => ?_) (fun h => ?_) | refine qIf_split (fun h => ?_) (fun h => ?_)) <;> (try simp only [h]) <;> (try simp only [bitvec_to_nat] at h) <;> (try simp only [h]) <;> (first | (exfalso; omega) | (focus (exfalso; simp_all; done)) | (simp (disch := omega) only [push_cast,seval,innL_VLs]) | skip))
 | ((first | refine callD_of false ?_ | refine qcallD_of false ?_); simp (disch := omega) only [push_cast,seval,innL_VLs])
 | ((first | (refine call0D (BCall.ofP (szViewS_ok _ _ _ ?_ ?_ ?_)) ?_; (iterate 3 (exact sd)); rintro _ _ ⟨⟨z,hz,rfl⟩,rfl⟩) | ((first | refine call0D (BCall.ofP (toViewSP_ok _ _ ?_ ?_)) ?_ | refine qcall0D (BCall.ofP (toViewSP_ok _ _ ?_ ?_)) ⟨_,_,rfl,rfl⟩ ?_); (iterate 2 (exact sd)); rintro _ _ ⟨rfl,rfl⟩) | ((first | refine call0D (BCall.ofP (sTi_ok _ _ _ ?_ ?_)) ?_ | refine qcall0D (BCall.ofP (sTi_ok _ _ _ ?_ ?_)) ⟨_,_,rfl,rfl⟩ ?_); (iterate 2 (exact sd)); rintro _ _ ⟨rfl,rfl⟩) | ((first | refine call0D (BCall.ofP (iTi_ok _ _ _ ?_ ?_)) ?_ | refine qcall0D (BCall.ofP (iTi_ok _ _ _ ?_ ?_)) ⟨_,_,rfl,rfl⟩ ?_); (iterate 2 (exact sd)); rintro _ _ ⟨rfl,rfl⟩) | ((first | refine call0D (BCall.ofP (eqViewS_ok _ _ ?_ ?_)) ?_ | refine qcall0D (BCall.ofP (eqViewS_ok _ _ ?_ ?_)) ⟨_,_,rfl,rfl⟩ ?_); (iterate 2 (exact sd)); rintro _ _ ⟨rfl,rfl⟩)) <;> (try simp (disch := omega) only [push_cast,seval,innL_VLs]))
 | (refine awp_ret ⟨.inr rfl,_,rfl,?_⟩; (try simp (disch := omega) only [push_cast,seval,innL_VLs]))))
  obtain ⟨hz1,hz2⟩ := hz h
  have q5 : vs.length ≤ 1048576 ∧ ∀ v ∈ vs,v.2.1.length ≤ 1099511627776 ∧ v.2.2.length ≤ 1099511627776 := ⟨hz1,fun v hv => by have := hz2 v hv; omega⟩
  have q6 : vs.length ≤ 1099511627776 ∧ ∀ v ∈ vs,v.2.1.length ≤ 1099511627776 ∧ v.2.2.length ≤ 1099511627776 := ⟨by omega,q5.2⟩
  (repeat' (first
 | (first | refine awp_seq ?_ | refine awp_block ?_)
 | ((first | refine awp_reg ?_ | refine awp_condB ?_ | refine awp_skip ?_ | refine awp_exit ?_); simp (disch := omega) only [push_cast,seval,l10r0,l10r1,l10r2,l10r3,l10r4,l10r5,l10r6,l10r7,l10r8,l10r9,l10r10,l10r11,l10r12,innL_VLs,innL_VLt,decide_true])
 | ((first | refine condB_split (fun h => ?_) (fun h => ?_) | refine gIf_split (fun h => ?_) (fun h => ?_) | refine qIf_split (fun h => ?_) (fun h => ?_)) <;> (try simp only [h]) <;> (try simp only [bitvec_to_nat] at h) <;> (try simp only [h]) <;> (first | (exfalso; omega) | (focus (exfalso; simp_all; done)) | (simp (disch := omega) only [push_cast,seval,innL_VLs,innL_VLt,decide_true]) | skip))
 | ((first | refine callD_of false ?_ | refine qcallD_of false ?_); simp (disch := omega) only [push_cast,seval,innL_VLs,innL_VLt,decide_true])
 | ((first | (refine call0D (BCall.ofP (szViewS_ok _ _ _ ?_ ?_ ?_)) ?_; (iterate 3 (exact sd)); rintro _ _ ⟨⟨z,hz,rfl⟩,rfl⟩) | ((first | refine call0D (BCall.ofP (toViewSP_ok _ _ ?_ ?_)) ?_ | refine qcall0D (BCall.ofP (toViewSP_ok _ _ ?_ ?_)) ⟨_,_,rfl,rfl⟩ ?_); (iterate 2 (exact sd)); rintro _ _ ⟨rfl,rfl⟩) | ((first | refine call0D (BCall.ofP (sTi_ok _ _ _ ?_ ?_)) ?_ | refine qcall0D (BCall.ofP (sTi_ok _ _ _ ?_ ?_)) ⟨_,_,rfl,rfl⟩ ?_); (iterate 2 (exact sd)); rintro _ _ ⟨rfl,rfl⟩) | ((first | refine call0D (BCall.ofP (iTi_ok _ _ _ ?_ ?_)) ?_ | refine qcall0D (BCall.ofP (iTi_ok _ _ _ ?_ ?_)) ⟨_,_,rfl,rfl⟩ ?_); (iterate 2 (exact sd)); rintro _ _ ⟨rfl,rfl⟩) | ((first | refine call0D (BCall.ofP (eqViewS_ok _ _ ?_ ?_)) ?_ | refine qcall0D (BCall.ofP (eqViewS_ok _ _ ?_ ?_)) ⟨_,_,rfl,rfl⟩ ?_); (iterate 2 (exact sd)); rintro _ _ ⟨rfl,rfl⟩)) <;> (try simp (disch := omega) only [push_cast,seval,innL_VLs,innL_VLt,decide_true]))
 | (refine awp_ret ⟨.inr rfl,_,rfl,?_⟩; (try simp (disch := omega) only [push_cast,seval,innL_VLs,innL_VLt,decide_true]))))
  all_goals skip
theorem flat_V4 : ∀ x0 : List (Int × List Int × List Int × Unit),(x0.flatMap fun p => Vw.enI p.1 ++ (Vw.enS Vw.enI p.2.1 ++ (Vw.enS Vw.enI p.2.2.1 ++ []))) = VLs (x0.map fun p => (p.1,p.2.1,p.2.2.1))
  | [] => rfl
  | p :: r => by
    rw [List.flatMap_cons,flat_V4 r]
    simp [Vw.enI,Vw.enS,Vw.flat_ints,VLs]
theorem lTilesOf2_ok (x0 : List (Int × List Int × List Int × Unit)) (k : Int) (h1 : ∀ a ∈ x0,Vw.goodI a.1 ∧ Vw.goodS Vw.goodI a.2.1 ∧ Vw.goodS Vw.goodI a.2.2.1 ∧ True) (h2 : x0.length ≤ 9223372036854775807) : PCall Try.prog 10 [.rows false (x0.flatMap fun p => Vw.enI p.1 ++ (Vw.enS Vw.enI p.2.1 ++ (Vw.enS Vw.enI p.2.2.1 ++ []))) x0.length,.int .i64 k] (fun r => r = .bool true) := by
  have h := lTilesOf_ok (x0.map fun p => (p.1,p.2.1,p.2.2.1)) k (by simpa using h2) (fun v hv => by
    obtain ⟨a,ha,rfl⟩ := List.mem_map.1 hv
    have := h1 a ha
    exact ⟨this.2.1.2,this.2.2.1.2⟩)
  rw [List.length_map] at h
  rw [flat_V4]
  exact h

end Go.Proofs.Ytnnkeephfdkbiaa
