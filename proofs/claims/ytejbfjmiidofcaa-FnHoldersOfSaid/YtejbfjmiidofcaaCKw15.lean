import Derived.Test.YtejbfjmiidofcaaCKw14
import Derived.Test.YtejbfjmiidofcaaCM1
import Derived.Test.YtejbfjmiidofcaaCW3
set_option linter.unusedSimpArgs false
set_option linter.unusedVariables false
set_option maxRecDepth 4000
set_option maxHeartbeats 4000000
namespace Go.Proofs.Ytejbfjmiidofcaa
open VwM Vw Go

def VLt : List Vw3 → List AV
  | [] => []
  | v :: r => .int .i64 v.1 :: .rows true (IL v.2.1) v.2.1.length :: .rows true (IL v.2.2) v.2.2.length :: VLt r
theorem VLt_length : ∀ vs : List Vw3,(VLt vs).length = vs.length * 3
  | [] => rfl
  | v :: r => by simp only [VLt,List.length_cons,VLt_length r]; omega
theorem VLt_append : ∀ vs ws : List Vw3,VLt (vs ++ ws) = VLt vs ++ VLt ws
  | [],_ => rfl
  | v :: r,ws => by simp only [List.cons_append,VLt,VLt_append r ws]
theorem innL_VLt (p : Nat → Bool) : ∀ vs : List Vw3,innL p (VLt vs) = true
  | [] => rfl
  | v :: r => by
    simp only [VLt,innL,AV.inn,innL_VLt p r,Bool.and_true,Bool.true_and,Bool.and_eq_true]
    constructor <;> simp [innL_ints]
theorem innL_all {p : Nat → Bool} : ∀ {L : List AV},(∀ a ∈ L,a.inn p = true) → innL p L = true
  | [],_ => rfl
  | a :: r,h => by
    simp only [innL,Bool.and_eq_true]
    exact ⟨h a (by simp),innL_all fun x hx => h x (by simp [hx])⟩
theorem innL_mem {p : Nat → Bool} : ∀ {L : List AV},innL p L = true → ∀ a ∈ L,a.inn p = true
  | a :: r,h,x,hx => by
    simp only [innL,Bool.and_eq_true] at h
    rcases List.mem_cons.1 hx with e | e
    · rw [e]; exact h.1
    · exact innL_mem h.2 x e
theorem zc_mem {zs : List AV} {n : Nat} {a : AV} (h : a ∈ zcells zs n) : a ∈ zs ∨ a = .unk := by
  simp only [zcells,List.mem_map,List.mem_range] at h
  obtain ⟨i,_,rfl⟩ := h
  by_cases hi : i % zs.length < zs.length
  · left; simp [List.getD,hi]
  · right; simp [List.getD,List.getElem?_eq_none (Nat.le_of_not_lt hi)]
theorem ren_VLt {ρ : Nat → Option Nat} {Zh : Nat → Option (List AV)} {n : Nat} : ∀ vs : List Vw3,(VLt vs).map (AV.ren ρ Zh true some (n + 2)) = VLt vs
  | [] => rfl
  | v :: r => by
    simp only [VLt,List.map_cons,ren_VLt r,List.cons.injEq,and_true]
    refine ⟨rfl,?_,?_⟩ <;> simp [AV.ren,List.map_map,Function.comp_def]
theorem set3 {A D : List AV} {p : Nat} (h : A.length = p) (hD : 3 ≤ D.length) (a b c : AV) : (((A ++ D).set p a).set (p + 1) b).set (p + 2) c = A ++ [a,b,c] ++ D.drop 3 := by
  subst h
  match D,hD with
  | d0 :: d1 :: d2 :: D,_ =>
    simp [List.set_append]
theorem VLt_step {vs : List Vw3} {i : Nat} {b : Int} {sh st : List Int} (hv : vs[i]? = some (b,sh,st)) {Z : List AV} (hZ : Z.length = vs.length * 3) :
    (((VLt (vs.take i) ++ Z.drop (i * 3)).set (i * 3) (.int .i64 b)).set (i * 3 + 1) (.rows true (IL sh) sh.length)).set (i * 3 + 2) (.rows true (IL st) st.length) = VLt (vs.take (i + 1)) ++ Z.drop ((i + 1) * 3) := by
  have hi : i < vs.length := by
    rcases Nat.lt_or_ge i vs.length with h | h
    · exact h
    · rw [List.getElem?_eq_none h] at hv; cases hv
  rw [set3 (by rw [VLt_length,List.length_take]; omega) (by rw [List.length_drop]; omega),List.drop_drop,List.take_add_one,hv,VLt_append,show i * 3 + 3 = (i + 1) * 3 by omega]
  rfl


theorem ren_VLtD {ρ : Nat → Option Nat} {Zh : Nat → Option (List AV)} {n : Nat} : ∀ vs : List Vw3,(VLt vs).map (AV.ren ρ Zh false phiD (n + 2)) = VLs vs
  | [] => rfl
  | v :: r => by
    simp only [VLt,VLs,List.map_cons,ren_VLtD r,List.cons.injEq,and_true]
    refine ⟨rfl,?_,?_⟩ <;> simp [AV.ren,phiD,List.map_map,Function.comp_def]
theorem ren_VLtU {ρ : Nat → Option Nat} {Zh : Nat → Option (List AV)} {n : Nat} {b : Bool} : ∀ vs : List Vw3,(VLt vs).map (AV.ren ρ Zh true (phiU b) (n + 2)) = VLt vs
  | [] => rfl
  | v :: r => by
    simp only [VLt,List.map_cons,ren_VLtU r,List.cons.injEq,and_true]
    refine ⟨rfl,?_,?_⟩ <;> simp [AV.ren,phiU,List.map_map,Function.comp_def]
attribute [push_cast] ren_VLtD ren_VLtU

end Go.Proofs.Ytejbfjmiidofcaa
