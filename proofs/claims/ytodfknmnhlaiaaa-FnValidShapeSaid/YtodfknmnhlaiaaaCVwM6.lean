/- The reader of a code. -/
import Derived.Test.YtodfknmnhlaiaaaCVwM2
set_option linter.unusedVariables false
set_option linter.unusedSimpArgs false
set_option linter.unnecessarySimpa false
set_option maxRecDepth 4000
namespace VwM
open Vw
open Go

theorem wrap_id {n : Int} (h0 : 0 ≤ n) (h1 : n < 1099511627776) : IntKind.wrap .i64 n = n := IntWalk.i64_in n (by omega)
theorem xor_bound {a b : Int} (ha : 0 ≤ a ∧ a < 1099511627776) (hb : 0 ≤ b ∧ b < 1099511627776) : 0 ≤ bits .xor .i64 a b ∧ bits .xor .i64 a b < 1099511627776 := by
  have h : (BitVec.ofInt 64 a ^^^ BitVec.ofInt 64 b).toNat < 1099511627776 := by
    rw [BitVec.toNat_xor, BitVec.toNat_ofInt, BitVec.toNat_ofInt]
    have e1 : (a % ((2 ^ 64 : Nat) : Int)).toNat < 2 ^ 40 := by
      rw [Int.emod_eq_of_lt ha.1 (by omega)]; omega
    have e2 : (b % ((2 ^ 64 : Nat) : Int)).toNat < 2 ^ 40 := by
      rw [Int.emod_eq_of_lt hb.1 (by omega)]; omega
    exact Nat.xor_lt_two_pow e1 e2
  have e : bits .xor .i64 a b = IntKind.wrap .i64 ((BitVec.ofInt 64 a ^^^ BitVec.ofInt 64 b).toNat : Int) := rfl
  rw [e, wrap_id (by omega) (by omega)]
  omega
abbrev UL (bs : List Int) : List AV := bs.map (AV.int .u8)
/-- The cells of a reader. -/
abbrev RD (bs : List Int) (p : Int) : List AV := [.rows false (UL bs) bs.length, .int .i64 p]
def okB (bs : List Int) : Prop := bs.length ≤ 2000 ∧ ∀ x ∈ bs, 0 ≤ x ∧ x ≤ 255
theorem okB_at {bs : List Int} (h : okB bs) {i : Nat} (hi : i < bs.length) : 0 ≤ bs.getD i 0 ∧ bs.getD i 0 ≤ 255 := h.2 _ (getD_mem hi)
theorem tmod_bound {x n : Int} (hx : 0 ≤ x) (hn : 0 < n) : 0 ≤ x.tmod n ∧ x.tmod n < n := ⟨Int.tmod_nonneg n hx, Int.tmod_lt_of_pos x hn⟩
/-- The numbers that cells hold. -/
def unI : List AV → List Int
  | [] => []
  | .int _ n :: r => n :: unI r
  | _ :: r => 0 :: unI r
theorem unI_nil : unI [] = [] := rfl
theorem unI_cons (k : IntKind) (n : Int) (r : List AV) : unI (.int k n :: r) = n :: unI r := rfl
theorem unI_IL (xs : List Int) : unI (IL xs) = xs := by
  induction xs with
  | nil => rfl
  | cons x r ih => show x :: unI (IL r) = _; rw [ih]
attribute [simp] unI_nil unI_cons unI_IL
end VwM
