/- The rules by which the abstract walk is reckoned, as equations for simp. -/
import Derived.Test.YtodfknmnhlaiaaaCVwK
import Derived.IntWalk
set_option linter.unusedVariables false
namespace Vw
open Go

section
variable (P : Program) (pin : Nat) (K : S → Prop) (σ : List (Nat × AV)) (H : List (Nat × List AV))

theorem ev_tmp (t : Nat) : (mkS σ H).ev (.tmp t) = lk σ t := rfl
theorem ev_const (v : Value) : (mkS σ H).ev (.const v) = ofVal v := rfl
theorem mkS_σ (t : Nat) : (mkS σ H).σ t = lk σ t := rfl
theorem mkS_H (t : Nat) : (mkS σ H).H t = hk H t := rfl
theorem mkS_H' : (mkS σ H).H = hk H := rfl
theorem put_some (d : Nat) (v : AV) : (mkS σ H).put (some d) v none = mkS ((d, v) :: σ) H := by
  simp only [S.put, mkS, updO, upd_lk]
theorem put_some' (d : Nat) (v : AV) (id : Nat) (cs : List AV) : (mkS σ H).put (some d) v (some (id, cs)) = mkS ((d, v) :: σ) ((id, cs) :: H) := by
  simp only [S.put, mkS, updO, upd_lk, upd_hk]
theorem put_none' (v : AV) (id : Nat) (cs : List AV) : (mkS σ H).put none v (some (id, cs)) = mkS σ ((id, cs) :: H) := by
  simp only [S.put, mkS, updO, upd_hk]
theorem put_none (v : AV) : (mkS σ H).put none v none = mkS σ H := by
  simp only [S.put, mkS, updO]

theorem aSeq_nil (s : S) : aSeq P pin [] K s = K s := rfl
/-- What follows a result, once it is known. (No function stands in an argument here: simp does not look ahead.) -/
def bindS (P : Program) (pin : Nat) (K : S → Prop) (r : Res) (dst : Option Nat) (l : List AOper) (s : S) : Prop := match r with | some x => aSeq P pin l K (s.put dst x.1 x.2) | none => False
theorem bindS_some (v : AV) (u : Option (Nat × List AV)) (dst : Option Nat) (l : List AOper) (s : S) : bindS P pin K (some (v, u)) dst l s = aSeq P pin l K (s.put dst v u) := rfl
/-- Two ways, by a test. -/
def gIf (P : Program) (pin : Nat) (K : S → Prop) (g : Bool) (o : AOper) (l : List AOper) (s : S) : Prop := (g = true → aSeq P pin (o :: l) K s) ∧ (g = false → aSeq P pin l K (s.put o.dst .und none))
theorem gIf_true (o : AOper) (l : List AOper) (s : S) : gIf P pin K true o l s = aSeq P pin (o :: l) K s := by simp [gIf]
theorem gIf_false (dst : Option Nat) (op : AOp) (gd : Option (Nat × Bool)) (af : List Nat) (l : List AOper) (s : S) : gIf P pin K false ⟨dst, op, gd, af⟩ l s = aSeq P pin l K (s.put dst .und none) := by simp [gIf]
variable {P pin K} in
theorem gIf_split {g : Bool} {o : AOper} {l : List AOper} {s : S} (h1 : g = true → aSeq P pin (o :: l) K s) (h2 : g = false → aSeq P pin l K (s.put o.dst .und none)) : gIf P pin K g o l s := ⟨h1, h2⟩
def bindG (P : Program) (pin : Nat) (K : S → Prop) (r : Option Bool) (o : AOper) (l : List AOper) (s : S) : Prop := match r with | some g => gIf P pin K g o l s | none => False
theorem bindG_some (g : Bool) (o : AOper) (l : List AOper) (s : S) : bindG P pin K (some g) o l s = gIf P pin K g o l s := rfl

theorem aSeq_guard (dst : Option Nat) (op : AOp) (t : Nat) (b : Bool) (af : List Nat) (r : List AOper) (s : S) :
    aSeq P pin (⟨dst, op, some (t, b), af⟩ :: r) K s = bindG P pin K (aguard s (some (t, b))) ⟨dst, op, none, af⟩ r s := by
  have h1 : aSeq P pin (⟨dst, op, none, af⟩ :: r) K s = astep P pin ⟨dst, op, some (t, b), af⟩ (aSeq P pin r K) s := by
    show (match (some true : Option Bool) with | some g => (g = true → astep P pin ⟨dst, op, none, af⟩ (aSeq P pin r K) s) ∧ (g = false → aSeq P pin r K (s.put dst .und none)) | none => False) = _
    simp only [forall_const, Bool.true_eq_false, false_implies, and_true]
    try rfl
  show (match aguard s (some (t, b)) with | some g => (g = true → astep P pin ⟨dst, op, some (t, b), af⟩ (aSeq P pin r K) s) ∧ (g = false → aSeq P pin r K (s.put dst .und none)) | none => False) = _
  cases aguard s (some (t, b)) with
  | none => rfl
  | some g => simp only [bindG, gIf, h1]
theorem aSeq_call (dst : Option Nat) (f : Nat) (args : List Operand) (af : List Nat) (r : List AOper) (s : S) :
    aSeq P pin (⟨dst, .call f args, none, af⟩ :: r) K s = callOwed P pin f args dst (aSeq P pin r K) s := by
  simp [aSeq, aguard, astep]
theorem aSeq_mv (x : Operand) (dst : Option Nat) (af : List Nat) (r : List AOper) (s : S) :
    aSeq P pin (⟨dst, .mv x, none, af⟩ :: r) K s = bindS P pin K (arun s pin (dst.getD 0) (.mv x)) dst r s := by
  simp only [aSeq, aguard, astep, bindS, forall_const, Bool.true_eq_false, false_implies, and_true]
  generalize arun s pin (dst.getD 0) (AOp.mv x) = z
  cases z <;> rfl
theorem aSeq_pick (c x y : Operand) (dst : Option Nat) (af : List Nat) (r : List AOper) (s : S) :
    aSeq P pin (⟨dst, .pick c x y, none, af⟩ :: r) K s = bindS P pin K (arun s pin (dst.getD 0) (.pick c x y)) dst r s := by
  simp only [aSeq, aguard, astep, bindS, forall_const, Bool.true_eq_false, false_implies, and_true]
  generalize arun s pin (dst.getD 0) (AOp.pick c x y) = z
  cases z <;> rfl
theorem aSeq_alloc (zs : List Value) (dst : Option Nat) (af : List Nat) (r : List AOper) (s : S) :
    aSeq P pin (⟨dst, .alloc zs, none, af⟩ :: r) K s = bindS P pin K (arun s pin (dst.getD 0) (.alloc zs)) dst r s := by
  simp only [aSeq, aguard, astep, bindS, forall_const, Bool.true_eq_false, false_implies, and_true]
  generalize arun s pin (dst.getD 0) (AOp.alloc zs) = z
  cases z <;> rfl
theorem aSeq_box (x : Operand) (dst : Option Nat) (af : List Nat) (r : List AOper) (s : S) :
    aSeq P pin (⟨dst, .box x, none, af⟩ :: r) K s = bindS P pin K (arun s pin (dst.getD 0) (.box x)) dst r s := by
  simp only [aSeq, aguard, astep, bindS, forall_const, Bool.true_eq_false, false_implies, and_true]
  generalize arun s pin (dst.getD 0) (AOp.box x) = z
  cases z <;> rfl
theorem aSeq_build (zs : List Value) (ps : List (Nat × Nat × Operand)) (dst : Option Nat) (af : List Nat) (r : List AOper) (s : S) :
    aSeq P pin (⟨dst, .build zs ps, none, af⟩ :: r) K s = bindS P pin K (arun s pin (dst.getD 0) (.build zs ps)) dst r s := by
  simp only [aSeq, aguard, astep, bindS, forall_const, Bool.true_eq_false, false_implies, and_true]
  generalize arun s pin (dst.getD 0) (AOp.build zs ps) = z
  cases z <;> rfl
theorem aSeq_bslice (sz : Nat) (zs : List Value) (ps : List (Nat × Operand)) (n : Nat) (dst : Option Nat) (af : List Nat) (r : List AOper) (s : S) :
    aSeq P pin (⟨dst, .bslice sz zs ps n, none, af⟩ :: r) K s = bindS P pin K (arun s pin (dst.getD 0) (.bslice sz zs ps n)) dst r s := by
  simp only [aSeq, aguard, astep, bindS, forall_const, Bool.true_eq_false, false_implies, and_true]
  generalize arun s pin (dst.getD 0) (AOp.bslice sz zs ps n) = z
  cases z <;> rfl
theorem aSeq_load (g : Bool) (sz : Nat) (x : Operand) (dst : Option Nat) (af : List Nat) (r : List AOper) (s : S) :
    aSeq P pin (⟨dst, .load g sz x, none, af⟩ :: r) K s = bindS P pin K (arun s pin (dst.getD 0) (.load g sz x)) dst r s := by
  simp only [aSeq, aguard, astep, bindS, forall_const, Bool.true_eq_false, false_implies, and_true]
  generalize arun s pin (dst.getD 0) (AOp.load g sz x) = z
  cases z <;> rfl
theorem aSeq_store (sz : Nat) (x v : Operand) (dst : Option Nat) (af : List Nat) (r : List AOper) (s : S) :
    aSeq P pin (⟨dst, .store sz x v, none, af⟩ :: r) K s = bindS P pin K (arun s pin (dst.getD 0) (.store sz x v)) dst r s := by
  simp only [aSeq, aguard, astep, bindS, forall_const, Bool.true_eq_false, false_implies, and_true]
  generalize arun s pin (dst.getD 0) (AOp.store sz x v) = z
  cases z <;> rfl
theorem aSeq_bin (o : BinOp) (x y : Operand) (dst : Option Nat) (af : List Nat) (r : List AOper) (s : S) :
    aSeq P pin (⟨dst, .bin o x y, none, af⟩ :: r) K s = bindS P pin K (arun s pin (dst.getD 0) (.bin o x y)) dst r s := by
  simp only [aSeq, aguard, astep, bindS, forall_const, Bool.true_eq_false, false_implies, and_true]
  generalize arun s pin (dst.getD 0) (AOp.bin o x y) = z
  cases z <;> rfl
theorem aSeq_binB (o : BinOp) (x y : Operand) (dst : Option Nat) (af : List Nat) (r : List AOper) (s : S) :
    aSeq P pin (⟨dst, .binB o x y, none, af⟩ :: r) K s = bindS P pin K (arun s pin (dst.getD 0) (.binB o x y)) dst r s := by
  simp only [aSeq, aguard, astep, bindS, forall_const, Bool.true_eq_false, false_implies, and_true]
  generalize arun s pin (dst.getD 0) (AOp.binB o x y) = z
  cases z <;> rfl
theorem aSeq_un (o : UnOp) (x : Operand) (dst : Option Nat) (af : List Nat) (r : List AOper) (s : S) :
    aSeq P pin (⟨dst, .un o x, none, af⟩ :: r) K s = bindS P pin K (arun s pin (dst.getD 0) (.un o x)) dst r s := by
  simp only [aSeq, aguard, astep, bindS, forall_const, Bool.true_eq_false, false_implies, and_true]
  generalize arun s pin (dst.getD 0) (AOp.un o x) = z
  cases z <;> rfl
theorem aSeq_conv (k : IntKind) (x : Operand) (dst : Option Nat) (af : List Nat) (r : List AOper) (s : S) :
    aSeq P pin (⟨dst, .conv k x, none, af⟩ :: r) K s = bindS P pin K (arun s pin (dst.getD 0) (.conv k x)) dst r s := by
  simp only [aSeq, aguard, astep, bindS, forall_const, Bool.true_eq_false, false_implies, and_true]
  generalize arun s pin (dst.getD 0) (AOp.conv k x) = z
  cases z <;> rfl
theorem aSeq_nilck (x : Operand) (dst : Option Nat) (af : List Nat) (r : List AOper) (s : S) :
    aSeq P pin (⟨dst, .nilck x, none, af⟩ :: r) K s = bindS P pin K (arun s pin (dst.getD 0) (.nilck x)) dst r s := by
  simp only [aSeq, aguard, astep, bindS, forall_const, Bool.true_eq_false, false_implies, and_true]
  generalize arun s pin (dst.getD 0) (AOp.nilck x) = z
  cases z <;> rfl
theorem aSeq_mkslice (sz : Nat) (zs : List Value) (l c : Operand) (dst : Option Nat) (af : List Nat) (r : List AOper) (s : S) :
    aSeq P pin (⟨dst, .mkslice sz zs l c, none, af⟩ :: r) K s = bindS P pin K (arun s pin (dst.getD 0) (.mkslice sz zs l c)) dst r s := by
  simp only [aSeq, aguard, astep, bindS, forall_const, Bool.true_eq_false, false_implies, and_true]
  generalize arun s pin (dst.getD 0) (AOp.mkslice sz zs l c) = z
  cases z <;> rfl
theorem aSeq_slice (sz : Nat) (x : Operand) (lo hi : Option Operand) (dst : Option Nat) (af : List Nat) (r : List AOper) (s : S) :
    aSeq P pin (⟨dst, .slice sz x lo hi, none, af⟩ :: r) K s = bindS P pin K (arun s pin (dst.getD 0) (.slice sz x lo hi)) dst r s := by
  simp only [aSeq, aguard, astep, bindS, forall_const, Bool.true_eq_false, false_implies, and_true]
  generalize arun s pin (dst.getD 0) (AOp.slice sz x lo hi) = z
  cases z <;> rfl
theorem aSeq_sliceS (x : Operand) (lo hi : Option Operand) (dst : Option Nat) (af : List Nat) (r : List AOper) (s : S) :
    aSeq P pin (⟨dst, .sliceS x lo hi, none, af⟩ :: r) K s = bindS P pin K (arun s pin (dst.getD 0) (.sliceS x lo hi)) dst r s := by
  simp only [aSeq, aguard, astep, bindS, forall_const, Bool.true_eq_false, false_implies, and_true]
  generalize arun s pin (dst.getD 0) (AOp.sliceS x lo hi) = z
  cases z <;> rfl
theorem aSeq_fld (o : Nat) (x : Operand) (dst : Option Nat) (af : List Nat) (r : List AOper) (s : S) :
    aSeq P pin (⟨dst, .fld o x, none, af⟩ :: r) K s = bindS P pin K (arun s pin (dst.getD 0) (.fld o x)) dst r s := by
  simp only [aSeq, aguard, astep, bindS, forall_const, Bool.true_eq_false, false_implies, and_true]
  generalize arun s pin (dst.getD 0) (AOp.fld o x) = z
  cases z <;> rfl
theorem aSeq_fldv (g : Bool) (o sz : Nat) (x : Operand) (dst : Option Nat) (af : List Nat) (r : List AOper) (s : S) :
    aSeq P pin (⟨dst, .fldv g o sz x, none, af⟩ :: r) K s = bindS P pin K (arun s pin (dst.getD 0) (.fldv g o sz x)) dst r s := by
  simp only [aSeq, aguard, astep, bindS, forall_const, Bool.true_eq_false, false_implies, and_true]
  generalize arun s pin (dst.getD 0) (AOp.fldv g o sz x) = z
  cases z <;> rfl
theorem aSeq_idxA (sz : Nat) (x i : Operand) (dst : Option Nat) (af : List Nat) (r : List AOper) (s : S) :
    aSeq P pin (⟨dst, .idxA sz x i, none, af⟩ :: r) K s = bindS P pin K (arun s pin (dst.getD 0) (.idxA sz x i)) dst r s := by
  simp only [aSeq, aguard, astep, bindS, forall_const, Bool.true_eq_false, false_implies, and_true]
  generalize arun s pin (dst.getD 0) (AOp.idxA sz x i) = z
  cases z <;> rfl
theorem aSeq_idxP (sz n : Nat) (x i : Operand) (dst : Option Nat) (af : List Nat) (r : List AOper) (s : S) :
    aSeq P pin (⟨dst, .idxP sz n x i, none, af⟩ :: r) K s = bindS P pin K (arun s pin (dst.getD 0) (.idxP sz n x i)) dst r s := by
  simp only [aSeq, aguard, astep, bindS, forall_const, Bool.true_eq_false, false_implies, and_true]
  generalize arun s pin (dst.getD 0) (AOp.idxP sz n x i) = z
  cases z <;> rfl
theorem aSeq_idxS (x i : Operand) (dst : Option Nat) (af : List Nat) (r : List AOper) (s : S) :
    aSeq P pin (⟨dst, .idxS x i, none, af⟩ :: r) K s = bindS P pin K (arun s pin (dst.getD 0) (.idxS x i)) dst r s := by
  simp only [aSeq, aguard, astep, bindS, forall_const, Bool.true_eq_false, false_implies, and_true]
  generalize arun s pin (dst.getD 0) (AOp.idxS x i) = z
  cases z <;> rfl
theorem aSeq_extract (x : Operand) (i : Nat) (dst : Option Nat) (af : List Nat) (r : List AOper) (s : S) :
    aSeq P pin (⟨dst, .extract x i, none, af⟩ :: r) K s = bindS P pin K (arun s pin (dst.getD 0) (.extract x i)) dst r s := by
  simp only [aSeq, aguard, astep, bindS, forall_const, Bool.true_eq_false, false_implies, and_true]
  generalize arun s pin (dst.getD 0) (AOp.extract x i) = z
  cases z <;> rfl
theorem aSeq_len (x : Operand) (dst : Option Nat) (af : List Nat) (r : List AOper) (s : S) :
    aSeq P pin (⟨dst, .len x, none, af⟩ :: r) K s = bindS P pin K (arun s pin (dst.getD 0) (.len x)) dst r s := by
  simp only [aSeq, aguard, astep, bindS, forall_const, Bool.true_eq_false, false_implies, and_true]
  generalize arun s pin (dst.getD 0) (AOp.len x) = z
  cases z <;> rfl
theorem aSeq_lenS (x : Operand) (dst : Option Nat) (af : List Nat) (r : List AOper) (s : S) :
    aSeq P pin (⟨dst, .lenS x, none, af⟩ :: r) K s = bindS P pin K (arun s pin (dst.getD 0) (.lenS x)) dst r s := by
  simp only [aSeq, aguard, astep, bindS, forall_const, Bool.true_eq_false, false_implies, and_true]
  generalize arun s pin (dst.getD 0) (AOp.lenS x) = z
  cases z <;> rfl
theorem aSeq_append (sz : Nat) (x y : Operand) (dst : Option Nat) (af : List Nat) (r : List AOper) (s : S) :
    aSeq P pin (⟨dst, .append sz x y, none, af⟩ :: r) K s = bindS P pin K (arun s pin (dst.getD 0) (.append sz x y)) dst r s := by
  simp only [aSeq, aguard, astep, bindS, forall_const, Bool.true_eq_false, false_implies, and_true]
  generalize arun s pin (dst.getD 0) (AOp.append sz x y) = z
  cases z <;> rfl
theorem lk_cons (t n : Nat) (v : AV) (r : List (Nat × AV)) : lk ((t, v) :: r) n = if n = t then v else lk r n := rfl
theorem hk_cons (t n : Nat) (v : List AV) (r : List (Nat × List AV)) : hk ((t, v) :: r) n = if n = t then some v else hk r n := rfl
theorem lk_here (t : Nat) (v : AV) (r : List (Nat × AV)) : lk ((t, v) :: r) t = v := by simp [lk]
theorem lk_past (t n : Nat) (v : AV) (r : List (Nat × AV)) (h : (n == t) = false) : lk ((t, v) :: r) n = lk r n := by
  have : ¬ n = t := by simpa using h
  simp [lk, this]
theorem hk_here (t : Nat) (v : List AV) (r : List (Nat × List AV)) : hk ((t, v) :: r) t = some v := by simp [hk]
theorem hk_past (t n : Nat) (v : List AV) (r : List (Nat × List AV)) (h : (n == t) = false) : hk ((t, v) :: r) n = hk r n := by
  have : ¬ n = t := by simpa using h
  simp [hk, this]
theorem hk_nil (n : Nat) : hk [] n = none := rfl


/-! ### Operations, constructor by constructor -/

def pickR : AV → AV → AV → Res
  | .bool t, .bool x, .bool y => some (.bool (if t then x else y), none)
  | .bool t, x, y => some (if t then x else y, none)
  | _, _, _ => none
theorem pickR_true (x y : AV) : pickR (.bool true) x y = some (x, none) := by cases x <;> cases y <;> rfl
theorem pickR_false (x y : AV) : pickR (.bool false) x y = some (y, none) := by cases x <;> cases y <;> rfl
theorem pickR_bool (t x y : Bool) : pickR (.bool t) (.bool x) (.bool y) = some (.bool (if t then x else y), none) := rfl
def gOf : AV → Bool → Option Bool
  | .bool c, b => some (c == b)
  | .und, _ => some false
  | _, _ => none
theorem gOf_t (c : Bool) : gOf (.bool c) true = some c := by cases c <;> rfl
theorem gOf_f (c : Bool) : gOf (.bool c) false = some (!c) := by cases c <;> rfl
theorem gOf_und (b : Bool) : gOf .und b = some false := rfl
theorem aguard_some (s : S) (t : Nat) (b : Bool) : aguard s (some (t, b)) = gOf (s.σ t) b := by
  show (match s.σ t with | .bool c => some (c == b) | .und => some false | _ => none) = _
  generalize s.σ t = x
  cases x <;> rfl

/-- A new object, where its number is free. -/
def newR (free : Bool) (v : AV) (id : Nat) (cs : List AV) : Res := if free then some (v, some (id, cs)) else none
theorem newR_true (v : AV) (id : Nat) (cs : List AV) : newR true v id cs = some (v, some (id, cs)) := rfl
def freeB (H : Nat → Option (List AV)) (pin id : Nat) : Bool := (H id).isNone && decide (pin ≤ id)
theorem freeB_eq (H : Nat → Option (List AV)) (pin id : Nat) : freeB H pin id = ((H id).isNone && decide (pin ≤ id)) := rfl

def boxR (free : Bool) (id : Nat) : Option (List AV) → Res
  | some cs => newR free (.ref id cs.length 0) id cs
  | none => none
theorem boxR_some (free : Bool) (id : Nat) (cs : List AV) : boxR free id (some cs) = newR free (.ref id cs.length 0) id cs := rfl

def withO {α : Type} (o : Option α) (k : α → Res) : Res := match o with | some x => k x | none => none
theorem withO_some {α : Type} (x : α) (k : α → Res) : withO (some x) k = k x := rfl
@[congr] theorem withO_congr {α : Type} {o o' : Option α} {k : α → Res} (h : o = o') : withO o k = withO o' k := by rw [h]
/-- A result under a condition. -/
def ifR (c : Prop) [Decidable c] (x : Res) : Res := if c then x else none
theorem ifR_eq (c : Prop) [Decidable c] (x : Res) : ifR c x = if c then x else none := rfl

theorem cells_agg (cs : List AV) : (AV.agg cs).cells = if cs.all AV.isCell = true then some cs else none := rfl
theorem cells_int (k : IntKind) (n : Int) : (AV.int k n).cells = some [.int k n] := rfl
theorem cells_bool (b : Bool) : (AV.bool b).cells = some [.bool b] := rfl
theorem cells_str (b : ByteArray) : (AV.str b).cells = some [.str b] := rfl
theorem cells_rows (fr : Bool) (cs : List AV) (n : Nat) : (AV.rows fr cs n).cells = some [.rows fr cs n] := rfl
theorem cells_own (i n sz : Nat) : (AV.own i n sz).cells = some [.own i n sz] := rfl
theorem cells_ref (i n o : Nat) : (AV.ref i n o).cells = some [.ref i n o] := rfl
theorem cells_nil : (AV.val (.slice none 0 0)).cells = some [.val (.slice none 0 0)] := rfl
theorem cells_ptr (a : Option Addr) : (AV.val (.pointer a)).cells = some [.val (.pointer a)] := rfl
theorem isCell_int (k : IntKind) (n : Int) : (AV.int k n).isCell = true := rfl
theorem isCell_bool (b : Bool) : (AV.bool b).isCell = true := rfl
theorem isCell_str (b : ByteArray) : (AV.str b).isCell = true := rfl
theorem isCell_rows (fr : Bool) (cs : List AV) (n : Nat) : (AV.rows fr cs n).isCell = true := rfl
theorem isCell_osl (id len off n sz : Nat) : AV.isCell (.osl id len off n sz) = true := rfl
theorem isCell_own (i n sz : Nat) : (AV.own i n sz).isCell = true := rfl
theorem isCell_ref (i n o : Nat) : (AV.ref i n o).isCell = true := rfl
theorem isCell_nil : (AV.val (.slice none 0 0)).isCell = true := rfl
theorem all_isCell_ints (k : IntKind) (xs : List Int) : (xs.map (AV.int k)).all AV.isCell = true := by
  rw [List.all_eq_true]; intro x hx; obtain ⟨y, _, rfl⟩ := List.mem_map.1 hx; rfl

theorem ofVal_int (k : IntKind) (n : Int) : ofVal (.int k n) = .int k n := rfl
theorem ofVal_bool (b : Bool) : ofVal (.bool b) = .bool b := rfl
theorem ofVal_str (b : ByteArray) : ofVal (.string b) = .str b := rfl
theorem ofVal_slice (a : Option Addr) (n c : Nat) : ofVal (.slice a n c) = .val (.slice a n c) := rfl
theorem ofVal_pointer (a : Option Addr) : ofVal (.pointer a) = .val (.pointer a) := rfl
theorem ofVal_agg (l : List Value) : ofVal (.agg l.toArray) = .agg (l.map ofCell) := rfl
theorem ofCell_int (k : IntKind) (n : Int) : ofCell (.int k n) = .int k n := rfl
theorem ofCell_bool (b : Bool) : ofCell (.bool b) = .bool b := rfl
theorem ofCell_str (b : ByteArray) : ofCell (.string b) = .str b := rfl
theorem ofCell_slice (a : Option Addr) (n c : Nat) : ofCell (.slice a n c) = .val (.slice a n c) := rfl
theorem ofCell_pointer (a : Option Addr) : ofCell (.pointer a) = .val (.pointer a) := rfl

section
variable (s : S) (d : Nat)
theorem arun_mv (x : Operand) : arun s pin d (.mv x) = some (s.ev x, none) := rfl
theorem arun_pick (c a b : Operand) : arun s pin d (.pick c a b) = pickR (s.ev c) (s.ev a) (s.ev b) := by
  simp only [arun, pickR]
  cases s.ev c <;> try rfl
  cases s.ev a <;> cases s.ev b <;> rfl
theorem arun_alloc (zs : List Value) : arun s pin d (.alloc zs) = newR (freeB s.H pin (16 * d)) (.ref (16 * d) zs.length 0) (16 * d) (zs.map ofCell) := by
  simp only [arun, newR, freeB, Bool.and_eq_true, decide_eq_true_eq]
theorem arun_box (x : Operand) : arun s pin d (.box x) = boxR (freeB s.H pin (16 * d)) (16 * d) (s.ev x).cells := by
  simp only [arun]
  cases (s.ev x).cells with
  | none => rfl
  | some cs => simp only [boxR, newR, freeB, Bool.and_eq_true, decide_eq_true_eq]
theorem arun_build (zs : List Value) (ps : List (Nat × Nat × Operand)) : arun s pin d (.build zs ps) = (fillR (zs.map ofCell) (ps.map fun p => (p.1, p.2.1, s.ev p.2.2))).map fun cs => (.agg cs, none) := rfl
theorem arun_bslice (sz : Nat) (zs : List Value) (ps : List (Nat × Operand)) (n : Nat) : arun s pin d (.bslice sz zs ps n) =
    withO (fillR (zcells (zs.map ofCell) n) (ps.map fun p => (p.1 * sz, sz, s.ev p.2))) fun cs => newR (freeB s.H pin (16 * d)) (.own (16 * d) n sz) (16 * d) cs := by
  simp only [arun, withO, newR, freeB, Bool.and_eq_true, decide_eq_true_eq]
  cases fillR (zcells (zs.map ofCell) n) (ps.map fun p => (p.1 * sz, sz, s.ev p.2)) <;> simp
theorem arun_load (agg : Bool) (sz : Nat) (x : Operand) : arun s pin d (.load agg sz x) = pureR (loadAV s.H agg sz (s.ev x)) := rfl
def storeR (H : Nat → Option (List AV)) (sz : Nat) (x : AV) (l : Option (List AV)) : Res :=
  match x with
  | .ref id len off => withO (H id) fun cs => withO l fun l => ifR (cs.length = len ∧ off + sz ≤ len ∧ l.length = sz) (some (.und, some (id, setRange cs off l)))
  | _ => none
theorem storeR_ref (H : Nat → Option (List AV)) (sz id len off : Nat) (l : Option (List AV)) : storeR H sz (.ref id len off) l = withO (H id) fun cs => withO l fun l => ifR (cs.length = len ∧ off + sz ≤ len ∧ l.length = sz) (some (.und, some (id, setRange cs off l))) := rfl
theorem arun_store (sz : Nat) (x v : Operand) : arun s pin d (.store sz x v) = storeR s.H sz (s.ev x) (s.ev v).cells := by
  simp only [arun, storeR, withO, ifR]
  generalize s.ev x = y
  generalize (s.ev v).cells = l
  cases y <;> try rfl
  rename_i id len off
  simp only
  generalize s.H id = q
  cases q <;> cases l <;> rfl
theorem arun_bin (op : BinOp) (x y : Operand) : arun s pin d (.bin op x y) = pureR (abin op (s.ev x) (s.ev y)) := rfl
theorem arun_binB (op : BinOp) (x y : Operand) : arun s pin d (.binB op x y) = pureR (abinB op (s.ev x) (s.ev y)) := rfl
theorem arun_un (op : UnOp) (x : Operand) : arun s pin d (.un op x) = pureR (aun op (s.ev x)) := rfl
def convR (k : IntKind) : AV → Res
  | .int _ n => some (.int k (k.wrap n), none)
  | _ => none
theorem convR_int (k k' : IntKind) (n : Int) : convR k (.int k' n) = some (.int k (k.wrap n), none) := rfl
theorem arun_conv (k : IntKind) (x : Operand) : arun s pin d (.conv k x) = convR k (s.ev x) := by simp only [arun, convR]; cases s.ev x <;> rfl
def nilR (H : Nat → Option (List AV)) : AV → Res
  | .ref id len off => withO (H id) fun cs => ifR (cs.length = len) (some (.ref id len off, none))
  | .prow fr cs off => some (.prow fr cs off, none)
  | _ => none
theorem nilR_ref (H : Nat → Option (List AV)) (id len off : Nat) : nilR H (.ref id len off) = withO (H id) fun cs => ifR (cs.length = len) (some (.ref id len off, none)) := rfl
theorem nilR_prow (H : Nat → Option (List AV)) (fr : Bool) (cs : List AV) (off : Nat) : nilR H (.prow fr cs off) = some (.prow fr cs off, none) := rfl
theorem arun_nilck (x : Operand) : arun s pin d (.nilck x) = nilR s.H (s.ev x) := by
  simp only [arun, nilR, withO, ifR]
  cases s.ev x <;> first | rfl | (simp only []; generalize s.H _ = q; cases q <;> rfl)
def mksR (free : Bool) (id sz : Nat) (zs : List AV) : AV → AV → Res
  | .int _ n, .int _ m => ifR (n = m ∧ 0 ≤ n ∧ n ≤ 1099511627776) (newR free (.own id n.toNat sz) id (zcells zs n.toNat))
  | _, _ => none
theorem mksR_int (free : Bool) (id sz : Nat) (zs : List AV) (k k' : IntKind) (n m : Int) : mksR free id sz zs (.int k n) (.int k' m) = ifR (n = m ∧ 0 ≤ n ∧ n ≤ 1099511627776) (newR free (.own id n.toNat sz) id (zcells zs n.toNat)) := rfl
theorem arun_mkslice (sz : Nat) (zs : List Value) (l c : Operand) : arun s pin d (.mkslice sz zs l c) = mksR (freeB s.H pin (16 * d)) (16 * d) sz (zs.map ofCell) (s.ev l) (s.ev c) := by
  simp only [arun, mksR]
  cases s.ev l <;> cases s.ev c <;> try rfl
  simp only [ifR, newR, freeB, Bool.and_eq_true, decide_eq_true_eq]
  rename_i k1 n1 k2 n2
  by_cases h1 : (s.H (16 * d)).isNone = true <;> by_cases h2 : pin ≤ 16 * d <;> by_cases h3 : n1 = n2 <;> by_cases h4 : 0 ≤ n1 <;> by_cases h5 : n1 ≤ 1099511627776 <;> simp [h1, h2, h3, h4, h5]
def fldR (H : Nat → Option (List AV)) (off : Nat) : AV → Res
  | .ref id len o => withO (H id) fun cs => ifR (cs.length = len) (some (.ref id len (o + off), none))
  | .prow fr cs o => some (.prow fr cs (o + off), none)
  | _ => none
theorem fldR_ref (H : Nat → Option (List AV)) (off id len o : Nat) : fldR H off (.ref id len o) = withO (H id) fun cs => ifR (cs.length = len) (some (.ref id len (o + off), none)) := rfl
theorem fldR_prow (H : Nat → Option (List AV)) (off : Nat) (fr : Bool) (cs : List AV) (o : Nat) : fldR H off (.prow fr cs o) = some (.prow fr cs (o + off), none) := rfl
theorem arun_fld (off : Nat) (x : Operand) : arun s pin d (.fld off x) = fldR s.H off (s.ev x) := by
  simp only [arun, fldR, withO, ifR]
  cases s.ev x <;> first | rfl | (simp only []; generalize s.H _ = q; cases q <;> rfl)
def fldvR (agg : Bool) (off sz : Nat) : AV → Res
  | .agg cs => ifR (off + sz ≤ cs.length) (pureR (mkAV agg ((cs.drop off).take sz)))
  | _ => none
theorem fldvR_agg (agg : Bool) (off sz : Nat) (cs : List AV) : fldvR agg off sz (.agg cs) = ifR (off + sz ≤ cs.length) (pureR (mkAV agg ((cs.drop off).take sz))) := rfl
theorem arun_fldv (agg : Bool) (off sz : Nat) (x : Operand) : arun s pin d (.fldv agg off sz x) = fldvR agg off sz (s.ev x) := by
  simp only [arun, fldvR, ifR]
  cases s.ev x <;> rfl
def withO' {β : Type} (o : Option (List AV)) (f : List AV → Option β) : Option β := match o with | some cs => f cs | none => none
theorem withO'_some {β : Type} (cs : List AV) (f : List AV → Option β) : withO' (some cs) f = f cs := rfl
def idxR (H : Nat → Option (List AV)) (sz : Nat) : AV → AV → Res
  | .int _ j, .rows fr cs n => ifR (0 ≤ j ∧ j < n) (some (.prow fr cs (j.toNat * sz), none))
  | .int _ j, .own id n sz' => withO (H id) fun cs => ifR (cs.length = n * sz' ∧ 0 ≤ j ∧ j < n) (some (.ref id (n * sz') (j.toNat * sz), none))
  | .int _ j, .osl id len off n sz' => withO (H id) fun cs => ifR (cs.length = len ∧ 0 ≤ j ∧ j < n) (some (.ref id len (off + j.toNat * sz), none))
  | _, _ => none
theorem idxR_osl (H : Nat → Option (List AV)) (sz : Nat) (k : IntKind) (j : Int) (id len off n sz' : Nat) : idxR H sz (.int k j) (.osl id len off n sz') = withO (H id) fun cs => ifR (cs.length = len ∧ 0 ≤ j ∧ j < n) (some (.ref id len (off + j.toNat * sz), none)) := rfl
theorem idxR_rows (H : Nat → Option (List AV)) (sz : Nat) (k : IntKind) (j : Int) (fr : Bool) (cs : List AV) (n : Nat) : idxR H sz (.int k j) (.rows fr cs n) = ifR (0 ≤ j ∧ j < n) (some (.prow fr cs (j.toNat * sz), none)) := rfl
theorem idxR_own (H : Nat → Option (List AV)) (sz : Nat) (k : IntKind) (j : Int) (id n sz' : Nat) : idxR H sz (.int k j) (.own id n sz') = withO (H id) fun cs => ifR (cs.length = n * sz' ∧ 0 ≤ j ∧ j < n) (some (.ref id (n * sz') (j.toNat * sz), none)) := rfl
theorem arun_idxA (sz : Nat) (x i : Operand) : arun s pin d (.idxA sz x i) = idxR s.H sz (s.ev i) (s.ev x) := by
  simp only [arun, idxR, withO, ifR]
  cases s.ev i <;> cases s.ev x <;> first | rfl | (simp only []; generalize s.H _ = q; cases q <;> rfl)
def idxPR (H : Nat → Option (List AV)) (sz n : Nat) : AV → AV → Res
  | .int _ j, .ref id len o => withO (H id) fun cs => ifR (cs.length = len ∧ 0 ≤ j ∧ j < n) (some (.ref id len (o + j.toNat * sz), none))
  | _, _ => none
theorem idxPR_ref (H : Nat → Option (List AV)) (sz n : Nat) (k : IntKind) (j : Int) (id len o : Nat) : idxPR H sz n (.int k j) (.ref id len o) = withO (H id) fun cs => ifR (cs.length = len ∧ 0 ≤ j ∧ j < n) (some (.ref id len (o + j.toNat * sz), none)) := rfl
theorem arun_idxP (sz n : Nat) (x i : Operand) : arun s pin d (.idxP sz n x i) = idxPR s.H sz n (s.ev i) (s.ev x) := by
  simp only [arun, idxPR, withO, ifR]
  cases s.ev i <;> cases s.ev x <;> first | rfl | (simp only []; generalize s.H _ = q; cases q <;> rfl)
def minR (mx : Bool) : AV → AV → Res
  | .int k a, .int _ b => some (.int k (if mx then max a b else min a b), none)
  | _, _ => none
theorem minR_min (k k' : IntKind) (a b : Int) : minR false (.int k a) (.int k' b) = some (.int k (min a b), none) := rfl
theorem minR_max (k k' : IntKind) (a b : Int) : minR true (.int k a) (.int k' b) = some (.int k (max a b), none) := rfl
theorem arun_minmax (mx : Bool) (x y : Operand) : arun s pin d (.minmax mx x y) = minR mx (s.ev x) (s.ev y) := by
  simp only [arun, minR]
  cases s.ev x <;> cases s.ev y <;> rfl
def eqSR (neg : Bool) (l : List (Nat × Option IntKind)) : AV → AV → Res
  | .agg cs, .agg ds => (eqCells l cs ds).map fun b => (.bool (if neg then !b else b), none)
  | _, _ => none
theorem eqSR_agg (neg : Bool) (l : List (Nat × Option IntKind)) (cs ds : List AV) : eqSR neg l (.agg cs) (.agg ds) = (eqCells l cs ds).map fun b => (.bool (if neg then !b else b), none) := rfl
theorem arun_eqS (neg : Bool) (l : List (Nat × Option IntKind)) (x y : Operand) : arun s pin d (.eqS neg l x y) = eqSR neg l (s.ev x) (s.ev y) := by
  simp only [arun, eqSR]
  cases s.ev x <;> cases s.ev y <;> rfl
def eqI (k : IntKind) : Option AV → Option AV → Option Bool → Option Bool
  | some (.int k1 a), some (.int k2 b), some t => if k1 = k ∧ k2 = k then some (decide (a = b) && t) else none
  | _, _, _ => none
def eqB : Option AV → Option AV → Option Bool → Option Bool
  | some (.bool a), some (.bool b), some t => some ((a == b) && t)
  | _, _, _ => none
theorem eqI_int (k : IntKind) (a b : Int) (t : Bool) : eqI k (some (.int k a)) (some (.int k b)) (some t) = some (decide (a = b) && t) := by simp [eqI]
theorem eqB_bool (a b t : Bool) : eqB (some (.bool a)) (some (.bool b)) (some t) = some ((a == b) && t) := rfl
theorem eqCells_nil (cs ds : List AV) : eqCells [] cs ds = some true := rfl
theorem eqCells_int (o : Nat) (k : IntKind) (r : List (Nat × Option IntKind)) (cs ds : List AV) : eqCells ((o, some k) :: r) cs ds = eqI k cs[o]? ds[o]? (eqCells r cs ds) := rfl
theorem eqCells_bool (o : Nat) (r : List (Nat × Option IntKind)) (cs ds : List AV) : eqCells ((o, none) :: r) cs ds = eqB cs[o]? ds[o]? (eqCells r cs ds) := rfl
/-- A slice expression. -/
def slR (H : Nat → Option (List AV)) (sz : Nat) (lo hi : Option AV) : AV → Res
  | .rows fr cs n => match bnd n n hi with
    | some h => match bnd h 0 lo with
      | some l => some (.rows fr ((cs.drop (l * sz)).take ((h - l) * sz)) (h - l), none)
      | none => none
    | none => none
  | .own id n sz' => match H id, bnd n n hi with
    | some cs, some h => match bnd h 0 lo with
      | some l => if cs.length = n * sz ∧ sz' = sz then some (.osl id (n * sz) (l * sz) (h - l) sz, none) else none
      | none => none
    | _, _ => none
  | .osl id len off n sz' => match H id, bnd n n hi with
    | some cs, some h => match bnd h 0 lo with
      | some l => if cs.length = len ∧ sz' = sz then some (.osl id len (off + l * sz) (h - l) sz, none) else none
      | none => none
    | _, _ => none
  | _ => none
theorem arun_slice (sz : Nat) (x : Operand) (lo hi : Option Operand) : arun s pin d (.slice sz x lo hi) = slR s.H sz (lo.map s.ev) (hi.map s.ev) (s.ev x) := by
  simp only [arun, slR]
  cases s.ev x <;> rfl
def slRows (fr : Bool) (cs : List AV) (sz : Nat) (lo : Option AV) : Option Nat → Res
  | some h => match bnd h 0 lo with
    | some l => some (.rows fr ((cs.drop (l * sz)).take ((h - l) * sz)) (h - l), none)
    | none => none
  | none => none
def slRows2 (fr : Bool) (cs : List AV) (sz h : Nat) : Option Nat → Res
  | some l => some (.rows fr ((cs.drop (l * sz)).take ((h - l) * sz)) (h - l), none)
  | none => none
theorem slR_rows (H : Nat → Option (List AV)) (sz : Nat) (lo hi : Option AV) (fr : Bool) (cs : List AV) (n : Nat) : slR H sz lo hi (.rows fr cs n) = slRows fr cs sz lo (bnd n n hi) := rfl
theorem slRows_some (fr : Bool) (cs : List AV) (sz h : Nat) (lo : Option AV) : slRows fr cs sz lo (some h) = slRows2 fr cs sz h (bnd h 0 lo) := rfl
theorem slRows2_some (fr : Bool) (cs : List AV) (sz h l : Nat) : slRows2 fr cs sz h (some l) = some (.rows fr ((cs.drop (l * sz)).take ((h - l) * sz)) (h - l), none) := rfl
def slOwn (id len off sz : Nat) (lo : Option AV) : Option Nat → Res
  | some h => match bnd h 0 lo with
    | some l => some (.osl id len (off + l * sz) (h - l) sz, none)
    | none => none
  | none => none
def slOwn2 (id len off sz h : Nat) : Option Nat → Res
  | some l => some (.osl id len (off + l * sz) (h - l) sz, none)
  | none => none
theorem slR_own (H : Nat → Option (List AV)) (sz : Nat) (lo hi : Option AV) (id n : Nat) : slR H sz lo hi (.own id n sz) = withO (H id) fun cs => ifR (cs.length = n * sz) (slOwn id (n * sz) 0 sz lo (bnd n n hi)) := by
  simp only [slR, withO, ifR]
  cases H id with
  | none => rfl
  | some cs =>
    cases hb : bnd n n hi with
    | none => simp [slOwn]
    | some h =>
      cases hl : bnd h 0 lo with
      | none => simp [slOwn, hl]
      | some l => simp [slOwn, hl]
theorem slR_osl (H : Nat → Option (List AV)) (sz : Nat) (lo hi : Option AV) (id len off n : Nat) : slR H sz lo hi (.osl id len off n sz) = withO (H id) fun cs => ifR (cs.length = len) (slOwn id len off sz lo (bnd n n hi)) := by
  simp only [slR, withO, ifR]
  cases H id with
  | none => rfl
  | some cs =>
    cases hb : bnd n n hi with
    | none => simp [slOwn]
    | some h =>
      cases hl : bnd h 0 lo with
      | none => simp [slOwn, hl]
      | some l => simp [slOwn, hl]
theorem slOwn_some (id len off sz h : Nat) (lo : Option AV) : slOwn id len off sz lo (some h) = slOwn2 id len off sz h (bnd h 0 lo) := rfl
theorem slOwn2_some (id len off sz h l : Nat) : slOwn2 id len off sz h (some l) = some (.osl id len (off + l * sz) (h - l) sz, none) := rfl
theorem bnd_none (m k : Nat) : bnd m k none = some k := rfl
theorem bnd_int (m k : Nat) (ik : IntKind) (i : Int) : bnd m k (some (.int ik i)) = if 0 ≤ i ∧ i ≤ m then some i.toNat else none := rfl
def slP (H : Nat → Option (List AV)) (sz n : Nat) (lo hi : Option AV) : AV → Res
  | .ref id len off => withO (H id) fun cs => ifR (cs.length = len ∧ off + n * sz ≤ len) (slOwn id len off sz lo (bnd n n hi))
  | _ => none
theorem slP_ref (H : Nat → Option (List AV)) (sz n : Nat) (lo hi : Option AV) (id len off : Nat) : slP H sz n lo hi (.ref id len off) = withO (H id) fun cs => ifR (cs.length = len ∧ off + n * sz ≤ len) (slOwn id len off sz lo (bnd n n hi)) := rfl
theorem arun_sliceP (sz n : Nat) (x : Operand) (lo hi : Option Operand) : arun s pin d (.sliceP sz n x lo hi) = slP s.H sz n (lo.map s.ev) (hi.map s.ev) (s.ev x) := by
  simp only [arun, slP, withO, ifR]
  cases s.ev x <;> try rfl
  rename_i id len off
  simp only []
  cases s.H id with
  | none => rfl
  | some cs =>
    cases hb : bnd n n (hi.map s.ev) with
    | none => simp [slOwn]
    | some h =>
      cases hl : bnd h 0 (lo.map s.ev) with
      | none => simp [slOwn, hl]
      | some l => simp [slOwn, hl]
theorem rd_osl (H : Nat → Option (List AV)) (id len off n sz : Nat) : rd H (.osl id len off n sz) = (withO' (H id) fun cs => if cs.length = len then some ((cs.drop off).take (n * sz), n) else none) := by
  simp only [rd, withO']; cases H id <;> rfl
def extR (i : Nat) : AV → Res
  | .tup vs => pureR vs[i]?
  | _ => none
theorem extR_tup (i : Nat) (vs : List AV) : extR i (.tup vs) = pureR vs[i]? := rfl
theorem arun_extract (x : Operand) (i : Nat) : arun s pin d (.extract x i) = extR i (s.ev x) := by
  simp only [arun, extR]
  cases s.ev x <;> rfl
theorem arun_len (x : Operand) : arun s pin d (.len x) = withO (rd s.H (s.ev x)) fun r => some (.int .i64 r.2, none) := by
  simp only [arun, withO]
  cases rd s.H (s.ev x) <;> rfl
theorem rd_rows (H : Nat → Option (List AV)) (fr : Bool) (cs : List AV) (n : Nat) : rd H (.rows fr cs n) = some (cs, n) := rfl
def rdO (o : Option (List AV)) (n sz : Nat) : Option (List AV × Nat) := match o with | some cs => if cs.length = n * sz then some (cs, n) else none | none => none
theorem rdO_some (cs : List AV) (n sz : Nat) : rdO (some cs) n sz = if cs.length = n * sz then some (cs, n) else none := rfl
theorem rd_own (H : Nat → Option (List AV)) (id n sz : Nat) : rd H (.own id n sz) = rdO (H id) n sz := rfl
theorem rd_nil (H : Nat → Option (List AV)) : rd H (.val (.slice none 0 0)) = some ([], 0) := rfl
def lenSR : AV → Res
  | .str t => some (.int .i64 t.size, none)
  | _ => none
theorem lenSR_str (t : ByteArray) : lenSR (.str t) = some (.int .i64 t.size, none) := rfl
theorem arun_lenS (x : Operand) : arun s pin d (.lenS x) = lenSR (s.ev x) := by simp only [arun, lenSR]; cases s.ev x <;> rfl
def appR (H : Nat → Option (List AV)) (pin id0 sz : Nat) (ys : List AV) (m : Nat) (x : AV) : Res :=
  if ys.length = m * sz ∧ ys.all AV.isCell then match x with
        | .own id n sz' => match H id with
          | some cs => if sz' = sz ∧ cs.length = n * sz ∧ pin ≤ id ∧ n + m ≤ 1099511627776 then
              some (.own id (n + m) sz, some (id, cs ++ ys)) else none
          | none => none
        | .val (.slice none 0 0) => if (H id0).isNone ∧ pin ≤ id0 ∧ m ≤ 1099511627776 then some (.own id0 m sz, some (id0, ys)) else none
        | _ => none
      else none
theorem appR_own (H : Nat → Option (List AV)) (pin id0 sz id n : Nat) (ys : List AV) (m : Nat) :
    appR H pin id0 sz ys m (.own id n sz) = if ys.length = m * sz ∧ ys.all AV.isCell = true then withO (H id) fun cs => if cs.length = n * sz ∧ pin ≤ id ∧ n + m ≤ 1099511627776 then some (.own id (n + m) sz, some (id, cs ++ ys)) else none else none := by
  by_cases h1 : ys.length = m * sz ∧ ys.all AV.isCell = true
  · simp only [appR, h1, and_self, if_true, true_and, withO]
    cases H id <;> rfl
  · simp only [appR]; rw [if_neg h1, if_neg h1]
theorem appR_nil (H : Nat → Option (List AV)) (pin id0 sz : Nat) (ys : List AV) (m : Nat) :
    appR H pin id0 sz ys m (.val (.slice none 0 0)) = if (ys.length = m * sz ∧ ys.all AV.isCell = true) ∧ m ≤ 1099511627776 then newR (freeB H pin id0) (.own id0 m sz) id0 ys else none := by
  by_cases h1 : ys.length = m * sz ∧ ys.all AV.isCell = true <;> by_cases h2 : m ≤ 1099511627776 <;>
    simp [appR, h1, h2, newR, freeB]
theorem arun_append (sz : Nat) (x y : Operand) : arun s pin d (.append sz x y) = withO (rd s.H (s.ev y)) fun q => appR s.H pin (16 * d) sz q.1 q.2 (s.ev x) := by
  simp only [arun, withO]
  cases rd s.H (s.ev y) <;> rfl
end
def lrefO (agg : Bool) (sz len off : Nat) : Option (List AV) → Option AV
  | some cs => if cs.length = len ∧ off + sz ≤ len then mkAV agg ((cs.drop off).take sz) else none
  | none => none
theorem lrefO_some (agg : Bool) (sz len off : Nat) (cs : List AV) : lrefO agg sz len off (some cs) = if cs.length = len ∧ off + sz ≤ len then mkAV agg ((cs.drop off).take sz) else none := rfl
theorem loadAV_ref (F : Nat → Option (List AV)) (agg : Bool) (sz id len off : Nat) : loadAV F agg sz (.ref id len off) = lrefO agg sz len off (F id) := by
  simp only [loadAV, lrefO]; cases F id <;> rfl
theorem loadAV_prow (F : Nat → Option (List AV)) (agg : Bool) (sz : Nat) (fr : Bool) (cs : List AV) (off : Nat) : loadAV F agg sz (.prow fr cs off) = if off + sz ≤ cs.length then mkAV agg ((cs.drop off).take sz) else none := rfl
theorem mkAV_agg (cs : List AV) : mkAV true cs = some (.agg cs) := rfl
theorem mkAV_one (c : AV) : mkAV false [c] = some c := rfl
/-- One cell, read at a place. -/
theorem mkAV_ints (k : IntKind) (xs : List Int) (off : Nat) : mkAV false (((xs.map (AV.int k)).drop off).take 1) = if off < xs.length then some (.int k (xs.getD off 0)) else none := by
  by_cases h : off < xs.length
  · rw [if_pos h, List.drop_eq_getElem_cons (by simpa using h)]
    simp [mkAV, h]
  · rw [if_neg h, List.drop_eq_nil_of_le (by simp; omega)]
    rfl
theorem mkAV_at (cs : List AV) (off : Nat) (c : AV) (h : cs[off]? = some c) : mkAV false ((cs.drop off).take 1) = some c := by
  have : (cs.drop off).take 1 = [c] := by
    obtain ⟨hl, rfl⟩ := List.getElem?_eq_some_iff.1 h
    rw [List.drop_eq_getElem_cons hl]
    rfl
  rw [this]; rfl
theorem pureR_some (v : AV) : pureR (some v) = some (v, none) := rfl

section
variable (k : IntKind) (a b : Int)
theorem abin_add : abin .add (.int k a) (.int k b) = some (.int k (k.wrap (a + b))) := by simp [abin]
theorem abin_sub : abin .sub (.int k a) (.int k b) = some (.int k (k.wrap (a - b))) := by simp [abin]
theorem abin_mul : abin .mul (.int k a) (.int k b) = some (.int k (k.wrap (a * b))) := by simp [abin]
theorem abin_quo (h : ¬ b = 0) : abin .quo (.int k a) (.int k b) = some (.int k (k.wrap (a.tdiv b))) := by simp [abin, h]
theorem abin_rem (h : ¬ b = 0) : abin .rem (.int k a) (.int k b) = some (.int k (a.tmod b)) := by simp [abin, h]
theorem abin_and : abin .and (.int k a) (.int k b) = some (.int k (bits .and k a b)) := by simp [abin]
theorem abin_or : abin .or (.int k a) (.int k b) = some (.int k (bits .or k a b)) := by simp [abin]
theorem abin_xor : abin .xor (.int k a) (.int k b) = some (.int k (bits .xor k a b)) := by simp [abin]
theorem abin_eql : abin .eql (.int k a) (.int k b) = some (.bool (decide (a = b))) := by
  have : (a == b) = decide (a = b) := by by_cases h : a = b <;> simp [h]
  simp [abin, this]
theorem abin_neq : abin .neq (.int k a) (.int k b) = some (.bool (!decide (a = b))) := by
  have : (a != b) = !decide (a = b) := by by_cases h : a = b <;> simp [h]
  simp [abin, this]
theorem abin_lss : abin .lss (.int k a) (.int k b) = some (.bool (decide (a < b))) := by simp [abin]
theorem abin_leq : abin .leq (.int k a) (.int k b) = some (.bool (decide (a ≤ b))) := by simp [abin]
theorem abin_gtr : abin .gtr (.int k a) (.int k b) = some (.bool (decide (b < a))) := by simp [abin]
theorem abin_geq : abin .geq (.int k a) (.int k b) = some (.bool (decide (b ≤ a))) := by simp [abin]
theorem abinB_eql (p q : Bool) : abinB .eql (.bool p) (.bool q) = some (.bool (p == q)) := rfl
theorem abinB_neq (p q : Bool) : abinB .neq (.bool p) (.bool q) = some (.bool (!(p == q))) := rfl
theorem aun_neg : aun .neg (.int k a) = some (.int k (k.wrap (0 - a))) := rfl
theorem aun_not (c : Bool) : aun .not (.bool c) = some (.bool (!c)) := rfl
end

theorem fillR_nil (cs : List AV) : fillR cs [] = some cs := rfl
def fillO (cs : List AV) (off sz : Nat) (r : List (Nat × Nat × AV)) : Option (List AV) → Option (List AV)
  | some l => if l.length = sz ∧ off + sz ≤ cs.length then fillR (setRange cs off l) r else none
  | none => none
theorem fillR_cons (cs : List AV) (off sz : Nat) (v : AV) (r : List (Nat × Nat × AV)) : fillR cs ((off, sz, v) :: r) = fillO cs off sz r v.cells := by
  simp only [fillR, fillO]; cases v.cells <;> rfl
theorem fillO_some (cs : List AV) (off sz : Nat) (r : List (Nat × Nat × AV)) (l : List AV) : fillO cs off sz r (some l) = if l.length = sz ∧ off + sz ≤ cs.length then fillR (setRange cs off l) r else none := rfl
theorem zcells_zero (zs : List AV) : zcells zs 0 = [] := by simp [zcells]
theorem zcells_one (z : AV) (n : Nat) : zcells [z] n = List.replicate n z := by
  apply List.ext_getElem?
  intro i
  simp only [zcells, List.length_cons, List.length_nil, Nat.zero_add, Nat.mul_one, List.getElem?_map, Nat.mod_one, List.getElem?_replicate]
  by_cases h : i < n
  · rw [List.getElem?_range h, if_pos h]; rfl
  · rw [List.getElem?_eq_none (by simpa using h), if_neg h]; rfl
theorem setRange_nil (cs : List AV) (off : Nat) : setRange cs off [] = cs := rfl
theorem setRange_cons (cs : List AV) (off : Nat) (c : AV) (r : List AV) : setRange cs off (c :: r) = setRange (cs.set off c) (off + 1) r := rfl

theorem athen_normal (next : S → Prop) (Q : Exit → S → Prop) (s : S) : athen next Q .normal s = next s := rfl
theorem athen_ret (next : S → Prop) (Q : Exit → S → Prop) (s : S) : athen next Q .ret s = Q .ret s := rfl
theorem athen_exit (next : S → Prop) (Q : Exit → S → Prop) (s : S) (i : Nat) : athen next Q (.exit i) s = Q (.exit i) s := rfl
theorem ablock_normal (i : Nat) (Q : Exit → S → Prop) (s : S) : ablock i Q .normal s = Q .normal s := rfl
theorem ablock_ret (i : Nat) (Q : Exit → S → Prop) (s : S) : ablock i Q .ret s = Q .ret s := rfl
theorem ablock_exit (i j : Nat) (Q : Exit → S → Prop) (s : S) : ablock i Q (.exit j) s = if j = i then Q .normal s else Q (.exit j) s := rfl

end

/-! ### Results -/
def fzO (F : Nat → Option (List AV)) (d k sz : Nat) : Option (List AV) → AV
  | some cs => if cs.length = k * sz then .rows true (cs.map (AV.fz F d)) k else .unk
  | none => .unk
theorem fzO_some (F : Nat → Option (List AV)) (d k sz : Nat) (cs : List AV) : fzO F d k sz (some cs) = if cs.length = k * sz then .rows true (cs.map (AV.fz F d)) k else .unk := rfl
theorem fz5_bool (F : Nat → Option (List AV)) (b : Bool) : AV.fz F 5 (.bool b) = .bool b := rfl
theorem fz5_int (F : Nat → Option (List AV)) (k : IntKind) (n : Int) : AV.fz F 5 (.int k n) = .int k n := rfl
theorem fz5_str (F : Nat → Option (List AV)) (b : ByteArray) : AV.fz F 5 (.str b) = .str b := rfl
theorem fz5_val (F : Nat → Option (List AV)) (v : Value) : AV.fz F 5 (.val v) = .val v := rfl
theorem fz5_agg (F : Nat → Option (List AV)) (cs : List AV) : AV.fz F 5 (.agg cs) = .agg (cs.map (AV.fz F 4)) := rfl
theorem fz5_tup (F : Nat → Option (List AV)) (cs : List AV) : AV.fz F 5 (.tup cs) = .tup (cs.map (AV.fz F 4)) := rfl
theorem fz5_rows (F : Nat → Option (List AV)) (fr : Bool) (cs : List AV) (k : Nat) : AV.fz F 5 (.rows fr cs k) = .rows fr (cs.map (AV.fz F 4)) k := rfl
theorem fz5_ints (F : Nat → Option (List AV)) (k : IntKind) (xs : List Int) : (xs.map (AV.int k)).map (AV.fz F 5) = xs.map (AV.int k) := by rw [List.map_map]; rfl
theorem fz5_own (F : Nat → Option (List AV)) (id k sz : Nat) : AV.fz F 5 (.own id k sz) = fzO F 4 k sz (F id) := by simp only [AV.fz, fzO]; cases F id <;> rfl
theorem fz4_bool (F : Nat → Option (List AV)) (b : Bool) : AV.fz F 4 (.bool b) = .bool b := rfl
theorem fz4_int (F : Nat → Option (List AV)) (k : IntKind) (n : Int) : AV.fz F 4 (.int k n) = .int k n := rfl
theorem fz4_str (F : Nat → Option (List AV)) (b : ByteArray) : AV.fz F 4 (.str b) = .str b := rfl
theorem fz4_val (F : Nat → Option (List AV)) (v : Value) : AV.fz F 4 (.val v) = .val v := rfl
theorem fz4_agg (F : Nat → Option (List AV)) (cs : List AV) : AV.fz F 4 (.agg cs) = .agg (cs.map (AV.fz F 3)) := rfl
theorem fz4_tup (F : Nat → Option (List AV)) (cs : List AV) : AV.fz F 4 (.tup cs) = .tup (cs.map (AV.fz F 3)) := rfl
theorem fz4_rows (F : Nat → Option (List AV)) (fr : Bool) (cs : List AV) (k : Nat) : AV.fz F 4 (.rows fr cs k) = .rows fr (cs.map (AV.fz F 3)) k := rfl
theorem fz4_ints (F : Nat → Option (List AV)) (k : IntKind) (xs : List Int) : (xs.map (AV.int k)).map (AV.fz F 4) = xs.map (AV.int k) := by rw [List.map_map]; rfl
theorem fz4_own (F : Nat → Option (List AV)) (id k sz : Nat) : AV.fz F 4 (.own id k sz) = fzO F 3 k sz (F id) := by simp only [AV.fz, fzO]; cases F id <;> rfl
theorem fz3_bool (F : Nat → Option (List AV)) (b : Bool) : AV.fz F 3 (.bool b) = .bool b := rfl
theorem fz3_int (F : Nat → Option (List AV)) (k : IntKind) (n : Int) : AV.fz F 3 (.int k n) = .int k n := rfl
theorem fz3_str (F : Nat → Option (List AV)) (b : ByteArray) : AV.fz F 3 (.str b) = .str b := rfl
theorem fz3_val (F : Nat → Option (List AV)) (v : Value) : AV.fz F 3 (.val v) = .val v := rfl
theorem fz3_agg (F : Nat → Option (List AV)) (cs : List AV) : AV.fz F 3 (.agg cs) = .agg (cs.map (AV.fz F 2)) := rfl
theorem fz3_tup (F : Nat → Option (List AV)) (cs : List AV) : AV.fz F 3 (.tup cs) = .tup (cs.map (AV.fz F 2)) := rfl
theorem fz3_rows (F : Nat → Option (List AV)) (fr : Bool) (cs : List AV) (k : Nat) : AV.fz F 3 (.rows fr cs k) = .rows fr (cs.map (AV.fz F 2)) k := rfl
theorem fz3_ints (F : Nat → Option (List AV)) (k : IntKind) (xs : List Int) : (xs.map (AV.int k)).map (AV.fz F 3) = xs.map (AV.int k) := by rw [List.map_map]; rfl
theorem fz3_own (F : Nat → Option (List AV)) (id k sz : Nat) : AV.fz F 3 (.own id k sz) = fzO F 2 k sz (F id) := by simp only [AV.fz, fzO]; cases F id <;> rfl
theorem fz2_bool (F : Nat → Option (List AV)) (b : Bool) : AV.fz F 2 (.bool b) = .bool b := rfl
theorem fz2_int (F : Nat → Option (List AV)) (k : IntKind) (n : Int) : AV.fz F 2 (.int k n) = .int k n := rfl
theorem fz2_str (F : Nat → Option (List AV)) (b : ByteArray) : AV.fz F 2 (.str b) = .str b := rfl
theorem fz2_val (F : Nat → Option (List AV)) (v : Value) : AV.fz F 2 (.val v) = .val v := rfl
theorem fz2_agg (F : Nat → Option (List AV)) (cs : List AV) : AV.fz F 2 (.agg cs) = .agg (cs.map (AV.fz F 1)) := rfl
theorem fz2_tup (F : Nat → Option (List AV)) (cs : List AV) : AV.fz F 2 (.tup cs) = .tup (cs.map (AV.fz F 1)) := rfl
theorem fz2_rows (F : Nat → Option (List AV)) (fr : Bool) (cs : List AV) (k : Nat) : AV.fz F 2 (.rows fr cs k) = .rows fr (cs.map (AV.fz F 1)) k := rfl
theorem fz2_ints (F : Nat → Option (List AV)) (k : IntKind) (xs : List Int) : (xs.map (AV.int k)).map (AV.fz F 2) = xs.map (AV.int k) := by rw [List.map_map]; rfl
theorem fz2_own (F : Nat → Option (List AV)) (id k sz : Nat) : AV.fz F 2 (.own id k sz) = fzO F 1 k sz (F id) := by simp only [AV.fz, fzO]; cases F id <;> rfl

theorem tupOf_one (x : AV) : tupOf [x] = x := rfl
theorem tupOf_two (x y : AV) : tupOf [x, y] = .tup [x, y] := rfl
theorem tupOf_three (x y z : AV) : tupOf [x, y, z] = .tup [x, y, z] := rfl
theorem pass1L_ints (k : IntKind) (xs : List Int) : pass1L (xs.map (AV.int k)) = xs.map (AV.int k) := by
  induction xs with
  | nil => rfl
  | cons x r ih => simp [pass1L, AV.pass1, ih]
theorem passL_ints (F : Nat → Option (List AV)) (k : IntKind) (xs : List Int) : passL F (xs.map (AV.int k)) = xs.map (AV.int k) := by
  induction xs with
  | nil => rfl
  | cons x r ih => simp [passL, AV.pass, ih]
theorem tkL_ints (sh : Bool) (k : IntKind) (xs : List Int) : tkL sh (xs.map (AV.int k)) = xs.map (AV.int k) := by
  induction xs with
  | nil => rfl
  | cons x r ih => simp [tkL, AV.tk, ih]
def passO (n sz : Nat) : Option (List AV) → AV
  | some cs => if cs.length = n * sz then .rows false (pass1L cs) n else .unk
  | none => .unk
theorem passO_some (n sz : Nat) (cs : List AV) : passO n sz (some cs) = if cs.length = n * sz then .rows false (pass1L cs) n else .unk := rfl
theorem pass_own (F : Nat → Option (List AV)) (id n sz : Nat) : AV.pass F (.own id n sz) = passO n sz (F id) := by simp only [AV.pass, passO]; cases F id <;> rfl
theorem pass_rows (F : Nat → Option (List AV)) (fr : Bool) (cs : List AV) (n : Nat) : AV.pass F (.rows fr cs n) = .rows false (passL F cs) n := rfl
theorem pass_int (F : Nat → Option (List AV)) (k : IntKind) (n : Int) : AV.pass F (.int k n) = .int k n := rfl
theorem pass_bool (F : Nat → Option (List AV)) (b : Bool) : AV.pass F (.bool b) = .bool b := rfl
theorem pass_str (F : Nat → Option (List AV)) (b : ByteArray) : AV.pass F (.str b) = .str b := rfl
theorem pass_agg (F : Nat → Option (List AV)) (cs : List AV) : AV.pass F (.agg cs) = .agg (passL F cs) := rfl
theorem pass_nil (F : Nat → Option (List AV)) : AV.pass F (.val (.slice none 0 0)) = .rows false [] 0 := rfl
theorem passL_nil (F : Nat → Option (List AV)) : passL F [] = [] := rfl
theorem passL_cons (F : Nat → Option (List AV)) (c : AV) (r : List AV) : passL F (c :: r) = c.pass F :: passL F r := rfl
theorem tk_rowsT (sh : Bool) (cs : List AV) (n : Nat) : AV.tk sh (.rows true cs n) = .rows true (tkL sh cs) n := rfl
theorem tk_rowsF (cs : List AV) (n : Nat) : AV.tk true (.rows false cs n) = .rows false (tkL true cs) n := rfl
theorem tk_int (sh : Bool) (k : IntKind) (n : Int) : AV.tk sh (.int k n) = .int k n := rfl
theorem tk_bool (sh : Bool) (b : Bool) : AV.tk sh (.bool b) = .bool b := rfl
theorem tk_str (sh : Bool) (b : ByteArray) : AV.tk sh (.str b) = .str b := rfl
theorem tk_val (sh : Bool) (v : Value) : AV.tk sh (.val v) = .val v := rfl
theorem tk_agg (sh : Bool) (cs : List AV) : AV.tk sh (.agg cs) = .agg (tkL sh cs) := rfl
theorem tk_tup (sh : Bool) (cs : List AV) : AV.tk sh (.tup cs) = .tup (tkL sh cs) := rfl
theorem tkL_nil (sh : Bool) : tkL sh [] = [] := rfl
theorem tkL_cons (sh : Bool) (c : AV) (r : List AV) : tkL sh (c :: r) = c.tk sh :: tkL sh r := rfl


theorem init_eq (args : List AV) : S.init args = mkS (args.zipIdx.map fun p => (p.2, p.1)) [] := rfl
section
variable {P : Program} {pin : Nat} {K : S → Prop}
theorem aSeq_minmax (mx : Bool) (x y : Operand) (dst : Option Nat) (af : List Nat) (r : List AOper) (s : S) :
    aSeq P pin (⟨dst, .minmax mx x y, none, af⟩ :: r) K s = bindS P pin K (arun s pin (dst.getD 0) (.minmax mx x y)) dst r s := by
  simp only [aSeq, aguard, astep, bindS, forall_const, Bool.true_eq_false, false_implies, and_true]
  generalize arun s pin (dst.getD 0) (AOp.minmax mx x y) = z
  cases z <;> rfl
theorem aSeq_eqS (neg : Bool) (l : List (Nat × Option IntKind)) (x y : Operand) (dst : Option Nat) (af : List Nat) (r : List AOper) (s : S) :
    aSeq P pin (⟨dst, .eqS neg l x y, none, af⟩ :: r) K s = bindS P pin K (arun s pin (dst.getD 0) (.eqS neg l x y)) dst r s := by
  simp only [aSeq, aguard, astep, bindS, forall_const, Bool.true_eq_false, false_implies, and_true]
  generalize arun s pin (dst.getD 0) (AOp.eqS neg l x y) = z
  cases z <;> rfl
theorem aSeq_sliceP (sz n : Nat) (x : Operand) (lo hi : Option Operand) (dst : Option Nat) (af : List Nat) (r : List AOper) (s : S) :
    aSeq P pin (⟨dst, .sliceP sz n x lo hi, none, af⟩ :: r) K s = bindS P pin K (arun s pin (dst.getD 0) (.sliceP sz n x lo hi)) dst r s := by
  simp only [aSeq, aguard, astep, bindS, forall_const, Bool.true_eq_false, false_implies, and_true]
  generalize arun s pin (dst.getD 0) (AOp.sliceP sz n x lo hi) = z
  cases z <;> rfl
theorem aSeq_isnil (neg : Bool) (x : Operand) (dst : Option Nat) (af : List Nat) (r : List AOper) (s : S) :
    aSeq P pin (⟨dst, .isnil neg x, none, af⟩ :: r) K s = nilStep neg dst (aSeq P pin r K) s (s.ev x) := by
  simp only [aSeq, aguard, astep, forall_const, Bool.true_eq_false, false_implies, and_true]
theorem nilStep_nil (neg : Bool) (dst : Option Nat) (s : S) : nilStep neg dst K s (.val (.slice none 0 0)) = K (s.put dst (.bool (if neg then false else true)) none) := rfl
theorem nilStep_rows (neg : Bool) (dst : Option Nat) (s : S) (fr : Bool) (cs : List AV) (n : Nat) : nilStep neg dst K s (.rows fr cs n) = ∀ b : Bool, (b = true → n = 0) → K (s.put dst (.bool (if neg then !b else b)) none) := rfl
theorem nilStep_own (neg : Bool) (dst : Option Nat) (s : S) (id n sz : Nat) : nilStep neg dst K s (.own id n sz) = ((∃ cs, s.H id = some cs ∧ cs.length = n * sz) ∧ ∀ b : Bool, (b = true → n = 0) → K (s.put dst (.bool (if neg then !b else b)) none)) := rfl
end
attribute [push_cast] aSeq_minmax aSeq_eqS aSeq_sliceP aSeq_isnil nilStep_nil nilStep_rows nilStep_own arun_minmax minR_min minR_max arun_eqS eqSR_agg eqI_int eqB_bool eqCells_nil eqCells_int eqCells_bool arun_slice slR_rows slRows_some slRows2_some slR_own slR_osl slOwn_some slOwn2_some bnd_none bnd_int arun_sliceP slP_ref rd_osl withO'_some idxR_osl isCell_osl Int.toNat_zero
attribute [push_cast] init_eq if_pos Int.toNat_natCast aSeq_binB arun_binB abinB_eql abinB_neq beq_self_eq_true ev_tmp ev_const mkS_σ mkS_H mkS_H' put_some put_some' put_none' put_none aSeq_nil bindS_some gIf_true gIf_false bindG_some aSeq_guard aSeq_call aSeq_mv aSeq_pick aSeq_alloc aSeq_box aSeq_build aSeq_bslice aSeq_load aSeq_store aSeq_bin aSeq_un aSeq_conv aSeq_nilck aSeq_mkslice aSeq_slice aSeq_sliceS aSeq_fld aSeq_fldv aSeq_idxA aSeq_idxP aSeq_idxS aSeq_extract aSeq_len aSeq_lenS aSeq_append lk_cons hk_cons hk_nil pickR_true pickR_false pickR_bool gOf_t gOf_f gOf_und aguard_some newR_true freeB_eq boxR_some withO_some ifR_eq cells_agg cells_int cells_bool cells_str cells_rows cells_own cells_ref cells_nil cells_ptr isCell_int isCell_bool isCell_str isCell_rows isCell_own isCell_ref isCell_nil all_isCell_ints ofVal_int ofVal_bool ofVal_str ofVal_slice ofVal_pointer ofVal_agg ofCell_int ofCell_bool ofCell_str ofCell_slice ofCell_pointer arun_mv arun_pick arun_alloc arun_box arun_build arun_bslice arun_load storeR_ref arun_store arun_bin arun_un convR_int arun_conv nilR_ref nilR_prow arun_nilck mksR_int arun_mkslice fldR_ref fldR_prow arun_fld fldvR_agg arun_fldv idxR_rows idxR_own arun_idxA idxPR_ref arun_idxP extR_tup arun_extract arun_len rd_rows rdO_some rd_own rd_nil lenSR_str arun_lenS appR_own appR_nil arun_append lrefO_some loadAV_ref loadAV_prow mkAV_agg mkAV_one mkAV_ints pureR_some abin_add abin_sub abin_mul abin_quo abin_rem abin_and abin_or abin_xor abin_eql abin_neq abin_lss abin_leq abin_gtr abin_geq aun_neg aun_not fillR_nil fillR_cons fillO_some zcells_zero zcells_one setRange_nil setRange_cons athen_normal athen_ret athen_exit ablock_normal ablock_ret ablock_exit fzO_some fz5_bool fz5_int fz5_str fz5_val fz5_agg fz5_tup fz5_rows fz5_ints fz5_own fz4_bool fz4_int fz4_str fz4_val fz4_agg fz4_tup fz4_rows fz4_ints fz4_own fz3_bool fz3_int fz3_str fz3_val fz3_agg fz3_tup fz3_rows fz3_ints fz3_own fz2_bool fz2_int fz2_str fz2_val fz2_agg fz2_tup fz2_rows fz2_ints fz2_own tupOf_one tupOf_two tupOf_three pass1L_ints passL_ints tkL_ints passO_some pass_own pass_rows pass_int pass_bool pass_str pass_agg pass_nil passL_nil passL_cons tk_rowsT tk_rowsF tk_int tk_bool tk_str tk_val tk_agg tk_tup tkL_nil tkL_cons List.zipIdx_cons List.zipIdx_nil List.map_cons List.map_nil Option.getD_some Option.getD_none Option.map_some Option.map_none Nat.zero_add Nat.add_zero Nat.zero_mul Nat.mul_zero Nat.mul_one Nat.one_mul Nat.zero_le Nat.le_refl Bool.not_true Bool.not_false Bool.and_true Bool.true_and Bool.and_self Bool.and_false Bool.false_and Bool.if_true_right Bool.if_false_right Bool.or_false Bool.or_true true_and and_true and_self decide_true decide_false IntWalk.i64_in List.all_cons List.all_nil List.length_cons List.length_nil List.length_map List.drop_zero List.drop_succ_cons List.take_succ_cons List.take_zero List.take_nil List.drop_nil Option.isNone_none Option.isNone_some List.set_cons_zero List.set_cons_succ List.getElem?_cons_zero List.getElem?_cons_succ List.nil_append List.cons_append eq_self
end Vw
