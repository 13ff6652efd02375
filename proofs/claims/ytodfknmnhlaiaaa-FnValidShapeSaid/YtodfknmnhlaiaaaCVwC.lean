/- The operations as this walk has them: each with its types resolved; what each yields at abstract values. -/
import Derived.Test.YtodfknmnhlaiaaaCVwB
set_option linter.unusedVariables false
namespace Vw
open Go

inductive AOp where
  | mv (x : Operand)
  | pick (c a b : Operand)
  | alloc (zs : List Value)
  | box (x : Operand)
  | build (zs : List Value) (ps : List (Nat × Nat × Operand))
  | bslice (sz : Nat) (zs : List Value) (ps : List (Nat × Operand)) (n : Nat)
  | load (agg : Bool) (sz : Nat) (x : Operand)
  | store (sz : Nat) (x v : Operand)
  | bin (op : BinOp) (x y : Operand)
  | binB (op : BinOp) (x y : Operand)
  | un (op : UnOp) (x : Operand)
  | conv (k : IntKind) (x : Operand)
  | nilck (x : Operand)
  | mkslice (sz : Nat) (zs : List Value) (l c : Operand)
  | slice (sz : Nat) (x : Operand) (lo hi : Option Operand)
  | sliceS (x : Operand) (lo hi : Option Operand)
  | fld (off : Nat) (x : Operand)
  | fldv (agg : Bool) (off sz : Nat) (x : Operand)
  | idxA (sz : Nat) (x i : Operand)
  | idxP (sz n : Nat) (x i : Operand)
  | idxS (x i : Operand)
  | extract (x : Operand) (i : Nat)
  | len (x : Operand)
  | lenS (x : Operand)
  | append (sz : Nat) (x y : Operand)
  | minmax (mx : Bool) (x y : Operand)
  | eqS (neg : Bool) (l : List (Nat × Option IntKind)) (x y : Operand)
  | sliceP (sz n : Nat) (x : Operand) (lo hi : Option Operand)
  | isnil (neg : Bool) (x : Operand)
  | blit (sz : Nat) (zs : List Value) (ps : List (Nat × Operand)) (n : Nat)
  | call (f : Nat) (args : List Operand)

def ofCell : Value → AV
  | .int k n => .int k n
  | .bool b => .bool b
  | .string s => .str s
  | v => .val v

def ofVal : Value → AV
  | .agg cs => .agg (cs.toList.map ofCell)
  | v => ofCell v

theorem den_ofCell (C : Ctx) (v : Value) : Den C (ofCell v) v := by cases v <;> simp [ofCell, Den]

theorem denP_ofCells (C : Ctx) : ∀ l : List Value, DenP C (l.map ofCell) l
  | [] => by simp [DenP]
  | v :: l => by simp only [List.map_cons, DenP]; exact ⟨den_ofCell C v, denP_ofCells C l⟩

theorem den_ofVal (C : Ctx) (v : Value) : Den C (ofVal v) v := by
  cases v
  case agg cs => simp only [ofVal, Den]; exact ⟨cs, rfl, by simp, denP_ofCells C _⟩
  all_goals (simp only [ofVal]; exact den_ofCell C _)

structure S where
  σ : Nat → AV
  H : Nat → Option (List AV)

def S.ev (s : S) : Operand → AV
  | .tmp t => s.σ t
  | .const v => ofVal v
  | .global g => .val (.pointer (some ⟨g, 0, none⟩))
  | .func f => .val (.func (.func f) #[] #[])

/-- The cells of a value that is stored, boxed, or laid in a literal. -/
def AV.cells : AV → Option (List AV)
  | .agg cs => if cs.all AV.isCell then some cs else none
  | a => if a.isCell then some [a] else none

def setRange (cs : List AV) (off : Nat) : List AV → List AV
  | [] => cs
  | c :: r => setRange (cs.set off c) (off + 1) r

def mkAV (agg : Bool) (cs : List AV) : Option AV :=
  if agg then some (.agg cs) else match cs with | [c] => some c | _ => none

/-- What a value holds that is read as a slice: its cells, the number of its elements. -/
def rd (H : Nat → Option (List AV)) : AV → Option (List AV × Nat)
  | .rows _ cs n => some (cs, n)
  | .own id n sz => match H id with
    | some cs => if cs.length = n * sz then some (cs, n) else none
    | none => none
  | .osl id len off n sz => match H id with
    | some cs => if cs.length = len then some ((cs.drop off).take (n * sz), n) else none
    | none => none
  | .val (.slice none 0 0) => some ([], 0)
  | _ => none

/-- The parts of two structs, one by one. -/
def eqCells : List (Nat × Option IntKind) → List AV → List AV → Option Bool
  | [], _, _ => some true
  | (o, some k) :: r, cs, ds => match cs[o]?, ds[o]?, eqCells r cs ds with
    | some (.int k1 a), some (.int k2 b), some t => if k1 = k ∧ k2 = k then some (decide (a = b) && t) else none
    | _, _, _ => none
  | (o, none) :: r, cs, ds => match cs[o]?, ds[o]?, eqCells r cs ds with
    | some (.bool a), some (.bool b), some t => some ((a == b) && t)
    | _, _, _ => none

/-- How many elements what is read as a slice has. -/
def AV.slen : AV → Option Nat
  | .rows _ _ n => some n
  | .own _ n _ => some n
  | .osl _ _ _ n _ => some n
  | _ => none

def abin (op : BinOp) : AV → AV → Option AV
  | .int k a, .int k' b =>
    if k = k' then match op with
      | .add => some (.int k (k.wrap (a + b)))
      | .sub => some (.int k (k.wrap (a - b)))
      | .mul => some (.int k (k.wrap (a * b)))
      | .quo => if b = 0 then none else some (.int k (k.wrap (a.tdiv b)))
      | .rem => if b = 0 then none else some (.int k (a.tmod b))
      | .and => some (.int k (bits .and k a b))
      | .or => some (.int k (bits .or k a b))
      | .xor => some (.int k (bits .xor k a b))
      | .andNot => some (.int k (bits .andNot k a b))
      | .eql => some (.bool (a == b))
      | .neq => some (.bool (a != b))
      | .lss => some (.bool (decide (a < b)))
      | .leq => some (.bool (decide (a ≤ b)))
      | .gtr => some (.bool (decide (a > b)))
      | .geq => some (.bool (decide (a ≥ b)))
      | _ => none
    else none
  | .str a, .str b => match op with
      | .add => if a.size + b.size ≤ 1099511627776 then some (.str (a ++ b)) else none
      | .eql => some (.bool (a.toList == b.toList))
      | .neq => some (.bool (!(a.toList == b.toList)))
      | .lss => some (.bool (Op.bytesLess a.toList b.toList))
      | .leq => some (.bool (Op.bytesLess a.toList b.toList || a.toList == b.toList))
      | .gtr => some (.bool (!(Op.bytesLess a.toList b.toList || a.toList == b.toList)))
      | .geq => some (.bool (!(Op.bytesLess a.toList b.toList)))
      | _ => none
  | _, _ => none

def abinB (op : BinOp) : AV → AV → Option AV
  | .bool a, .bool b => match op with
    | .eql => some (.bool (a == b))
    | .neq => some (.bool (!(a == b)))
    | _ => none
  | _, _ => none

def aun (op : UnOp) : AV → Option AV
  | .int k n => match op with | .neg => some (.int k (k.wrap (0 - n))) | _ => none
  | .bool b => match op with | .not => some (.bool (!b)) | _ => none
  | _ => none

abbrev Res := Option (AV × Option (Nat × List AV))
def pureR (a : Option AV) : Res := a.map fun v => (v, none)

/-- A bound of a slice expression: a number from 0 up to 'm'. -/
def bnd (m : Nat) (dflt : Nat) : Option AV → Option Nat
  | none => some dflt
  | some (.int _ i) => if 0 ≤ i ∧ i ≤ m then some i.toNat else none
  | some _ => none

def fillR : List AV → List (Nat × Nat × AV) → Option (List AV)
  | cs, [] => some cs
  | cs, (off, sz, v) :: r => match v.cells with
    | some l => if l.length = sz ∧ off + sz ≤ cs.length then fillR (setRange cs off l) r else none
    | none => none

def zcells (zs : List AV) (n : Nat) : List AV := (List.range (n * zs.length)).map fun i => zs.getD (i % zs.length) .unk

/-- What is read through a pointer. -/
def loadAV (H : Nat → Option (List AV)) (agg : Bool) (sz : Nat) : AV → Option AV
  | .ref id len off => match H id with
    | some cs => if cs.length = len ∧ off + sz ≤ len then mkAV agg ((cs.drop off).take sz) else none
    | none => none
  | .prow _ cs off => if off + sz ≤ cs.length then mkAV agg ((cs.drop off).take sz) else none
  | _ => none

/-- What an operation yields, and which object it turns ('d': its own slot, which names what it makes). -/
def arun (s : S) (pin d : Nat) : AOp → Res
  | .mv x => some (s.ev x, none)
  | .pick c a b => match s.ev c with
    | .bool t => match s.ev a, s.ev b with
      | .bool x, .bool y => some (.bool (if t then x else y), none)
      | x, y => some (if t then x else y, none)
    | _ => none
  | .alloc zs => if (s.H (16 * d)).isNone ∧ pin ≤ 16 * d then some (.ref (16 * d) zs.length 0, some (16 * d, zs.map ofCell)) else none
  | .box x => match (s.ev x).cells with
    | some cs => if (s.H (16 * d)).isNone ∧ pin ≤ 16 * d then some (.ref (16 * d) cs.length 0, some (16 * d, cs)) else none
    | none => none
  | .build zs ps => (fillR (zs.map ofCell) (ps.map fun p => (p.1, p.2.1, s.ev p.2.2))).map fun cs => (.agg cs, none)
  | .bslice sz zs ps n => if (s.H (16 * d)).isNone ∧ pin ≤ 16 * d then
      (fillR (zcells (zs.map ofCell) n) (ps.map fun p => (p.1 * sz, sz, s.ev p.2))).map fun cs => (.own (16 * d) n sz, some (16 * d, cs)) else none
  | .blit sz zs ps n => (fillR (zcells (zs.map ofCell) n) (ps.map fun p => (p.1 * sz, sz, s.ev p.2))).map fun cs => (.rows true cs n, none)
  | .load agg sz x => pureR (loadAV s.H agg sz (s.ev x))
  | .store sz x v => match s.ev x with
    | .ref id len off => match s.H id, (s.ev v).cells with
      | some cs, some l => if cs.length = len ∧ off + sz ≤ len ∧ l.length = sz then some (.und, some (id, setRange cs off l)) else none
      | _, _ => none
    | _ => none
  | .bin op x y => pureR (abin op (s.ev x) (s.ev y))
  | .binB op x y => pureR (abinB op (s.ev x) (s.ev y))
  | .un op x => pureR (aun op (s.ev x))
  | .conv k x => match s.ev x with
    | .int _ n => some (.int k (k.wrap n), none)
    | _ => none
  | .nilck x => match s.ev x with
    | .ref id len off => match s.H id with
      | some cs => if cs.length = len then some (.ref id len off, none) else none
      | none => none
    | .prow fr cs off => some (.prow fr cs off, none)
    | _ => none
  | .mkslice sz zs l c => match s.ev l, s.ev c with
    | .int _ n, .int _ m => if (s.H (16 * d)).isNone ∧ pin ≤ 16 * d ∧ n = m ∧ 0 ≤ n ∧ n ≤ 1099511627776 then
        some (.own (16 * d) n.toNat sz, some (16 * d, zcells (zs.map ofCell) n.toNat)) else none
    | _, _ => none
  | .slice sz x lo hi => match s.ev x with
    | .rows fr cs n => match bnd n n (hi.map s.ev) with
      | some h => match bnd h 0 (lo.map s.ev) with
        | some l => some (.rows fr ((cs.drop (l * sz)).take ((h - l) * sz)) (h - l), none)
        | none => none
      | none => none
    | .own id n sz' => match s.H id, bnd n n (hi.map s.ev) with
      | some cs, some h => match bnd h 0 (lo.map s.ev) with
        | some l => if cs.length = n * sz ∧ sz' = sz then some (.osl id (n * sz) (l * sz) (h - l) sz, none) else none
        | none => none
      | _, _ => none
    | .osl id len off n sz' => match s.H id, bnd n n (hi.map s.ev) with
      | some cs, some h => match bnd h 0 (lo.map s.ev) with
        | some l => if cs.length = len ∧ sz' = sz then some (.osl id len (off + l * sz) (h - l) sz, none) else none
        | none => none
      | _, _ => none
    | _ => none
  | .sliceS x lo hi => match s.ev x with
    | .str t => match bnd t.size t.size (hi.map s.ev) with
      | some h => match bnd h 0 (lo.map s.ev) with
        | some l => some (.str (t.extract l h), none)
        | none => none
      | none => none
    | _ => none
  | .fld off x => match s.ev x with
    | .ref id len o => match s.H id with
      | some cs => if cs.length = len then some (.ref id len (o + off), none) else none
      | none => none
    | .prow fr cs o => some (.prow fr cs (o + off), none)
    | _ => none
  | .fldv agg off sz x => match s.ev x with
    | .agg cs => if off + sz ≤ cs.length then pureR (mkAV agg ((cs.drop off).take sz)) else none
    | _ => none
  | .idxA sz x i => match s.ev i with
    | .int _ j => match s.ev x with
      | .rows fr cs n => if 0 ≤ j ∧ j < n then some (.prow fr cs (j.toNat * sz), none) else none
      | .own id n sz' => match s.H id with
        | some cs => if cs.length = n * sz' ∧ 0 ≤ j ∧ j < n then some (.ref id (n * sz') (j.toNat * sz), none) else none
        | none => none
      | .osl id len off n sz' => match s.H id with
        | some cs => if cs.length = len ∧ 0 ≤ j ∧ j < n then some (.ref id len (off + j.toNat * sz), none) else none
        | none => none
      | _ => none
    | _ => none
  | .idxP sz n x i => match s.ev i with
    | .int _ j => match s.ev x with
      | .ref id len o => match s.H id with
        | some cs => if cs.length = len ∧ 0 ≤ j ∧ j < n then some (.ref id len (o + j.toNat * sz), none) else none
        | none => none
      | _ => none
    | _ => none
  | .idxS x i => match s.ev x, s.ev i with
    | .str t, .int _ j => if h : 0 ≤ j ∧ j.toNat < t.size then some (.int .u8 (t[j.toNat]'h.2).toNat, none) else none
    | _, _ => none
  | .extract x i => match s.ev x with
    | .tup vs => pureR vs[i]?
    | _ => none
  | .len x => (rd s.H (s.ev x)).map fun r => (.int .i64 r.2, none)
  | .lenS x => match s.ev x with
    | .str t => some (.int .i64 t.size, none)
    | _ => none
  | .append sz x y => match rd s.H (s.ev y) with
    | some (ys, m) => if ys.length = m * sz ∧ ys.all AV.isCell then match s.ev x with
        | .own id n sz' => match s.H id with
          | some cs => if sz' = sz ∧ cs.length = n * sz ∧ pin ≤ id ∧ n + m ≤ 1099511627776 then
              some (.own id (n + m) sz, some (id, cs ++ ys)) else none
          | none => none
        | .val (.slice none 0 0) => if (s.H (16 * d)).isNone ∧ pin ≤ 16 * d ∧ m ≤ 1099511627776 then some (.own (16 * d) m sz, some (16 * d, ys)) else none
        | _ => none
      else none
    | none => none
  | .minmax mx x y => match s.ev x, s.ev y with
    | .int k a, .int _ b => some (.int k (if mx then max a b else min a b), none)
    | _, _ => none
  | .eqS neg l x y => match s.ev x, s.ev y with
    | .agg cs, .agg ds => (eqCells l cs ds).map fun b => (.bool (if neg then !b else b), none)
    | _, _ => none
  | .sliceP sz n x lo hi => match s.ev x with
    | .ref id len off => match s.H id, bnd n n (hi.map s.ev) with
      | some cs, some h => match bnd h 0 (lo.map s.ev) with
        | some l => if cs.length = len ∧ off + n * sz ≤ len then some (.osl id len (off + l * sz) (h - l) sz, none) else none
        | none => none
      | _, _ => none
    | _ => none
  | .isnil _ _ => none
  | .call _ _ => none

end Vw
