/- The lowering of the model's operations; the state; what is owed of one operation. -/
import Derived.Test.YtodfknmnhlaiaaaCVwC
set_option linter.unusedVariables false
namespace Vw
open Go

def isAggB (P : Program) (t : TypeId) : Option Bool :=
  match P.underlying t with
  | some (.struct _) | some (.array _ _) => some true
  | some _ => some false
  | none => none

def zeroCells (P : Program) (t : TypeId) : Option (List Value) :=
  match P.info? t with
  | some i => match i.zero with
    | some z => some z.cells.toList
    | none => none
  | none => none

def sizeAt (P : Program) (t : TypeId) : Option Nat := (P.info? t).map (·.size)

def placesOf (P : Program) (fields : Array Field) : Option (List (Nat × Nat)) := fields.toList.mapM fun f => (P.info? f.type).map fun i => (f.offset, i.size)

def partsAt (places : List (Nat × Nat)) : List (Nat × Operand) → Option (List (Nat × Nat × Operand))
  | [] => some []
  | (i, x) :: r => match places[i]? with
    | some q => match partsAt places r with
      | some l => some ((q.1, q.2, x) :: l)
      | none => none
    | none => none

def lowCall0 (P : Program) (c : Call) : Option AOp :=
  match c.callee, c.args.toList, c.argTypes.toList with
  | .builtin .len, [x], [t] => match P.underlying t with
    | some .string => some (.lenS x)
    | some (.slice _) => some (.len x)
    | some (.array n _) => some (.mv (.const (.int .i64 n)))
    | _ => none
  | .builtin .append, [x, y], [t, t'] => if t = t' then match P.underlying t with
    | some (.slice e) => match P.info? e with
      | some i => match i.zero with
        | some z => if z.cells.size = i.size ∧ 0 < i.size ∧ i.bytes ≤ 128 then some (.append i.size x y) else none
        | none => none
      | none => none
    | _ => none else none
  | .value (.func f), l, _ => match P.funcs[f]? with
    | some fn => if fn.body.isSome ∧ (fn.name == "runtime.NumGoroutine") = false then some (.call f l) else none
    | none => none
  | _, _, _ => none

def isMinMax : Callee → Option Bool
  | .builtin .min => some false
  | .builtin .max => some true
  | _ => none

def lowMM (c : Call) : Option AOp :=
  match isMinMax c.callee with
  | some mx => match c.args.toList with
    | [x, y] => some (.minmax mx x y)
    | _ => none
  | none => none

def lowCall (P : Program) (c : Call) : Option AOp :=
  match lowCall0 P c with
  | some a => some a
  | none => lowMM c

theorem lowMM_some {c : Call} {a : AOp} (h : lowMM c = some a) : ∃ mx x y, isMinMax c.callee = some mx ∧ c.args.toList = [x, y] ∧ a = .minmax mx x y := by
  unfold lowMM at h
  split at h
  · rename_i mx hm
    split at h
    · rename_i x y hxy
      simp only [Option.some.injEq] at h
      exact ⟨mx, x, y, hm, hxy, h.symm⟩
    · cases h
  · cases h

theorem lowCall_old {P : Program} {c : Call} {a : AOp} (h : lowCall P c = some a) (hn : ∀ mx x y, a ≠ .minmax mx x y) : lowCall0 P c = some a := by
  unfold lowCall at h
  split at h
  · rename_i b hb; rw [hb]; exact h
  · obtain ⟨mx, x, y, _, _, e⟩ := lowMM_some h
    exact absurd e (hn mx x y)

/-- The parts by which two structs are compared. -/
def eqOffs (P : Program) : List Field → Option (List (Nat × Option IntKind))
  | [] => some []
  | f :: r => if f.name = "_" then none else match P.underlying f.type, eqOffs P r with
    | some (.int k), some l => some ((f.offset, some k) :: l)
    | some .bool, some l => some ((f.offset, none) :: l)
    | _, _ => none

def structOf (P : Program) (t : TypeId) : Option (Array Field) :=
  match P.underlying t with
  | some (.struct fs) => some fs
  | _ => none
def sliceOf (P : Program) (t : TypeId) : Option TypeId :=
  match P.underlying t with
  | some (.slice e) => some e
  | _ => none
def arrAt (P : Program) (t : TypeId) : Option (Nat × TypeId) :=
  match P.underlying t with
  | some (.array n e) => some (n, e)
  | _ => none
def isEq : BinOp → Option Bool
  | .eql => some false
  | .neq => some true
  | _ => none
def isNilC : Operand → Bool
  | .const (.slice none 0 0) => true
  | _ => false

def lowBin (P : Program) (op : BinOp) (t : TypeId) (x y : Operand) : Option AOp :=
  match structOf P t with
  | some fs => match isEq op, eqOffs P fs.toList with
    | some neg, some l => if P.stoodInHeld t = false ∧ P.eqGuardType P.depth t = false then some (.eqS neg l x y) else none
    | _, _ => none
  | none => match sliceOf P t with
    | some _ => match isEq op with
      | some neg => if isNilC y then some (.isnil neg x) else none
      | none => none
    | none => some (.bin op x y)

def lowSliceP (P : Program) (t : TypeId) (x : Operand) (lo hi : Option Operand) : Option AOp :=
  match arrAt P t with
  | some (n, e) => (sizeAt P e).map fun sz => .sliceP sz n x lo hi
  | none => none

theorem structOf_some {P : Program} {t : TypeId} {fs : Array Field} (h : structOf P t = some fs) : P.underlying t = some (.struct fs) := by
  unfold structOf at h
  split at h
  · rename_i fs' hu; injection h with h; subst h; exact hu
  · cases h
theorem sliceOf_some {P : Program} {t e : TypeId} (h : sliceOf P t = some e) : P.underlying t = some (.slice e) := by
  unfold sliceOf at h
  split at h
  · rename_i fs' hu; injection h with h; subst h; exact hu
  · cases h
theorem arrAt_some {P : Program} {t e : TypeId} {n : Nat} (h : arrAt P t = some (n, e)) : P.underlying t = some (.array n e) := by
  unfold arrAt at h
  split at h
  · rename_i n' e' hu'
    injection h with h
    injection h with h1 h2
    subst h1 h2
    exact hu'
  · cases h
theorem isEq_some {op : BinOp} {neg : Bool} (h : isEq op = some neg) : (op = .eql ∧ neg = false) ∨ (op = .neq ∧ neg = true) := by
  cases op <;> simp [isEq] at h <;> simp [h]
theorem isNilC_true {y : Operand} (h : isNilC y = true) : y = .const (.slice none 0 0) := by
  unfold isNilC at h
  split at h
  · rfl
  · cases h
theorem lowSliceP_some {P : Program} {t : TypeId} {x : Operand} {lo hi : Option Operand} {a : AOp} (h : lowSliceP P t x lo hi = some a) : ∃ n e sz, arrAt P t = some (n, e) ∧ sizeAt P e = some sz ∧ a = .sliceP sz n x lo hi := by
  unfold lowSliceP at h
  split at h
  · rename_i n e hu
    cases hs : sizeAt P e with
    | none => simp [hs] at h
    | some sz => simp [hs] at h; exact ⟨n, e, sz, hu, hs, h.symm⟩
  · cases h

def lowOp (P : Program) : Op → Option AOp
  | .move x | .assign x => some (.mv x)
  | .pick c a b => some (.pick c a b)
  | .alloc t => (zeroCells P t).map .alloc
  | .box _ x => some (.box x)
  | .build t ps => match zeroCells P t, P.underlying t with
    | some zs, some (.struct fields) => match placesOf P fields with
      | some places => (partsAt places ps.toList).map (.build zs)
      | none => none
    | some zs, some (.array _ e) => (sizeAt P e).map fun n => .build zs (ps.toList.map fun p => (p.1 * n, n, p.2))
    | _, _ => none
  | .buildSlice t n ps => match P.underlying t with
    | some (.slice e) => match sizeAt P e, zeroCells P e with
      | some sz, some zs => if zs.length = sz ∧ 0 < sz ∧ n * sz ≤ 2 ^ 24 then some (.bslice sz zs ps.toList n) else none
      | _, _ => none
    | _ => none
  | .load t x => match isAggB P t, sizeAt P t with
    | some true, some n => some (.load true n x)
    | some false, some _ => some (.load false 1 x)
    | _, _ => none
  | .store t a v => (sizeAt P t).map fun n => .store n a v
  | .binOp op t x y _ => match P.underlying t with
    | some .bool => some (.binB op x y)
    | _ => lowBin P op t x y
  | .unOp op _ x => some (.un op x)
  | .convert src dst x => match P.underlying src, P.underlying dst with
    | some _, some (.int k) => some (.conv k x)
    | _, _ => none
  | .nilCheck x => some (.nilck x)
  | .makeSlice t l c => match P.underlying t with
    | some (.slice e) => match P.info? e with
      | some i => match i.zero with
        | some z => if z.cells.size = i.size ∧ 0 < i.size ∧ i.bytes ≤ 128 then some (.mkslice i.size z.cells.toList l c) else none
        | none => none
      | none => none
    | _ => none
  | .slice t x lo hi none => match P.underlying t with
    | some (.slice e) => (sizeAt P e).map fun n => .slice n x lo hi
    | some .string => some (.sliceS x lo hi)
    | _ => lowSliceP P t x lo hi
  | .fieldAddr s x f => match P.underlying s with
    | some (.struct fields) => match fields[f]? with
      | some fd => match sizeAt P fd.type with
        | some n => if n = 0 then none else some (.fld fd.offset x)
        | none => none
      | none => none
    | _ => none
  | .field t x f => match P.underlying t with
    | some (.struct fields) => match fields[f]? with
      | some fd => match isAggB P fd.type, sizeAt P fd.type with
        | some true, some n => some (.fldv true fd.offset n x)
        | some false, some _ => some (.fldv false fd.offset 1 x)
        | _, _ => none
      | none => none
    | _ => none
  | .indexAddr t x i => match P.underlying t with
    | some (.slice e) => (sizeAt P e).map fun n => .idxA n x i
    | some (.array len e) => (sizeAt P e).map fun n => .idxP n len x i
    | _ => none
  | .index t x i => match P.underlying t with
    | some .string => some (.idxS x i)
    | _ => none
  | .extract x i => some (.extract x i)
  | .call c => lowCall P c
  | _ => none

def updO (H : Nat → Option (List AV)) : Option (Nat × List AV) → Nat → Option (List AV)
  | none => H
  | some (id, cs) => upd H id (some cs)

/-- The abstract state speaks of the concrete one. -/
structure St (E : Env) (M : Nat → Option Nat) (s : S) (a : Act) (w : World) : Prop where
  defers : a.defers = []
  size : a.tmps.size = E.nt
  slots : ∀ t, Den (E.C M s.H w) (s.σ t) (a.tmps.getD t undef)
  hok : HOK (E.C M s.H w)
  old : Old E M w

theorem St.ev {E : Env} {M : Nat → Option Nat} {s : S} {a : Act} {w : World} (h : St E M s a w) (x : Operand) : Den (E.C M s.H w) (s.ev x) (a.eval x) := by
  cases x with
  | tmp t => exact h.slots t
  | const v => exact den_ofVal _ v
  | global g => simp [S.ev, Act.eval, Den]
  | func f => simp [S.ev, Act.eval, Den]

/-- What is owed of an operation: it yields a value that is told so, and turns the heap as told. -/
def Owed (P : Program) (E : Env) (M : Nat → Option Nat) (s : S) (a : Act) (w : World) (o : Oper) (r : AV × Option (Nat × List AV)) : Prop :=
  ∃ M' w' v, Tr E M s.H w M' (updO s.H r.2) w' ∧ ((execOp a.eval o).run P w = .ok (.value v) w' ∨ ((execOp a.eval o).run P w = .ok .skip w' ∧ v = undef)) ∧ Den (E.C M' (updO s.H r.2) w') r.1 v

section
variable {P : Program} {E : Env} {M : Nat → Option Nat} {s : S} {a : Act} {w : World} {o : Oper}

theorem Tr.refl (h : St E M s a w) : Tr E M s.H w M s.H w := Tr.same h.hok h.old rfl rfl rfl rfl

/-- An operation that touches no memory. -/
theorem owed_pure (h : St E M s a w) {v' : AV} {v : Value} (hr : (execOp a.eval o).run P w = .ok (.value v) w) (hd : Den (E.C M s.H w) v' v) : Owed P E M s a w o (v', none) :=
  ⟨M, w, v, Tr.refl h, .inl hr, hd⟩

theorem cells_spec {C : Ctx} {x : AV} {v : Value} {cs : List AV} (h : Den C x v) (hc : x.cells = some cs) : v.cells.size = cs.length ∧ DenP C cs v.cells.toList ∧ ∀ u ∈ v.cells.toList, u.oneCell' = true := by
  have one : ∀ y : AV, y = x → y.isCell = true → cs = [y] → v.cells.size = cs.length ∧ DenP C cs v.cells.toList ∧ ∀ u ∈ v.cells.toList, u.oneCell' = true := by
    rintro y rfl hy rfl
    have h1 := Den.oneCell h hy
    have hv : v.cells = #[v] := by cases v <;> simp_all [Value.cells, Value.oneCell']
    rw [hv]
    simp [DenP, h, h1]
  cases x
  case agg ds =>
    simp only [AV.cells] at hc
    split at hc
    · rename_i hall
      injection hc with hc
      subst hc
      simp only [Den] at h
      obtain ⟨vs, rfl, h2, h3⟩ := h
      refine ⟨h2, h3, fun u hu => ?_⟩
      obtain ⟨j, hj, rfl⟩ := List.getElem_of_mem hu
      have hj' : j < ds.length := by simpa [Value.cells, h2] using hj
      obtain ⟨v, hv, hd⟩ := (denP_get.1 h3) j ds[j] (List.getElem?_eq_getElem hj')
      have : v = (Value.agg vs).cells.toList[j] := by
        have h4 : vs.toList[j]? = some v := hv
        rw [List.getElem?_eq_getElem (by simpa [Value.cells] using hj)] at h4
        injection h4 with h4
        exact h4.symm
      rw [← this]
      exact Den.oneCell hd (by simpa using List.all_eq_true.1 hall ds[j] (List.getElem_mem hj'))
    · cases hc
  all_goals
    simp only [AV.cells] at hc
    split at hc
    · rename_i hy
      injection hc with hc
      exact one _ rfl hy hc.symm
    · cases hc

theorem setRange_length : ∀ (l : List AV) (cs : List AV) (off : Nat), (setRange cs off l).length = cs.length
  | [], _, _ => rfl
  | c :: r, cs, off => by rw [setRange, setRange_length r]; simp

theorem setRange_get : ∀ (l : List AV) (cs : List AV) (off j : Nat), off + l.length ≤ cs.length →
    (setRange cs off l)[j]? = if off ≤ j ∧ j < off + l.length then l[j - off]? else cs[j]?
  | [], cs, off, j, _ => by simp [setRange]; omega
  | c :: r, cs, off, j, h => by
    simp only [List.length_cons] at h
    rw [setRange, setRange_get r _ _ _ (by simp; omega)]
    by_cases h1 : off = j
    · subst h1
      have : ¬ (off + 1 ≤ off ∧ off < off + 1 + r.length) := by omega
      rw [if_neg this, if_pos (by simp), List.getElem?_set]
      simp; omega
    · by_cases h2 : off + 1 ≤ j ∧ j < off + 1 + r.length
      · rw [if_pos h2, if_pos (by simp; omega)]
        have : j - off = (j - (off + 1)) + 1 := by omega
        rw [this, List.getElem?_cons_succ]
      · rw [if_neg h2, if_neg (by simp; omega), List.getElem?_set, if_neg h1]

theorem denP_setRange {C : Ctx} {cs l : List AV} {vs us : List Value} {off : Nat} (h : DenP C cs vs) (hl : DenP C l us) (hu : us.length = l.length) (ho : off + l.length ≤ cs.length) :
    DenP C (setRange cs off l) (vs.take off ++ us ++ vs.drop (off + l.length)) := by
  have hv := denP_length h
  rw [denP_get] at *
  intro j b hb
  rw [setRange_get _ _ _ _ ho] at hb
  have ht : (vs.take off).length = off := by simp; omega
  split at hb
  · rename_i hj
    obtain ⟨v, hv', hd⟩ := hl (j - off) b hb
    refine ⟨v, ?_, hd⟩
    rw [List.getElem?_append_left (by simp; omega), List.getElem?_append_right (by omega), ht]
    exact hv'
  · rename_i hj
    obtain ⟨v, hv', hd⟩ := h j b hb
    refine ⟨v, ?_, hd⟩
    by_cases hlt : j < off
    · rw [List.getElem?_append_left (by simp; omega), List.getElem?_append_left (by omega), List.getElem?_take, if_pos hlt]
      exact hv'
    · rw [List.getElem?_append_right (by simp; omega), List.getElem?_drop]
      have : off + l.length + (j - (List.take off vs ++ us).length) = j := by simp; omega
      rw [this]
      exact hv'

theorem den_mkAV {C : Ctx} {agg : Bool} {cs : List AV} {vs : List Value} {x : AV} (h : mkAV agg cs = some x) (hd : DenP C cs vs) (hl : vs.length = cs.length) :
    (agg = true ∧ Den C x (.agg vs.toArray)) ∨ (agg = false ∧ ∃ v, vs = [v] ∧ Den C x v) := by
  unfold mkAV at h
  cases agg with
  | true =>
    simp at h
    subst h
    exact .inl ⟨rfl, by simp only [Den]; exact ⟨vs.toArray, rfl, by simpa using hl, by simpa using hd⟩⟩
  | false =>
    refine .inr ⟨rfl, ?_⟩
    match cs, h with
    | [c], h =>
      simp at h
      subst h
      match vs, hl with
      | [v], _ =>
        simp only [DenP] at hd
        exact ⟨v, rfl, hd.1⟩

end
end Vw
