/- Regions, code, calls: the abstract walk. -/
import Derived.Test.YtodfknmnhlaiaaaCVwH
set_option linter.unusedVariables false
set_option linter.unusedSimpArgs false
namespace Vw
open Go

structure AOper where
  dst : Option Nat
  op : AOp
  guard : Option (Nat × Bool)
  after : List Nat

inductive ACode where
  | skip
  | reg (ops : List AOper)
  | draw (ops : List AOper)
  | seq (a b : ACode)
  | cond (c : Operand) (t e : ACode)
  | block (id : Nat) (b : ACode)
  | loop (b : ACode)
  | exit (id : Nat)
  | ret

def lowGuard (nt : Nat) (ops : Array Oper) : Option (Nat × Bool) → Option (Option (Nat × Bool))
  | none => some none
  | some (j, b) => match (ops[j]?).bind (·.dst) with
    | some t => if t < nt then some (some (t, b)) else none
    | none => none

def dstOk (nt : Nat) : Option Nat → Bool
  | none => true
  | some d => decide (d < nt)

def lowOper (P : Program) (nt : Nat) (ops : Array Oper) (o : Oper) : Option AOper :=
  match lowOp P o.op, lowGuard nt ops o.guard, dstOk nt o.dst with
  | some ao, some g, true => some ⟨o.dst, ao, g, (o.after.toList.filter (Region.binds .any)).map (·.on)⟩
  | _, _, _ => none

def lowOpers (P : Program) (nt : Nat) (ops : Array Oper) : List Oper → Option (List AOper)
  | [] => some []
  | o :: r => match lowOper P nt ops o, lowOpers P nt ops r with
    | some x, some l => some (x :: l)
    | _, _ => none

def lowCode (P : Program) (nt : Nat) : Code → Option ACode
  | .skip => some .skip
  | .region _ ops dr => (lowOpers P nt ops ops.toList).map fun l => if dr then .draw l else .reg l
  | .seq a b => match lowCode P nt a, lowCode P nt b with
    | some x, some y => some (.seq x y)
    | _, _ => none
  | .cond c t e => match lowCode P nt t, lowCode P nt e with
    | some x, some y => some (.cond c x y)
    | _, _ => none
  | .block id b => (lowCode P nt b).map (.block id)
  | .loop b => (lowCode P nt b).map .loop
  | .exit id => some (.exit id)
  | .ret => some .ret
  | _ => none

/-! ### One operation, and a list of them -/

def S.put (s : S) (dst : Option Nat) (v : AV) (u : Option (Nat × List AV)) : S :=
  ⟨match dst with | some d => upd s.σ d v | none => s.σ, updO s.H u⟩

def aguard (s : S) : Option (Nat × Bool) → Option Bool
  | none => some true
  | some (t, b) => match s.σ t with
    | .bool c => some (c == b)
    | .und => some false
    | _ => none

/-- The state at a call's return, and what is owed of the call: whoever proves it has the callee's contract. -/
def callOwed (P : Program) (pin : Nat) (f : Nat) (args : List Operand) (dst : Option Nat) (K : S → Prop) (s : S) : Prop :=
  ∀ E M a w, E.pin = pin → dstOk E.nt dst = true → St E M s a w → Calls P f (args.map a.eval).toArray w fun e w' => ∃ M' s' v, K s' ∧ e = .returned v ∧ St E M' s' (a.put dst v) w'

/-- A comparison with nil: of a slice that is told it is known just that a nil one has no elements. -/
def nilStep (neg : Bool) (dst : Option Nat) (K : S → Prop) (s : S) : AV → Prop
  | .val (.slice none 0 0) => K (s.put dst (.bool (if neg then false else true)) none)
  | .rows _ _ n => ∀ b : Bool, (b = true → n = 0) → K (s.put dst (.bool (if neg then !b else b)) none)
  | .own id n sz => (∃ cs, s.H id = some cs ∧ cs.length = n * sz) ∧ ∀ b : Bool, (b = true → n = 0) → K (s.put dst (.bool (if neg then !b else b)) none)
  | _ => False

theorem nilStep_mono {neg : Bool} {dst : Option Nat} {K K' : S → Prop} {s : S} (h : ∀ s, K s → K' s) : ∀ {a : AV}, nilStep neg dst K s a → nilStep neg dst K' s a := by
  intro a
  unfold nilStep
  split
  · exact h _
  · exact fun hh b hb => h _ (hh b hb)
  · exact fun ⟨h1, hh⟩ => ⟨h1, fun b hb => h _ (hh b hb)⟩
  · exact id

def astep (P : Program) (pin : Nat) (o : AOper) (K : S → Prop) (s : S) : Prop :=
  match o.op with
  | .call f args => callOwed P pin f args o.dst K s
  | .isnil neg x => nilStep neg o.dst K s (s.ev x)
  | ao => match arun s pin (o.dst.getD 0) ao with
    | some r => K (s.put o.dst r.1 r.2)
    | none => False

def aSeq (P : Program) (pin : Nat) : List AOper → (S → Prop) → S → Prop
  | [], K, s => K s
  | o :: r, K, s => match aguard s o.guard with
    | some g => (g = true → astep P pin o (aSeq P pin r K) s) ∧ (g = false → aSeq P pin r K (s.put o.dst .und none))
    | none => False

/-- What is told of the state. -/
def Told (E : Env) (K : S → Prop) : Act → World → Prop := fun a w => ∃ M s, St E M s a w ∧ K s

section
variable {P : Program} {E : Env} {M : Nat → Option Nat} {s : S} {a : Act} {w : World}

theorem getD_put (a : Act) (d : Nat) (v : Value) (t : Nat) (hd : d < a.tmps.size) : (a.put (some d) v).tmps.getD t undef = if t = d then v else a.tmps.getD t undef := by
  simp only [Act.put, Array.getD_eq_getD_getElem?, Array.getElem?_setIfInBounds]
  by_cases h : d = t
  · subst h; simp [hd]
  · rw [if_neg h, if_neg (Ne.symm h)]

theorem St.put (h : St E M s a w) {M' : Nat → Option Nat} {w' : World} {dst : Option Nat} {v' : AV} {v : Value} {u : Option (Nat × List AV)} (hd : dstOk E.nt dst = true)
    (ht : Tr E M s.H w M' (updO s.H u) w') (hv : Den (E.C M' (updO s.H u) w') v' v) : St E M' (s.put dst v' u) (a.put dst v) w' := by
  cases dst with
  | none => exact ⟨h.defers, h.size, fun t => Den.keeps ht.keeps (h.slots t), ht.hok, ht.old⟩
  | some d =>
    have hd' : d < a.tmps.size := by simpa [dstOk, h.size] using hd
    refine ⟨h.defers, by simp [Act.put, h.size], fun t => ?_, ht.hok, ht.old⟩
    rw [getD_put a d v t hd']
    by_cases htd : t = d
    · subst htd; simp only [S.put, upd_eq, if_true]; exact hv
    · simp only [S.put, upd_ne _ _ _ _ htd, if_neg htd]; exact Den.keeps ht.keeps (h.slots t)

theorem St.skip (h : St E M s a w) {dst : Option Nat} (hd : dstOk E.nt dst = true) : St E M (s.put dst .und none) (a.put dst undef) w :=
  h.put (u := none) hd (Tr.refl h) (by simp [Den])

theorem aguard_spec (h : St E M s a w) {ops : Array Oper} {o : Oper} {gd : Option (Nat × Bool)} (hl : lowGuard E.nt ops o.guard = some gd) {g : Bool} (hg : aguard s gd = some g) : Region.wanted o (yielded ops a.tmps) = g := by
  unfold lowGuard at hl
  split at hl
  · rename_i hn
    simp only [Option.some.injEq] at hl
    subst hl
    simp only [aguard, Option.some.injEq] at hg
    subst hg
    simp [Region.wanted, hn]
  · rename_i j b hgd
    split at hl
    · rename_i t ht
      split at hl
      · rename_i hlt
        simp only [Option.some.injEq] at hl
        subst hl
        have htl : t < a.tmps.size := by rw [h.size]; exact hlt
        have hden := h.slots t
        simp only [aguard] at hg
        have hy : yielded ops a.tmps j = match a.tmps.getD t undef with | .bool b => some b | _ => none := by
          simp only [yielded, ht, Option.bind_some, Array.getD_eq_getD_getElem?, Array.getElem?_eq_getElem htl, Option.getD_some]
          cases a.tmps[t] <;> rfl
        split at hg
        · rename_i c hc
          rw [hc] at hden
          simp only [Den] at hden
          simp only [Option.some.injEq] at hg
          subst hg
          simp only [Region.wanted, hgd, hy, hden]
          cases c <;> cases b <;> rfl
        · rename_i hc
          rw [hc] at hden
          simp only [Den] at hden
          simp only [Option.some.injEq] at hg
          subst hg
          simp only [Region.wanted, hgd, hy, hden]
          cases b <;> rfl
        · cases hg
      · cases hl
    · cases hl

theorem callee_of_low {c : Call} {f : Nat} {args : List Operand} (hl : lowCall P c = some (.call f args)) :
    c.callee = .value (.func f) ∧ c.args.toList = args ∧ ∃ fn, P.funcs[f]? = some fn ∧ fn.body.isSome = true ∧ (fn.name == "runtime.NumGoroutine") = false := by
  replace hl := lowCall_old hl (fun _ _ _ h => by cases h)
  unfold lowCall0 at hl
  split at hl
  · (repeat' (split at hl)) <;> simp at hl
  · (repeat' (split at hl)) <;> simp at hl
  · rename_i f' hc1
    split at hl
    · rename_i fn hfn
      split at hl
      · rename_i hb
        simp only [Option.some.injEq, AOp.call.injEq] at hl
        obtain ⟨rfl, rfl⟩ := hl
        exact ⟨hc1, rfl, fn, hfn, hb.1, hb.2⟩
      · cases hl
    · cases hl
  · cases hl

theorem run_call {o : Oper} {c : Call} {f : Nat} {args : List Operand} (ho : o.op = .call c) (hl : lowCall P c = some (.call f args)) : (execOp a.eval o).run P w = .ok (.enter f (args.map a.eval).toArray) w := by
  obtain ⟨h1, h2, fn, h3, h4, h5⟩ := callee_of_low hl
  have hargs : c.args.map a.eval = (args.map a.eval).toArray := by
    apply Array.ext'
    simp [h2]
  have hn : ¬ fn.body = none := by intro hb; rw [hb] at h4; cases h4
  have h6 : ¬ fn.name = "runtime.NumGoroutine" := by simpa using h5
  simp [execOp, ho, resolve, h1, Act.eval, Deferred.ofValue, invoke, callFunc, h3, h6, hn, hargs]

theorem call_of_low {op : Op} {f : Nat} {args : List Operand} (hl : lowOp P op = some (.call f args)) : ∃ c, op = .call c ∧ lowCall P c = some (.call f args) := by
  cases op
  case call c => exact ⟨c, rfl, hl⟩
  case slice t x lo hi mx =>
    exfalso
    cases mx with
    | some _ => simp [lowOp] at hl
    | none =>
      simp only [lowOp] at hl
      split at hl
      · cases hz : sizeAt P ‹_› <;> simp [hz] at hl
      · simp at hl
      · obtain ⟨_, _, _, _, _, he⟩ := lowSliceP_some hl; cases he
  case build t ps =>
    exfalso
    simp only [lowOp] at hl
    split at hl
    · split at hl
      · rename_i places hp
        cases hpa : partsAt places ps.toList <;> simp [hpa] at hl
      · cases hl
    · cases hz : sizeAt P ‹_› <;> simp [hz] at hl
    · cases hl
  case alloc t => exfalso; simp only [lowOp] at hl; cases hz : zeroCells P t <;> simp [hz] at hl
  case store t x v => exfalso; simp only [lowOp] at hl; cases hz : sizeAt P t <;> simp [hz] at hl
  case indexAddr t x i =>
    exfalso
    simp only [lowOp] at hl
    split at hl
    · cases hz : sizeAt P ‹_› <;> simp [hz] at hl
    · cases hz : sizeAt P ‹_› <;> simp [hz] at hl
    · cases hl
  case binOp op t x y yt =>
    exfalso
    simp only [lowOp] at hl
    split at hl
    · simp at hl
    · unfold lowBin at hl
      (repeat' (split at hl)) <;> simp at hl
  all_goals
    exfalso
    simp only [lowOp] at hl
    first
      | (simp at hl; done)
      | ((repeat' (split at hl)) <;> simp at hl; done)

theorem isnil_of_low {op : Op} {neg : Bool} {x : Operand} (hl : lowOp P op = some (.isnil neg x)) : ∃ t e bop yt, op = .binOp bop t x (.const (.slice none 0 0)) yt ∧ P.underlying t = some (.slice e) ∧ ((bop = .eql ∧ neg = false) ∨ (bop = .neq ∧ neg = true)) := by
  cases op
  case binOp bop t x' y yt =>
    simp only [lowOp] at hl
    split at hl
    · simp at hl
    · unfold lowBin at hl
      split at hl
      · (repeat' (split at hl)) <;> simp at hl
      · split at hl
        · rename_i e he
          split at hl
          · rename_i neg' hneg
            split at hl
            · rename_i hy
              simp only [Option.some.injEq, AOp.isnil.injEq] at hl
              obtain ⟨rfl, rfl⟩ := hl
              rw [isNilC_true hy]
              exact ⟨t, e, bop, yt, rfl, sliceOf_some he, isEq_some hneg⟩
            · cases hl
          · cases hl
        · simp at hl
  case call c =>
    exfalso
    have hl' : lowCall P c = some (.isnil neg x) := hl
    replace hl' := lowCall_old hl' (fun _ _ _ h => by cases h)
    unfold lowCall0 at hl'
    (repeat' (split at hl')) <;> simp at hl'
  case slice t x' lo hi mx =>
    exfalso
    cases mx with
    | some _ => simp [lowOp] at hl
    | none =>
      simp only [lowOp] at hl
      split at hl
      · cases hz : sizeAt P ‹_› <;> simp [hz] at hl
      · simp at hl
      · obtain ⟨_, _, _, _, _, he⟩ := lowSliceP_some hl; cases he
  case build t ps =>
    exfalso
    simp only [lowOp] at hl
    split at hl
    · split at hl
      · rename_i places hp
        cases hpa : partsAt places ps.toList <;> simp [hpa] at hl
      · cases hl
    · cases hz : sizeAt P ‹_› <;> simp [hz] at hl
    · cases hl
  case alloc t => exfalso; simp only [lowOp] at hl; cases hz : zeroCells P t <;> simp [hz] at hl
  case store t x' v => exfalso; simp only [lowOp] at hl; cases hz : sizeAt P t <;> simp [hz] at hl
  case indexAddr t x' i =>
    exfalso
    simp only [lowOp] at hl
    split at hl
    · cases hz : sizeAt P ‹_› <;> simp [hz] at hl
    · cases hz : sizeAt P ‹_› <;> simp [hz] at hl
    · cases hl
  all_goals
    exfalso
    simp only [lowOp] at hl
    first
      | (simp at hl; done)
      | ((repeat' (split at hl)) <;> simp at hl; done)

theorem astep_sound (h : St E M s a w) {o : Oper} {ao : AOper} {ops : Array Oper} {K : S → Prop} {K' : Act → World → Prop} {Q : Exit → Act → World → Prop} (hl : lowOper P E.nt ops o = some ao)
    (hK : ∀ a w, Told E K a w → K' a w) (hs : astep P E.pin ao K s) : o.wp P a w K' Q := by
  unfold lowOper at hl
  split at hl
  · rename_i op g hop hg hd
    simp only [Option.some.injEq] at hl
    subst hl
    have base : ∀ r, arun s E.pin (o.dst.getD 0) op = some r → K (s.put o.dst r.1 r.2) → o.wp P a w K' Q := by
      intro r hr hk
      obtain ⟨M', w', v, ht, hrun, hden⟩ := arun_sound h hop hr
      have hst := h.put (dst := o.dst) hd ht hden
      unfold Oper.wp
      rcases hrun with hrun | ⟨hrun, rfl⟩
      · rw [hrun]; exact hK _ _ ⟨M', _, hst, hk⟩
      · rw [hrun]; exact hK _ _ ⟨M', _, hst, hk⟩
    simp only [astep] at hs
    cases op
    case isnil neg x =>
      simp only at hs
      obtain ⟨t, e, bop, yt, ho, hu, hbop⟩ := isnil_of_low hop
      have hx := h.ev x
      have fin : ∀ p n c, a.eval x = .slice p n c → K (s.put o.dst (.bool (if neg then !p.isNone else p.isNone)) none) → o.wp P a w K' Q := fun p n c hv hk => by
        have hrun := run_isnil h ho hu hbop hv
        have hst := h.put (dst := o.dst) (u := none) hd (Tr.refl h) (v := .bool (if neg then !p.isNone else p.isNone)) (v' := .bool (if neg then !p.isNone else p.isNone)) (by simp [Den])
        unfold Oper.wp
        rw [hrun]
        exact hK _ _ ⟨M, _, hst, hk⟩
      unfold nilStep at hs
      split at hs
      · rename_i hxv
        rw [hxv] at hx
        simp only [Den] at hx
        exact fin none 0 0 hx (by simpa using hs)
      · rename_i fr cs n hxv
        rw [hxv] at hx
        simp only [Den] at hx
        rcases hx with ⟨h1, _, h3⟩ | ⟨g, o', cap, cur, e', fz, h1, _⟩
        · subst h3; obtain ⟨p, c', h1⟩ := h1.at; exact fin p 0 c' h1 (hs p.isNone fun _ => rfl)
        · exact fin _ _ _ h1 (hs false fun h => by cases h)
      · rename_i id n sz hxv
        rw [hxv] at hx
        simp only [Den] at hx
        obtain ⟨⟨cs, hc1, hc2⟩, hs⟩ := hs
        obtain ⟨_, cs', h3, _, hval⟩ := hx
        have h3' : s.H id = some cs' := h3
        rw [hc1] at h3'
        injection h3' with h3'
        subst h3'
        rcases hval hc2 with ⟨a1, b1, _⟩ | ⟨g, cap, cur, e', _, b1, _⟩
        · exact fin none 0 0 a1 (hs true fun _ => b1)
        · exact fin _ _ _ b1 (hs false fun h => by cases h)
      · exact hs.elim
    case call f args =>
      simp only at hs
      have hc := hs E M a w rfl hd h
      unfold Oper.wp
      obtain ⟨c, hop', hop2⟩ := call_of_low hop
      rw [run_call hop' hop2, Oper.upon_enter]
      refine hc.mono fun e w' ⟨M', s', v, hk, he, hst⟩ => ?_
      subst he
      exact hK _ _ ⟨M', s', hst, hk⟩
    all_goals
      simp only at hs
      split at hs
      · rename_i r hr
        exact base r hr hs
      · exact hs.elim
  · cases hl

theorem aSeq_sound {ops : Array Oper} {Q : Exit → Act → World → Prop} {K : S → Prop} (hK : ∀ a w, Told E K a w → Q .normal a w) :
    ∀ (l : List Oper) (al : List AOper) (M : Nat → Option Nat) (s : S) (a : Act) (w : World), lowOpers P E.nt ops l = some al → St E M s a w → aSeq P E.pin al K s → wpList P ops Q l a w
  | [], al, M, s, a, w, hl, h, hs => by
    simp [lowOpers] at hl
    subst hl
    exact hK a w ⟨M, s, h, hs⟩
  | o :: r, al, M, s, a, w, hl, h, hs => by
    simp only [lowOpers] at hl
    split at hl
    · rename_i x l' hx hl'
      simp only [Option.some.injEq] at hl
      subst hl
      simp only [aSeq] at hs
      split at hs
      · rename_i g hg
        have hx' := hx
        unfold lowOper at hx
        split at hx
        · rename_i op gd hop hgd hd
          simp only [Option.some.injEq] at hx
          subst hx
          have hw := aguard_spec h hgd hg
          unfold wpList
          rw [hw]
          cases g with
          | true =>
            simp only [if_true]
            refine .inl (astep_sound h hx' (fun a' w' ⟨M', s', hst, hk⟩ => ?_) (hs.1 rfl))
            exact aSeq_sound hK r l' M' s' a' w' hl' hst hk
          | false =>
            simp only [Bool.false_eq_true, if_false]
            exact aSeq_sound hK r l' M _ _ w hl' (h.skip hd) (hs.2 rfl)
        · cases hx
      · exact hs.elim
    · cases hl

end

/-! ### Code -/

/-- The abstract walk of a piece of code: whatever code is lowered to it, from whatever concrete state is told so. -/
def awp (P : Program) (pin : Nat) (c : ACode) (Q : Exit → S → Prop) (s : S) : Prop :=
  ∀ E M a w (cc : Code), E.pin = pin → lowCode P E.nt cc = some c → St E M s a w → cc.wp P (fun e a' w' => Told E (Q e) a' w') a w

section
variable {P : Program} {pin : Nat} {Q : Exit → S → Prop} {s : S}

theorem awp_mono {c : ACode} {Q' : Exit → S → Prop} (hq : ∀ e s, Q e s → Q' e s) (h : awp P pin c Q s) : awp P pin c Q' s :=
  fun E M a w cc hp hl hs => Go.wp_mono (h E M a w cc hp hl hs) fun e a w ⟨M', s', h1, h2⟩ => ⟨M', s', h1, hq e s' h2⟩

theorem awp_skip (h : Q .normal s) : awp P pin .skip Q s := by
  intro E M a w cc hp hl hs
  cases cc <;> simp only [lowCode] at hl <;> first
    | exact wp_skip ⟨M, s, hs, h⟩
    | (exfalso; first | (simp at hl; done) | ((repeat' (split at hl)) <;> simp at hl; done) | (simp only [Option.map_eq_some_iff] at hl; obtain ⟨_, _, hl⟩ := hl; (try split at hl) <;> simp at hl; done))

theorem awp_ret (h : Q .ret s) : awp P pin .ret Q s := by
  intro E M a w cc hp hl hs
  cases cc <;> simp only [lowCode] at hl <;> first
    | exact wp_ret ⟨M, s, hs, h⟩
    | (exfalso; first | (simp at hl; done) | ((repeat' (split at hl)) <;> simp at hl; done) | (simp only [Option.map_eq_some_iff] at hl; obtain ⟨_, _, hl⟩ := hl; (try split at hl) <;> simp at hl; done))

theorem awp_exit {id : Nat} (h : Q (.exit id) s) : awp P pin (.exit id) Q s := by
  intro E M a w cc hp hl hs
  cases cc <;> simp only [lowCode] at hl <;> first
    | (simp only [Option.some.injEq, ACode.exit.injEq] at hl; subst hl; exact wp_exit ⟨M, s, hs, h⟩)
    | (exfalso; first | (simp at hl; done) | ((repeat' (split at hl)) <;> simp at hl; done) | (simp only [Option.map_eq_some_iff] at hl; obtain ⟨_, _, hl⟩ := hl; (try split at hl) <;> simp at hl; done))

theorem awp_reg {ops : List AOper} (h : aSeq P pin ops (Q .normal) s) : awp P pin (.reg ops) Q s := by
  intro E M a w cc hp hl hs
  subst hp
  cases cc <;> simp only [lowCode] at hl <;> first
    | (exfalso; first | (simp at hl; done) | ((repeat' (split at hl)) <;> simp at hl; done) | (simp only [Option.map_eq_some_iff] at hl; obtain ⟨_, _, hl⟩ := hl; (try split at hl) <;> simp at hl; done))
    | skip
  rename_i id os dr
  simp only [Option.map_eq_some_iff] at hl
  obtain ⟨l, hl1, hl2⟩ := hl
  cases dr with
  | true => simp at hl2
  | false =>
    simp only [Bool.false_eq_true, if_false, ACode.reg.injEq] at hl2
    subst hl2
    exact wp_region_list (aSeq_sound (fun a w h => h) os.toList l M s a w hl1 hs h)

/-- What follows a piece of code. -/
def athen (next : S → Prop) (Q : Exit → S → Prop) : Exit → S → Prop
  | .normal, s => next s
  | e, s => Q e s

theorem awp_seq {x y : ACode} (h : awp P pin x (athen (awp P pin y Q) Q) s) : awp P pin (.seq x y) Q s := by
  intro E M a w cc hp hl hs
  cases cc <;> simp only [lowCode] at hl <;> first
    | (exfalso; first | (simp at hl; done) | (simp only [Option.map_eq_some_iff] at hl; obtain ⟨_, _, hl⟩ := hl; (try split at hl) <;> simp at hl; done) | ((repeat' (split at hl)) <;> simp at hl; done))
    | skip
  rename_i cx cy
  split at hl
  · rename_i x' y' hx hy
    simp only [Option.some.injEq, ACode.seq.injEq] at hl
    obtain ⟨rfl, rfl⟩ := hl
    refine wp_seq (Go.wp_mono (h E M a w cx hp hx hs) fun e a' w' ⟨M', s', h1, h2⟩ => ?_)
    cases e with
    | normal => exact h2 E M' a' w' cy hp hy h1
    | _ => exact ⟨M', s', h1, h2⟩
  · cases hl

theorem awp_cond {c : Operand} {t e : ACode} (b : Bool) (hb : s.ev c = .bool b) (ht : b = true → awp P pin t Q s) (he : b = false → awp P pin e Q s) : awp P pin (.cond c t e) Q s := by
  intro E M a w cc hp hl hs
  cases cc <;> simp only [lowCode] at hl <;> first
    | (exfalso; first | (simp at hl; done) | (simp only [Option.map_eq_some_iff] at hl; obtain ⟨_, _, hl⟩ := hl; (try split at hl) <;> simp at hl; done) | ((repeat' (split at hl)) <;> simp at hl; done))
    | skip
  split at hl
  · rename_i x' y' hx hy
    simp only [Option.some.injEq, ACode.cond.injEq] at hl
    obtain ⟨rfl, rfl, rfl⟩ := hl
    have hd := hs.ev ‹Operand›
    rw [hb] at hd
    simp only [Den] at hd
    cases b with
    | true => exact wp_cond_true hd (ht rfl E M a w _ hp hx hs)
    | false => exact wp_cond_false hd (he rfl E M a w _ hp hy hs)
  · cases hl

def ablock (id : Nat) (Q : Exit → S → Prop) : Exit → S → Prop
  | .exit id', s => if id' = id then Q .normal s else Q (.exit id') s
  | e, s => Q e s

theorem awp_block {id : Nat} {b : ACode} (h : awp P pin b (ablock id Q) s) : awp P pin (.block id b) Q s := by
  intro E M a w cc hp hl hs
  cases cc <;> simp only [lowCode] at hl <;> first
    | (exfalso; first | (simp at hl; done) | ((repeat' (split at hl)) <;> simp at hl; done) | (simp only [Option.map_eq_some_iff] at hl; obtain ⟨_, _, hl⟩ := hl; (try split at hl) <;> simp at hl; done))
    | skip
  simp only [Option.map_eq_some_iff] at hl
  obtain ⟨l, hl1, hl2⟩ := hl
  simp only [ACode.block.injEq] at hl2
  obtain ⟨rfl, rfl⟩ := hl2
  refine wp_block (Go.wp_mono (h E M a w _ hp hl1 hs) fun e a' w' ⟨M', s', h1, h2⟩ => ?_)
  cases e with
  | exit id' =>
    simp only [Exit.inBlock, ablock] at *
    split
    · rename_i hid; rw [if_pos hid] at h2; exact ⟨M', s', h1, h2⟩
    · rename_i hid; rw [if_neg hid] at h2; exact ⟨M', s', h1, h2⟩
  | _ => exact ⟨M', s', h1, h2⟩

end
end Vw
