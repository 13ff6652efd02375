/- The abstract values of this verifier's own walk: what a slot may hold, told as data; and what it means that a concrete value is told so in a world. -/
import Derived.WalkKit
import Derived.Orders
set_option linter.unusedVariables false
namespace Vw
open Go

/-- What a slot holds, as data. -/
inductive AV where
  | unk
  | und
  | int (k : IntKind) (n : Int)
  | bool (b : Bool)
  | str (s : ByteArray)
  | val (v : Value)
  | agg (cs : List AV)
  | tup (cs : List AV)
  | rows (fr : Bool) (cs : List AV) (n : Nat)
  | prow (fr : Bool) (cs : List AV) (off : Nat)
  | ref (id len off : Nat)
  | own (id n sz : Nat)
  | osl (id len off n sz : Nat)

/-- Where data lie: the world, the block of each object, each object's cells, and two sets of blocks to keep away from. -/
structure Ctx where
  w : World
  M : Nat → Option Nat
  H : Nat → Option (List AV)
  A : Nat → Prop
  B : Nat → Prop

def Ctx.ok (C : Ctx) (fr : Bool) (g : Nat) : Prop := (∀ id, C.M id ≠ some g) ∧ ¬ C.B g ∧ (fr = true → ¬ C.A g)

/-- A slice without elements, wherever it points. -/
def EmptyS (v : Value) : Prop := v = .slice none 0 0 ∨ ∃ a c, v = .slice (some a) 0 c

theorem EmptyS.nil : EmptyS (.slice none 0 0) := .inl rfl
theorem EmptyS.one {v : Value} (h : EmptyS v) : v.oneCell' = true := by
  rcases h with rfl | ⟨a, c, rfl⟩ <;> rfl
theorem EmptyS.at {v : Value} (h : EmptyS v) : ∃ p c, v = .slice p 0 c := by
  rcases h with rfl | ⟨a, c, rfl⟩
  · exact ⟨_, _, rfl⟩
  · exact ⟨_, _, rfl⟩

mutual
def Den (C : Ctx) : AV → Value → Prop
  | .unk, _ => True
  | .und, v => v = undef
  | .int k n, v => v = .int k n
  | .bool b, v => v = .bool b
  | .str s, v => v = .string s
  | .val u, v => v = u
  | .agg cs, v => ∃ vs : Array Value, v = .agg vs ∧ vs.size = cs.length ∧ DenP C cs vs.toList
  | .tup cs, v => ∃ vs : Array Value, v = .tuple vs ∧ vs.size = cs.length ∧ DenP C cs vs.toList
  | .rows fr cs n, v => (EmptyS v ∧ cs = [] ∧ n = 0) ∨
      ∃ g o cap cur e fz, v = .slice (some ⟨g, o, none⟩) n cap ∧ C.w.heap[g]? = some (.cells cur e fz) ∧ C.ok fr g ∧ n ≤ cap ∧ DenP C cs (cur.toList.drop o)
  | .prow fr cs off, v => ∃ g o cur e fz, v = .pointer (some ⟨g, o + off, none⟩) ∧ C.w.heap[g]? = some (.cells cur e fz) ∧ C.ok fr g ∧ DenP C cs (cur.toList.drop o)
  | .ref id len off, v => v.oneCell' = true ∧ ∃ cs, C.H id = some cs ∧ len ≤ cs.length ∧ (cs.length = len → ∃ g, C.M id = some g ∧ v = .pointer (some ⟨g, off, none⟩))
  | .own id n sz, v => v.oneCell' = true ∧ ∃ cs, C.H id = some cs ∧ n * sz ≤ cs.length ∧ (cs.length = n * sz → (v = .slice none 0 0 ∧ n = 0 ∧ C.M id = none) ∨
      ∃ g cap cur e, C.M id = some g ∧ v = .slice (some ⟨g, 0, none⟩) n cap ∧ n ≤ cap ∧ cap ≤ maxLen ∧ C.w.heap[g]? = some (.cells cur e (0, 0)) ∧ cur.size = cap * sz)
  | .osl id len off n sz, v => v.oneCell' = true ∧ ∃ cs, C.H id = some cs ∧ len ≤ cs.length ∧ off + n * sz ≤ len ∧ (cs.length = len → (v = .slice none 0 0 ∧ n = 0) ∨ ∃ g o cap, C.M id = some g ∧ v = .slice (some ⟨g, o, none⟩) n cap ∧ n ≤ cap ∧ (n ≠ 0 → o = off))
def DenP (C : Ctx) : List AV → List Value → Prop
  | [], _ => True
  | _ :: _, [] => False
  | a :: as, v :: vs => Den C a v ∧ DenP C as vs
end

theorem denP_get {C : Ctx} : ∀ {cs : List AV} {vs : List Value}, DenP C cs vs ↔ ∀ (j : Nat) (a : AV), cs[j]? = some a → ∃ v, vs[j]? = some v ∧ Den C a v
  | [], vs => by simp [DenP]
  | a :: as, [] => by
    simp only [DenP, false_iff]
    intro h
    obtain ⟨v, hv, _⟩ := h 0 a rfl
    simp at hv
  | a :: as, v :: vs => by
    simp only [DenP]
    rw [denP_get (cs := as)]
    constructor
    · rintro ⟨h0, h1⟩ j b hb
      cases j with
      | zero => simp at hb; subst hb; exact ⟨v, rfl, h0⟩
      | succ j => simpa using h1 j b (by simpa using hb)
    · intro h
      refine ⟨?_, fun j b hb => ?_⟩
      · obtain ⟨u, hu, hd⟩ := h 0 a rfl
        simp at hu
        subst hu
        exact hd
      · simpa using h (j + 1) b (by simpa using hb)

theorem denP_length {C : Ctx} {cs : List AV} {vs : List Value} (h : DenP C cs vs) : cs.length ≤ vs.length := by
  rcases Nat.lt_or_ge vs.length cs.length with hl | hl
  · have := (denP_get.1 h) vs.length cs[vs.length] (List.getElem?_eq_getElem hl)
    obtain ⟨v, hv, _⟩ := this
    simp at hv
  · exact hl

theorem denP_drop {C : Ctx} {cs : List AV} {vs : List Value} (h : DenP C cs vs) (k : Nat) : DenP C (cs.drop k) (vs.drop k) := by
  rw [denP_get] at *
  intro j a ha
  rw [List.getElem?_drop] at ha
  simpa [List.getElem?_drop] using h (k + j) a ha

theorem denP_take {C : Ctx} {cs : List AV} {vs : List Value} (h : DenP C cs vs) (k : Nat) : DenP C (cs.take k) vs := by
  rw [denP_get] at *
  intro j a ha
  rw [List.getElem?_take] at ha
  split at ha
  · exact h j a ha
  · cases ha

theorem denP_take' {C : Ctx} {cs : List AV} {vs : List Value} (h : DenP C cs vs) (k : Nat) : DenP C (cs.take k) (vs.take k) := by
  rw [denP_get] at *
  intro j a ha
  rw [List.getElem?_take] at ha
  split at ha
  · rename_i hj
    obtain ⟨v, hv, hd⟩ := h j a ha
    exact ⟨v, by rw [List.getElem?_take, if_pos hj]; exact hv, hd⟩
  · cases ha

theorem denP_append {C : Ctx} {cs ds : List AV} {vs us : List Value} (h : DenP C cs vs) (hl : vs.length = cs.length) (k : DenP C ds us) : DenP C (cs ++ ds) (vs ++ us) := by
  rw [denP_get] at *
  intro j a ha
  rw [List.getElem?_append] at ha ⊢
  split at ha
  · rename_i hj
    rw [if_pos (by omega)]
    exact h j a ha
  · rename_i hj
    rw [if_neg (by omega), hl]
    exact k _ a ha

theorem denP_more {C : Ctx} {cs : List AV} {vs us : List Value} (h : DenP C cs vs) : DenP C cs (vs ++ us) := by
  rw [denP_get] at *
  intro j a ha
  obtain ⟨v, hv, hd⟩ := h j a ha
  refine ⟨v, ?_, hd⟩
  rw [List.getElem?_append_left (by exact (List.getElem?_eq_some_iff.1 hv).1)]
  exact hv

theorem denP_set {C : Ctx} {cs : List AV} {vs : List Value} (h : DenP C cs vs) {a : AV} {v : Value} (k : Nat) (hd : Den C a v) : DenP C (cs.set k a) (vs.set k v) := by
  have hl := denP_length h
  rw [denP_get] at *
  intro j b hb
  rw [List.getElem?_set] at hb
  split at hb
  · rename_i hj
    subst hj
    split at hb
    · rename_i hk
      refine ⟨v, ?_, ?_⟩
      · rw [List.getElem?_set]; simp; omega
      · injection hb with hb; subst hb; exact hd
    · cases hb
  · rename_i hj
    obtain ⟨u, hu, hdu⟩ := h j b hb
    exact ⟨u, by rw [List.getElem?_set, if_neg hj]; exact hu, hdu⟩

/-! ### A context turns and a value stays told -/

/-- 'C'' keeps all that 'C' tells: pure data lie where they lay, and none of their blocks has become an object's; an object of the same length lies where it lay; objects only grow. -/
structure Keeps (C C' : Ctx) : Prop where
  heap : ∀ g, g < C.w.heap.size → (∀ id, C.M id ≠ some g) → C'.w.heap[g]? = C.w.heap[g]?
  obj : ∀ g, g < C.w.heap.size → (∀ id, C.M id ≠ some g) → ∀ id, C'.M id ≠ some g
  a : ∀ g, g < C.w.heap.size → C'.A g → C.A g
  b : ∀ g, g < C.w.heap.size → C'.B g → C.B g
  ref : ∀ id cs, C.H id = some cs → ∃ cs', C'.H id = some cs' ∧ cs.length ≤ cs'.length ∧ (cs'.length = cs.length → C'.M id = C.M id)
  own : ∀ id cs cs', C.H id = some cs → C'.H id = some cs' → cs'.length = cs.length → ∀ g, C.M id = some g → ∀ cur e, C.w.heap[g]? = some (.cells cur e (0, 0)) →
    ∃ cur' e', C'.w.heap[g]? = some (.cells cur' e' (0, 0)) ∧ cur'.size = cur.size

theorem Keeps.ok {C C' : Ctx} (k : Keeps C C') {fr : Bool} {g : Nat} (hg : g < C.w.heap.size) (h : C.ok fr g) : C'.ok fr g :=
  ⟨k.obj g hg h.1, fun hb => h.2.1 (k.b g hg hb), fun hf ha => h.2.2 hf (k.a g hg ha)⟩

theorem lt_of_heap {w : World} {g : Nat} {o : Obj} (h : w.heap[g]? = some o) : g < w.heap.size := (Array.getElem?_eq_some_iff.1 h).1

mutual
theorem Den.keeps {C C' : Ctx} (k : Keeps C C') : ∀ {a : AV} {v : Value}, Den C a v → Den C' a v
  | .unk, _, _ => by simp [Den]
  | .und, _, h => by simpa [Den] using h
  | .int .., _, h => by simpa [Den] using h
  | .bool _, _, h => by simpa [Den] using h
  | .str _, _, h => by simpa [Den] using h
  | .val _, _, h => by simpa [Den] using h
  | .agg cs, _, h => by
    simp only [Den] at *
    obtain ⟨vs, h1, h2, h3⟩ := h
    exact ⟨vs, h1, h2, DenP.keeps k h3⟩
  | .tup cs, _, h => by
    simp only [Den] at *
    obtain ⟨vs, h1, h2, h3⟩ := h
    exact ⟨vs, h1, h2, DenP.keeps k h3⟩
  | .rows fr cs n, _, h => by
    simp only [Den] at *
    rcases h with h | ⟨g, o, cap, cur, e, fz, h1, h2, h3, h4, h5⟩
    · exact .inl h
    · exact .inr ⟨g, o, cap, cur, e, fz, h1, (k.heap g (lt_of_heap h2) h3.1).trans h2, k.ok (lt_of_heap h2) h3, h4, DenP.keeps k h5⟩
  | .prow fr cs off, _, h => by
    simp only [Den] at *
    obtain ⟨g, o, cur, e, fz, h1, h2, h3, h5⟩ := h
    exact ⟨g, o, cur, e, fz, h1, (k.heap g (lt_of_heap h2) h3.1).trans h2, k.ok (lt_of_heap h2) h3, DenP.keeps k h5⟩
  | .ref id len off, _, h => by
    simp only [Den] at *
    obtain ⟨h0, cs, h1, h2, h3⟩ := h
    obtain ⟨cs', k1, k2, k3⟩ := k.ref id cs h1
    refine ⟨h0, cs', k1, by omega, fun hl => ?_⟩
    obtain ⟨g, hg, hv⟩ := h3 (by omega)
    exact ⟨g, (k3 (by omega)).trans hg, hv⟩
  | .own id n sz, _, h => by
    simp only [Den] at *
    obtain ⟨h0, cs, h1, h2, h3⟩ := h
    obtain ⟨cs', k1, k2, k3⟩ := k.ref id cs h1
    refine ⟨h0, cs', k1, by omega, fun hl => ?_⟩
    rcases h3 (by omega) with ⟨e1, e2, e3⟩ | ⟨g, cap, cur, e, hg, hv, hn, hc, hh, hs⟩
    · exact .inl ⟨e1, e2, (k3 (by omega)).trans e3⟩
    · obtain ⟨cur', e', hh', hs'⟩ := k.own id cs cs' h1 k1 (by omega) g hg cur e hh
      exact .inr ⟨g, cap, cur', e', (k3 (by omega)).trans hg, hv, hn, hc, hh', by omega⟩
  | .osl id len off n sz, _, h => by
    simp only [Den] at *
    obtain ⟨h0, cs, h1, h2, h4, h3⟩ := h
    obtain ⟨cs', k1, k2, k3⟩ := k.ref id cs h1
    refine ⟨h0, cs', k1, by omega, h4, fun hl => ?_⟩
    rcases h3 (by omega) with h | ⟨g, o, cap, hg, hv⟩
    · exact .inl h
    · exact .inr ⟨g, o, cap, (k3 (by omega)).trans hg, hv⟩
theorem DenP.keeps {C C' : Ctx} (k : Keeps C C') : ∀ {cs : List AV} {vs : List Value}, DenP C cs vs → DenP C' cs vs
  | [], _, _ => by simp [DenP]
  | _ :: _, [], h => by simp [DenP] at h
  | _ :: _, _ :: _, h => by
    simp only [DenP] at *
    exact ⟨Den.keeps k h.1, DenP.keeps k h.2⟩
end

def AV.isCell : AV → Bool
  | .int .. | .bool _ | .str _ | .rows .. | .prow .. | .ref .. | .own .. | .osl .. => true
  | .val v => v.oneCell'
  | _ => false

theorem Den.oneCell {C : Ctx} : ∀ {a : AV} {v : Value}, Den C a v → a.isCell = true → v.oneCell' = true
  | .unk, _, _, h => by simp [AV.isCell] at h
  | .und, _, _, h => by simp [AV.isCell] at h
  | .int .., _, h, _ => by simp only [Den] at h; subst h; rfl
  | .bool _, _, h, _ => by simp only [Den] at h; subst h; rfl
  | .str _, _, h, _ => by simp only [Den] at h; subst h; rfl
  | .val _, _, h, hc => by simp only [Den] at h; subst h; exact hc
  | .agg _, _, _, h => by simp [AV.isCell] at h
  | .tup _, _, _, h => by simp [AV.isCell] at h
  | .rows .., _, h, _ => by
    simp only [Den] at h
    rcases h with ⟨h, _⟩ | ⟨_, _, _, _, _, _, h, _⟩
    · exact h.one
    · subst h; rfl
  | .prow .., _, h, _ => by
    simp only [Den] at h
    obtain ⟨_, _, _, _, _, h, _⟩ := h
    subst h; rfl
  | .ref .., _, h, _ => by simp only [Den] at h; exact h.1
  | .own .., _, h, _ => by simp only [Den] at h; exact h.1
  | .osl .., _, h, _ => by simp only [Den] at h; exact h.1

theorem Keeps.refl (C : Ctx) : Keeps C C :=
  ⟨fun _ _ _ => rfl, fun _ _ h => h, fun _ _ h => h, fun _ _ h => h, fun _ cs h => ⟨cs, h, Nat.le_refl _, fun _ => rfl⟩, fun id cs cs' h h' _ g _ cur e hh => ⟨cur, e, hh, rfl⟩⟩

end Vw
