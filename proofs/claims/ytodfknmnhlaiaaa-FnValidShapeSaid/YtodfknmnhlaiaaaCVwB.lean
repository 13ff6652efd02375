/- The abstract state, and the ways in which an operation turns it: a new object, a store into an object, an append to an object. -/
import Derived.Test.YtodfknmnhlaiaaaCVwA
set_option linter.unusedVariables false
namespace Vw
open Go

/-- Each object lies in a block of its own, writable, whose first cells are told. -/
structure HOK (C : Ctx) : Prop where
  has : ∀ id cs, C.H id = some cs → (C.M id = none ∧ cs = []) ∨ ∃ g cur e, C.M id = some g ∧ C.w.heap[g]? = some (.cells cur e (0, 0)) ∧ DenP C cs cur.toList
  no : ∀ id, C.H id = none → C.M id = none
  inj : ∀ i j g, C.M i = some g → C.M j = some g → i = j

/-- What is fixed while a call runs: the world in which it began, the blocks to keep away from, the blocks of the objects that came in (numbers below 'pin'), how many slots there are. -/
structure Env where
  w0 : World
  A : Nat → Prop
  B : Nat → Prop
  M0 : Nat → Option Nat
  pin : Nat
  nt : Nat
  hA : ∀ g, A g → g < w0.heap.size
  hB : ∀ g, B g → g < w0.heap.size

def Env.C (E : Env) (M : Nat → Option Nat) (H : Nat → Option (List AV)) (w : World) : Ctx := ⟨w, M, H, E.A, E.B⟩

structure Old (E : Env) (M : Nat → Option Nat) (w : World) : Prop where
  os : w.os = E.w0.os
  tape : w.tape = E.w0.tape
  output : w.output = E.w0.output
  size : E.w0.heap.size ≤ w.heap.size
  block : ∀ g, g < E.w0.heap.size → (∀ id, id < E.pin → E.M0 id ≠ some g) → w.heap[g]? = E.w0.heap[g]?
  pinned : ∀ id, id < E.pin → M id = E.M0 id
  new : ∀ id g, E.pin ≤ id → M id = some g → E.w0.heap.size ≤ g
  psize : ∀ id g, id < E.pin → E.M0 id = some g → ∀ cur e, E.w0.heap[g]? = some (.cells cur e (0, 0)) → ∃ cur' e', w.heap[g]? = some (.cells cur' e' (0, 0)) ∧ cur'.size = cur.size

/-- One step of the heap. -/
structure Tr (E : Env) (M : Nat → Option Nat) (H : Nat → Option (List AV)) (w : World) (M' : Nat → Option Nat) (H' : Nat → Option (List AV)) (w' : World) : Prop where
  keeps : Keeps (E.C M H w) (E.C M' H' w')
  hok : HOK (E.C M' H' w')
  old : Old E M' w'

def upd {α : Type} (f : Nat → α) (i : Nat) (x : α) : Nat → α := fun j => if j = i then x else f j
theorem upd_eq {α : Type} (f : Nat → α) (i : Nat) (x : α) : upd f i x i = x := by simp [upd]
theorem upd_ne {α : Type} (f : Nat → α) (i j : Nat) (x : α) (h : j ≠ i) : upd f i x j = f j := by simp [upd, h]

section
variable {E : Env} {M : Nat → Option Nat} {H : Nat → Option (List AV)} {w w' : World}

/-- The heap as it was (a draw has been answered). -/
theorem Tr.same (hk : HOK (E.C M H w)) (ho : Old E M w) (hh : w'.heap = w.heap) (h1 : w'.os = w.os) (h2 : w'.tape = w.tape) (h3 : w'.output = w.output) : Tr E M H w M H w' := by
  have k : Keeps (E.C M H w) (E.C M H w') := by
    refine ⟨fun g _ _ => ?_, fun _ _ h => h, fun _ _ h => h, fun _ _ h => h, fun _ cs h => ⟨cs, h, Nat.le_refl _, fun _ => rfl⟩, fun id cs cs' _ _ _ g _ cur e hg => ⟨cur, e, ?_, rfl⟩⟩
    · show w'.heap[g]? = w.heap[g]?; rw [hh]
    · show w'.heap[g]? = _; rw [hh]; exact hg
  refine ⟨k, ⟨fun id cs h => ?_, hk.no, hk.inj⟩, ⟨h1.trans ho.os, h2.trans ho.tape, h3.trans ho.output, by rw [hh]; exact ho.size, fun g hg hn => by rw [hh]; exact ho.block g hg hn, ho.pinned, ho.new, fun id g a b cur e c => by rw [hh]; exact ho.psize id g a b cur e c⟩⟩
  rcases hk.has id cs h with h | ⟨g, cur, e, a, b, c⟩
  · exact .inl h
  · exact .inr ⟨g, cur, e, a, by show w'.heap[g]? = _; rw [hh]; exact b, DenP.keeps k c⟩

theorem HOK.lt (hk : HOK (E.C M H w)) {id g : Nat} (h : M id = some g) : g < w.heap.size := by
  cases hH : H id with
  | none => exact absurd ((hk.no id hH).symm.trans h) (by simp)
  | some cs =>
    rcases hk.has id cs hH with ⟨a, _⟩ | ⟨g', cur, e, a, b, _⟩
    · exact absurd (a.symm.trans h) (by simp)
    · have : some g' = some g := a.symm.trans h
      injection this with this
      subst this
      exact lt_of_heap b

/-- New blocks; all that was there is as it was (a call has come back). -/
theorem Tr.ext (hk : HOK (E.C M H w)) (ho : Old E M w) (hh : ∀ g, g < w.heap.size → w'.heap[g]? = w.heap[g]?) (hs : w.heap.size ≤ w'.heap.size) (h1 : w'.os = w.os) (h2 : w'.tape = w.tape) (h3 : w'.output = w.output) : Tr E M H w M H w' := by
  have k : Keeps (E.C M H w) (E.C M H w') :=
    ⟨fun g hg _ => hh g hg, fun _ _ h => h, fun _ _ h => h, fun _ _ h => h, fun _ cs h => ⟨cs, h, Nat.le_refl _, fun _ => rfl⟩, fun id cs cs' _ _ _ g _ cur e hg => ⟨cur, e, (hh g (lt_of_heap hg)).trans hg, rfl⟩⟩
  refine ⟨k, ⟨fun id cs h => ?_, hk.no, hk.inj⟩, ⟨h1.trans ho.os, h2.trans ho.tape, h3.trans ho.output, Nat.le_trans ho.size hs, fun g hg hn => (hh g (Nat.lt_of_lt_of_le hg ho.size)).trans (ho.block g hg hn), ho.pinned, ho.new, fun id g a b cur e c => let ⟨cur', e', h, hs'⟩ := ho.psize id g a b cur e c; ⟨cur', e', (hh g (lt_of_heap h)).trans h, hs'⟩⟩⟩
  rcases hk.has id cs h with h | ⟨g, cur, e, a, b, c⟩
  · exact .inl h
  · exact .inr ⟨g, cur, e, a, (hh g (lt_of_heap b)).trans b, DenP.keeps k c⟩

/-- A new object in a new block. -/
theorem Tr.alloc (hk : HOK (E.C M H w)) (ho : Old E M w) {id : Nat} (hid : H id = none) (hpin : E.pin ≤ id) {vs : Array Value} {e : TypeId} {cs : List AV}
    (hh : w'.heap = w.heap.push (.cells vs e (0, 0))) (h1 : w'.os = w.os) (h2 : w'.tape = w.tape) (h3 : w'.output = w.output) (hd : DenP (E.C M H w) cs vs.toList) :
    Tr E M H w (upd M id (some w.heap.size)) (upd H id (some cs)) w' := by
  have hM : M id = none := hk.no id hid
  have hnew : w'.heap[w.heap.size]? = some (.cells vs e (0, 0)) := by rw [hh]; simp
  have hold : ∀ g, g < w.heap.size → w'.heap[g]? = w.heap[g]? := fun g hg => by rw [hh, Array.getElem?_push, if_neg (by omega)]
  have k : Keeps (E.C M H w) (E.C (upd M id (some w.heap.size)) (upd H id (some cs)) w') := by
    refine ⟨fun g hg _ => hold g hg, fun g hg hn j => ?_, fun _ _ h => h, fun _ _ h => h, fun j ds h => ?_, fun j ds ds' h h' hl g hg cur e' hb => ?_⟩
    · show upd M id (some w.heap.size) j ≠ some g
      by_cases hj : j = id
      · subst hj; rw [upd_eq]; intro he; injection he with he; have : g < w.heap.size := hg; omega
      · rw [upd_ne _ _ _ _ hj]; exact hn j
    · have hj : j ≠ id := fun he => by subst he; exact absurd (hid.symm.trans h) (by simp)
      exact ⟨ds, (upd_ne _ _ _ _ hj).trans h, Nat.le_refl _, fun _ => upd_ne _ _ _ _ hj⟩
    · exact ⟨cur, e', (hold g (lt_of_heap hb)).trans hb, rfl⟩
  refine ⟨k, ⟨fun j ds h => ?_, fun j h => ?_, fun i j g hi hj => ?_⟩, ⟨h1.trans ho.os, h2.trans ho.tape, h3.trans ho.output, by rw [hh]; simp; have := ho.size; omega, fun g hg hn => (hold g (by have := ho.size; omega)).trans (ho.block g hg hn), fun j hj => (upd_ne _ _ _ _ (by omega)).trans (ho.pinned j hj), fun j g hj hg => ?_, fun id g a b cur e c => let ⟨cur', e', h, hs'⟩ := ho.psize id g a b cur e c; ⟨cur', e', (hold g (lt_of_heap h)).trans h, hs'⟩⟩⟩
  · by_cases hj : j = id
    · subst hj
      have : some cs = some ds := (upd_eq H j (some cs)).symm.trans h
      injection this with this
      subst this
      exact .inr ⟨w.heap.size, vs, e, upd_eq _ _ _, hnew, DenP.keeps k hd⟩
    · rcases hk.has j ds ((upd_ne H id j (some cs) hj).symm.trans h) with ⟨a, b⟩ | ⟨g, cur, e', a, b, c⟩
      · exact .inl ⟨(upd_ne _ _ _ _ hj).trans a, b⟩
      · exact .inr ⟨g, cur, e', (upd_ne _ _ _ _ hj).trans a, (hold g (lt_of_heap b)).trans b, DenP.keeps k c⟩
  · by_cases hj : j = id
    · subst hj; exact absurd ((upd_eq H j (some cs)).symm.trans h) (by simp)
    · exact (upd_ne _ _ _ _ hj).trans (hk.no j ((upd_ne H id j (some cs) hj).symm.trans h))
  · change upd M id (some w.heap.size) i = some g at hi
    change upd M id (some w.heap.size) j = some g at hj
    by_cases hi' : i = id <;> by_cases hj' : j = id
    · omega
    · subst hi'
      rw [upd_eq] at hi; rw [upd_ne _ _ _ _ hj'] at hj
      injection hi with hi
      have := hk.lt hj; omega
    · subst hj'
      rw [upd_eq] at hj; rw [upd_ne _ _ _ _ hi'] at hi
      injection hj with hj
      have := hk.lt hi; omega
    · rw [upd_ne _ _ _ _ hi'] at hi; rw [upd_ne _ _ _ _ hj'] at hj
      exact hk.inj i j g hi hj
  · by_cases hj' : j = id
    · subst hj'; rw [upd_eq] at hg; injection hg with hg; have := ho.size; omega
    · rw [upd_ne _ _ _ _ hj'] at hg; exact ho.new j g hj hg

/-- An object's block gets other cells, as many as it had (a store). -/
theorem Tr.set (hk : HOK (E.C M H w)) (ho : Old E M w) {id g : Nat} {cs cs' : List AV} (hid : H id = some cs) (hM : M id = some g) {cur' : Array Value} {e : TypeId} (hlen : cs'.length = cs.length)
    (hg : w'.heap[g]? = some (.cells cur' e (0, 0))) (hsz : ∀ cur e, w.heap[g]? = some (.cells cur e (0, 0)) → cur'.size = cur.size) (hoth : ∀ k, k ≠ g → w'.heap[k]? = w.heap[k]?) (hs : w'.heap.size = w.heap.size)
    (h1 : w'.os = w.os) (h2 : w'.tape = w.tape) (h3 : w'.output = w.output) (hd : DenP (E.C M H w) cs' cur'.toList) :
    Tr E M H w M (upd H id (some cs')) w' := by
  have k : Keeps (E.C M H w) (E.C M (upd H id (some cs')) w') := by
    refine ⟨fun x hx hn => hoth x (fun he => hn id (he ▸ hM)), fun _ _ h => h, fun _ _ h => h, fun _ _ h => h, fun j ds h => ?_, fun j ds ds' h h' hl x hx cur e' hb => ?_⟩
    · by_cases hj : j = id
      · subst hj
        have : some cs = some ds := hid.symm.trans h
        injection this with this
        subst this
        exact ⟨cs', upd_eq _ _ _, by omega, fun _ => rfl⟩
      · exact ⟨ds, (upd_ne _ _ _ _ hj).trans h, Nat.le_refl _, fun _ => rfl⟩
    · by_cases hxg : x = g
      · subst hxg; exact ⟨cur', e, hg, hsz cur e' hb⟩
      · exact ⟨cur, e', (hoth x hxg).trans hb, rfl⟩
  refine ⟨k, ⟨fun j ds h => ?_, fun j h => ?_, hk.inj⟩, ⟨h1.trans ho.os, h2.trans ho.tape, h3.trans ho.output, by rw [hs]; exact ho.size, fun x hx hn => ?_, ho.pinned, ho.new, fun j x a b cur e c => ?_⟩⟩
  · by_cases hj : j = id
    · subst hj
      have : some cs' = some ds := (upd_eq H j (some cs')).symm.trans h
      injection this with this
      subst this
      exact .inr ⟨g, cur', e, hM, hg, DenP.keeps k hd⟩
    · rcases hk.has j ds ((upd_ne H id j (some cs') hj).symm.trans h) with h | ⟨x, cur, e', a, b, c⟩
      · exact .inl h
      · have hx : x ≠ g := fun he => hj (hk.inj j id g (he ▸ a) hM)
        exact .inr ⟨x, cur, e', a, (hoth x hx).trans b, DenP.keeps k c⟩
  · by_cases hj : j = id
    · subst hj; exact absurd ((upd_eq H j (some cs')).symm.trans h) (by simp)
    · exact hk.no j ((upd_ne H id j (some cs') hj).symm.trans h)
  · by_cases hxg : x = g
    · subst hxg
      exfalso
      rcases Nat.lt_or_ge id E.pin with hp | hp
      · exact hn id hp ((ho.pinned id hp).symm.trans hM)
      · have := ho.new id x hp hM; omega
    · exact (hoth x hxg).trans (ho.block x hx hn)
  · obtain ⟨cur2, e2, h2, hs2⟩ := ho.psize j x a b cur e c
    by_cases hxg : x = g
    · subst hxg
      exact ⟨cur', _, hg, (hsz cur2 e2 h2).trans hs2⟩
    · exact ⟨cur2, e2, (hoth x hxg).trans h2, hs2⟩

/-- An object grows: in its block, or in a new one ('g'' is its block from here on). -/
theorem Tr.grow (hk : HOK (E.C M H w)) (ho : Old E M w) {id g' : Nat} {cs cs' : List AV} (hid : H id = some cs) (hpin : E.pin ≤ id) {cur' : Array Value} {e : TypeId} (hlen : cs.length < cs'.length)
    (hg : w'.heap[g']? = some (.cells cur' e (0, 0))) (hnew : M id = some g' ∨ w.heap.size ≤ g') (hoth : ∀ k, k < w.heap.size → M id ≠ some k → w'.heap[k]? = w.heap[k]?)
    (hkeep : ∀ k, M id = some k → ∀ cur e, w.heap[k]? = some (.cells cur e (0, 0)) → ∃ cur' e', w'.heap[k]? = some (.cells cur' e' (0, 0)) ∧ cur'.size = cur.size)
    (hs : w.heap.size ≤ w'.heap.size) (h1 : w'.os = w.os) (h2 : w'.tape = w.tape) (h3 : w'.output = w.output) (hd : DenP (E.C M H w) cs' cur'.toList) :
    Tr E M H w (upd M id (some g')) (upd H id (some cs')) w' := by
  have k : Keeps (E.C M H w) (E.C (upd M id (some g')) (upd H id (some cs')) w') := by
    refine ⟨fun x hx hn => hoth x hx (fun he => hn id he), fun x hx hn j => ?_, fun _ _ h => h, fun _ _ h => h, fun j ds h => ?_, fun j ds ds' h h' hl x hx cur e' hb => ?_⟩
    · show upd M id (some g') j ≠ some x
      by_cases hj : j = id
      · subst hj
        rw [upd_eq]; intro he; injection he with he; subst he
        rcases hnew with hn' | hn'
        · exact hn j hn'
        · have : g' < w.heap.size := hx
          omega
      · rw [upd_ne _ _ _ _ hj]; exact hn j
    · by_cases hj : j = id
      · subst hj
        have : some cs = some ds := hid.symm.trans h
        injection this with this
        subst this
        exact ⟨cs', upd_eq _ _ _, by omega, fun hl => by omega⟩
      · exact ⟨ds, (upd_ne _ _ _ _ hj).trans h, Nat.le_refl _, fun _ => upd_ne _ _ _ _ hj⟩
    · by_cases hj : j = id
      · subst hj
        have a1 : some cs = some ds := hid.symm.trans h
        have a2 : some cs' = some ds' := (upd_eq H j (some cs')).symm.trans h'
        injection a1 with a1
        injection a2 with a2
        subst a1 a2
        omega
      · have hx' : M id ≠ some x := fun he => hj (hk.inj j id x hx he)
        exact ⟨cur, e', (hoth x (lt_of_heap hb) hx').trans hb, rfl⟩
  refine ⟨k, ⟨fun j ds h => ?_, fun j h => ?_, fun i j x hi hj => ?_⟩, ⟨h1.trans ho.os, h2.trans ho.tape, h3.trans ho.output, by have := ho.size; omega, fun x hx hn => ?_, fun j hj => (upd_ne _ _ _ _ (by omega)).trans (ho.pinned j hj), fun j x hj hx => ?_, fun j x a b cur e c => ?_⟩⟩
  · by_cases hj : j = id
    · subst hj
      have : some cs' = some ds := (upd_eq H j (some cs')).symm.trans h
      injection this with this
      subst this
      exact .inr ⟨g', cur', e, upd_eq _ _ _, hg, DenP.keeps k hd⟩
    · rcases hk.has j ds ((upd_ne H id j (some cs') hj).symm.trans h) with ⟨a, b⟩ | ⟨x, cur, e', a, b, c⟩
      · exact .inl ⟨(upd_ne _ _ _ _ hj).trans a, b⟩
      · have hx' : M id ≠ some x := fun he => hj (hk.inj j id x a he)
        exact .inr ⟨x, cur, e', (upd_ne _ _ _ _ hj).trans a, (hoth x (lt_of_heap b) hx').trans b, DenP.keeps k c⟩
  · by_cases hj : j = id
    · subst hj; exact absurd ((upd_eq H j (some cs')).symm.trans h) (by simp)
    · exact (upd_ne _ _ _ _ hj).trans (hk.no j ((upd_ne H id j (some cs') hj).symm.trans h))
  · change upd M id (some g') i = some x at hi
    change upd M id (some g') j = some x at hj
    by_cases hi' : i = id <;> by_cases hj' : j = id
    · omega
    · subst hi'
      rw [upd_eq] at hi; rw [upd_ne _ _ _ _ hj'] at hj
      injection hi with hi
      subst hi
      rcases hnew with hn | hn
      · exact (hk.inj j i g' hj hn).symm
      · have := hk.lt hj; omega
    · subst hj'
      rw [upd_eq] at hj; rw [upd_ne _ _ _ _ hi'] at hi
      injection hj with hj
      subst hj
      rcases hnew with hn | hn
      · exact hk.inj i j g' hi hn
      · have := hk.lt hi; omega
    · rw [upd_ne _ _ _ _ hi'] at hi; rw [upd_ne _ _ _ _ hj'] at hj
      exact hk.inj i j x hi hj
  · refine (hoth x (by have := ho.size; omega) (fun he => ?_)).trans (ho.block x hx hn)
    have := ho.new id x hpin he
    omega
  · by_cases hj' : j = id
    · subst hj'
      rw [upd_eq] at hx
      injection hx with hx
      subst hx
      rcases hnew with hn | hn
      · exact ho.new j g' hj hn
      · have := ho.size; omega
    · rw [upd_ne _ _ _ _ hj'] at hx; exact ho.new j x hj hx
  · obtain ⟨cur2, e2, h2, hs2⟩ := ho.psize j x a b cur e c
    by_cases hxg : M id = some x
    · obtain ⟨cur3, e3, h3, hs3⟩ := hkeep x hxg cur2 e2 h2
      exact ⟨cur3, e3, h3, hs3.trans hs2⟩
    · exact ⟨cur2, e2, (hoth x (lt_of_heap h2) hxg).trans h2, hs2⟩

end
end Vw
