/- Loops, weaker states, a function's body, a call by the callee's contract. -/
import Derived.Test.YtodfknmnhlaiaaaCVwI
import Derived.Deep.LoopGhost
set_option linter.unusedVariables false
set_option linter.unusedSimpArgs false
namespace Vw
open Go

/-! ### Weaker states -/

mutual
/-- The value speaks of no objects but these. -/
def AV.inn (p : Nat → Bool) : AV → Bool
  | .ref id _ _ => p id
  | .own id _ _ => p id
  | .osl id _ _ _ _ => p id
  | .agg cs => innL p cs
  | .tup cs => innL p cs
  | .rows _ cs _ => innL p cs
  | .prow _ cs _ => innL p cs
  | _ => true
def innL (p : Nat → Bool) : List AV → Bool
  | [] => true
  | c :: r => c.inn p && innL p r
end

mutual
theorem Den.drop {C C' : Ctx} {p : Nat → Bool} (hw : C'.w = C.w) (hA : C'.A = C.A) (hB : C'.B = C.B) (hH : ∀ id, p id = true → C'.H id = C.H id) (hM : ∀ id, p id = true → C'.M id = C.M id) (hM' : ∀ id g, C'.M id = some g → C.M id = some g) :
    ∀ {a : AV} {v : Value}, a.inn p = true → Den C a v → Den C' a v
  | .unk, _, _, _ => by simp [Den]
  | .und, _, _, h => by simpa [Den] using h
  | .int .., _, _, h => by simpa [Den] using h
  | .bool _, _, _, h => by simpa [Den] using h
  | .str _, _, _, h => by simpa [Den] using h
  | .val _, _, _, h => by simpa [Den] using h
  | .agg cs, _, hp, h => by
    simp only [Den, AV.inn] at *
    obtain ⟨vs, h1, h2, h3⟩ := h
    exact ⟨vs, h1, h2, DenP.drop hw hA hB hH hM hM' hp h3⟩
  | .tup cs, _, hp, h => by
    simp only [Den, AV.inn] at *
    obtain ⟨vs, h1, h2, h3⟩ := h
    exact ⟨vs, h1, h2, DenP.drop hw hA hB hH hM hM' hp h3⟩
  | .rows fr cs n, _, hp, h => by
    simp only [Den, AV.inn] at *
    rcases h with h | ⟨g, o, cap, cur, e, fz, h1, h2, h3, h4, h5⟩
    · exact .inl h
    · exact .inr ⟨g, o, cap, cur, e, fz, h1, by rw [hw]; exact h2, ⟨fun id hc => h3.1 id (hM' id g hc), by rw [hB]; exact h3.2.1, by rw [hA]; exact h3.2.2⟩, h4, DenP.drop hw hA hB hH hM hM' hp h5⟩
  | .prow fr cs off, _, hp, h => by
    simp only [Den, AV.inn] at *
    obtain ⟨g, o, cur, e, fz, h1, h2, h3, h5⟩ := h
    exact ⟨g, o, cur, e, fz, h1, by rw [hw]; exact h2, ⟨fun id hc => h3.1 id (hM' id g hc), by rw [hB]; exact h3.2.1, by rw [hA]; exact h3.2.2⟩, DenP.drop hw hA hB hH hM hM' hp h5⟩
  | .ref id len off, _, hp, h => by
    simp only [Den, AV.inn] at *
    rw [hH id hp, hM id hp]
    exact h
  | .own id n sz, _, hp, h => by
    simp only [Den, AV.inn] at *
    rw [hH id hp, hM id hp, hw]
    exact h
  | .osl id len off n sz, _, hp, h => by
    simp only [Den, AV.inn] at *
    rw [hH id hp, hM id hp]
    exact h
theorem DenP.drop {C C' : Ctx} {p : Nat → Bool} (hw : C'.w = C.w) (hA : C'.A = C.A) (hB : C'.B = C.B) (hH : ∀ id, p id = true → C'.H id = C.H id) (hM : ∀ id, p id = true → C'.M id = C.M id) (hM' : ∀ id g, C'.M id = some g → C.M id = some g) :
    ∀ {cs : List AV} {vs : List Value}, innL p cs = true → DenP C cs vs → DenP C' cs vs
  | [], _, _, _ => by simp [DenP]
  | _ :: _, [], _, h => by simp [DenP] at h
  | _ :: _, _ :: _, hp, h => by
    simp only [DenP, innL, Bool.and_eq_true] at *
    exact ⟨Den.drop hw hA hB hH hM hM' hp.1 h.1, DenP.drop hw hA hB hH hM hM' hp.2 h.2⟩
end

/-- Slots and objects as lists. -/
def lk : List (Nat × AV) → Nat → AV
  | [], _ => .unk
  | (t, v) :: r, n => if n = t then v else lk r n
def hk : List (Nat × List AV) → Nat → Option (List AV)
  | [], _ => none
  | (t, v) :: r, n => if n = t then some v else hk r n
def mkS (σ : List (Nat × AV)) (H : List (Nat × List AV)) : S := ⟨lk σ, hk H⟩

theorem upd_lk (σ : List (Nat × AV)) (t : Nat) (v : AV) : upd (lk σ) t v = lk ((t, v) :: σ) := by funext n; simp [upd, lk]
theorem upd_hk (H : List (Nat × List AV)) (t : Nat) (v : List AV) : upd (hk H) t (some v) = hk ((t, v) :: H) := by funext n; simp [upd, hk]

/-- 's'' says less than 's': fewer slots, fewer objects, none of which is spoken of any more. -/
structure Sub (pin : Nat) (s s' : S) : Prop where
  slot : ∀ t, s'.σ t = s.σ t ∨ s'.σ t = .unk
  obj : ∀ id cs, s'.H id = some cs → s.H id = some cs
  pinned : ∀ id, id < pin → s'.H id = none → s.H id = none
  inn : ∀ t, (s'.σ t).inn (fun id => (s'.H id).isSome) = true
  innH : ∀ id cs, s'.H id = some cs → innL (fun id => (s'.H id).isSome) cs = true

theorem St.sub {E : Env} {M : Nat → Option Nat} {s s' : S} {a : Act} {w : World} (h : St E M s a w) (hs : Sub E.pin s s') : ∃ M', St E M' s' a w := by
  let M' : Nat → Option Nat := fun id => if (s'.H id).isSome then M id else none
  have hH : ∀ id, (s'.H id).isSome = true → s'.H id = s.H id := fun id hi => by
    obtain ⟨cs, hc⟩ := Option.isSome_iff_exists.1 hi
    rw [hc, hs.obj id cs hc]
  have hM : ∀ id, (s'.H id).isSome = true → M' id = M id := fun id hi => by simp [M', hi]
  have hM' : ∀ id g, M' id = some g → M id = some g := fun id g hg => by
    simp only [M'] at hg
    split at hg
    · exact hg
    · cases hg
  refine ⟨M', h.defers, h.size, fun t => ?_, ⟨fun id cs hc => ?_, fun id hn => by show M' id = none; have hx : s'.H id = none := hn; simp [M', hx], fun i j g hi hj => h.hok.inj i j g (hM' i g hi) (hM' j g hj)⟩, ⟨h.old.os, h.old.tape, h.old.output, h.old.size, h.old.block, fun id hi => ?_, fun id g hi hg => h.old.new id g hi (hM' id g hg), h.old.psize⟩⟩
  · rcases hs.slot t with he | he
    · have hi := hs.inn t
      rw [he] at hi ⊢
      exact Den.drop (C := E.C M s.H w) (C' := E.C M' s'.H w) rfl rfl rfl hH hM hM' hi (h.slots t)
    · rw [he]; simp [Den]
  · have hc' : s'.H id = some cs := hc
    have hsome : (s'.H id).isSome = true := by rw [hc']; rfl
    rcases h.hok.has id cs (hs.obj id cs hc) with ⟨a, b⟩ | ⟨g, cur, e, a, b, c⟩
    · exact .inl ⟨(hM id hsome).trans a, b⟩
    · exact .inr ⟨g, cur, e, (hM id hsome).trans a, b, DenP.drop (C := E.C M s.H w) (C' := E.C M' s'.H w) rfl rfl rfl hH hM hM' (hs.innH id cs hc) c⟩
  · by_cases hx : (s'.H id).isSome = true
    · rw [hM id hx]; exact h.old.pinned id hi
    · have hn : s'.H id = none := by simpa using hx
      have : M id = none := h.hok.no id (hs.pinned id hi hn)
      rw [← h.old.pinned id hi, this]
      simp [M', hn]

theorem Sub.refl_of {pin : Nat} {s : S} (h1 : ∀ t, (s.σ t).inn (fun id => (s.H id).isSome) = true) (h2 : ∀ id cs, s.H id = some cs → innL (fun id => (s.H id).isSome) cs = true) : Sub pin s s :=
  ⟨fun _ => .inl rfl, fun _ _ h => h, fun _ _ h => h, h1, h2⟩

theorem lk_mem (σ : List (Nat × AV)) (t : Nat) : lk σ t = .unk ∨ ∃ p ∈ σ, p.1 = t ∧ lk σ t = p.2 := by
  induction σ with
  | nil => exact .inl rfl
  | cons p r ih =>
    simp only [lk]
    split
    · rename_i h; exact .inr ⟨p, by simp, h.symm, rfl⟩
    · rcases ih with h | ⟨q, hq, h1, h2⟩
      · exact .inl h
      · exact .inr ⟨q, by simp [hq], h1, h2⟩

theorem hk_mem (H : List (Nat × List AV)) (t : Nat) (cs : List AV) (h : hk H t = some cs) : ∃ p ∈ H, p.1 = t ∧ cs = p.2 := by
  induction H with
  | nil => simp [hk] at h
  | cons p r ih =>
    simp only [hk] at h
    split at h
    · rename_i ht; exact ⟨p, by simp, ht.symm, by simpa using h.symm⟩
    · obtain ⟨q, hq, h1⟩ := ih h
      exact ⟨q, by simp [hq], h1⟩

/-- THE FORM IN WHICH IT IS PROVED: the lists' members, one by one. -/
theorem Sub.of_lists {pin : Nat} {s : S} {σ : List (Nat × AV)} {H : List (Nat × List AV)} (h1 : ∀ p ∈ σ, s.σ p.1 = p.2) (h2 : ∀ p ∈ H, s.H p.1 = some p.2) (h3 : ∀ id, id < pin → hk H id = none → s.H id = none)
    (h4 : ∀ p ∈ σ, p.2.inn (fun id => (hk H id).isSome) = true) (h5 : ∀ p ∈ H, innL (fun id => (hk H id).isSome) p.2 = true) : Sub pin s (mkS σ H) := by
  refine ⟨fun t => ?_, fun id cs h => ?_, h3, fun t => ?_, fun id cs h => ?_⟩
  · rcases lk_mem σ t with h | ⟨p, hp, h, h'⟩
    · exact .inr h
    · exact .inl (by show lk σ t = _; rw [h', ← h]; exact (h1 p hp).symm)
  · obtain ⟨p, hp, e1, e2⟩ := hk_mem H id cs h
    rw [e2, ← e1]; exact h2 p hp
  · show (lk σ t).inn _ = true
    rcases lk_mem σ t with h | ⟨p, hp, h, h'⟩
    · rw [h]; rfl
    · rw [h']; exact h4 p hp
  · obtain ⟨p, hp, e1, e2⟩ := hk_mem H id cs h
    rw [e2]; exact h5 p hp

section
variable {P : Program} {pin : Nat} {Q : Exit → S → Prop} {s : S}

theorem awp_sub {c : ACode} {s' : S} (hs : Sub pin s s') (h : awp P pin c Q s') : awp P pin c Q s := by
  intro E M a w cc hp hl hst
  subst hp
  obtain ⟨M', hst'⟩ := hst.sub hs
  exact h E M' a w cc rfl hl hst'

theorem awp_loop {b : ACode} {κ : Type} (I : κ → S) (Pre : κ → Prop) (μ : κ → Nat) (x0 : κ) (h0 : Pre x0) (hs : Sub pin s (I x0))
    (round : ∀ x, Pre x → awp P pin b (athen (fun s' => ∃ x', Pre x' ∧ μ x' < μ x ∧ Sub pin s' (I x')) Q) (I x)) : awp P pin (.loop b) Q s := by
  refine awp_sub hs ?_
  intro E M a w cc hp hl hst
  subst hp
  cases cc <;> simp only [lowCode] at hl <;> first
    | (exfalso; first | (simp at hl; done) | ((repeat' (split at hl)) <;> simp at hl; done) | (simp only [Option.map_eq_some_iff] at hl; obtain ⟨_, _, hl⟩ := hl; (try split at hl) <;> simp at hl; done))
    | skip
  simp only [Option.map_eq_some_iff] at hl
  obtain ⟨l, hl1, hl2⟩ := hl
  simp only [ACode.loop.injEq] at hl2
  subst hl2
  refine wp_loop_ghost (fun n a w => ∃ x M, Pre x ∧ μ x = n ∧ St E M (I x) a w) (μ x0) ⟨x0, M, h0, rfl, hst⟩ ?_
  rintro n a w ⟨x, M, hx, hn, hst⟩
  refine Go.wp_mono (round x hx E M a w _ rfl hl1 hst) fun e a' w' ⟨M', s', h1, h2⟩ => ?_
  cases e with
  | normal =>
    obtain ⟨x', hx', hlt, hsub⟩ := h2
    obtain ⟨M'', hst''⟩ := h1.sub hsub
    exact ⟨μ x', by omega, x', M'', hx', rfl, hst''⟩
  | _ => exact ⟨M', s', h1, h2⟩

end

/-! ### What is handed to a callee, and back -/

mutual
/-- A value as a callee sees it that is handed plain data alone. -/
def AV.pass1 : AV → AV
  | .rows _ cs n => .rows false (pass1L cs) n
  | .agg cs => .agg (pass1L cs)
  | .tup cs => .tup (pass1L cs)
  | .val (.slice none 0 0) => .rows false [] 0
  | .ref .. => .unk
  | .own .. => .unk
  | .osl .. => .unk
  | .prow .. => .unk
  | a => a
def pass1L : List AV → List AV
  | [] => []
  | c :: r => c.pass1 :: pass1L r
end

mutual
/-- The same; an owned slice is read as it stands. -/
def AV.pass (H : Nat → Option (List AV)) : AV → AV
  | .own id n sz => match H id with
    | some cs => if cs.length = n * sz then .rows false (pass1L cs) n else .unk
    | none => .unk
  | .osl id len off n sz => match H id with
    | some cs => if cs.length = len then .rows false (pass1L ((cs.drop off).take (n * sz))) n else .unk
    | none => .unk
  | .rows _ cs n => .rows false (passL H cs) n
  | .agg cs => .agg (passL H cs)
  | .tup cs => .tup (passL H cs)
  | .val (.slice none 0 0) => .rows false [] 0
  | .ref .. => .unk
  | .prow .. => .unk
  | a => a
def passL (H : Nat → Option (List AV)) : List AV → List AV
  | [] => []
  | c :: r => c.pass H :: passL H r
end

mutual
/-- A result as the caller takes it ('sh': nothing of the caller's own was handed over, so that the result may share memory with what was). -/
def AV.tk (sh : Bool) : AV → AV
  | .rows fr cs n => if fr then .rows true (tkL sh cs) n else if sh then .rows false (tkL sh cs) n else .unk
  | .agg cs => .agg (tkL sh cs)
  | .tup cs => .tup (tkL sh cs)
  | .ref .. => .unk
  | .own .. => .unk
  | .osl .. => .unk
  | .prow .. => .unk
  | a => a
def tkL (sh : Bool) : List AV → List AV
  | [] => []
  | c :: r => c.tk sh :: tkL sh r
end

theorem pass1L_length : ∀ l : List AV, (pass1L l).length = l.length
  | [] => rfl
  | c :: r => by simp [pass1L, pass1L_length r]
theorem passL_length (H : Nat → Option (List AV)) : ∀ l : List AV, (passL H l).length = l.length
  | [] => rfl
  | c :: r => by simp [passL, passL_length H r]
theorem tkL_length (sh : Bool) : ∀ l : List AV, (tkL sh l).length = l.length
  | [] => rfl
  | c :: r => by simp [tkL, tkL_length sh r]

/-- The callee's context: no objects; 'A': all that is there; 'Bc': what the callee's result keeps away from. -/
def Ctx.callee (w w' : World) (Bc : Nat → Prop) : Ctx := ⟨w', fun _ => none, fun _ => none, fun g => g < w.heap.size, Bc⟩

mutual
theorem Den.pass1 {C : Ctx} {Bc : Nat → Prop} (hB : ∀ g, Bc g → C.B g ∨ ∃ id, C.M id = some g) : ∀ {a : AV} {v : Value}, Den C a v → Den (Ctx.callee C.w C.w Bc) a.pass1 v
  | .unk, _, _ => by simp [AV.pass1, Den]
  | .und, _, h => by simpa [AV.pass1, Den] using h
  | .int .., _, h => by simpa [AV.pass1, Den] using h
  | .bool _, _, h => by simpa [AV.pass1, Den] using h
  | .str _, _, h => by simpa [AV.pass1, Den] using h
  | .val u, _, h => by
    simp only [Den] at h
    subst h
    unfold AV.pass1
    split <;> simp_all [Den, EmptyS.nil]
  | .agg cs, _, h => by
    simp only [AV.pass1, Den] at *
    obtain ⟨vs, h1, h2, h3⟩ := h
    exact ⟨vs, h1, by rw [pass1L_length]; exact h2, DenP.pass1 hB h3⟩
  | .tup cs, _, h => by
    simp only [AV.pass1, Den] at *
    obtain ⟨vs, h1, h2, h3⟩ := h
    exact ⟨vs, h1, by rw [pass1L_length]; exact h2, DenP.pass1 hB h3⟩
  | .rows fr cs n, _, h => by
    simp only [AV.pass1, Den] at *
    rcases h with ⟨h1, rfl, h3⟩ | ⟨g, o, cap, cur, e, fz, h1, h2, h3, h4, h5⟩
    · exact .inl ⟨h1, rfl, h3⟩
    · refine .inr ⟨g, o, cap, cur, e, fz, h1, h2, ⟨(fun _ h => by cases h), fun hb => ?_, (fun h => by cases h)⟩, h4, DenP.pass1 hB h5⟩
      rcases hB g hb with hb | ⟨id, hid⟩
      · exact h3.2.1 hb
      · exact h3.1 id hid
  | .prow .., _, _ => by simp [AV.pass1, Den]
  | .ref .., _, _ => by simp [AV.pass1, Den]
  | .own .., _, _ => by simp [AV.pass1, Den]
  | .osl .., _, _ => by simp [AV.pass1, Den]
theorem DenP.pass1 {C : Ctx} {Bc : Nat → Prop} (hB : ∀ g, Bc g → C.B g ∨ ∃ id, C.M id = some g) : ∀ {cs : List AV} {vs : List Value}, DenP C cs vs → DenP (Ctx.callee C.w C.w Bc) (pass1L cs) vs
  | [], _, _ => by simp [pass1L, DenP]
  | _ :: _, [], h => by simp [DenP] at h
  | _ :: _, _ :: _, h => by
    simp only [pass1L, DenP] at *
    exact ⟨Den.pass1 hB h.1, DenP.pass1 hB h.2⟩
end

mutual
theorem Den.pass {C : Ctx} (hk : HOK C) : ∀ {a : AV} {v : Value}, Den C a v → Den (Ctx.callee C.w C.w (fun _ => False)) (a.pass C.H) v
  | .unk, _, _ => by simp [AV.pass, Den]
  | .und, _, h => by simpa [AV.pass, Den] using h
  | .int .., _, h => by simpa [AV.pass, Den] using h
  | .bool _, _, h => by simpa [AV.pass, Den] using h
  | .str _, _, h => by simpa [AV.pass, Den] using h
  | .val u, _, h => by
    simp only [Den] at h
    subst h
    unfold AV.pass
    split <;> simp_all [Den, EmptyS.nil]
  | .agg cs, _, h => by
    simp only [AV.pass, Den] at *
    obtain ⟨vs, h1, h2, h3⟩ := h
    exact ⟨vs, h1, by rw [passL_length]; exact h2, DenP.pass hk h3⟩
  | .tup cs, _, h => by
    simp only [AV.pass, Den] at *
    obtain ⟨vs, h1, h2, h3⟩ := h
    exact ⟨vs, h1, by rw [passL_length]; exact h2, DenP.pass hk h3⟩
  | .rows fr cs n, _, h => by
    simp only [AV.pass, Den] at *
    rcases h with ⟨h1, rfl, h3⟩ | ⟨g, o, cap, cur, e, fz, h1, h2, h3, h4, h5⟩
    · exact .inl ⟨h1, rfl, h3⟩
    · exact .inr ⟨g, o, cap, cur, e, fz, h1, h2, ⟨(fun _ h => by cases h), fun hb => hb, (fun h => by cases h)⟩, h4, DenP.pass hk h5⟩
  | .prow .., _, _ => by simp [AV.pass, Den]
  | .ref .., _, _ => by simp [AV.pass, Den]
  | .own id n sz, _, h => by
    simp only [Den] at h
    obtain ⟨_, cs, hH, _, hval⟩ := h
    simp only [AV.pass, hH]
    split
    · rename_i hc
      simp only [Den]
      rcases hval hc with ⟨h1, h2, h3⟩ | ⟨g, cap, cur, e, hM, hv, hn, _, hg, _⟩
      · rcases hk.has id cs hH with ⟨_, rfl⟩ | ⟨g, _, _, a, _⟩
        · exact .inl ⟨.inl h1, rfl, h2⟩
        · rw [h3] at a; cases a
      · rcases hk.has id cs hH with ⟨a, _⟩ | ⟨g', cur', e', a, b, c⟩
        · rw [hM] at a; cases a
        · rw [hM] at a
          injection a with a
          subst a
          exact .inr ⟨g, 0, cap, cur', e', (0, 0), hv, b, ⟨(fun _ h => by cases h), fun hb => hb, (fun h => by cases h)⟩, hn, by simpa using DenP.pass1 (Bc := fun _ => False) (fun _ h => h.elim) c⟩
    · simp [Den]
  | .osl id len off n sz, _, h => by
    simp only [Den] at h
    obtain ⟨_, cs, hH, _, _, hval⟩ := h
    simp only [AV.pass, hH]
    split
    · rename_i hc
      simp only [Den]
      rcases hval hc with ⟨h1, rfl⟩ | ⟨g, o, cap, hM, hv, hn, ho⟩
      · exact .inl ⟨.inl h1, by simp [pass1L], rfl⟩
      · rcases hk.has id cs hH with ⟨a, _⟩ | ⟨g', cur', e', a, b, c⟩
        · rw [hM] at a; cases a
        · rw [hM] at a
          injection a with a
          subst a
          refine .inr ⟨g, o, cap, cur', e', (0, 0), hv, b, ⟨(fun _ h => by cases h), fun hb => hb, (fun h => by cases h)⟩, hn, ?_⟩
          by_cases hn0 : n = 0
          · subst hn0; simp [pass1L, DenP]
          · rw [ho hn0]
            exact DenP.pass1 (C := C) (Bc := fun _ => False) (fun _ h => h.elim) (denP_take (denP_drop c off) _)
    · simp [Den]
theorem DenP.pass {C : Ctx} (hk : HOK C) : ∀ {cs : List AV} {vs : List Value}, DenP C cs vs → DenP (Ctx.callee C.w C.w (fun _ => False)) (passL C.H cs) vs
  | [], _, _ => by simp [passL, DenP]
  | _ :: _, [], h => by simp [DenP] at h
  | _ :: _, _ :: _, h => by
    simp only [passL, DenP] at *
    exact ⟨Den.pass hk h.1, DenP.pass hk h.2⟩
end

mutual
theorem Den.tk {C : Ctx} {w : World} {Bc : Nat → Prop} {sh : Bool} (hM : ∀ id g, C.M id = some g → g < w.heap.size) (hA : ∀ g, C.A g → g < w.heap.size) (hB : ∀ g, C.B g → g < w.heap.size)
    (hs : sh = true → ∀ g, g < w.heap.size → ¬ Bc g → ¬ C.B g ∧ ∀ id, C.M id ≠ some g) : ∀ {a : AV} {v : Value}, Den (Ctx.callee w C.w Bc) a v → Den C (a.tk sh) v
  | .unk, _, _ => by simp [AV.tk, Den]
  | .und, _, h => by simpa [AV.tk, Den] using h
  | .int .., _, h => by simpa [AV.tk, Den] using h
  | .bool _, _, h => by simpa [AV.tk, Den] using h
  | .str _, _, h => by simpa [AV.tk, Den] using h
  | .val u, _, h => by simpa [AV.tk, Den] using h
  | .agg cs, _, h => by
    simp only [AV.tk, Den] at *
    obtain ⟨vs, h1, h2, h3⟩ := h
    exact ⟨vs, h1, by rw [tkL_length]; exact h2, DenP.tk hM hA hB hs h3⟩
  | .tup cs, _, h => by
    simp only [AV.tk, Den] at *
    obtain ⟨vs, h1, h2, h3⟩ := h
    exact ⟨vs, h1, by rw [tkL_length]; exact h2, DenP.tk hM hA hB hs h3⟩
  | .rows fr cs n, _, h => by
    simp only [AV.tk]
    simp only [Den] at h
    split
    · rename_i hf
      simp only [Den]
      rcases h with ⟨h1, rfl, h3⟩ | ⟨g, o, cap, cur, e, fz, h1, h2, h3, h4, h5⟩
      · exact .inl ⟨h1, rfl, h3⟩
      · have hge : ¬ g < w.heap.size := h3.2.2 hf
        exact .inr ⟨g, o, cap, cur, e, fz, h1, h2, ⟨fun id hid => hge (hM id g hid), fun hb => hge (hB g hb), fun _ ha => hge (hA g ha)⟩, h4, DenP.tk hM hA hB hs h5⟩
    · split
      · rename_i hsh
        simp only [Den]
        rcases h with ⟨h1, rfl, h3⟩ | ⟨g, o, cap, cur, e, fz, h1, h2, h3, h4, h5⟩
        · exact .inl ⟨h1, rfl, h3⟩
        · refine .inr ⟨g, o, cap, cur, e, fz, h1, h2, ⟨fun id hid => ?_, fun hb => ?_, (fun h => by cases h)⟩, h4, DenP.tk hM hA hB hs h5⟩
          · exact (hs hsh g (hM id g hid) h3.2.1).2 id hid
          · exact (hs hsh g (hB g hb) h3.2.1).1 hb
      · simp [Den]
  | .prow .., _, _ => by simp [AV.tk, Den]
  | .ref .., _, _ => by simp [AV.tk, Den]
  | .own .., _, _ => by simp [AV.tk, Den]
  | .osl .., _, _ => by simp [AV.tk, Den]
theorem DenP.tk {C : Ctx} {w : World} {Bc : Nat → Prop} {sh : Bool} (hM : ∀ id g, C.M id = some g → g < w.heap.size) (hA : ∀ g, C.A g → g < w.heap.size) (hB : ∀ g, C.B g → g < w.heap.size)
    (hs : sh = true → ∀ g, g < w.heap.size → ¬ Bc g → ¬ C.B g ∧ ∀ id, C.M id ≠ some g) : ∀ {cs : List AV} {vs : List Value}, DenP (Ctx.callee w C.w Bc) cs vs → DenP C (tkL sh cs) vs
  | [], _, _ => by simp [tkL, DenP]
  | _ :: _, [], h => by simp [DenP] at h
  | _ :: _, _ :: _, h => by
    simp only [tkL, DenP] at *
    exact ⟨Den.tk hM hA hB hs h.1, DenP.tk hM hA hB hs h.2⟩
end

/-! ### Contracts -/

/-- A FUNCTION OF PLAIN DATA: called with values that read so it returns a value that reads so; nothing that was there turns. (Its arguments are told by 'rows false'; 'rows true' in its result is memory of the call's own.) -/
def PCall (P : Program) (f : Nat) (args : List AV) (Q : AV → Prop) : Prop :=
  ∀ (w : World) (B : Nat → Prop) (vs : List Value), (∀ g, B g → g < w.heap.size) → vs.length = args.length → DenP (Ctx.callee w w B) args vs →
    Calls P f vs.toArray w fun e w' => ∃ res v, Q res ∧ e = .returned v ∧ Den (Ctx.callee w w' B) res v ∧ Go.RowKit.Below w.heap.size w w'

inductive ARes where
  | tmp (t : Nat)
  | cell (t : Nat) (agg : Bool) (sz : Nat)

def lowRes (P : Program) : List ResultVar → Option (List ARes)
  | [] => some []
  | .tmp t :: r => (lowRes P r).map fun l => .tmp t :: l
  | .cell t ty :: r => match isAggB P ty, sizeAt P ty, lowRes P r with
    | some true, some n, some l => some (.cell t true n :: l)
    | some false, some _, some l => some (.cell t false 1 :: l)
    | _, _, _ => none

/-- A function, lowered. -/
structure AFn where
  nt : Nat
  np : Nat
  body : ACode
  res : List ARes

def lowFn (P : Program) (f : Nat) : Option AFn :=
  match P.funcs[f]? with
  | some fn => match fn.body with
    | some c => match lowCode P fn.ntmps c, lowRes P fn.results.toList with
      | some b, some r => if fn.params.size ≤ fn.ntmps then some ⟨fn.ntmps, fn.params.size, b, r⟩ else none
      | _, _ => none
    | none => none
  | none => none

def ares (s : S) : ARes → Option AV
  | .tmp t => some (s.σ t)
  | .cell t agg sz => loadAV s.H agg sz (s.σ t)

def aresL (s : S) : List ARes → Option (List AV)
  | [] => some []
  | r :: l => match ares s r, aresL s l with
    | some x, some xs => some (x :: xs)
    | _, _ => none

def tupOf : List AV → AV
  | [x] => x
  | l => .tup l

end Vw
