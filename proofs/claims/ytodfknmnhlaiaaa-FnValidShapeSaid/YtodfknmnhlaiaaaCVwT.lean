/- How an argument that can be read as data is told to the walk: types of integers, bools, slices and structs. -/
import Derived.Test.YtodfknmnhlaiaaaCVwR
import Derived.ChangeArms
import Derived.DataReads
set_option linter.unusedVariables false
namespace Vw
open Go

variable {H : Type} {ec : TypeId × Value → H} {P : Program} {w : World} {spare : Nat → Bool} {held : Bool}

abbrev C0 (w : World) : Ctx := Ctx.callee w w fun _ => False

/-- What is read of a type's cells, in the walk's words. -/
structure Opn (ec : TypeId × Value → H) (P : Program) (w : World) (spare : Nat → Bool) (held : Bool) (t : TypeId) (sz : Nat) {α : Type} (en : α → List AV) (good : α → Prop) : Prop where
  cells : P.cellsOf t = sz
  len : ∀ a, (en a).length = sz
  at_ : ∀ fuel cs x, DataW.trod ec P w 0 spare held fuel t cs = some x → cs.length = sz ∧ ∃ a, DenP (C0 w) (en a) cs ∧ good a

def enI (n : Int) : List AV := [.int .i64 n]
def goodI (n : Int) : Prop := -9223372036854775808 ≤ n ∧ n ≤ 9223372036854775807
def enB (b : Bool) : List AV := [.bool b]
def enS {α : Type} (en : α → List AV) (l : List α) : List AV := [.rows false (l.flatMap en) l.length]
def goodS {α : Type} (good : α → Prop) (l : List α) : Prop := (∀ a ∈ l, good a) ∧ l.length ≤ 9223372036854775807

theorem Opn.int {t : TypeId} (ht : P.underlying t = some (.int .i64)) (hc : P.cellsOf t = 1) : Opn ec P w spare held t 1 enI goodI := by
  refine ⟨hc, fun _ => rfl, fun fuel cs x h => ?_⟩
  obtain ⟨n, rfl, _, hw⟩ := DataW.trod_int ht h
  refine ⟨rfl, n, by simp [enI, DenP, Den], ?_⟩
  simpa [goodI, Lit.wf, IntKind.min, IntKind.max, IntKind.signed, IntKind.bits] using hw

theorem Opn.bool {t : TypeId} (ht : P.underlying t = some .bool) (hc : P.cellsOf t = 1) : Opn ec P w spare held t 1 enB (fun _ => True) := by
  refine ⟨hc, fun _ => rfl, fun fuel cs x h => ?_⟩
  obtain ⟨b, rfl, _⟩ := DataW.trod_bool ht h
  exact ⟨rfl, b, by simp [enB, DenP, Den], trivial⟩

theorem cell_lit {g o : Nat} {v : Value} {s : Option Nat} (h : w.cell? ⟨g, o, s⟩ = some v) : s = none ∧ ∃ cur e fz, w.heap[g]? = some (.cells cur e fz) ∧ cur[o]? = some v := by
  unfold World.cell? at h
  simp only at h
  split at h
  · rename_i c e fz hg
    split at h
    · cases h
    · rename_i hs
      exact ⟨by simpa using hs, c, e, fz, hg, h⟩
  · cases h

theorem addr_add (a : Addr) (i : Nat) : (a.add i).block = a.block ∧ (a.spot = none → a.add i = ⟨a.block, a.off + i, none⟩) := by
  obtain ⟨g, o, s⟩ := a
  refine ⟨by unfold Addr.add; split <;> rfl, ?_⟩
  intro hs
  simp only at hs
  subst hs
  exact Addr.add_lit _ _ _

theorem Opn.slice {t e : TypeId} {sz : Nat} {α : Type} {en : α → List AV} {good : α → Prop} (o : Opn ec P w spare held e sz en good) (hsz : 0 < sz) (ht : P.underlying t = some (.slice e)) (hc : P.cellsOf t = 1) : Opn ec P w spare held t 1 (enS en) (goodS good) := by
  refine ⟨hc, fun _ => rfl, fun fuel cs x h => ?_⟩
  rcases DataW.trod_slice ht h with ⟨rfl, _⟩ | ⟨a, len, cap, elems, rest, n, _, rfl, _, _, hl, hm, hlen, hel, _⟩
  · exact ⟨rfl, [], by simp only [enS, DenP, Den]; exact ⟨.inl ⟨.inl rfl, by simp, by simp⟩, trivial⟩, by simp [goodS]⟩
  · refine ⟨rfl, ?_⟩
    by_cases h0 : len = 0
    · subst h0
      exact ⟨[], by simp only [enS, DenP, Den]; exact ⟨.inl ⟨.inr ⟨a, cap, by simp⟩, by simp, by simp⟩, trivial⟩, by simp [goodS]⟩
    · -- each element's cells
      have hcell : ∀ i, i < len → ∃ cs' y, w.cells? 0 (a.add (i * sz)) sz = some cs' ∧ DataW.trod ec P w 0 spare held n e cs' = some y := by
        intro i hi
        have h1 := hel i hi
        rw [o.cells] at h1
        rw [List.getElem?_eq_getElem (by omega)] at h1
        simp only [Option.bind_eq_some_iff] at h1
        obtain ⟨cs', h2, h3⟩ := h1
        exact ⟨cs', _, h2, h3⟩
      -- where they lie
      obtain ⟨g, of, sp⟩ := a
      have hspot : sp = none ∧ ∃ cur et fz, w.heap[g]? = some (.cells cur et fz) := by
        obtain ⟨cs', y, h1, _⟩ := hcell 0 (by omega)
        have h2 := (World.cells?_some h1).2
        have hlen' : cs'.length = sz := h2.1
        have h3 := h2.2 0 (by omega)
        rw [List.getElem?_eq_getElem (by omega)] at h3
        have e0 : ((⟨g, of, sp⟩ : Addr).add (0 * sz)).add 0 = (⟨g, of, sp⟩ : Addr) := by
          simp [Addr.add]
        rw [e0] at h3
        obtain ⟨h4, cur, et, fz, h5, _⟩ := cell_lit h3
        exact ⟨h4, cur, et, fz, h5⟩
      obtain ⟨rfl, cur, et, fz, hg⟩ := hspot
      have hat : ∀ i, i < len → ∃ al, DenP (C0 w) (en al) (cur.toList.drop (of + i * sz)) ∧ good al := by
        intro i hi
        obtain ⟨cs', y, h1, h2⟩ := hcell i hi
        obtain ⟨hl', al, h3, h4⟩ := o.at_ _ _ _ h2
        refine ⟨al, ?_, h4⟩
        have h5 := (World.cells?_some h1).2.2
        rw [denP_get] at h3 ⊢
        intro j b hb
        obtain ⟨v, hv, hd⟩ := h3 j b hb
        have hj : j < sz := by rw [← o.len al]; exact (List.getElem?_eq_some_iff.1 hb).1
        have h6 := h5 j hj
        rw [hv] at h6
        have e1 : ((⟨g, of, none⟩ : Addr).add (i * sz)).add j = ⟨g, of + i * sz + j, none⟩ := by rw [Addr.add_lit, Addr.add_lit]
        rw [e1] at h6
        obtain ⟨_, cur', et', fz', h7, h8⟩ := cell_lit h6
        rw [hg] at h7
        injection h7 with h7
        injection h7 with h7
        subst h7
        exact ⟨v, by rw [List.getElem?_drop]; simpa using h8, hd⟩
      have hall : ∀ k, k ≤ len → ∃ l : List α, l.length = k ∧ (∀ a ∈ l, good a) ∧ DenP (C0 w) (l.flatMap en) (cur.toList.drop of) ∧ (l.flatMap en).length = k * sz := by
        intro k
        induction k with
        | zero => exact fun _ => ⟨[], rfl, by simp, by simp [DenP], by simp⟩
        | succ k ih =>
          intro hk
          obtain ⟨l, h1, h2, h3, h4⟩ := ih (by omega)
          obtain ⟨al, h5, h6⟩ := hat k (by omega)
          refine ⟨l ++ [al], by simp [h1], fun x hx => ?_, ?_, by simp [List.flatMap_append, h4, o.len, Nat.add_mul]⟩
          · rcases List.mem_append.1 hx with hx | hx
            · exact h2 x hx
            · simp at hx; subst hx; exact h6
          · rw [List.flatMap_append]
            simp only [List.flatMap_cons, List.flatMap_nil, List.append_nil]
            rw [denP_get] at h3 h5 ⊢
            intro j b hb
            rw [List.getElem?_append] at hb
            split at hb
            · exact h3 j b hb
            · rename_i hj
              obtain ⟨v, hv, hd⟩ := h5 _ b hb
              refine ⟨v, ?_, hd⟩
              rw [List.getElem?_drop] at hv ⊢
              rw [h4] at hv hj
              rw [← hv]
              congr 1
              omega
      obtain ⟨l, h1, h2, h3, _⟩ := hall len (Nat.le_refl _)
      refine ⟨l, ?_, h2, by rw [h1]; have : maxLen = 9223372036854775807 := rfl; omega⟩
      simp only [enS, DenP, Den, and_true]
      exact .inr ⟨g, of, cap, cur, et, fz, by rw [h1], hg, ⟨(fun _ h => by cases h), (fun h => h), (fun h => by cases h)⟩, by rw [h1]; exact hl, h3⟩

/-- The fields of a struct, from the cell 'o' on. -/
inductive OpnL (ec : TypeId × Value → H) (P : Program) (w : World) (spare : Nat → Bool) (held : Bool) : (o : Nat) → List Field → (α : Type) → (α → List AV) → (α → Prop) → Prop
  | nil {o : Nat} : OpnL ec P w spare held o [] Unit (fun _ => []) (fun _ => True)
  | cons {o sz : Nat} {f : Field} {fs : List Field} {α β : Type} {en : α → List AV} {good : α → Prop} {en' : β → List AV} {good' : β → Prop} :
      Opn ec P w spare held f.type sz en good → f.offset = o → OpnL ec P w spare held (o + sz) fs β en' good' → OpnL ec P w spare held o (f :: fs) (α × β) (fun p => en p.1 ++ en' p.2) (fun p => good p.1 ∧ good' p.2)

theorem OpnL.at_ {o : Nat} {fs : List Field} {α : Type} {en : α → List AV} {good : α → Prop} (h : OpnL ec P w spare held o fs α en good) :
    ∃ total, (∀ a, (en a).length = total) ∧ ∀ (cs : List Value), (∀ f ∈ fs, ∃ n x, DataW.trod ec P w 0 spare held n f.type ((cs.drop f.offset).take (P.cellsOf f.type)) = some x) → ∃ a, DenP (C0 w) (en a) (cs.drop o) ∧ good a := by
  induction h with
  | nil => exact ⟨0, fun _ => rfl, fun cs _ => ⟨(), by simp [DenP], trivial⟩⟩
  | @cons o sz f fs α β en good en' good' hf ho hr ih =>
    obtain ⟨total, h1, h2⟩ := ih
    refine ⟨sz + total, fun a => by simp [hf.len, h1], fun cs hcs => ?_⟩
    obtain ⟨n, x, h3⟩ := hcs f (by simp)
    obtain ⟨h4, a, h5, h6⟩ := hf.at_ _ _ _ h3
    obtain ⟨b, h7, h8⟩ := h2 cs (fun f hf => hcs f (by simp [hf]))
    refine ⟨(a, b), ?_, h6, h8⟩
    rw [hf.cells] at h4 h5
    subst ho
    have hl := hf.len a
    rw [denP_get] at h5 h7 ⊢
    intro j c hc
    dsimp only at hc
    rw [List.getElem?_append] at hc
    split at hc
    · rename_i hj
      obtain ⟨v, hv, hd⟩ := h5 j c hc
      refine ⟨v, ?_, hd⟩
      rw [List.getElem?_take, if_pos (by omega)] at hv
      exact hv
    · rename_i hj
      obtain ⟨v, hv, hd⟩ := h7 _ c hc
      refine ⟨v, ?_, hd⟩
      rw [List.getElem?_drop] at hv ⊢
      rw [← hv]
      congr 1
      omega

theorem Opn.struct {t : TypeId} {sz : Nat} {fs : Array Field} {α : Type} {en : α → List AV} {good : α → Prop} (ht : P.underlying t = some (.struct fs)) (hl : OpnL ec P w spare held 0 fs.toList α en good) (hc : P.cellsOf t = sz) (hlen : ∀ a, (en a).length = sz) : Opn ec P w spare held t sz en good := by
  refine ⟨hc, hlen, fun fuel cs x h => ?_⟩
  obtain ⟨xs, n, _, _, h1, h2, h3⟩ := DataW.trod_struct ht h
  obtain ⟨total, _, h4⟩ := hl.at_
  obtain ⟨a, h5, h6⟩ := h4 cs fun f hf => by
    obtain ⟨i, hi⟩ := List.getElem?_of_mem hf
    have h7 := h3 i f (by simpa using hi)
    have hlt : i < xs.length := by
      have := (List.getElem?_eq_some_iff.1 hi).1
      simp at this
      omega
    rw [List.getElem?_eq_getElem hlt] at h7
    exact ⟨n, _, h7⟩
  exact ⟨h1.trans hc, a, by simpa using h5, h6⟩

/-- An argument of one cell. -/
theorem Opn.cell {t : TypeId} {α : Type} {en : α → List AV} {good : α → Prop} (o : Opn ec P w spare held t 1 en good) {v : Value} {d : DataW H} {ps : List MemPlace} (h : DataW.Trod ec P w 0 spare held t v d ps) (hv : ∀ cs, v ≠ .agg cs) : ∃ a, DenP (C0 w) (en a) [v] ∧ good a := by
  obtain ⟨n, hn⟩ := h
  obtain ⟨_, a, h1, h2⟩ := o.at_ _ _ _ hn
  have : v.cells.toList = [v] := by cases v <;> first | rfl | exact absurd rfl (hv _)
  rw [this] at h1
  exact ⟨a, h1, h2⟩

/-- An argument that is a struct. -/
theorem Opn.agg {t : TypeId} {sz : Nat} {α : Type} {en : α → List AV} {good : α → Prop} (o : Opn ec P w spare held t sz en good) {cs : Array Value} {d : DataW H} {ps : List MemPlace} (h : DataW.Trod ec P w 0 spare held t (.agg cs) d ps) : ∃ a, Den (C0 w) (.agg (en a)) (.agg cs) ∧ good a := by
  obtain ⟨n, hn⟩ := h
  obtain ⟨hl, a, h1, h2⟩ := o.at_ _ _ _ hn
  refine ⟨a, ?_, h2⟩
  simp only [Den]
  exact ⟨cs, rfl, by rw [o.len]; simpa [Value.cells] using hl, h1⟩

theorem denP_mk {C : Ctx} {a : AV} {v : Value} {as : List AV} {vs : List Value} (h : Den C a v) (hr : DenP C as vs) : DenP C (a :: as) (v :: vs) := by
  simp only [DenP]; exact ⟨h, hr⟩
theorem denP_mk0 {C : Ctx} {vs : List Value} : DenP C [] vs := by simp [DenP]

theorem den_of_cell {C : Ctx} {a : AV} {v : Value} (h : DenP C [a] [v]) : Den C a v := by
  simp only [DenP] at h; exact h.1

def enU (n : Int) : List AV := [.int .u8 n]
def goodU (n : Int) : Prop := 0 ≤ n ∧ n ≤ 255
theorem Opn.u8 {t : TypeId} (ht : P.underlying t = some (.int .u8)) (hc : P.cellsOf t = 1) : Opn ec P w spare held t 1 enU goodU := by
  refine ⟨hc, fun _ => rfl, fun fuel cs x h => ?_⟩
  obtain ⟨n, rfl, _, hw⟩ := DataW.trod_int ht h
  refine ⟨rfl, n, by simp [enU, DenP, Den], ?_⟩
  simpa [goodU, Lit.wf, IntKind.min, IntKind.max, IntKind.signed, IntKind.bits] using hw
theorem flat_u8 (l : List Int) : l.flatMap enU = l.map (AV.int .u8) := by
  induction l with
  | nil => rfl
  | cons x r ih => simp [List.flatMap_cons, enU, ih]
theorem flat_ints (l : List Int) : l.flatMap enI = l.map (AV.int .i64) := by
  induction l with
  | nil => rfl
  | cons x r ih => simp [List.flatMap_cons, enI, ih]
end Vw
