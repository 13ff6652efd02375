/- How an argument that can be read as data is told to the walk: types of integers, bools, slices and structs. -/
import Derived.Test.YtcnlcmehfanbdaaCW2
import Derived.ChangeArms
import Derived.DataReads
set_option linter.unusedVariables false
namespace Vw
open Go

variable {H : Type} {ec : TypeId × Value → H} {P : Program} {w : World} {spare : Nat → Bool} {held : Bool}

abbrev C0 (w : World) : Ctx := Ctx.callee w w fun _ => False

/-- What is read of a type's cells, in the walk's words. -/
structure Opn (ec : TypeId × Value → H) (P : Program) (w : World) (spare : Nat → Bool) (held : Bool) (t : TypeId) (sz : Nat) {α : Type} (en : α → List AV) (good : α → Prop) : Prop where
  cells : P.cellsOf t = sz
  len : ∀ a, (en a).length = sz
  at_ : ∀ fuel cs x, DataW.trod ec P w 0 spare held fuel t cs = some x → cs.length = sz ∧ ∃ a, DenP (C0 w) (en a) cs ∧ good a

def enI (n : Int) : List AV := [.int .i64 n]
def goodI (n : Int) : Prop := -9223372036854775808 ≤ n ∧ n ≤ 9223372036854775807
def enB (b : Bool) : List AV := [.bool b]
def enS {α : Type} (en : α → List AV) (l : List α) : List AV := [.rows false (l.flatMap en) l.length]
def goodS {α : Type} (good : α → Prop) (l : List α) : Prop := (∀ a ∈ l, good a) ∧ l.length ≤ 9223372036854775807

theorem Opn.int {t : TypeId} (ht : P.underlying t = some (.int .i64)) (hc : P.cellsOf t = 1) : Opn ec P w spare held t 1 enI goodI := by
  refine ⟨hc, fun _ => rfl, fun fuel cs x h => ?_⟩
  obtain ⟨n, rfl, _, hw⟩ := DataW.trod_int ht h
  refine ⟨rfl, n, by simp [enI, DenP, Den], ?_⟩
  simpa [goodI, Lit.wf, IntKind.min, IntKind.max, IntKind.signed, IntKind.bits] using hw

theorem Opn.bool {t : TypeId} (ht : P.underlying t = some .bool) (hc : P.cellsOf t = 1) : Opn ec P w spare held t 1 enB (fun _ => True) := by
  refine ⟨hc, fun _ => rfl, fun fuel cs x h => ?_⟩
  obtain ⟨b, rfl, _⟩ := DataW.trod_bool ht h
  exact ⟨rfl, b, by simp [enB, DenP, Den], trivial⟩

theorem cell_lit {g o : Nat} {v : Value} {s : Option Nat} (h : w.cell? ⟨g, o, s⟩ = some v) : s = none ∧ ∃ cur e fz, w.heap[g]? = some (.cells cur e fz) ∧ cur[o]? = some v := by
  unfold World.cell? at h
  simp only at h
  split at h
  · rename_i c e fz hg
    split at h
    · cases h
    · rename_i hs
      exact ⟨by simpa using hs, c, e, fz, hg, h⟩
  · cases h

theorem Opn.slice {t e : TypeId} {sz : Nat} {α : Type} {en : α → List AV} {good : α → Prop} (o : Opn ec P w spare held e sz en good) (hsz : 0 < sz) (ht : P.underlying t = some (.slice e)) (hc : P.cellsOf t = 1) : Opn ec P w spare held t 1 (enS en) (goodS good) := by
  refine ⟨hc, fun _ => rfl, fun fuel cs x h => ?_⟩
  rcases DataW.trod_slice ht h with ⟨rfl, _⟩ | ⟨a, len, cap, elems, rest, n, _, rfl, _, _, hl, hm, hlen, hel, _⟩
  · exact ⟨rfl, [], by simp only [enS, DenP, Den]; exact ⟨.inl ⟨.inl rfl, by simp, by simp⟩, trivial⟩, by simp [goodS]⟩
  · refine ⟨rfl, ?_⟩
    by_cases h0 : len = 0
    · subst h0
      exact ⟨[], by simp only [enS, DenP, Den]; exact ⟨.inl ⟨.inr ⟨a, cap, by simp⟩, by simp, by simp⟩, trivial⟩, by simp [goodS]⟩
    · -- each element's cells
      have hcell : ∀ i, i < len → ∃ cs' y, w.cells? 0 (a.add (i * sz)) sz = some cs' ∧ DataW.trod ec P w 0 spare held n e cs' = some y := by
        intro i hi
        have h1 := hel i hi
        rw [o.cells] at h1
        rw [List.getElem?_eq_getElem (by omega)] at h1
        simp only [Option.bind_eq_some_iff] at h1
        obtain ⟨cs', h2, h3⟩ := h1
        exact ⟨cs', _, h2, h3⟩
      -- where they lie
      obtain ⟨g, of, sp⟩ := a
      have hspot : sp = none ∧ ∃ cur et fz, w.heap[g]? = some (.cells cur et fz) := by
        obtain ⟨cs', y, h1, _⟩ := hcell 0 (by omega)
        have h2 := (World.cells?_some h1).2
        have hlen' : cs'.length = sz := h2.1
        have h3 := h2.2 0 (by omega)
        rw [List.getElem?_eq_getElem (by omega)] at h3
        have e0 : ((⟨g, of, sp⟩ : Addr).add (0 * sz)).add 0 = (⟨g, of, sp⟩ : Addr) := by
          simp [Addr.add]
        rw [e0] at h3
        obtain ⟨h4, cur, et, fz, h5, _⟩ := cell_lit h3
        exact ⟨h4, cur, et, fz, h5⟩
      obtain ⟨rfl, cur, et, fz, hg⟩ := hspot
      have hat : ∀ i, i < len → ∃ al, DenP (C0 w) (en al) (cur.toList.drop (of + i * sz)) ∧ good al := by
        intro i hi
        obtain ⟨cs', y, h1, h2⟩ := hcell i hi
        obtain ⟨hl', al, h3, h4⟩ := o.at_ _ _ _ h2
        refine ⟨al, ?_, h4⟩
        have h5 := (World.cells?_some h1).2.2
        rw [denP_get] at h3 ⊢
        intro j b hb
        obtain ⟨v, hv, hd⟩ := h3 j b hb
        have hj : j < sz := by rw [← o.len al]; exact (List.getElem?_eq_some_iff.1 hb).1
        have h6 := h5 j hj
        rw [hv] at h6
        have e1 : ((⟨g, of, none⟩ : Addr).add (i * sz)).add j = ⟨g, of + i * sz + j, none⟩ := by rw [Addr.add_lit, Addr.add_lit]
        rw [e1] at h6
        obtain ⟨_, cur', et', fz', h7, h8⟩ := cell_lit h6
        rw [hg] at h7
        injection h7 with h7
        injection h7 with h7
        subst h7
        exact ⟨v, by rw [List.getElem?_drop]; simpa using h8, hd⟩
      have hall : ∀ k, k ≤ len → ∃ l : List α, l.length = k ∧ (∀ a ∈ l, good a) ∧ DenP (C0 w) (l.flatMap en) (cur.toList.drop of) ∧ (l.flatMap en).length = k * sz := by
        intro k
        induction k with
        | zero => exact fun _ => ⟨[], rfl, by simp, by simp [DenP], by simp⟩
        | succ k ih =>
          intro hk
          obtain ⟨l, h1, h2, h3, h4⟩ := ih (by omega)
          obtain ⟨al, h5, h6⟩ := hat k (by omega)
          refine ⟨l ++ [al], by simp [h1], fun x hx => ?_, ?_, by simp [List.flatMap_append, h4, o.len, Nat.add_mul]⟩
          · rcases List.mem_append.1 hx with hx | hx
            · exact h2 x hx
            · simp at hx; subst hx; exact h6
          · rw [List.flatMap_append]
            simp only [List.flatMap_cons, List.flatMap_nil, List.append_nil]
            rw [denP_get] at h3 h5 ⊢
            intro j b hb
            rw [List.getElem?_append] at hb
            split at hb
            · exact h3 j b hb
            · rename_i hj
              obtain ⟨v, hv, hd⟩ := h5 _ b hb
              refine ⟨v, ?_, hd⟩
              rw [List.getElem?_drop] at hv ⊢
              rw [h4] at hv hj
              rw [← hv]
              congr 1
              omega
      obtain ⟨l, h1, h2, h3, _⟩ := hall len (Nat.le_refl _)
      refine ⟨l, ?_, h2, by rw [h1]; have : maxLen = 9223372036854775807 := rfl; omega⟩
      simp only [enS, DenP, Den, and_true]
      exact .inr ⟨g, of, cap, cur, et, fz, by rw [h1], hg, ⟨(fun _ h => by cases h), (fun h => h), (fun h => by cases h)⟩, by rw [h1]; exact hl, h3⟩

/-- The fields of a struct, from the cell 'o' on. -/
inductive OpnL (ec : TypeId × Value → H) (P : Program) (w : World) (spare : Nat → Bool) (held : Bool) : (o : Nat) → List Field → (α : Type) → (α → List AV) → (α → Prop) → Prop
  | nil {o : Nat} : OpnL ec P w spare held o [] Unit (fun _ => []) (fun _ => True)
  | cons {o sz : Nat} {f : Field} {fs : List Field} {α β : Type} {en : α → List AV} {good : α → Prop} {en' : β → List AV} {good' : β → Prop} :
      Opn ec P w spare held f.type sz en good → f.offset = o → OpnL ec P w spare held (o + sz) fs β en' good' → OpnL ec P w spare held o (f :: fs) (α × β) (fun p => en p.1 ++ en' p.2) (fun p => good p.1 ∧ good' p.2)

theorem OpnL.at_ {o : Nat} {fs : List Field} {α : Type} {en : α → List AV} {good : α → Prop} (h : OpnL ec P w spare held o fs α en good) :
    ∃ total, (∀ a, (en a).length = total) ∧ ∀ (cs : List Value), (∀ f ∈ fs, ∃ n x, DataW.trod ec P w 0 spare held n f.type ((cs.drop f.offset).take (P.cellsOf f.type)) = some x) → ∃ a, DenP (C0 w) (en a) (cs.drop o) ∧ good a := by
  induction h with
  | nil => exact ⟨0, fun _ => rfl, fun cs _ => ⟨(), by simp [DenP], trivial⟩⟩
  | @cons o sz f fs α β en good en' good' hf ho hr ih =>
    obtain ⟨total, h1, h2⟩ := ih
    refine ⟨sz + total, fun a => by simp [hf.len, h1], fun cs hcs => ?_⟩
    obtain ⟨n, x, h3⟩ := hcs f (by simp)
    obtain ⟨h4, a, h5, h6⟩ := hf.at_ _ _ _ h3
    obtain ⟨b, h7, h8⟩ := h2 cs (fun f hf => hcs f (by simp [hf]))
    refine ⟨(a, b), ?_, h6, h8⟩
    rw [hf.cells] at h4 h5
    subst ho
    have hl := hf.len a
    rw [denP_get] at h5 h7 ⊢
    intro j c hc
    dsimp only at hc
    rw [List.getElem?_append] at hc
    split at hc
    · rename_i hj
      obtain ⟨v, hv, hd⟩ := h5 j c hc
      refine ⟨v, ?_, hd⟩
      rw [List.getElem?_take, if_pos (by omega)] at hv
      exact hv
    · rename_i hj
      obtain ⟨v, hv, hd⟩ := h7 _ c hc
      refine ⟨v, ?_, hd⟩
      rw [List.getElem?_drop] at hv ⊢
      rw [← hv]
      congr 1
      omega

theorem Opn.struct {t : TypeId} {sz : Nat} {fs : Array Field} {α : Type} {en : α → List AV} {good : α → Prop} (ht : P.underlying t = some (.struct fs)) (hl : OpnL ec P w spare held 0 fs.toList α en good) (hc : P.cellsOf t = sz) (hlen : ∀ a, (en a).length = sz) : Opn ec P w spare held t sz en good := by
  refine ⟨hc, hlen, fun fuel cs x h => ?_⟩
  obtain ⟨xs, n, _, _, h1, h2, h3⟩ := DataW.trod_struct ht h
  obtain ⟨total, _, h4⟩ := hl.at_
  obtain ⟨a, h5, h6⟩ := h4 cs fun f hf => by
    obtain ⟨i, hi⟩ := List.getElem?_of_mem hf
    have h7 := h3 i f (by simpa using hi)
    have hlt : i < xs.length := by
      have := (List.getElem?_eq_some_iff.1 hi).1
      simp at this
      omega
    rw [List.getElem?_eq_getElem hlt] at h7
    exact ⟨n, _, h7⟩
  exact ⟨h1.trans hc, a, by simpa using h5, h6⟩

/-- An argument of one cell. -/
theorem Opn.cell {t : TypeId} {α : Type} {en : α → List AV} {good : α → Prop} (o : Opn ec P w spare held t 1 en good) {v : Value} {d : DataW H} {ps : List MemPlace} (h : DataW.Trod ec P w 0 spare held t v d ps) (hv : ∀ cs, v ≠ .agg cs) : ∃ a, DenP (C0 w) (en a) [v] ∧ good a := by
  obtain ⟨n, hn⟩ := h
  obtain ⟨_, a, h1, h2⟩ := o.at_ _ _ _ hn
  have : v.cells.toList = [v] := by cases v <;> first | rfl | exact absurd rfl (hv _)
  rw [this] at h1
  exact ⟨a, h1, h2⟩

/-- An argument that is a struct. -/
theorem Opn.agg {t : TypeId} {sz : Nat} {α : Type} {en : α → List AV} {good : α → Prop} (o : Opn ec P w spare held t sz en good) {cs : Array Value} {d : DataW H} {ps : List MemPlace} (h : DataW.Trod ec P w 0 spare held t (.agg cs) d ps) : ∃ a, Den (C0 w) (.agg (en a)) (.agg cs) ∧ good a := by
  obtain ⟨n, hn⟩ := h
  obtain ⟨hl, a, h1, h2⟩ := o.at_ _ _ _ hn
  refine ⟨a, ?_, h2⟩
  simp only [Den]
  exact ⟨cs, rfl, by rw [o.len]; simpa [Value.cells] using hl, h1⟩

theorem denP_mk {C : Ctx} {a : AV} {v : Value} {as : List AV} {vs : List Value} (h : Den C a v) (hr : DenP C as vs) : DenP C (a :: as) (v :: vs) := by
  simp only [DenP]; exact ⟨h, hr⟩
theorem denP_mk0 {C : Ctx} {vs : List Value} : DenP C [] vs := by simp [DenP]

theorem den_of_cell {C : Ctx} {a : AV} {v : Value} (h : DenP C [a] [v]) : Den C a v := by
  simp only [DenP] at h; exact h.1

def enU (n : Int) : List AV := [.int .u8 n]
def goodU (n : Int) : Prop := 0 ≤ n ∧ n ≤ 255
theorem Opn.u8 {t : TypeId} (ht : P.underlying t = some (.int .u8)) (hc : P.cellsOf t = 1) : Opn ec P w spare held t 1 enU goodU := by
  refine ⟨hc, fun _ => rfl, fun fuel cs x h => ?_⟩
  obtain ⟨n, rfl, _, hw⟩ := DataW.trod_int ht h
  refine ⟨rfl, n, by simp [enU, DenP, Den], ?_⟩
  simpa [goodU, Lit.wf, IntKind.min, IntKind.max, IntKind.signed, IntKind.bits] using hw
theorem flat_u8 (l : List Int) : l.flatMap enU = l.map (AV.int .u8) := by
  induction l with
  | nil => rfl
  | cons x r ih => simp [List.flatMap_cons, enU, ih]
theorem flat_ints (l : List Int) : l.flatMap enI = l.map (AV.int .i64) := by
  induction l with
  | nil => rfl
  | cons x r ih => simp [List.flatMap_cons, enI, ih]
end Vw
set_option linter.unusedVariables false
set_option linter.unusedSimpArgs false
namespace Vw
open Go

theorem litA_eq (d : Option Nat) (op : AOp) (g : Option (Nat × Bool)) (a : List Nat) : litA ⟨d, op, g, a⟩ = ⟨d, litOp op, g, a⟩ := rfl
theorem litOp_bslice (sz : Nat) (zs : List Value) (ps : List (Nat × Operand)) (n : Nat) : litOp (.bslice sz zs ps n) = if n = 0 then .bslice sz zs ps n else .blit sz zs ps n := rfl
theorem litOp_mv (x : Operand) : litOp (.mv x) = .mv x := rfl
theorem litOp_pick (c a b : Operand) : litOp (.pick c a b) = .pick c a b := rfl
theorem litOp_alloc (zs : List Value) : litOp (.alloc zs) = .alloc zs := rfl
theorem litOp_box (x : Operand) : litOp (.box x) = .box x := rfl
theorem litOp_build (zs : List Value) (ps : List (Nat × Nat × Operand)) : litOp (.build zs ps) = .build zs ps := rfl
theorem litOp_load (agg : Bool) (sz : Nat) (x : Operand) : litOp (.load agg sz x) = .load agg sz x := rfl
theorem litOp_store (sz : Nat) (x v : Operand) : litOp (.store sz x v) = .store sz x v := rfl
theorem litOp_bin (op : BinOp) (x y : Operand) : litOp (.bin op x y) = .bin op x y := rfl
theorem litOp_binB (op : BinOp) (x y : Operand) : litOp (.binB op x y) = .binB op x y := rfl
theorem litOp_un (op : UnOp) (x : Operand) : litOp (.un op x) = .un op x := rfl
theorem litOp_conv (k : IntKind) (x : Operand) : litOp (.conv k x) = .conv k x := rfl
theorem litOp_nilck (x : Operand) : litOp (.nilck x) = .nilck x := rfl
theorem litOp_mkslice (sz : Nat) (zs : List Value) (l c : Operand) : litOp (.mkslice sz zs l c) = .mkslice sz zs l c := rfl
theorem litOp_slice (sz : Nat) (x : Operand) (lo hi : Option Operand) : litOp (.slice sz x lo hi) = .slice sz x lo hi := rfl
theorem litOp_sliceS (x : Operand) (lo hi : Option Operand) : litOp (.sliceS x lo hi) = .sliceS x lo hi := rfl
theorem litOp_fld (off : Nat) (x : Operand) : litOp (.fld off x) = .fld off x := rfl
theorem litOp_fldv (agg : Bool) (off sz : Nat) (x : Operand) : litOp (.fldv agg off sz x) = .fldv agg off sz x := rfl
theorem litOp_idxA (sz : Nat) (x i : Operand) : litOp (.idxA sz x i) = .idxA sz x i := rfl
theorem litOp_idxP (sz n : Nat) (x i : Operand) : litOp (.idxP sz n x i) = .idxP sz n x i := rfl
theorem litOp_idxS (x i : Operand) : litOp (.idxS x i) = .idxS x i := rfl
theorem litOp_extract (x : Operand) (i : Nat) : litOp (.extract x i) = .extract x i := rfl
theorem litOp_len (x : Operand) : litOp (.len x) = .len x := rfl
theorem litOp_lenS (x : Operand) : litOp (.lenS x) = .lenS x := rfl
theorem litOp_append (sz : Nat) (x y : Operand) : litOp (.append sz x y) = .append sz x y := rfl
theorem litOp_minmax (mx : Bool) (x y : Operand) : litOp (.minmax mx x y) = .minmax mx x y := rfl
theorem litOp_eqS (neg : Bool) (l : List (Nat × Option IntKind)) (x y : Operand) : litOp (.eqS neg l x y) = .eqS neg l x y := rfl
theorem litOp_sliceP (sz n : Nat) (x : Operand) (lo hi : Option Operand) : litOp (.sliceP sz n x lo hi) = .sliceP sz n x lo hi := rfl
theorem litOp_isnil (neg : Bool) (x : Operand) : litOp (.isnil neg x) = .isnil neg x := rfl
theorem litOp_call (f : Nat) (args : List Operand) : litOp (.call f args) = .call f args := rfl

/-- The heap without an object. -/
def dropK (id : Nat) : List (Nat × List AV) → List (Nat × List AV)
  | [] => []
  | p :: r => if p.1 = id then dropK id r else p :: dropK id r
theorem dropK_nil (id : Nat) : dropK id [] = [] := rfl
theorem dropK_cons (id i : Nat) (cs : List AV) (r : List (Nat × List AV)) : dropK id ((i, cs) :: r) = if i = id then dropK id r else (i, cs) :: dropK id r := rfl
section
variable {P : Program} {pin : Nat} {σ : List (Nat × AV)} {H HF : List (Nat × List AV)} {Z : List Nat} {K : S → Prop}

/-- The same, for a list of objects (there already or made by the region), and marks. -/
theorem awp_drawX {Q : Exit → S → Prop} {mid post : List AOper} (Z : List Nat) (hm : P.follows .mixedOrders = true) (hok : drawOk Z mid.length (mid.map litA ++ post) = true)
    (h : qSeq P pin (hk (dropL Z H)) Z (mid.map litA) (aSeq P pin post (Q .normal)) (mkS σ H)) : awp P pin (.draw (mid ++ post)) Q (mkS σ H) := by
  refine awp_drawL (hk (dropL Z H)) Z hm hok (fun j cs hj => ?_) (fun j hj => ?_) h
  · rw [hk_dropL] at hj
    split at hj
    · cases hj
    · exact hj
  · rw [hk_dropL, if_pos hj]

theorem qSeq_blit (sz : Nat) (zs : List Value) (ps : List (Nat × Operand)) (n : Nat) (dst : Option Nat) (af : List Nat) (r : List AOper) : qSeq P pin (hk HF) Z (⟨dst, .blit sz zs ps n, none, af⟩ :: r) K (mkS σ H) = bindX P pin HF Z K (isMk Z dst) (.blit sz zs ps n) dst r σ H := bindQ_mk _ _ _ _ (fun _ _ h => by cases h) rfl
theorem arun_blit {s : S} {d : Nat} (sz : Nat) (zs : List Value) (ps : List (Nat × Operand)) (n : Nat) : arun s pin d (.blit sz zs ps n) =
    withO (fillR (zcells (zs.map ofCell) n) (ps.map fun p => (p.1 * sz, sz, s.ev p.2))) fun cs => some (.rows true cs n, none) := by
  simp only [arun, withO]
  cases fillR (zcells (zs.map ofCell) n) (ps.map fun p => (p.1 * sz, sz, s.ev p.2)) <;> rfl

/-- A call in a region that draws, the objects that it is handed named. -/
def qcallI (P : Program) (pin : Nat) (HF : List (Nat × List AV)) (Z : List Nat) (f : Nat) (ids : List Nat) (sh : Bool) (cargs : List AV) (dst : Option Nat) (r : List AOper) (K : S → Prop) (σ : List (Nat × AV)) (H : List (Nat × List AV)) : Prop :=
  ∀ args : List Operand, args.map (fun x => ((mkS σ H).ev x).down ids sh (hk HF)) = cargs → qCall P pin (hk HF) Z f args dst r K (mkS σ H)
theorem qcallI_of {f : Nat} {args : List Operand} {dst : Option Nat} {r : List AOper} (ids : List Nat) (sh : Bool) (h : qcallI P pin HF Z f ids sh (args.map fun x => ((mkS σ H).ev x).down ids sh (hk HF)) dst r K σ H) : qCall P pin (hk HF) Z f args dst r K (mkS σ H) := h args rfl
theorem qcall1D {f d id : Nat} {sh : Bool} {cargs h0 : List AV} {Q : AV → List (List AV) → Prop} {r : List AOper} (hc : BCall P f cargs [h0] Q) (hH : (hk H id).map (List.map (AV.down [id] sh (hk HF))) = some h0) (hz : id ∈ Z) (hne : ∃ v H', Q v H')
    (hK : ∀ res H', Q res H' → (lenOk [h0] H' ∧ H'.length - 1 ≤ 16 ∧ freshD H d ∧ pin ≤ 16 * d ∧ ∀ z ∈ Z, ¬ z / 16 = d) ∧ qSeq P pin (hk HF) Z r K (after [id] sh 1 (some d) res H' (mkS σ H))) : qcallI P pin HF Z f [id] sh cargs (some d) r K σ H := by
  intro args ha
  obtain ⟨v, H', hq⟩ := hne
  have h1 := (hK v H' hq).1
  cases hc0 : hk H id with
  | none => rw [hc0] at hH; cases hH
  | some c0 =>
    rw [hc0] at hH
    exact qcall1 id sh hc ha hc0 (by simpa using hH) hz h1.2.2 ⟨v, H', hq⟩ fun res H'' hq' => ⟨(hK res H'' hq').1.1, (hK res H'' hq').1.2.1, (hK res H'' hq').2⟩

/-- What is known between two pieces of code. -/
theorem awp_join {s : S} {c1 c2 : ACode} {Q : Exit → S → Prop} {κ : Type} (I : κ → S) (Pre : κ → Prop) (h1 : awp P pin c1 (fun e s' => e = .normal ∧ ∃ x, Pre x ∧ Sub pin s' (I x)) s) (h2 : ∀ x, Pre x → awp P pin c2 Q (I x)) : awp P pin (.seq c1 c2) Q s := by
  refine awp_seq (awp_mono ?_ h1)
  rintro e s' ⟨rfl, x, hx, hsub⟩
  exact awp_sub hsub (h2 x hx)

/-- A smaller state, its slots and objects found by computing. -/
theorem Sub.of_eqs {pin : Nat} {σ σ' : List (Nat × AV)} {H H' : List (Nat × List AV)} (h1 : σ'.map (fun p => lk σ p.1) = σ'.map Prod.snd) (h2 : H'.map (fun p => hk H p.1) = H'.map (fun p => some p.2)) (h3 : ∀ id, id < pin → hk H' id = none → hk H id = none)
    (h4 : ∀ p ∈ σ', p.2.inn (fun id => (hk H' id).isSome) = true) (h5 : ∀ p ∈ H', innL (fun id => (hk H' id).isSome) p.2 = true) : Sub pin (mkS σ H) (mkS σ' H') := by
  refine Sub.of_lists (fun p hp => ?_) (fun p hp => ?_) h3 h4 h5
  · have := (List.map_inj_left.1 h1) p hp
    exact this
  · exact (List.map_inj_left.1 h2) p hp
theorem exSub3 {α0 α1 α2 : Type} {pin : Nat} {s : S} {Pre : α0 × α1 × α2 → Prop} {I : α0 × α1 × α2 → S} {a : α0} {b : α1} {c : α2} (h2 : Sub pin s (I (a, b, c))) (h1 : Pre (a, b, c)) : ∃ x, Pre x ∧ Sub pin s (I x) := ⟨_, h1, h2⟩
theorem exSub4 {α0 α1 α2 α3 : Type} {pin : Nat} {s : S} {Pre : α0 × α1 × α2 × α3 → Prop} {I : α0 × α1 × α2 × α3 → S} {a : α0} {b : α1} {c : α2} {d : α3} (h2 : Sub pin s (I (a, b, c, d))) (h1 : Pre (a, b, c, d)) : ∃ x, Pre x ∧ Sub pin s (I x) := ⟨_, h1, h2⟩
theorem exSub5 {α0 α1 α2 α3 α4 : Type} {pin : Nat} {s : S} {Pre : α0 × α1 × α2 × α3 × α4 → Prop} {I : α0 × α1 × α2 × α3 × α4 → S} {a : α0} {b : α1} {c : α2} {d : α3} {e : α4} (h2 : Sub pin s (I (a, b, c, d, e))) (h1 : Pre (a, b, c, d, e)) : ∃ x, Pre x ∧ Sub pin s (I x) := ⟨_, h1, h2⟩
theorem exSub6 {α0 α1 α2 α3 α4 α5 : Type} {pin : Nat} {s : S} {Pre : α0 × α1 × α2 × α3 × α4 × α5 → Prop} {I : α0 × α1 × α2 × α3 × α4 × α5 → S} {a : α0} {b : α1} {c : α2} {d : α3} {e : α4} {f : α5} (h2 : Sub pin s (I (a, b, c, d, e, f))) (h1 : Pre (a, b, c, d, e, f)) : ∃ x, Pre x ∧ Sub pin s (I x) := ⟨_, h1, h2⟩
end
attribute [push_cast] litA_eq litOp_bslice litOp_mv litOp_pick litOp_alloc litOp_box litOp_build litOp_load litOp_store litOp_bin litOp_binB litOp_un litOp_conv litOp_nilck litOp_mkslice litOp_slice litOp_sliceS litOp_fld litOp_fldv litOp_idxA litOp_idxP litOp_idxS litOp_extract litOp_len litOp_lenS litOp_append litOp_minmax litOp_eqS litOp_sliceP litOp_isnil litOp_call dropK_nil dropK_cons qSeq_blit arun_blit
end Vw
namespace Vw
open Go
structure Later (p : Prop) : Prop where
  get : p
section
variable {P : Program} {pin : Nat}
theorem awp_joinL {s : S} {c1 c2 : ACode} {Q : Exit → S → Prop} {κ : Type} (I : κ → S) (Pre : κ → Prop) (h1 : awp P pin c1 (fun e s' => e = .normal ∧ ∃ x, Pre x ∧ Sub pin s' (I x)) s) (h2 : Later (∀ x, Pre x → awp P pin c2 Q (I x))) : awp P pin (.seq c1 c2) Q s := awp_join I Pre h1 h2.get
end
end Vw
set_option linter.unusedVariables false
set_option linter.unusedSimpArgs false
namespace Vw
open Go

def swp (a b i : Nat) : Nat := if i = a then b else if i = b then a else i
theorem swp_swp (a b i : Nat) : swp a b (swp a b i) = i := by
  unfold swp
  by_cases h1 : i = a <;> by_cases h2 : i = b <;> by_cases h3 : b = a <;> simp_all
theorem swp_inj {a b i j : Nat} (h : swp a b i = swp a b j) : i = j := by rw [← swp_swp a b i, h, swp_swp]

mutual
/-- A value, two objects' names exchanged. -/
def AV.sw (a b : Nat) : AV → AV
  | .ref id len off => .ref (swp a b id) len off
  | .own id n sz => .own (swp a b id) n sz
  | .osl id len off n sz => .osl (swp a b id) len off n sz
  | .agg cs => .agg (swL a b cs)
  | .tup cs => .tup (swL a b cs)
  | .rows fr cs n => .rows fr (swL a b cs) n
  | .prow fr cs off => .prow fr (swL a b cs) off
  | x => x
def swL (a b : Nat) : List AV → List AV
  | [] => []
  | c :: r => c.sw a b :: swL a b r
end
theorem swL_length (a b : Nat) : ∀ cs : List AV, (swL a b cs).length = cs.length
  | [] => rfl
  | c :: r => by simp [swL, swL_length a b r]
theorem swL_ints (a b : Nat) (k : IntKind) : ∀ xs : List Int, swL a b (xs.map (AV.int k)) = xs.map (AV.int k)
  | [] => rfl
  | x :: r => by simp [swL, AV.sw, swL_ints a b k r]
def Ctx.sw (a b : Nat) (C : Ctx) : Ctx := ⟨C.w, fun i => C.M (swp a b i), fun i => (C.H (swp a b i)).map (swL a b), C.A, C.B⟩

mutual
theorem Den.sw {a b : Nat} {C : Ctx} : ∀ {x : AV} {v : Value}, Den C x v → Den (C.sw a b) (x.sw a b) v
  | .unk, _, _ => by simp [Den, AV.sw]
  | .und, _, h => by simpa [Den, AV.sw] using h
  | .int .., _, h => by simpa [Den, AV.sw] using h
  | .bool _, _, h => by simpa [Den, AV.sw] using h
  | .str _, _, h => by simpa [Den, AV.sw] using h
  | .val _, _, h => by simpa [Den, AV.sw] using h
  | .agg cs, _, h => by
    simp only [Den, AV.sw] at *
    obtain ⟨vs, h1, h2, h3⟩ := h
    exact ⟨vs, h1, by rw [swL_length]; exact h2, DenP.sw h3⟩
  | .tup cs, _, h => by
    simp only [Den, AV.sw] at *
    obtain ⟨vs, h1, h2, h3⟩ := h
    exact ⟨vs, h1, by rw [swL_length]; exact h2, DenP.sw h3⟩
  | .rows fr cs n, _, h => by
    simp only [Den, AV.sw] at *
    rcases h with ⟨h1, h2, h3⟩ | ⟨g, o, cap, cur, e, fz, h1, h2, h3, h4, h5⟩
    · exact .inl ⟨h1, by rw [h2]; rfl, h3⟩
    · exact .inr ⟨g, o, cap, cur, e, fz, h1, h2, ⟨fun id hc => h3.1 (swp a b id) hc, h3.2.1, h3.2.2⟩, h4, DenP.sw h5⟩
  | .prow fr cs off, _, h => by
    simp only [Den, AV.sw] at *
    obtain ⟨g, o, cur, e, fz, h1, h2, h3, h5⟩ := h
    exact ⟨g, o, cur, e, fz, h1, h2, ⟨fun id hc => h3.1 (swp a b id) hc, h3.2.1, h3.2.2⟩, DenP.sw h5⟩
  | .ref id len off, _, h => by
    simp only [Den, AV.sw, Ctx.sw, swp_swp] at *
    obtain ⟨h0, cs, h1, h2, h3⟩ := h
    exact ⟨h0, _, by rw [h1]; rfl, by rw [swL_length]; exact h2, fun he => h3 (by rw [swL_length] at he; exact he)⟩
  | .own id n sz, _, h => by
    simp only [Den, AV.sw, Ctx.sw, swp_swp] at *
    obtain ⟨h0, cs, h1, h2, h3⟩ := h
    exact ⟨h0, _, by rw [h1]; rfl, by rw [swL_length]; exact h2, fun he => h3 (by rw [swL_length] at he; exact he)⟩
  | .osl id len off n sz, _, h => by
    simp only [Den, AV.sw, Ctx.sw, swp_swp] at *
    obtain ⟨h0, cs, h1, h2, h4, h3⟩ := h
    exact ⟨h0, _, by rw [h1]; rfl, by rw [swL_length]; exact h2, h4, fun he => h3 (by rw [swL_length] at he; exact he)⟩
theorem DenP.sw {a b : Nat} {C : Ctx} : ∀ {cs : List AV} {vs : List Value}, DenP C cs vs → DenP (C.sw a b) (swL a b cs) vs
  | [], _, _ => by simp [DenP, swL]
  | _ :: _, [], h => by simp [DenP] at h
  | _ :: _, _ :: _, h => by
    simp only [DenP, swL] at *
    exact ⟨Den.sw h.1, DenP.sw h.2⟩
end

def S.sw (a b : Nat) (s : S) : S := ⟨fun t => (s.σ t).sw a b, fun i => (s.H (swp a b i)).map (swL a b)⟩

theorem swp_low {a b p i : Nat} (ha : p ≤ a) (hb : p ≤ b) (hi : i < p) : swp a b i = i := by
  unfold swp
  rw [if_neg (by omega), if_neg (by omega)]
theorem swp_high {a b p i : Nat} (ha : p ≤ a) (hb : p ≤ b) (hi : p ≤ i) : p ≤ swp a b i := by
  unfold swp
  split
  · exact hb
  · split
    · exact ha
    · exact hi

theorem St.sw {E : Env} {M : Nat → Option Nat} {s : S} {x : Act} {w : World} (h : St E M s x w) {a b : Nat} (ha : E.pin ≤ a) (hb : E.pin ≤ b) : St E (fun i => M (swp a b i)) (s.sw a b) x w := by
  have hC : E.C (fun i => M (swp a b i)) (s.sw a b).H w = (E.C M s.H w).sw a b := rfl
  refine ⟨h.defers, h.size, fun t => ?_, ⟨fun id cs hc => ?_, fun id hn => ?_, fun i j g hi hj => ?_⟩, ⟨h.old.os, h.old.tape, h.old.output, h.old.size, h.old.block, fun id hi => ?_, fun id g hi hg => h.old.new (swp a b id) g (swp_high ha hb hi) hg, h.old.psize⟩⟩
  · rw [hC]; exact (h.slots t).sw
  · have hc' : (s.H (swp a b id)).map (swL a b) = some cs := hc
    cases hq : s.H (swp a b id) with
    | none => rw [hq] at hc'; cases hc'
    | some cs0 =>
      rw [hq] at hc'
      simp only [Option.map_some, Option.some.injEq] at hc'
      subst hc'
      rcases h.hok.has (swp a b id) cs0 hq with ⟨h1, h2⟩ | ⟨g, cur, e, h1, h2, h3⟩
      · exact .inl ⟨h1, by rw [h2]; rfl⟩
      · exact .inr ⟨g, cur, e, h1, h2, by rw [hC]; exact h3.sw⟩
  · have hn' : (s.H (swp a b id)).map (swL a b) = none := hn
    have hn2 : s.H (swp a b id) = none := by
      cases hq : s.H (swp a b id) with
      | none => rfl
      | some cs => rw [hq] at hn'; cases hn'
    exact h.hok.no (swp a b id) hn2
  · exact swp_inj (h.hok.inj _ _ g hi hj)
  · show M (swp a b id) = _
    rw [swp_low ha hb hi]
    exact h.old.pinned id hi

/-- 's'' is a way to tell what 's' tells. -/
def SubW (pin : Nat) (s s' : S) : Prop := ∀ E M x w, E.pin = pin → St E M s x w → ∃ M', St E M' s' x w
theorem SubW.of {pin : Nat} {s s' : S} (h : Sub pin s s') : SubW pin s s' := fun E M x w hp hst => by subst hp; exact hst.sub h
theorem SubW.sw {pin : Nat} {s s' : S} (a b : Nat) (ha : pin ≤ a) (hb : pin ≤ b) (h : SubW pin (s.sw a b) s') : SubW pin s s' := fun E M x w hp hst => by
  subst hp
  exact h E _ x w rfl (hst.sw ha hb)

theorem lk_sw (a b : Nat) : ∀ (σ : List (Nat × AV)) (t : Nat), (lk σ t).sw a b = lk (σ.map fun p => (p.1, p.2.sw a b)) t
  | [], _ => rfl
  | p :: r, t => by
    simp only [lk, List.map_cons]
    split
    · rfl
    · exact lk_sw a b r t
theorem hk_sw (a b : Nat) : ∀ (H : List (Nat × List AV)) (i : Nat), (hk H (swp a b i)).map (swL a b) = hk (H.map fun p => (swp a b p.1, swL a b p.2)) i
  | [], _ => rfl
  | p :: r, i => by
    simp only [hk, List.map_cons]
    by_cases h : swp a b i = p.1
    · rw [if_pos h, if_pos (by rw [← h, swp_swp])]; rfl
    · rw [if_neg h, if_neg (fun e => h (by rw [e, swp_swp]))]
      exact hk_sw a b r i
theorem mkS_sw (a b : Nat) (σ : List (Nat × AV)) (H : List (Nat × List AV)) : (mkS σ H).sw a b = mkS (σ.map fun p => (p.1, p.2.sw a b)) (H.map fun p => (swp a b p.1, swL a b p.2)) := by
  unfold S.sw mkS
  simp only [S.mk.injEq]
  exact ⟨funext fun t => lk_sw a b σ t, funext fun i => hk_sw a b H i⟩
/-- FOR THE WALK: the objects 'a' and 'c' take the names 'b' and 'd'. -/
theorem SubW.mk2 {pin : Nat} {σ : List (Nat × AV)} {H : List (Nat × List AV)} {s' : S} (a b c d : Nat) (h1 : pin ≤ a ∧ pin ≤ b ∧ pin ≤ c ∧ pin ≤ d)
    (h : Sub pin (mkS ((σ.map fun p => (p.1, p.2.sw a b)).map fun p => (p.1, p.2.sw c d)) ((H.map fun p => (swp a b p.1, swL a b p.2)).map fun p => (swp c d p.1, swL c d p.2))) s') : SubW pin (mkS σ H) s' := by
  refine SubW.sw a b h1.1 h1.2.1 ?_
  rw [mkS_sw]
  refine SubW.sw c d h1.2.2.1 h1.2.2.2 ?_
  rw [mkS_sw]
  exact SubW.of h

section
variable {P : Program} {pin : Nat} {Q : Exit → S → Prop} {s : S}
theorem awp_subW {c : ACode} {s' : S} (hs : SubW pin s s') (h : awp P pin c Q s') : awp P pin c Q s := by
  intro E M a w cc hp hl hst
  obtain ⟨M', hst'⟩ := hs E M a w hp hst
  exact h E M' a w cc hp hl hst'

theorem awp_loopW {b : ACode} {κ : Type} (I : κ → S) (Pre : κ → Prop) (μ : κ → Nat) (x0 : κ) (h0 : Pre x0) (hs : SubW pin s (I x0))
    (round : ∀ x, Pre x → awp P pin b (athen (fun s' => ∃ x', Pre x' ∧ μ x' < μ x ∧ SubW pin s' (I x')) Q) (I x)) : awp P pin (.loop b) Q s := by
  refine awp_subW hs ?_
  intro E M a w cc hp hl hst
  subst hp
  cases cc <;> simp only [lowCode] at hl <;> first
    | (exfalso; first | (simp at hl; done) | ((repeat' (split at hl)) <;> simp at hl; done) | (simp only [Option.map_eq_some_iff] at hl; obtain ⟨_, _, hl⟩ := hl; (try split at hl) <;> simp at hl; done))
    | skip
  simp only [Option.map_eq_some_iff] at hl
  obtain ⟨l, hl1, hl2⟩ := hl
  simp only [ACode.loop.injEq] at hl2
  subst hl2
  refine wp_loop_ghost (fun n a w => ∃ x M, Pre x ∧ μ x = n ∧ St E M (I x) a w) (μ x0) ⟨x0, M, h0, rfl, hst⟩ ?_
  rintro n a w ⟨x, M, hx, hn, hst⟩
  refine Go.wp_mono (round x hx E M a w _ rfl hl1 hst) fun e a' w' ⟨M', s', h1, h2⟩ => ?_
  cases e with
  | normal =>
    obtain ⟨x', hx', hlt, hsub⟩ := h2
    obtain ⟨M'', hst''⟩ := hsub E M' a' w' rfl h1
    exact ⟨μ x', by omega, x', M'', hx', rfl, hst''⟩
  | _ => exact ⟨M', s', h1, h2⟩

end
end Vw
