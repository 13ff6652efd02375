/- Each operation yields what is told of it: literals of structs, arrays and slices; all operations in one theorem. -/
import Derived.Test.YtodfknmnhlaiaaaCVwG
set_option linter.unusedVariables false
set_option linter.unusedSimpArgs false
namespace Vw
open Go

section
variable {P : Program} {E : Env} {M : Nat → Option Nat} {H : Nat → Option (List AV)} {s : S} {a : Act} {w : World} {o : Oper} {pin d : Nat} {r : AV × Option (Nat × List AV)}

def setRV (vs : List Value) (off : Nat) : List Value → List Value
  | [] => vs
  | u :: r => setRV (vs.set off u) (off + 1) r

theorem denP_setRV {C : Ctx} : ∀ {l : List AV} {us : List Value} {cs : List AV} {vs : List Value} {off : Nat}, DenP C cs vs → DenP C l us → us.length = l.length → DenP C (setRange cs off l) (setRV vs off us)
  | [], [], _, _, _, h, _, _ => h
  | c :: l, u :: us, cs, vs, off, h, hl, hu => by
    simp only [setRange, setRV]
    simp only [DenP] at hl
    exact denP_setRV (denP_set h off hl.1) hl.2 (by simpa using hu)
  | [], _ :: _, _, _, _, _, _, hu => by simp at hu
  | _ :: _, [], _, _, _, _, _, hu => by simp at hu

theorem setRV_length : ∀ (us vs : List Value) (off : Nat), (setRV vs off us).length = vs.length
  | [], _, _ => rfl
  | u :: us, vs, off => by rw [setRV, setRV_length us]; simp

theorem foldl_zip : ∀ (us : List Value) (off k : Nat) (cells : Array Value),
    ((us.zipIdx k).foldl (fun cs (x : Value × Nat) => cs.setIfInBounds (off + x.2) x.1) cells).toList = setRV cells.toList (off + k) us
  | [], _, _, _ => rfl
  | u :: us, off, k, cells => by
    rw [List.zipIdx_cons, List.foldl_cons, foldl_zip us off (k + 1), setRV, Array.toList_setIfInBounds]
    rfl

theorem fill_spec {C : Ctx} (ρ : Operand → Value) (ev : Operand → AV) (hev : ∀ x, Den C (ev x) (ρ x)) (place : Nat → Option (Nat × Nat)) :
    ∀ (ps : List (Nat × Operand)) (qs : List (Nat × Nat × Operand)) (cs cs' : List AV) (cells : Array Value), qs.map (fun q => (some (q.1, q.2.1), q.2.2)) = ps.map (fun p => (place p.1, p.2)) → DenP C cs cells.toList → cs.length = cells.size →
      fillR cs (qs.map fun p => (p.1, p.2.1, ev p.2.2)) = some cs' → ∃ cells', Instr.fill place cells (ps.map fun p => (p.1, ρ p.2)) = some cells' ∧ DenP C cs' cells'.toList ∧ cs'.length = cells'.size ∧ cells'.size = cells.size
  | [], [], cs, cs', cells, _, hd, hl, hf => by
    simp only [List.map_nil, fillR, Option.some.injEq] at hf
    subst hf
    exact ⟨cells, rfl, hd, hl, rfl⟩
  | [], _ :: _, _, _, _, hq, _, _, _ => by simp at hq
  | _ :: _, [], _, _, _, hq, _, _, _ => by simp at hq
  | (i, x) :: ps, (off, sz, y) :: qs, cs, cs', cells, hq, hd, hl, hf => by
    simp only [List.map_cons, List.cons.injEq, Prod.mk.injEq] at hq
    obtain ⟨⟨hpl, rfl⟩, hq⟩ := hq
    simp only [List.map_cons, fillR] at hf
    split at hf
    · rename_i l hl'
      split at hf
      · rename_i hc
        obtain ⟨c1, c2, c3⟩ := cells_spec (hev y) hl'
        have hfold : ((ρ y).cells.zipIdx.foldl (fun cs (x : Value × Nat) => cs.setIfInBounds (off + x.2) x.1) cells).toList = setRV cells.toList off (ρ y).cells.toList := by
          rw [← Array.foldl_toList, Array.toList_zipIdx]
          simpa using foldl_zip (ρ y).cells.toList off 0 cells
        have hsz : ((ρ y).cells.zipIdx.foldl (fun cs (x : Value × Nat) => cs.setIfInBounds (off + x.2) x.1) cells).size = cells.size := by
          have := congrArg List.length hfold
          simpa [setRV_length] using this
        have ih := fill_spec ρ ev hev place ps qs (setRange cs off l) cs' _ hq (by rw [hfold]; exact denP_setRV hd c2 (by simpa using c1)) (by rw [setRange_length, hsz, hl]) hf
        obtain ⟨cells', h1, h2, h3, h4⟩ := ih
        refine ⟨cells', ?_, h2, h3, h4.trans hsz⟩
        simp only [List.map_cons, Instr.fill, ← hpl]
        rw [if_neg (by simp; omega)]
        exact h1
      · cases hf
    · cases hf

theorem partsAt_spec {places : List (Nat × Nat)} : ∀ {ps : List (Nat × Operand)} {qs : List (Nat × Nat × Operand)}, partsAt places ps = some qs → qs.map (fun q => (some (q.1, q.2.1), q.2.2)) = ps.map (fun p => (places[p.1]?, p.2))
  | [], qs, h => by simp [partsAt] at h; subst h; rfl
  | (i, x) :: ps, qs, h => by
    simp only [partsAt] at h
    split at h
    · rename_i q hq
      split at h
      · rename_i l hl
        simp only [Option.some.injEq] at h
        subst h
        simp [hq, partsAt_spec hl]
      · cases h
    · cases h

theorem zeroCells_spec {t : TypeId} {zs : List Value} (hz : zeroCells P t = some zs) : ∃ i z, P.info? t = some i ∧ i.zero = some z ∧ zs = z.cells.toList := by
  unfold zeroCells at hz
  split at hz
  · rename_i i hi
    split at hz
    · rename_i z hz'
      simp only [Option.some.injEq] at hz
      exact ⟨i, z, hi, hz', hz.symm⟩
    · cases hz
  · cases hz

theorem sound_build (h : St E M s a w) {t : TypeId} {ps : Array (Nat × Operand)} {zs : List Value} {qs : List (Nat × Nat × Operand)} (ho : o.op = .build t ps) (hl : lowOp P (.build t ps) = some (.build zs qs)) (hr : arun s pin d (.build zs qs) = some r) : Owed P E M s a w o r := by
  simp only [arun] at hr
  cases hf : fillR (zs.map ofCell) (qs.map fun p => (p.1, p.2.1, s.ev p.2.2)) with
  | none => simp [hf] at hr
  | some cs' =>
    simp only [hf, Option.map_some, Option.some.injEq] at hr
    subst hr
    have fin : ∀ (cells : Array Value), P.built t (ps.toList.map fun p => (p.1, a.eval p.2)) = some cells → DenP (E.C M s.H w) cs' cells.toList → cs'.length = cells.size → Owed P E M s a w o (.agg cs', none) := by
      intro cells hb hd hlen
      refine owed_pure h (v := .agg cells) ?_ (by simp only [Den]; exact ⟨cells, rfl, hlen.symm, hd⟩)
      have hb' : P.built t (ps.map fun (p : Nat × Operand) => (p.1, a.eval p.2)).toList = some cells := by rw [Array.toList_map]; exact hb
      simp [execOp, ho, run_build w t _ cells hb']
    simp only [lowOp] at hl
    split at hl
    · rename_i zs' fields hz hu
      obtain ⟨i, z, hi, hz', rfl⟩ := zeroCells_spec hz
      split at hl
      · rename_i places hp
        cases hpa : partsAt places ps.toList with
        | none => simp [hpa] at hl
        | some qs' =>
          simp only [hpa, Option.map_some, Option.some.injEq, AOp.build.injEq] at hl
          obtain ⟨rfl, rfl⟩ := hl
          have hp' : fields.toList.mapM (fun f => (P.info? f.type).map fun i => (f.offset, i.size)) = some places := hp
          obtain ⟨cells', h1, h2, h3, _⟩ := fill_spec (C := E.C M s.H w) a.eval s.ev h.ev (fun k => places.toArray[k]?) ps.toList qs' _ cs' z.cells (by simpa using partsAt_spec hpa) (denP_ofCells _ _) (by simp) hf
          refine fin cells' ?_ h2 h3
          simp only [Program.built, hi, hu, hz', hp']
          exact h1
      · cases hl
    · rename_i zs' len e hz hu
      obtain ⟨i, z, hi, hz', rfl⟩ := zeroCells_spec hz
      cases hn : sizeAt P e with
      | none => simp [hn] at hl
      | some n =>
        simp only [hn, Option.map_some, Option.some.injEq, AOp.build.injEq] at hl
        obtain ⟨rfl, rfl⟩ := hl
        obtain ⟨ie, hie, hsz⟩ := info_of_size hn
        obtain ⟨cells', h1, h2, h3, _⟩ := fill_spec (C := E.C M s.H w) a.eval s.ev h.ev (fun k => some (k * n, n)) ps.toList (ps.toList.map fun p => (p.1 * n, n, p.2)) _ cs' z.cells (by simp) (denP_ofCells _ _) (by simp) hf
        refine fin cells' ?_ h2 h3
        simp only [Program.built, hi, hu, hz', hie, hsz]
        exact h1
    · cases hl

theorem sound_bslice (h : St E M s a w) {t : TypeId} {ps : Array (Nat × Operand)} {sz n : Nat} {zs : List Value} {qs : List (Nat × Operand)} (ho : o.op = .buildSlice t n ps) (hl : lowOp P (.buildSlice t n ps) = some (.bslice sz zs qs n)) (hr : arun s E.pin d (.bslice sz zs qs n) = some r) : Owed P E M s a w o r := by
  simp only [lowOp] at hl
  split at hl
  · rename_i e hu
    split at hl
    · rename_i sz' zs' hsz hz
      split at hl
      · rename_i hc
        obtain ⟨hc1, hc2, hc3⟩ := hc
        simp only [Option.some.injEq, AOp.bslice.injEq, and_true] at hl
        obtain ⟨rfl, rfl, rfl⟩ := hl
        obtain ⟨i, z, hi, hz', rfl⟩ := zeroCells_spec hz
        have hzs : z.cells.size = sz' := by simpa using hc1
        simp only [arun] at hr
        split at hr
        · rename_i hcc
          have hH : s.H (16 * d) = none := by simpa using hcc.1
          cases hf : fillR (zcells (z.cells.toList.map ofCell) n) (ps.toList.map fun p => (p.1 * sz', sz', s.ev p.2)) with
          | none => simp [hf] at hr
          | some cs' =>
            simp only [hf, Option.map_some, Option.some.injEq] at hr
            subst hr
            obtain ⟨zd, zl⟩ := zcells_spec (E.C M s.H w) z.cells n (by omega)
            rw [hzs] at zd zl
            obtain ⟨cells', h1, h2, h3, h4⟩ := fill_spec (C := E.C M s.H w) a.eval s.ev h.ev (fun k => some (k * sz', sz')) ps.toList (ps.toList.map fun p => (p.1 * sz', sz', p.2)) _ cs' (madeCells z.cells (n * sz')) (by simp) zd (by rw [zl, size_madeCells]) (by simpa [Function.comp_def] using hf)
            rw [size_madeCells] at h4
            have h1' : Instr.fill (fun k => some (k * sz', sz')) ((Array.range (n * sz')).map fun x => z.cells[x % z.cells.size]!) (ps.toList.map fun p => (p.1, a.eval p.2)) = some cells' := h1
            have hrun : (execOp a.eval o).run P w = .ok (.value (.slice (some ⟨w.heap.size, 0, none⟩) n n)) (w.alloc (.cells cells' e)) := by
              by_cases hn : n * sz' = 0
              · have hn' : n = 0 := by
                  rcases Nat.mul_eq_zero.1 hn with hn | hn
                  · exact hn
                  · omega
                subst hn'
                simp only [Nat.zero_mul, Array.range_zero', List.map_toArray, List.map_nil] at h1'
                simp only [execOp, ho, Instr.buildSlice]
                simp [run_underlying hu, run_size hsz, newRow, Array.range_zero', h1']
              · have hbig : ¬ (2 ^ 24 < n * sz') := by omega
                simp only [execOp, ho, Instr.buildSlice]
                simp [run_underlying hu, run_size hsz, hn, newRow, zeroValue, typeInfo, hi, hz']
                rw [if_neg (by omega)]
                simp [h1']
            refine ⟨upd M (16 * d) (some w.heap.size), w.alloc (.cells cells' e), _, Tr.alloc (w' := w.alloc (.cells cells' e)) h.hok h.old hH hcc.2 (e := e) (vs := cells') rfl rfl rfl rfl h2, .inl hrun, ?_⟩
            simp only [Den, updO]
            refine ⟨rfl, _, upd_eq _ _ _, by omega, fun _ => .inr ⟨_, n, _, e, upd_eq _ _ _, rfl, Nat.le_refl _, ?_, heap_alloc_new w _, h4⟩⟩
            have : n ≤ n * sz' := Nat.le_mul_of_pos_right n hc2
            simp only [maxLen]; omega
        · cases hr
      · cases hl
    · cases hl
  · cases hl

/-- A new slice, told as plain data. -/
theorem sound_blit (h : St E M s a w) {t : TypeId} {ps : Array (Nat × Operand)} {sz n : Nat} {zs : List Value} {qs : List (Nat × Operand)} (ho : o.op = .buildSlice t n ps) (hl : lowOp P (.buildSlice t n ps) = some (.bslice sz zs qs n)) (hr : arun s E.pin d (.blit sz zs qs n) = some r) : Owed P E M s a w o r := by
  simp only [lowOp] at hl
  split at hl
  · rename_i e hu
    split at hl
    · rename_i sz' zs' hsz hz
      split at hl
      · rename_i hc
        obtain ⟨hc1, hc2, hc3⟩ := hc
        simp only [Option.some.injEq, AOp.bslice.injEq, and_true] at hl
        obtain ⟨rfl, rfl, rfl⟩ := hl
        obtain ⟨i, z, hi, hz', rfl⟩ := zeroCells_spec hz
        have hzs : z.cells.size = sz' := by simpa using hc1
        simp only [arun] at hr
        · cases hf : fillR (zcells (z.cells.toList.map ofCell) n) (ps.toList.map fun p => (p.1 * sz', sz', s.ev p.2)) with
          | none => simp [hf] at hr
          | some cs' =>
            simp only [hf, Option.map_some, Option.some.injEq] at hr
            subst hr
            obtain ⟨zd, zl⟩ := zcells_spec (E.C M s.H w) z.cells n (by omega)
            rw [hzs] at zd zl
            obtain ⟨cells', h1, h2, h3, h4⟩ := fill_spec (C := E.C M s.H w) a.eval s.ev h.ev (fun k => some (k * sz', sz')) ps.toList (ps.toList.map fun p => (p.1 * sz', sz', p.2)) _ cs' (madeCells z.cells (n * sz')) (by simp) zd (by rw [zl, size_madeCells]) (by simpa [Function.comp_def] using hf)
            rw [size_madeCells] at h4
            have h1' : Instr.fill (fun k => some (k * sz', sz')) ((Array.range (n * sz')).map fun x => z.cells[x % z.cells.size]!) (ps.toList.map fun p => (p.1, a.eval p.2)) = some cells' := h1
            have hrun : (execOp a.eval o).run P w = .ok (.value (.slice (some ⟨w.heap.size, 0, none⟩) n n)) (w.alloc (.cells cells' e)) := by
              by_cases hn : n * sz' = 0
              · have hn' : n = 0 := by
                  rcases Nat.mul_eq_zero.1 hn with hn | hn
                  · exact hn
                  · omega
                subst hn'
                simp only [Nat.zero_mul, Array.range_zero', List.map_toArray, List.map_nil] at h1'
                simp only [execOp, ho, Instr.buildSlice]
                simp [run_underlying hu, run_size hsz, newRow, Array.range_zero', h1']
              · have hbig : ¬ (2 ^ 24 < n * sz') := by omega
                simp only [execOp, ho, Instr.buildSlice]
                simp [run_underlying hu, run_size hsz, hn, newRow, zeroValue, typeInfo, hi, hz']
                rw [if_neg (by omega)]
                simp [h1']
            have ht : Tr E M s.H w M s.H (w.alloc (.cells cells' e)) := Tr.ext h.hok h.old (fun g hg => heap_alloc_old w _ hg) (by show _ ≤ (w.heap.push _).size; rw [Array.size_push]; exact Nat.le_succ _) rfl rfl rfl
            refine ⟨M, w.alloc (.cells cells' e), _, ht, .inl hrun, ?_⟩
            simp only [Den, updO]
            refine .inr ⟨w.heap.size, 0, n, cells', e, (0, 0), rfl, heap_alloc_new w _, ⟨fun id hid => ?_, fun hb => ?_, fun _ ha => ?_⟩, Nat.le_refl _, ?_⟩
            · have := h.hok.lt hid
              exact absurd this (Nat.lt_irrefl _)
            · exact absurd (Nat.lt_of_lt_of_le (E.hB _ hb) h.old.size) (Nat.lt_irrefl _)
            · exact absurd (Nat.lt_of_lt_of_le (E.hA _ ha) h.old.size) (Nat.lt_irrefl _)
            · rw [List.drop_zero]
              exact DenP.keeps ht.keeps h2
      · cases hl
    · cases hl
  · cases hl

/-- ALL OPERATIONS BUT CALLS. -/
theorem arun_sound (h : St E M s a w) {ao : AOp} (hl : lowOp P o.op = some ao) (hr : arun s E.pin d ao = some r) : Owed P E M s a w o r := by
  cases hop : o.op with
  | move x => rw [hop] at hl; simp [lowOp] at hl; subst hl; exact sound_mv h (.inl hop) hr
  | assign x => rw [hop] at hl; simp [lowOp] at hl; subst hl; exact sound_mv h (.inr hop) hr
  | pick c x y => rw [hop] at hl; simp [lowOp] at hl; subst hl; exact sound_pick h hop hr
  | alloc t =>
    rw [hop] at hl
    have hl' := hl
    simp only [lowOp] at hl
    cases hz : zeroCells P t with
    | none => simp [hz] at hl
    | some zs => simp [hz] at hl; subst hl; exact sound_alloc h hop hl' hr
  | box t x => rw [hop] at hl; simp [lowOp] at hl; subst hl; exact sound_box h hop hr
  | build t ps =>
    rw [hop] at hl
    have hl' := hl
    cases ao <;> first | exact sound_build h hop hl' hr | (exfalso; simp only [lowOp] at hl; (repeat' (split at hl)) <;> simp at hl)
  | buildSlice t n ps =>
    rw [hop] at hl
    have hl' := hl
    simp only [lowOp] at hl
    split at hl
    · split at hl
      · split at hl
        · simp only [Option.some.injEq] at hl
          subst hl
          exact sound_bslice h hop hl' hr
        · cases hl
      · cases hl
    · cases hl
  | load t x =>
    rw [hop] at hl
    have hl' := hl
    simp only [lowOp] at hl
    split at hl
    · simp only [Option.some.injEq] at hl; subst hl; exact sound_load h hop hl' hr
    · simp only [Option.some.injEq] at hl; subst hl; exact sound_load h hop hl' hr
    · cases hl
  | store t x v =>
    rw [hop] at hl
    have hl' := hl
    simp only [lowOp] at hl
    cases hs : sizeAt P t with
    | none => simp [hs] at hl
    | some n => simp [hs] at hl; subst hl; exact sound_store h hop hl' hr
  | binOp op t x y ta =>
    rw [hop] at hl
    simp only [lowOp] at hl
    split at hl
    · rename_i hu; simp only [Option.some.injEq] at hl; subst hl; exact sound_binB h hop hu hr
    · unfold lowBin at hl
      split at hl
      · rename_i fs hst
        split at hl
        · rename_i neg l hneg hl2
          split at hl
          · rename_i hg; simp only [Option.some.injEq] at hl; subst hl; exact sound_eqS h hop (structOf_some hst) hl2 (isEq_some hneg) hg hr
          · cases hl
        · cases hl
      · split at hl
        · split at hl
          · split at hl
            · simp only [Option.some.injEq] at hl; subst hl; simp [arun] at hr
            · cases hl
          · cases hl
        · simp only [Option.some.injEq] at hl; subst hl; exact sound_bin h hop hr
  | unOp op t x => rw [hop] at hl; simp [lowOp] at hl; subst hl; exact sound_un h hop hr
  | convert src dst x =>
    rw [hop] at hl
    have hl' := hl
    simp only [lowOp] at hl
    split at hl
    · simp only [Option.some.injEq] at hl; subst hl; exact sound_conv h hop hl' hr
    · cases hl
  | nilCheck x => rw [hop] at hl; simp [lowOp] at hl; subst hl; exact sound_nilck h hop hr
  | makeSlice t l c =>
    rw [hop] at hl
    have hl' := hl
    simp only [lowOp] at hl
    (repeat' (split at hl)) <;> (cases hl <;> exact sound_mkslice h hop hl' hr)
  | slice t x lo hi mx =>
    rw [hop] at hl
    cases mx with
    | some _ => simp [lowOp] at hl
    | none =>
      have hl' := hl
      simp only [lowOp] at hl
      split at hl
      · rename_i e hu
        cases hs : sizeAt P e with
        | none => simp [hs] at hl
        | some n => simp [hs] at hl; subst hl; exact sound_slice h hop hl' hr
      · simp only [Option.some.injEq] at hl; subst hl; exact sound_sliceS h hop hl' hr
      · obtain ⟨n, e, sz, h1, h2, rfl⟩ := lowSliceP_some hl
        exact sound_sliceP h hop (arrAt_some h1) h2 hr
  | fieldAddr t x f =>
    rw [hop] at hl
    have hl' := hl
    simp only [lowOp] at hl
    (repeat' (split at hl)) <;> (cases hl <;> exact sound_fld h hop hl' hr)
  | field t x f =>
    rw [hop] at hl
    have hl' := hl
    simp only [lowOp] at hl
    (repeat' (split at hl)) <;> (cases hl <;> exact sound_fldv h hop hl' hr)
  | indexAddr t x i =>
    rw [hop] at hl
    have hl' := hl
    simp only [lowOp] at hl
    split at hl
    · rename_i e hu
      cases hs : sizeAt P e with
      | none => simp [hs] at hl
      | some n => simp [hs] at hl; subst hl; exact sound_idxA h hop hl' hr
    · rename_i len e hu
      cases hs : sizeAt P e with
      | none => simp [hs] at hl
      | some n => simp [hs] at hl; subst hl; exact sound_idxP h hop hl' hr
    · cases hl
  | index t x i =>
    rw [hop] at hl
    have hl' := hl
    simp only [lowOp] at hl
    split at hl
    · simp only [Option.some.injEq] at hl; subst hl; exact sound_idxS h hop hl' hr
    · cases hl
  | extract x i => rw [hop] at hl; simp [lowOp] at hl; subst hl; exact sound_extract h hop hr
  | call c =>
    rw [hop] at hl
    have hl' : lowCall P c = some ao := hl
    cases ao <;> first
      | exact sound_lenS h hop hl' hr
      | exact sound_len h hop hl' hr
      | exact sound_constLen h hop hl' hr
      | exact sound_append h hop hl' hr
      | exact sound_minmax h hop hl' hr
      | (exfalso; simp only [arun] at hr; cases hr; done)
      | (exfalso; replace hl' := lowCall_old hl' (fun _ _ _ h => by cases h); unfold lowCall0 at hl'; (repeat' (split at hl')) <;> simp at hl'; done)
  | _ => rw [hop] at hl; simp [lowOp] at hl

end
end Vw
