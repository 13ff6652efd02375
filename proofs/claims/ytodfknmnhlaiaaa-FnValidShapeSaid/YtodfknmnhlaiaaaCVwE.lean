/- Each operation yields what is told of it. -/
import Derived.Test.YtodfknmnhlaiaaaCVwD
set_option linter.unusedVariables false
set_option linter.unusedSimpArgs false
namespace Vw
open Go

section
variable {P : Program} {E : Env} {M : Nat → Option Nat} {s : S} {a : Act} {w : World} {o : Oper} {pin d : Nat} {r : AV × Option (Nat × List AV)}

theorem info_of_size {t : TypeId} {n : Nat} (h : sizeAt P t = some n) : ∃ i, P.info? t = some i ∧ i.size = n := by
  unfold sizeAt at h
  cases hi : P.info? t with
  | none => simp [hi] at h
  | some i => exact ⟨i, rfl, by simpa [hi] using h⟩

theorem run_size {t : TypeId} {n : Nat} (h : sizeAt P t = some n) (w : World) : (Go.sizeOf t).run P w = .ok n w := by
  obtain ⟨i, hi, hn⟩ := info_of_size h
  simp [Go.sizeOf, typeInfo, hi, hn]

theorem run_isAgg {t : TypeId} {b : Bool} (h : isAggB P t = some b) (w : World) : (isAgg t).run P w = .ok b w := by
  unfold isAggB at h
  cases hu : P.underlying t with
  | none => simp [hu] at h
  | some d => cases d <;> simp [hu] at h <;> subst h <;> simp [isAgg, run_underlying hu]

theorem sound_mv (h : St E M s a w) {x : Operand} (ho : o.op = .move x ∨ o.op = .assign x) (hr : arun s pin d (.mv x) = some r) : Owed P E M s a w o r := by
  simp only [arun, Option.some.injEq] at hr
  subst hr
  refine owed_pure h (v := a.eval x) ?_ (h.ev x)
  rcases ho with ho | ho <;> simp [execOp, ho]

theorem sound_pick (h : St E M s a w) {c x y : Operand} (ho : o.op = .pick c x y) (hr : arun s pin d (.pick c x y) = some r) : Owed P E M s a w o r := by
  have hc := h.ev c
  have hx := h.ev x
  have hy := h.ev y
  simp only [arun] at hr
  split at hr
  · rename_i t ht
    rw [ht] at hc
    simp only [Den] at hc
    have hrun : (execOp a.eval o).run P w = .ok (.value (if t then a.eval x else a.eval y)) w := by simp [execOp, ho, hc, asBool]
    split at hr
    · rename_i p q hp hq
      simp only [Option.some.injEq] at hr
      subst hr
      rw [hp] at hx; rw [hq] at hy
      simp only [Den] at hx hy
      refine owed_pure h hrun ?_
      simp only [Den, hx, hy]
      cases t <;> rfl
    · simp only [Option.some.injEq] at hr
      subst hr
      refine owed_pure h hrun ?_
      cases t
      · exact hy
      · exact hx
  · cases hr

theorem load_res (hk : HOK (E.C M s.H w)) {t : TypeId} {agg : Bool} {n : Nat} (hty : (agg = true ∧ isAggB P t = some true ∧ sizeAt P t = some n) ∨ (agg = false ∧ isAggB P t = some false ∧ n = 1)) {xv v' : AV} {v : Value}
    (hx : Den (E.C M s.H w) xv v) (hr : loadAV s.H agg n xv = some v') : ∃ g off u, v = .pointer (some ⟨g, off, none⟩) ∧ (loadVar t ⟨g, off, none⟩).run P w = .ok u w ∧ Den (E.C M s.H w) v' u := by
  have core : ∀ (g off : Nat) (cur : Array Value) (e : TypeId) (fz : Nat × Nat) (cs : List AV), v = .pointer (some ⟨g, off, none⟩) → w.heap[g]? = some (.cells cur e fz) → DenP (E.C M s.H w) cs (cur.toList.drop off) →
      n ≤ cs.length → mkAV agg (cs.take n) = some v' → ∃ g off u, v = .pointer (some ⟨g, off, none⟩) ∧ (loadVar t ⟨g, off, none⟩).run P w = .ok u w ∧ Den (E.C M s.H w) v' u := by
    intro g off cur e fz cs hev hg hd hn hm
    have hd' := denP_take' hd n
    have hlen : (List.take n (cur.toList.drop off)).length = (cs.take n).length := by
      have := denP_length hd
      simp only [List.length_take]
      omega
    have hcell : ∀ j v, (List.take n (cur.toList.drop off))[j]? = some v → w.cell? ((⟨g, off, none⟩ : Addr).add j) = some v := by
      intro j v hv
      rw [Addr.add_lit]
      rw [List.getElem?_take] at hv
      split at hv
      · rw [List.getElem?_drop] at hv
        simpa [World.cell?, hg] using hv
      · cases hv
    have hnl : (List.take n (cur.toList.drop off)).length = n := by rw [hlen]; simp; omega
    rcases den_mkAV hm hd' hlen with ⟨ha, hv⟩ | ⟨ha, u, hvs, hv⟩
    · rcases hty with ⟨_, h1, h2⟩ | ⟨hf, _⟩
      · have hrow := run_loadCells_list (P := P) w ⟨g, off, none⟩ _ hcell
        rw [hnl] at hrow
        exact ⟨g, off, _, hev, by simp [loadVar, run_isAgg h1, run_size h2, hrow], hv⟩
      · rw [hf] at ha; cases ha
    · rcases hty with ⟨hf, _⟩ | ⟨_, h1, h2⟩
      · rw [hf] at ha; cases ha
      · have h0 := hcell 0 u (by rw [hvs]; rfl)
        simp only [Addr.add_zero'] at h0
        exact ⟨g, off, u, hev, by simp [loadVar, run_isAgg h1, h0], hv⟩
  unfold loadAV at hr
  split at hr
  · rename_i id len off
    simp only [Den] at hx
    obtain ⟨_, cs, hH, _, hval⟩ := hx
    have hH' : s.H id = some cs := hH
    simp only [hH'] at hr
    split at hr
    · rename_i hc
      obtain ⟨g, hMg, hv⟩ := hval hc.1
      rcases hk.has id cs hH with ⟨hnone, _⟩ | ⟨g', cur, e, hM', hg', hd⟩
      · rw [hMg] at hnone; cases hnone
      · rw [hMg] at hM'
        injection hM' with hM'
        subst hM'
        exact core g off cur e (0, 0) (cs.drop off) hv hg' (denP_drop hd off) (by simp; omega) hr
    · cases hr
  · rename_i fr cs off
    simp only [Den] at hx
    obtain ⟨g, o', cur, e, fz, hv, hg, _, hd⟩ := hx
    split at hr
    · rename_i hc
      have hd2 := denP_drop hd off
      rw [List.drop_drop] at hd2
      exact core g (o' + off) cur e fz (cs.drop off) hv hg hd2 (by simp; omega) hr
    · cases hr
  · cases hr

theorem low_load {t : TypeId} {agg : Bool} {n : Nat} {x : Operand} (hl : lowOp P (.load t x) = some (.load agg n x)) : (agg = true ∧ isAggB P t = some true ∧ sizeAt P t = some n) ∨ (agg = false ∧ isAggB P t = some false ∧ n = 1) := by
  simp only [lowOp] at hl
  split at hl
  · rename_i n' h1 h2
    simp only [Option.some.injEq, AOp.load.injEq, and_true] at hl
    obtain ⟨rfl, rfl⟩ := hl
    exact .inl ⟨rfl, h1, h2⟩
  · rename_i n' h1 h2
    simp only [Option.some.injEq, AOp.load.injEq, and_true] at hl
    obtain ⟨rfl, rfl⟩ := hl
    exact .inr ⟨rfl, h1, rfl⟩
  · cases hl

theorem sound_load (h : St E M s a w) {t : TypeId} {agg : Bool} {n : Nat} {x : Operand} (ho : o.op = .load t x) (hl : lowOp P (.load t x) = some (.load agg n x)) (hr : arun s pin d (.load agg n x) = some r) : Owed P E M s a w o r := by
  simp only [arun, pureR] at hr
  cases hr1 : loadAV s.H agg n (s.ev x) with
  | none => simp [hr1] at hr
  | some v' =>
    simp only [hr1, Option.map_some, Option.some.injEq] at hr
    subst hr
    obtain ⟨g, off, u, h1, h2, h3⟩ := load_res h.hok (low_load hl) (h.ev x) hr1
    exact owed_pure h (v := u) (by simp [execOp, ho, Instr.loadAt, h1, Instr.sureAddr, h2]) h3

theorem sound_store (h : St E M s a w) {t : TypeId} {n : Nat} {x v : Operand} (ho : o.op = .store t x v) (hl : lowOp P (.store t x v) = some (.store n x v)) (hr : arun s pin d (.store n x v) = some r) : Owed P E M s a w o r := by
  have hx := h.ev x
  have hv := h.ev v
  simp only [lowOp] at hl
  have hn : sizeAt P t = some n := by
    cases hs : sizeAt P t with
    | none => simp [hs] at hl
    | some m => simp [hs] at hl; rw [hl]
  simp only [arun] at hr
  split at hr
  · rename_i id len off hx'
    rw [hx'] at hx
    simp only [Den] at hx
    obtain ⟨_, cs, hH, _, hval⟩ := hx
    have hH' : s.H id = some cs := hH
    split at hr
    · rename_i cs2 l hH2 hl2
      have : cs = cs2 := by rw [hH'] at hH2; injection hH2
      subst this
      split at hr
      · rename_i hc
        obtain ⟨hlen, hoff, hll⟩ := hc
        simp only [Option.some.injEq] at hr
        subst hr
        obtain ⟨g, hMg, hev⟩ := hval hlen
        obtain ⟨c1, c2, c3⟩ := cells_spec hv hl2
        rcases h.hok.has id cs hH with ⟨hnone, _⟩ | ⟨g', cur, e, hM', hg', hd⟩
        · rw [hMg] at hnone; cases hnone
        · rw [hMg] at hM'
          injection hM' with hM'
          subst hM'
          have hcur := denP_length hd
          have hg'' : w.heap[g]? = some (.cells cur e (0, 0)) := hg'
          have hsz : cur.toList.length = cur.size := by simp
          have hst := run_storeCells_at P g off e (a.eval v).cells.toList 0 cur w hg'' (by simp; omega) c3
          simp only [Nat.add_zero, Array.length_toList] at hst
          have hrun : (execOp a.eval o).run P w = .ok .skip (w.setRow g (cur.toList.take off ++ (a.eval v).cells.toList ++ cur.toList.drop (off + (a.eval v).cells.size)).toArray) := by
            simp [execOp, ho, Instr.storeAt, hev, Instr.sureAddr, storeVar, run_size hn, c1, hll, hst]
          refine ⟨M, _, undef, ?_, .inr ⟨hrun, rfl⟩, by simp [Den]⟩
          refine Tr.set h.hok h.old hH hMg (setRange_length _ _ _) (setRow_heap w g cur _ e _ hg'') (fun cur2 e2 hc2 => ?_) (fun k hk => setRow_other w g k _ hk) (by simp) rfl rfl rfl ?_
          · rw [hg''] at hc2
            injection hc2 with hc2
            injection hc2 with hc2
            subst hc2
            simp; omega
          · have := denP_setRange (off := off) hd c2 (by simpa using c1) (by omega)
            simpa [c1] using this
      · cases hr
    · cases hr
  · cases hr

theorem sound_alloc (h : St E M s a w) {t : TypeId} {zs : List Value} (ho : o.op = .alloc t) (hl : lowOp P (.alloc t) = some (.alloc zs)) (hr : arun s E.pin d (.alloc zs) = some r) : Owed P E M s a w o r := by
  simp only [lowOp] at hl
  cases hz : zeroCells P t with
  | none => simp [hz] at hl
  | some zs' =>
    simp [hz] at hl
    subst hl
    unfold zeroCells at hz
    split at hz
    · rename_i i hi
      split at hz
      · rename_i z hz'
        simp only [Option.some.injEq] at hz
        subst hz
        simp only [arun] at hr
        split at hr
        · rename_i hc
          simp only [Option.some.injEq] at hr
          subst hr
          have hH : s.H (16 * d) = none := by simpa using hc.1
          have hrun : (execOp a.eval o).run P w = .ok (.value (.pointer (some ⟨w.heap.size, 0, none⟩))) (w.alloc (.cells z.cells t)) := by
            simp [execOp, ho, Instr.alloc, zeroValue, typeInfo, hi, hz', newVar, newRow]
          refine ⟨upd M (16 * d) (some w.heap.size), w.alloc (.cells z.cells t), _, Tr.alloc h.hok h.old hH hc.2 (e := t) (vs := z.cells) rfl rfl rfl rfl (denP_ofCells _ _), .inl hrun, ?_⟩
          simp only [Den, updO]
          exact ⟨rfl, z.cells.toList.map ofCell, upd_eq _ _ _, by simp, fun _ => ⟨_, upd_eq _ _ _, rfl⟩⟩
        · cases hr
      · cases hz
    · cases hz

theorem sound_box (h : St E M s a w) {t : TypeId} {x : Operand} (ho : o.op = .box t x) (hr : arun s E.pin d (.box x) = some r) : Owed P E M s a w o r := by
  have hx := h.ev x
  simp only [arun] at hr
  split at hr
  · rename_i cs hcs
    split at hr
    · rename_i hc
      simp only [Option.some.injEq] at hr
      subst hr
      have hH : s.H (16 * d) = none := by simpa using hc.1
      obtain ⟨c1, c2, c3⟩ := cells_spec hx hcs
      have hrun : (execOp a.eval o).run P w = .ok (.value (.pointer (some ⟨w.heap.size, 0, none⟩))) (w.alloc (.cells (a.eval x).cells t)) := by
        simp [execOp, ho, Instr.box, newVar, newRow]
      refine ⟨upd M (16 * d) (some w.heap.size), w.alloc (.cells (a.eval x).cells t), _, Tr.alloc h.hok h.old hH hc.2 (e := t) (vs := (a.eval x).cells) rfl rfl rfl rfl c2, .inl hrun, ?_⟩
      simp only [Den, updO]
      exact ⟨rfl, cs, upd_eq _ _ _, by simp, fun _ => ⟨_, upd_eq _ _ _, rfl⟩⟩
    · cases hr
  · cases hr

theorem sound_un (h : St E M s a w) {op : UnOp} {t : TypeId} {x : Operand} (ho : o.op = .unOp op t x) (hr : arun s pin d (.un op x) = some r) : Owed P E M s a w o r := by
  have hx := h.ev x
  simp only [arun, pureR] at hr
  cases hs : s.ev x <;> rw [hs] at hx hr <;> simp only [aun, Option.map_none, reduceCtorEq] at hr
  · rename_i k n
    cases op <;> simp at hr
    subst hr
    simp only [Den] at hx
    exact owed_pure h (v := .int k (k.wrap (0 - n))) (by simp [execOp, ho, hx, Op.unary, Op.intArith]) (by simp [Den])
  · rename_i b
    cases op <;> simp at hr
    subst hr
    simp only [Den] at hx
    exact owed_pure h (v := .bool (!b)) (by simp [execOp, ho, hx, Op.unary]) (by simp [Den])

theorem sound_conv (h : St E M s a w) {src dst : TypeId} {k : IntKind} {x : Operand} (ho : o.op = .convert src dst x) (hl : lowOp P (.convert src dst x) = some (.conv k x)) (hr : arun s pin d (.conv k x) = some r) : Owed P E M s a w o r := by
  have hx := h.ev x
  simp only [lowOp] at hl
  split at hl
  · rename_i ds k' h1 h2
    simp only [Option.some.injEq, AOp.conv.injEq, and_true] at hl
    subst hl
    simp only [arun] at hr
    split at hr
    · rename_i k2 n hx'
      simp only [Option.some.injEq] at hr
      subst hr
      rw [hx'] at hx
      simp only [Den] at hx
      exact owed_pure h (v := .int k' (k'.wrap n)) (by simp [execOp, ho, hx, convert, run_underlying h1, run_underlying h2, Conv.intToInt]) (by simp [Den])
    · cases hr
  · cases hl

theorem sound_nilck (h : St E M s a w) {x : Operand} (ho : o.op = .nilCheck x) (hr : arun s pin d (.nilck x) = some r) : Owed P E M s a w o r := by
  have hx := h.ev x
  simp only [arun] at hr
  split at hr
  · rename_i id len off hx'
    rw [hx'] at hx
    have hx2 := hx
    simp only [Den] at hx
    obtain ⟨_, cs, hH, _, hval⟩ := hx
    have hH' : s.H id = some cs := hH
    simp only [hH'] at hr
    split at hr
    · rename_i hc
      simp only [Option.some.injEq] at hr
      subst hr
      obtain ⟨g, hMg, hv⟩ := hval hc
      refine owed_pure h (v := a.eval x) (by simp [execOp, ho, hv]) hx2
    · cases hr
  · rename_i fr cs off hx'
    rw [hx'] at hx
    have hx2 := hx
    simp only [Den] at hx
    simp only [Option.some.injEq] at hr
    subst hr
    obtain ⟨g, o', cur, e, fz, hv, hg, _, hd⟩ := hx
    refine owed_pure h (v := a.eval x) (by simp [execOp, ho, hv]) hx2
  · cases hr

theorem sound_fld (h : St E M s a w) {t : TypeId} {f off : Nat} {x : Operand} (ho : o.op = .fieldAddr t x f) (hl : lowOp P (.fieldAddr t x f) = some (.fld off x)) (hr : arun s pin d (.fld off x) = some r) : Owed P E M s a w o r := by
  have hx := h.ev x
  simp only [lowOp] at hl
  split at hl
  · rename_i fields hu
    split at hl
    · rename_i fd hfd
      split at hl
      · rename_i n hn
        split at hl
        · cases hl
        · rename_i hn0
          simp only [Option.some.injEq, AOp.fld.injEq, and_true] at hl
          subst hl
          have run : ∀ g o', a.eval x = .pointer (some ⟨g, o', none⟩) → (execOp a.eval o).run P w = .ok (.value (.pointer (some ⟨g, o' + fd.offset, none⟩))) w := by
            intro g o' hv
            simp [execOp, ho, Instr.fieldAt, run_underlying hu, hfd, hv, Instr.sureAddr, fieldPlace, run_size hn, hn0, Addr.add_lit]
          simp only [arun] at hr
          split at hr
          · rename_i id len o' hx'
            rw [hx'] at hx
            simp only [Den] at hx
            obtain ⟨h0, cs, hH, hle, hval⟩ := hx
            have hH' : s.H id = some cs := hH
            simp only [hH'] at hr
            split at hr
            · rename_i hc
              simp only [Option.some.injEq] at hr
              subst hr
              obtain ⟨g, hMg, hv⟩ := hval hc
              refine owed_pure h (run g o' hv) ?_
              simp only [Den]
              exact ⟨rfl, cs, hH, hle, fun _ => ⟨g, hMg, rfl⟩⟩
            · cases hr
          · rename_i fr cs o' hx'
            simp only [Option.some.injEq] at hr
            subst hr
            rw [hx'] at hx
            simp only [Den] at hx
            obtain ⟨g, o2, cur, e, fz, hv, hg, hok, hd⟩ := hx
            refine owed_pure h (run g _ hv) ?_
            simp only [Den]
            exact ⟨g, o2, cur, e, fz, by rw [Nat.add_assoc], hg, hok, hd⟩
          · cases hr
      · cases hl
    · cases hl
  · cases hl

end
end Vw
