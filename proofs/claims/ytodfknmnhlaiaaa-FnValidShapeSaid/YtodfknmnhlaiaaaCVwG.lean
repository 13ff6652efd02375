/- Each operation yields what is told of it: slices, literals, append. -/
import Derived.Test.YtodfknmnhlaiaaaCVwF
set_option linter.unusedVariables false
set_option linter.unusedSimpArgs false
namespace Vw
open Go

section
variable {P : Program} {E : Env} {M : Nat → Option Nat} {H : Nat → Option (List AV)} {s : S} {a : Act} {w : World} {o : Oper} {pin d : Nat} {r : AV × Option (Nat × List AV)}

theorem old_alloc (w : World) (o : Obj) {q : Nat} (h : q < w.heap.size) : (w.alloc o).heap[q]? = w.heap[q]? := by
  show (w.heap.push o)[q]? = _
  rw [Array.getElem?_push, if_neg (by omega)]

theorem bnd_spec {m dflt k : Nat} {x : Option Operand} (h : St E M s a w) (hb : bnd m dflt (x.map s.ev) = some k) :
    (x = none ∧ k = dflt) ∨ ∃ y kk, x = some y ∧ a.eval y = .int kk (k : Int) ∧ k ≤ m := by
  cases x with
  | none => simp [bnd] at hb; exact .inl ⟨rfl, hb.symm⟩
  | some y =>
    refine .inr ?_
    have hy := h.ev y
    simp only [Option.map_some, bnd] at hb
    split at hb
    · rename_i he
      cases he
    · rename_i kk i he
      simp only [Option.some.injEq] at he
      rw [he] at hy
      simp only [Den] at hy
      split at hb
      · rename_i hc
        simp only [Option.some.injEq] at hb
        subst hb
        exact ⟨y, kk, rfl, by rw [hy, Int.toNat_of_nonneg hc.1], by omega⟩
      · cases hb
    · cases hb

theorem sound_sliceS (h : St E M s a w) {t : TypeId} {x : Operand} {lo hi : Option Operand} (ho : o.op = .slice t x lo hi none) (hl : lowOp P (.slice t x lo hi none) = some (.sliceS x lo hi)) (hr : arun s pin d (.sliceS x lo hi) = some r) : Owed P E M s a w o r := by
  have hx := h.ev x
  simp only [lowOp] at hl
  split at hl
  · cases hs : sizeAt P ‹_› <;> simp [hs] at hl
  · rename_i hu
    simp only [arun] at hr
    split at hr
    · rename_i t' hxv
      rw [hxv] at hx
      simp only [Den] at hx
      split at hr
      · rename_i hb hhb
        split at hr
        · rename_i lb hlb
          simp only [Option.some.injEq] at hr
          subst hr
          refine owed_pure h (v := .string (t'.extract lb hb)) ?_ (by simp [Den])
          rcases bnd_spec h hhb with ⟨rfl, rfl⟩ | ⟨y, k1, rfl, hy, hle⟩ <;> rcases bnd_spec h hlb with ⟨rfl, rfl⟩ | ⟨y', k2, rfl, hy', hle'⟩ <;>
            simp [execOp, ho, hx, Instr.sliceAt, Instr.slice, run_underlying hu, Instr.sliceBounds, Instr.sliceBound, asIntOf, *]
        · cases hr
      · cases hr
    · cases hr
  · obtain ⟨_, _, _, _, _, he⟩ := lowSliceP_some hl; cases he

theorem run_slice (h : St E M s a w) {t e : TypeId} {n m hb lb : Nat} {x : Operand} {lo hi : Option Operand} (ho : o.op = .slice t x lo hi none) (hu : P.underlying t = some (.slice e)) (hn : sizeAt P e = some n) (ad : Option Addr) (cap : Nat)
    (hv : a.eval x = .slice ad m cap) (hmc : m ≤ cap) (hhb : bnd m m (hi.map s.ev) = some hb) (hlb : bnd hb 0 (lo.map s.ev) = some lb) : (execOp a.eval o).run P w = .ok (.value (.slice (if cap = lb then ad else ad.map (·.add (lb * n))) (hb - lb) (cap - lb))) w := by
  have hhm : hb ≤ m := by rcases bnd_spec h hhb with ⟨_, rfl⟩ | ⟨_, _, _, _, hle⟩ <;> omega
  have hlh : lb ≤ hb := by rcases bnd_spec h hlb with ⟨_, rfl⟩ | ⟨_, _, _, _, hle⟩ <;> omega
  have hh : (hb : Int) ≤ (cap : Int) := by omega
  have hh2 : (lb : Int) ≤ (hb : Int) := by omega
  rcases bnd_spec h hhb with ⟨rfl, rfl⟩ | ⟨y, k1, rfl, hy, hle⟩ <;> rcases bnd_spec h hlb with ⟨rfl, rfl⟩ | ⟨y', k2, rfl, hy', hle'⟩ <;>
    simp [execOp, ho, hv, Instr.sliceAt, Instr.slice, run_underlying hu, Instr.sliceBounds, Instr.sliceBound, asIntOf, run_size hn, *] <;> (try (intro hlt; omega))

theorem sound_sliceP (h : St E M s a w) {t e : TypeId} {n k : Nat} {x : Operand} {lo hi : Option Operand} (ho : o.op = .slice t x lo hi none) (hua : P.underlying t = some (.array k e)) (hn : sizeAt P e = some n)
    (hr : arun s pin d (.sliceP n k x lo hi) = some r) : Owed P E M s a w o r := by
  have hx := h.ev x
  simp only [arun] at hr
  split at hr
  · rename_i id len off hxv
    rw [hxv] at hx
    simp only [Den] at hx
    obtain ⟨_, cs, hH, hle, hval⟩ := hx
    have hH' : s.H id = some cs := hH
    simp only [hH'] at hr
    split at hr
    · rename_i cs2 hb hcs2 hhb
      injection hcs2 with hcs2
      subst hcs2
      split at hr
      · rename_i lb hlb
        split at hr
        · rename_i hc
          obtain ⟨hc1, hc2⟩ := hc
          simp only [Option.some.injEq] at hr
          subst hr
          have hhm : hb ≤ k := by rcases bnd_spec h hhb with ⟨_, rfl⟩ | ⟨_, _, _, _, hle⟩ <;> omega
          have hlh : lb ≤ hb := by rcases bnd_spec h hlb with ⟨_, rfl⟩ | ⟨_, _, _, _, hle⟩ <;> omega
          have hfit : lb * n + (hb - lb) * n ≤ k * n := by rw [← Nat.add_mul]; exact Nat.mul_le_mul_right _ (by omega)
          obtain ⟨g, hM, hv⟩ := hval hc1
          have hh : (hb : Int) ≤ (k : Int) := by omega
          have hh2 : (lb : Int) ≤ (hb : Int) := by omega
          have run : (execOp a.eval o).run P w = .ok (.value (.slice (some (if k = lb then ⟨g, off, none⟩ else (⟨g, off, none⟩ : Addr).add (lb * n))) (hb - lb) (k - lb))) w := by
            rcases bnd_spec h hhb with ⟨rfl, rfl⟩ | ⟨y, k1, rfl, hy, hle⟩ <;> rcases bnd_spec h hlb with ⟨rfl, rfl⟩ | ⟨y', k2, rfl, hy', hle'⟩ <;>
              simp [execOp, ho, hv, Instr.sliceAt, Instr.slice, run_underlying hua, Instr.sliceBounds, Instr.sliceBound, asIntOf, asAddr, Instr.sureAddr, run_size hn, *] <;> (try (intro hlt; omega))
          refine owed_pure h run ?_
          simp only [Den]
          refine ⟨by simp [Value.oneCell'], cs, hH, by omega, by omega, fun _ => .inr ?_⟩
          by_cases hcl : k = lb
          · exact ⟨g, off, k - lb, hM, by simp [hcl], by omega, fun hne => by omega⟩
          · exact ⟨g, off + lb * n, k - lb, hM, by simp [hcl, Addr.add_lit], by omega, fun _ => rfl⟩
        · cases hr
      · cases hr
    · cases hr
  · cases hr

theorem sound_minmax (h : St E M s a w) {c : Call} {mx : Bool} {x y : Operand} (ho : o.op = .call c) (hl : lowCall P c = some (.minmax mx x y)) (hr : arun s pin d (.minmax mx x y) = some r) : Owed P E M s a w o r := by
  have hx := h.ev x
  have hy := h.ev y
  simp only [arun] at hr
  split at hr
  · rename_i k p k' q hxv hyv
    rw [hxv] at hx
    rw [hyv] at hy
    simp only [Den] at hx hy
    simp only [Option.some.injEq] at hr
    subst hr
    have hl2 : lowMM c = some (.minmax mx x y) := by
      unfold lowCall at hl
      split at hl
      · rename_i b hb
        simp only [Option.some.injEq] at hl
        subst hl
        exfalso
        unfold lowCall0 at hb
        split at hb
        · (repeat' (split at hb)) <;> simp at hb
        · (repeat' (split at hb)) <;> simp at hb
        · (repeat' (split at hb)) <;> simp at hb
        · cases hb
      · exact hl
    obtain ⟨mx', x', y', hm, hargs', he⟩ := lowMM_some hl2
    injection he with h1 h2 h3
    subst h1 h2 h3
    have hargs : c.args = #[x, y] := Array.ext' hargs'
    have hcal : (mx = false ∧ c.callee = .builtin .min) ∨ (mx = true ∧ c.callee = .builtin .max) := by
      generalize c.callee = q at hm
      unfold isMinMax at hm
      split at hm
      · injection hm with hm; exact .inl ⟨hm.symm, rfl⟩
      · injection hm with hm; exact .inr ⟨hm.symm, rfl⟩
      · cases hm
    rcases hcal with ⟨rfl, hc1⟩ | ⟨rfl, hc1⟩
    · refine owed_pure h (v := .int k (min p q)) ?_ (by simp [Den])
      simp [execOp, ho, resolve, hc1, hargs, invoke, builtin, hx, hy, Lib.run_min_ints]
    · refine owed_pure h (v := .int k (max p q)) ?_ (by simp [Den])
      simp [execOp, ho, resolve, hc1, hargs, invoke, builtin, hx, hy, Lib.run_max_ints]
  · cases hr

theorem sound_slice (h : St E M s a w) {t : TypeId} {n : Nat} {x : Operand} {lo hi : Option Operand} (ho : o.op = .slice t x lo hi none) (hl : lowOp P (.slice t x lo hi none) = some (.slice n x lo hi)) (hr : arun s pin d (.slice n x lo hi) = some r) : Owed P E M s a w o r := by
  have hx := h.ev x
  simp only [lowOp] at hl
  split at hl
  · rename_i e hu
    have hn : sizeAt P e = some n := by
      cases hs : sizeAt P e with
      | none => simp [hs] at hl
      | some m => simp [hs] at hl; rw [hl]
    simp only [arun] at hr
    split at hr
    · rename_i fr cs m hxv
      rw [hxv] at hx
      simp only [Den] at hx
      split at hr
      · rename_i hb hhb
        split at hr
        · rename_i lb hlb
          simp only [Option.some.injEq] at hr
          subst hr
          have hhm : hb ≤ m := by rcases bnd_spec h hhb with ⟨_, rfl⟩ | ⟨_, _, _, _, hle⟩ <;> omega
          have hlh : lb ≤ hb := by rcases bnd_spec h hlb with ⟨_, rfl⟩ | ⟨_, _, _, _, hle⟩ <;> omega
          have run : ∀ ad cap, a.eval x = .slice ad m cap → m ≤ cap → (execOp a.eval o).run P w = .ok (.value (.slice (if cap = lb then ad else ad.map (·.add (lb * n))) (hb - lb) (cap - lb))) w := by
            intro ad cap hv hmc
            have hh : (hb : Int) ≤ (cap : Int) := by omega
            have hh2 : (lb : Int) ≤ (hb : Int) := by omega
            rcases bnd_spec h hhb with ⟨rfl, rfl⟩ | ⟨y, k1, rfl, hy, hle⟩ <;> rcases bnd_spec h hlb with ⟨rfl, rfl⟩ | ⟨y', k2, rfl, hy', hle'⟩ <;>
              simp [execOp, ho, hv, Instr.sliceAt, Instr.slice, run_underlying hu, Instr.sliceBounds, Instr.sliceBound, asIntOf, run_size hn, *] <;> (try (intro hlt; omega))
          rcases hx with ⟨hv, rfl, rfl⟩ | ⟨g, o', cap, cur, e', fz, hv, hg, hok, hle, hd⟩
          · have e1 : hb = 0 := by omega
            have e2 : lb = 0 := by omega
            subst e1 e2
            rcases hv with hv | ⟨ad, c', hv⟩
            · refine owed_pure h (run none 0 hv (Nat.le_refl _)) ?_
              simp only [Den]
              exact .inl ⟨.inl (by simp), by simp, by simp⟩
            · refine owed_pure h (run (some ad) c' hv (Nat.zero_le _)) ?_
              simp only [Den]
              refine .inl ⟨.inr ?_, by simp, by simp⟩
              by_cases hc0 : c' = 0
              · exact ⟨ad, c', by simp [hc0]⟩
              · exact ⟨ad.add (0 * n), c', by simp [hc0]⟩
          · refine owed_pure h (run _ cap hv hle) ?_
            simp only [Den]
            refine .inr ?_
            by_cases hcl : cap = lb
            · refine ⟨g, o', cap - lb, cur, e', fz, by simp [hcl], hg, hok, by omega, ?_⟩
              have : (hb - lb) * n = 0 := by have : hb - lb = 0 := by omega
                                             rw [this]; simp
              rw [this]
              simp [DenP]
            · refine ⟨g, o' + lb * n, cap - lb, cur, e', fz, by simp [hcl, Addr.add_lit], hg, hok, by omega, ?_⟩
              have := denP_take (denP_drop hd (lb * n)) ((hb - lb) * n)
              rwa [List.drop_drop] at this
        · cases hr
      · cases hr
    · rename_i id m sz' hxv
      rw [hxv] at hx
      simp only [Den] at hx
      obtain ⟨_, cs, hH, hle, hval⟩ := hx
      have hH' : s.H id = some cs := hH
      simp only [hH'] at hr
      split at hr
      · rename_i cs2 hb hcs2 hhb
        injection hcs2 with hcs2
        subst hcs2
        split at hr
        · rename_i lb hlb
          split at hr
          · rename_i hc
            obtain ⟨hc1, rfl⟩ := hc
            simp only [Option.some.injEq] at hr
            subst hr
            have hhm : hb ≤ m := by rcases bnd_spec h hhb with ⟨_, rfl⟩ | ⟨_, _, _, _, hle⟩ <;> omega
            have hlh : lb ≤ hb := by rcases bnd_spec h hlb with ⟨_, rfl⟩ | ⟨_, _, _, _, hle⟩ <;> omega
            have hfit : lb * sz' + (hb - lb) * sz' ≤ m * sz' := by rw [← Nat.add_mul]; exact Nat.mul_le_mul_right _ (by omega)
            rcases hval hc1 with ⟨hv, rfl, hMn⟩ | ⟨g, cap, cur, e', hM, hv, hcap, _⟩
            · have e1 : hb = 0 := by omega
              have e2 : lb = 0 := by omega
              subst e1 e2
              refine owed_pure h (run_slice h ho hu hn none 0 hv (Nat.le_refl _) hhb hlb) ?_
              simp only [Den]
              exact ⟨by simp [Value.oneCell'], cs, hH, by omega, by omega, fun _ => .inl ⟨by simp, by simp⟩⟩
            · refine owed_pure h (run_slice h ho hu hn _ cap hv hcap hhb hlb) ?_
              simp only [Den]
              refine ⟨by by_cases hcl : cap = lb <;> simp [Value.oneCell', hcl], cs, hH, by omega, hfit, fun _ => .inr ?_⟩
              by_cases hcl : cap = lb
              · exact ⟨g, 0, cap - lb, hM, by simp [hcl], by omega, fun hne => by omega⟩
              · exact ⟨g, lb * sz', cap - lb, hM, by simp [hcl, Addr.add_lit], by omega, fun _ => rfl⟩
          · cases hr
        · cases hr
      · cases hr
    · rename_i id len off m sz' hxv
      rw [hxv] at hx
      simp only [Den] at hx
      obtain ⟨_, cs, hH, hle, hof, hval⟩ := hx
      have hH' : s.H id = some cs := hH
      simp only [hH'] at hr
      split at hr
      · rename_i cs2 hb hcs2 hhb
        injection hcs2 with hcs2
        subst hcs2
        split at hr
        · rename_i lb hlb
          split at hr
          · rename_i hc
            obtain ⟨hc1, rfl⟩ := hc
            simp only [Option.some.injEq] at hr
            subst hr
            have hhm : hb ≤ m := by rcases bnd_spec h hhb with ⟨_, rfl⟩ | ⟨_, _, _, _, hle⟩ <;> omega
            have hlh : lb ≤ hb := by rcases bnd_spec h hlb with ⟨_, rfl⟩ | ⟨_, _, _, _, hle⟩ <;> omega
            have hfit : lb * sz' + (hb - lb) * sz' ≤ m * sz' := by rw [← Nat.add_mul]; exact Nat.mul_le_mul_right _ (by omega)
            rcases hval hc1 with ⟨hv, rfl⟩ | ⟨g, o', cap, hM, hv, hcap, hoo⟩
            · have e1 : hb = 0 := by omega
              have e2 : lb = 0 := by omega
              subst e1 e2
              refine owed_pure h (run_slice h ho hu hn none 0 hv (Nat.le_refl _) hhb hlb) ?_
              simp only [Den]
              exact ⟨by simp [Value.oneCell'], cs, hH, by omega, by omega, fun _ => .inl ⟨by simp, by simp⟩⟩
            · refine owed_pure h (run_slice h ho hu hn _ cap hv hcap hhb hlb) ?_
              simp only [Den]
              refine ⟨by by_cases hcl : cap = lb <;> simp [Value.oneCell', hcl], cs, hH, by omega, by omega, fun _ => .inr ?_⟩
              by_cases hcl : cap = lb
              · exact ⟨g, o', cap - lb, hM, by simp [hcl], by omega, fun hne => by omega⟩
              · exact ⟨g, o' + lb * sz', cap - lb, hM, by simp [hcl, Addr.add_lit], by omega, fun hne => by rw [hoo (by omega)]⟩
          · cases hr
        · cases hr
      · cases hr
    · cases hr
  · simp at hl
  · obtain ⟨_, _, _, _, _, he⟩ := lowSliceP_some hl; cases he

theorem zcells_spec (C : Ctx) (zs : Array Value) (n : Nat) (h0 : 0 < zs.size) : DenP C (zcells (zs.toList.map ofCell) n) (madeCells zs (n * zs.size)).toList ∧ (zcells (zs.toList.map ofCell) n).length = n * zs.size := by
  constructor
  · rw [denP_get]
    intro j b hb
    unfold zcells at hb
    simp only [List.length_map, Array.length_toList] at hb
    rw [List.getElem?_map] at hb
    by_cases hj : j < n * zs.size
    · rw [List.getElem?_range hj] at hb
      simp only [Option.map_some, Option.some.injEq] at hb
      have hm : j % zs.size < zs.size := Nat.mod_lt _ h0
      refine ⟨zs[j % zs.size], ?_, ?_⟩
      · simp [madeCells, hj, getElem!_def, hm]
      · rw [List.getD_eq_getElem?_getD, List.getElem?_map] at hb
        simp [hm] at hb
        subst hb
        exact den_ofCell C _
    · rw [List.getElem?_eq_none (by simp; omega)] at hb
      simp at hb
  · simp [zcells]

theorem sound_mkslice (h : St E M s a w) {t : TypeId} {n : Nat} {zs : List Value} {l c : Operand} (ho : o.op = .makeSlice t l c) (hl : lowOp P (.makeSlice t l c) = some (.mkslice n zs l c)) (hr : arun s E.pin d (.mkslice n zs l c) = some r) : Owed P E M s a w o r := by
  have hlv := h.ev l
  have hcv := h.ev c
  simp only [lowOp] at hl
  split at hl
  · rename_i e hu
    split at hl
    · rename_i i hi
      split at hl
      · rename_i z hz
        split at hl
        · rename_i hcond
          obtain ⟨hz1, hz2, hz3⟩ := hcond
          simp only [Option.some.injEq, AOp.mkslice.injEq, and_true] at hl
          obtain ⟨rfl, rfl⟩ := hl
          simp only [arun] at hr
          split at hr
          · rename_i k1 n1 k2 n2 h1 h2
            rw [h1] at hlv
            rw [h2] at hcv
            simp only [Den] at hlv hcv
            split at hr
            · rename_i hc
              obtain ⟨hc1, hc2, rfl, hc4, hc5⟩ := hc
              simp only [Option.some.injEq] at hr
              subst hr
              have hH : s.H (16 * d) = none := by simpa using hc1
              have hb : (i.bytes : Int) * n1 ≤ 281474976710656 := by
                have : (i.bytes : Int) * n1 ≤ 128 * n1 := Int.mul_le_mul_of_nonneg_right (by omega) hc4
                omega
              have hrun0 := run_make (P := P) w t e i z hu hi hz k1 k2 n1 n1 hc4 (Int.le_refl _) hb (by omega)
              have hrun : (execOp a.eval o).run P w = .ok (.value (.slice (some ⟨w.heap.size, 0, none⟩) n1.toNat n1.toNat)) (w.alloc (.cells (madeCells z.cells (n1.toNat * i.size)) e)) := by
                simp [execOp, ho, hlv, hcv, hrun0]
              obtain ⟨zd, zl⟩ := zcells_spec (E.C M s.H w) z.cells n1.toNat (by omega)
              rw [hz1] at zd zl
              refine ⟨upd M (16 * d) (some w.heap.size), w.alloc (.cells (madeCells z.cells (n1.toNat * i.size)) e), _, Tr.alloc h.hok h.old hH hc2 (e := e) (vs := madeCells z.cells (n1.toNat * i.size)) rfl rfl rfl rfl zd, .inl hrun, ?_⟩
              simp only [Den, updO]
              refine ⟨rfl, _, upd_eq _ _ _, by omega, fun _ => .inr ⟨_, n1.toNat, _, e, upd_eq _ _ _, rfl, Nat.le_refl _, ?_, heap_alloc_new w _, by rw [size_madeCells]⟩⟩
              simp only [maxLen]; omega
            · cases hr
          · cases hr
        · cases hl
      · cases hl
    · cases hl
  · cases hl

/-- An object without cells, and without a block: what a nil slice grows from. -/
theorem Tr.adopt (hk : HOK (E.C M H w)) (ho : Old E M w) {id : Nat} (hid : H id = none) : Tr E M H w M (upd H id (some [])) w := by
  have k : Keeps (E.C M H w) (E.C M (upd H id (some [])) w) := by
    refine ⟨fun _ _ _ => rfl, fun _ _ h => h, fun _ _ h => h, fun _ _ h => h, fun j ds h => ?_, fun j ds ds' h h' hl g hg cur e hb => ⟨cur, e, hb, rfl⟩⟩
    have hj : j ≠ id := fun he => by subst he; exact absurd (hid.symm.trans h) (by simp)
    exact ⟨ds, (upd_ne _ _ _ _ hj).trans h, Nat.le_refl _, fun _ => rfl⟩
  refine ⟨k, ⟨fun j ds h => ?_, fun j h => ?_, hk.inj⟩, ho⟩
  · by_cases hj : j = id
    · subst hj
      have : some [] = some ds := (upd_eq H j (some [])).symm.trans h
      injection this with this
      exact .inl ⟨hk.no j hid, this.symm⟩
    · rcases hk.has j ds ((upd_ne H id j (some []) hj).symm.trans h) with h | ⟨g, cur, e, a, b, c⟩
      · exact .inl h
      · exact .inr ⟨g, cur, e, a, b, DenP.keeps k c⟩
  · by_cases hj : j = id
    · subst hj; exact hk.no j hid
    · exact hk.no j ((upd_ne H id j (some []) hj).symm.trans h)

theorem upd_self {α : Type} (f : Nat → α) (i : Nat) (x : α) (h : f i = x) : upd f i x = f := by
  funext j
  unfold upd
  split
  · rename_i hj; rw [hj, h]
  · rfl

section
variable {t ty e : TypeId} {i : TypeInfo}

theorem run_append_zero (hu : P.underlying t = some (.slice e)) (hi : P.info? e = some i) (base : Option Addr) (n cap : Nat) (hn : n ≤ cap) (y : Value) (hy : (y = .slice none 0 0) ∨ ∃ b c, y = .slice (some b) 0 c) :
    (Builtin.append_ #[t, t] ty #[.slice base n cap, y]).run P w = .ok (.slice base n cap) w := by
  rcases hy with rfl | ⟨b, c, rfl⟩ <;> cases base <;>
    simp [Builtin.append_, run_underlying hu, Go.sizeOf, typeInfo, hi, Builtin.lenOf, hn, Builtin.firstCells, loadCells, loadCellsFrom, storeCells]

theorem run_append_inplace (hu : P.underlying t = some (.slice e)) (hi : P.info? e = some i) (g sLen sCap : Nat) (cur : Array Value) (e' : TypeId) (hg : w.heap[g]? = some (.cells cur e' (0, 0)))
    (b : Addr) (m c : Nat) (news : List Value) (hl : news.length = m * i.size) (hnews : ∀ j u, news[j]? = some u → w.cell? (b.add j) = some u) (h1 : ∀ u ∈ news, u.oneCell' = true)
    (hroom : sLen + m ≤ sCap) (hfit : sLen * i.size + news.length ≤ cur.size) :
    (Builtin.append_ #[t, t] ty #[.slice (some ⟨g, 0, none⟩) sLen sCap, .slice (some b) m c]).run P w =
      .ok (.slice (some ⟨g, 0, none⟩) (sLen + m) sCap) (w.setRow g (cur.toList.take (sLen * i.size) ++ news ++ cur.toList.drop (sLen * i.size + news.length)).toArray) := by
  have hf := run_firstCells_some (P := P) w i.size m b m c news hl hnews
  have hst := run_storeCells_at P g (sLen * i.size) e' news 0 cur w hg (by simpa using hfit) h1
  simp only [Nat.add_zero] at hst
  simp [Builtin.append_, run_underlying hu, Go.sizeOf, typeInfo, hi, Builtin.lenOf, hroom, hf, Addr.add_lit, hst]

end

/-- What is read of a slice, as a list of concrete cells. -/
theorem news_of {C : Ctx} {ys : List AV} {g o' : Nat} {cur : Array Value} {e : TypeId} {fz : Nat × Nat} (hg : C.w.heap[g]? = some (.cells cur e fz)) (hd : DenP C ys (cur.toList.drop o')) (hall : ys.all AV.isCell = true) :
    ∃ news : List Value, news.length = ys.length ∧ DenP C ys news ∧ (∀ j u, news[j]? = some u → C.w.cell? ((⟨g, o', none⟩ : Addr).add j) = some u) ∧ ∀ u ∈ news, u.oneCell' = true := by
  have hle := denP_length hd
  have hd' := denP_take' hd ys.length
  rw [List.take_length] at hd'
  have hnl : (List.take ys.length (cur.toList.drop o')).length = ys.length := by rw [List.length_take]; omega
  refine ⟨List.take ys.length (cur.toList.drop o'), hnl, hd', fun j u hu => ?_, fun u hu => ?_⟩
  · rw [Addr.add_lit]
    rw [List.getElem?_take] at hu
    split at hu
    · rw [List.getElem?_drop] at hu
      simpa [World.cell?, hg] using hu
    · cases hu
  · obtain ⟨j, hj, rfl⟩ := List.getElem_of_mem hu
    have hj' : j < ys.length := by omega
    obtain ⟨v, hv, hdv⟩ := (denP_get.1 hd') j ys[j] (List.getElem?_eq_getElem hj')
    rw [List.getElem?_eq_getElem hj] at hv
    injection hv with hv
    rw [hv]
    exact Den.oneCell hdv (List.all_eq_true.1 hall _ (List.getElem_mem hj'))

theorem lowCall_append {c : Call} {n : Nat} {x y : Operand} (hl : lowCall P c = some (.append n x y)) :
    ∃ t e i z, c.callee = .builtin .append ∧ c.args = #[x, y] ∧ c.argTypes = #[t, t] ∧ P.underlying t = some (.slice e) ∧ P.info? e = some i ∧ i.zero = some z ∧ z.cells.size = i.size ∧ 0 < i.size ∧ i.bytes ≤ 128 ∧ n = i.size := by
  replace hl := lowCall_old hl (fun _ _ _ h => by cases h)
  unfold lowCall0 at hl
  split at hl
  · rename_i hc1 hc2 hc3
    (repeat' (split at hl)) <;> simp at hl
  · rename_i x' y' t t' hc1 hc2 hc3
    split at hl
    · rename_i htt
      subst htt
      split at hl
      · rename_i e hu
        split at hl
        · rename_i i hi
          split at hl
          · rename_i z hz
            split at hl
            · rename_i hcond
              simp only [Option.some.injEq, AOp.append.injEq] at hl
              obtain ⟨rfl, rfl, rfl⟩ := hl
              exact ⟨t, e, i, z, hc1, Array.ext' hc2, Array.ext' hc3, hu, hi, hz, hcond.1, hcond.2.1, hcond.2.2, rfl⟩
            · cases hl
          · cases hl
        · cases hl
      · cases hl
    · cases hl
  · (repeat' (split at hl)) <;> simp at hl
  · cases hl

theorem take_of_den {C : Ctx} {cs : List AV} {cur : Array Value} (hd : DenP C cs cur.toList) (n : Nat) (hn : cs.length = n) : DenP C cs (cur.toList.take n) ∧ (cur.toList.take n).length = n := by
  have := denP_take' hd n
  rw [← hn, List.take_length] at this
  have hl := denP_length hd
  exact ⟨by rw [← hn]; exact this, by rw [List.length_take]; omega⟩

theorem sound_append (h : St E M s a w) {c : Call} {n : Nat} {x y : Operand} (ho : o.op = .call c) (hl : lowCall P c = some (.append n x y)) (hr : arun s E.pin d (.append n x y) = some r) : Owed P E M s a w o r := by
  have hx := h.ev x
  have hy := h.ev y
  obtain ⟨t, e, i, z, hc1, hc2, hc3, hu, hi, hz, hz1, hz2, hz3, rfl⟩ := lowCall_append hl
  have hexec : ∀ v w', (Builtin.append_ #[t, t] o.type #[a.eval x, a.eval y]).run P w = .ok v w' → (execOp a.eval o).run P w = .ok (.value v) w' := by
    intro v w' hv
    simp [execOp, ho, resolve, hc1, hc2, hc3, invoke, builtin, hv]
  simp only [arun] at hr
  split at hr
  · rename_i ys m hrd
    split at hr
    · rename_i hys
      obtain ⟨hyl, hyc⟩ := hys
      have hyc' := hyc
      -- the value that is appended
      have hyv := rd_spec h.hok hy hrd
      split at hr
      · rename_i id k sz hxv
        rw [hxv] at hx
        simp only [Den] at hx
        obtain ⟨_, cs, hH, hle, hval⟩ := hx
        have hH' : s.H id = some cs := hH
        simp only [hH'] at hr
        split at hr
        · rename_i hc
          obtain ⟨rfl, hcl, hpin, hbound⟩ := hc
          simp only [Option.some.injEq] at hr
          subst hr
          have hcase := hval hcl
          by_cases hm : m = 0
          · -- nothing is appended
            subst hm
            have hys0 : ys = [] := List.eq_nil_of_length_eq_zero (by simpa using hyl)
            subst hys0
            have hyz : (a.eval y = .slice none 0 0) ∨ ∃ b c, a.eval y = .slice (some b) 0 c := by
              rcases hyv with ⟨q, _⟩ | ⟨g, o', cap, cur, e', fz, q, _⟩
              · exact q
              · exact .inr ⟨_, _, q⟩
            have hval2 : ∃ base cap, a.eval x = .slice base k cap ∧ k ≤ cap := by
              rcases hcase with ⟨q, rfl, _⟩ | ⟨g, cap, cur, e', _, q, q2, _⟩
              · exact ⟨none, 0, q, Nat.le_refl _⟩
              · exact ⟨_, _, q, q2⟩
            obtain ⟨base, cap, hv, hkc⟩ := hval2
            have hrun := hexec _ _ (by rw [hv]; exact run_append_zero (ty := o.type) hu hi base k cap hkc _ hyz)
            refine ⟨M, w, _, ?_, .inl hrun, ?_⟩
            · simp only [updO, List.append_nil]
              rw [upd_self _ _ _ hH']
              exact Tr.refl h
            · simp only [updO, List.append_nil]
              rw [upd_self _ _ _ hH']
              have hx := h.ev x
              rw [hxv] at hx
              rw [← hv]
              exact hx
          · rcases hyv with ⟨_, _, q⟩ | ⟨gy, oy, capy, cury, ey, fzy, hyev, hgy, _, hdy⟩
            · omega
            · obtain ⟨news, hnl, hnd, hncell, hn1⟩ := news_of hgy hdy hyc
              have hnm : news.length = m * i.size := by omega
              have hpos : 0 < m * i.size := Nat.mul_pos (by omega) hz2
              have hb47 : (k + m) * i.bytes ≤ 140737488355328 := by
                have : (k + m) * i.bytes ≤ 1099511627776 * 128 := Nat.mul_le_mul hbound hz3
                omega
              rcases hcase with ⟨hv, rfl, hMn⟩ | ⟨g, cap, cur, e', hMg, hv, hkc, hcm, hg, hcs⟩
              · -- a nil slice grows
                have hcs0 : cs = [] := List.eq_nil_of_length_eq_zero (by simpa using hcl)
                subst hcs0
                have hap := run_append_nil (P := P) w t o.type e i z hu hi hz ⟨gy, oy, none⟩ m capy news hnm hncell (by omega) (by omega) (by simp only [Nat.zero_add] at hb47; omega)
                have hrun := hexec _ _ (by rw [hv, hyev]; exact hap)
                have hge := grownCap_ge w m 0 e
                have hcap := grownCap_le_maxLen w m 0 e (by simp only [maxLen]; omega)
                refine ⟨upd M id (some w.heap.size), _, _, Tr.grow (w' := w.drew.alloc (.cells (news.toArray ++ Builtin.zeroCells z.cells (grownCap w m 0 e - m)) e)) (g' := w.heap.size) h.hok h.old hH' hpin (by simp; omega) (heap_alloc_new w.drew _) (.inr (Nat.le_refl _))
                  (fun q hq _ => old_alloc w.drew _ hq) (fun q hq => absurd (hMn.symm.trans hq) (by simp)) (by simp) rfl rfl rfl ?_, .inl hrun, ?_⟩
                · simp only [Array.toList_append, List.nil_append]
                  exact denP_more (by simpa using hnd)
                · simp only [Den, updO, Nat.zero_add]
                  refine ⟨rfl, _, upd_eq _ _ _, by simp; omega, fun _ => .inr ⟨w.heap.size, _, _, e, upd_eq _ _ _, rfl, hge, hcap, heap_alloc_new w.drew _, ?_⟩⟩
                  simp only [Array.size_append, List.size_toArray, size_zeroCells, hnm, hz1, ← Nat.add_mul]
                  congr 1; omega
              · have hg' : w.heap[g]? = some (.cells cur e' (0, 0)) := hg
                rcases h.hok.has id cs hH with ⟨hnone, _⟩ | ⟨g2, cur2, e2, hM2, hg2, hdc⟩
                · rw [hMg] at hnone; cases hnone
                · rw [hMg] at hM2
                  injection hM2 with hM2
                  subst hM2
                  rw [hg] at hg2
                  injection hg2 with hg2
                  injection hg2 with hg2 hg3
                  subst hg2 hg3
                  obtain ⟨htd, htl⟩ := take_of_den hdc (k * i.size) hcl
                  by_cases hroom : k + m ≤ cap
                  · -- there is room
                    have hfit : k * i.size + news.length ≤ cur.size := by rw [hnm, hcs, ← Nat.add_mul]; exact Nat.mul_le_mul_right _ hroom
                    have hap := run_append_inplace (P := P) (ty := o.type) hu hi g k cap cur e' hg' ⟨gy, oy, none⟩ m capy news hnm hncell hn1 hroom hfit
                    have hrun := hexec _ _ (by rw [hv, hyev]; exact hap)
                    have hrow := setRow_heap w g cur (cur.toList.take (k * i.size) ++ news ++ cur.toList.drop (k * i.size + news.length)).toArray e' _ hg'
                    have hsz : (cur.toList.take (k * i.size) ++ news ++ cur.toList.drop (k * i.size + news.length)).toArray.size = cur.size := by simp; omega
                    have hMM : upd M id (some g) = M := upd_self _ _ _ hMg
                    refine ⟨upd M id (some g), _, _, Tr.grow (w' := w.setRow g (cur.toList.take (k * i.size) ++ news ++ cur.toList.drop (k * i.size + news.length)).toArray) (g' := g) h.hok h.old hH' hpin (by simp; omega) hrow (.inl hMg)
                      (fun q hq hne => setRow_other w g q _ (fun he => hne (he ▸ hMg))) (fun q hq cur3 e3 hb3 => ?_) (by simp) rfl rfl rfl ?_, .inl hrun, ?_⟩
                    · have : q = g := by
                        have hq2 : some g = some q := hMg.symm.trans hq
                        injection hq2 with hq2; exact hq2.symm
                      subst this
                      rw [hg'] at hb3
                      injection hb3 with hb3
                      injection hb3 with hb3 hb4
                      subst hb3 hb4
                      exact ⟨_, _, hrow, hsz⟩
                    · simp only
                      rw [List.append_assoc]
                      refine denP_append htd (by omega) (denP_more hnd)
                    · simp only [Den, updO]
                      refine ⟨rfl, _, upd_eq _ _ _, ?_, fun _ => .inr ⟨g, cap, _, e', upd_eq _ _ _, rfl, hroom, hcm, hrow, by rw [hsz]; exact hcs⟩⟩
                      rw [List.length_append, Nat.add_mul]; omega
                  · -- it moves
                    have holds : ∀ j u, (cur.toList.take (k * i.size))[j]? = some u → w.cell? ((⟨g, 0, none⟩ : Addr).add j) = some u := by
                      intro j u hu'
                      rw [Addr.add_lit]
                      rw [List.getElem?_take] at hu'
                      split at hu'
                      · simpa [World.cell?, hg'] using hu'
                      · cases hu'
                    have hap := run_append_grow (P := P) w t o.type e i z hu hi hz ⟨g, 0, none⟩ k cap _ htl holds ⟨gy, oy, none⟩ m capy news hnm hncell (by omega) (by omega) (growslice_fits (by omega) hb47)
                    have hrun := hexec _ _ (by rw [hv, hyev]; exact hap)
                    have hge := grownCap_ge w (k + m) cap e
                    have hcap := grownCap_le_maxLen w (k + m) cap e (by simp only [maxLen]; omega)
                    have hkeep : ∀ q, q < w.heap.size → (w.drew.alloc (.cells ((cur.toList.take (k * i.size)).toArray ++ news.toArray ++ Builtin.zeroCells z.cells (grownCap w (k + m) cap e - (k + m))) e)).heap[q]? = w.heap[q]? := fun q hq => old_alloc w.drew _ hq
                    refine ⟨upd M id (some w.heap.size), _, _, Tr.grow (w' := w.drew.alloc (.cells ((cur.toList.take (k * i.size)).toArray ++ news.toArray ++ Builtin.zeroCells z.cells (grownCap w (k + m) cap e - (k + m))) e)) (g' := w.heap.size) h.hok h.old hH' hpin (by simp; omega) (heap_alloc_new w.drew _) (.inr (Nat.le_refl _))
                      (fun q hq _ => hkeep q hq) (fun q hq cur3 e3 hb3 => ⟨cur3, e3, (hkeep q (lt_of_heap hb3)).trans hb3, rfl⟩) (by simp) rfl rfl rfl ?_, .inl hrun, ?_⟩
                    · simp only [Array.toList_append, List.append_assoc]
                      exact denP_append htd (by omega) (denP_more hnd)
                    · simp only [Den, updO]
                      refine ⟨rfl, _, upd_eq _ _ _, by rw [List.length_append, Nat.add_mul]; omega, fun _ => .inr ⟨w.heap.size, _, _, e, upd_eq _ _ _, rfl, hge, hcap, heap_alloc_new w.drew _, ?_⟩⟩
                      simp only [Array.size_append, List.size_toArray, size_zeroCells, hnm, hz1, htl, ← Nat.add_mul]
                      congr 1; omega
        · cases hr
      · rename_i hxv
        rw [hxv] at hx
        simp only [Den] at hx
        split at hr
        · rename_i hc
          obtain ⟨hc1, hpin, hbound⟩ := hc
          simp only [Option.some.injEq] at hr
          subst hr
          have hH' : s.H (16 * d) = none := by simpa using hc1
          by_cases hm : m = 0
          · subst hm
            have hys0 : ys = [] := List.eq_nil_of_length_eq_zero (by simpa using hyl)
            subst hys0
            have hyz : (a.eval y = .slice none 0 0) ∨ ∃ b c, a.eval y = .slice (some b) 0 c := by
              rcases hyv with ⟨q, _⟩ | ⟨g, o', cap, cur, e', fz, q, _⟩
              · exact q
              · exact .inr ⟨_, _, q⟩
            have hrun := hexec _ _ (by rw [hx]; exact run_append_zero (ty := o.type) hu hi none 0 0 (Nat.le_refl _) _ hyz)
            refine ⟨M, w, _, Tr.adopt h.hok h.old hH', .inl hrun, ?_⟩
            simp only [Den, updO]
            exact ⟨rfl, [], upd_eq _ _ _, by simp, fun _ => .inl ⟨by trivial, by trivial, h.hok.no _ hH'⟩⟩
          · rcases hyv with ⟨_, _, q⟩ | ⟨gy, oy, capy, cury, ey, fzy, hyev, hgy, _, hdy⟩
            · omega
            · obtain ⟨news, hnl, hnd, hncell, hn1⟩ := news_of hgy hdy hyc
              have hnm : news.length = m * i.size := by omega
              have hpos : 0 < m * i.size := Nat.mul_pos (by omega) hz2
              have hb47 : m * i.bytes ≤ 140737488355328 := by
                have : m * i.bytes ≤ 1099511627776 * 128 := Nat.mul_le_mul hbound hz3
                omega
              have hap := run_append_nil (P := P) w t o.type e i z hu hi hz ⟨gy, oy, none⟩ m capy news hnm hncell (by omega) (by omega) (by omega)
              have hrun := hexec _ _ (by rw [hx, hyev]; exact hap)
              have hge := grownCap_ge w m 0 e
              have hcap := grownCap_le_maxLen w m 0 e (by simp only [maxLen]; omega)
              refine ⟨upd M (16 * d) (some w.heap.size), _, _, Tr.alloc (w' := w.drew.alloc (.cells (news.toArray ++ Builtin.zeroCells z.cells (grownCap w m 0 e - m)) e)) (vs := news.toArray ++ Builtin.zeroCells z.cells (grownCap w m 0 e - m)) (e := e) h.hok h.old hH' hpin rfl rfl rfl rfl ?_, .inl hrun, ?_⟩
              · simp only [Array.toList_append]
                exact denP_more (by simpa using hnd)
              · simp only [Den, updO]
                refine ⟨rfl, _, upd_eq _ _ _, by omega, fun _ => .inr ⟨w.heap.size, _, _, e, upd_eq _ _ _, rfl, hge, hcap, heap_alloc_new w.drew _, ?_⟩⟩
                simp only [Array.size_append, List.size_toArray, size_zeroCells, hnm, hz1, ← Nat.add_mul]
                congr 1; omega
        · cases hr
      · cases hr
    · cases hr
  · cases hr

end
end Vw
