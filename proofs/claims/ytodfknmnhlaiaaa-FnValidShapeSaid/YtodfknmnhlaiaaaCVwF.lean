/- Each operation yields what is told of it: arithmetic, slices, indexes. -/
import Derived.Test.YtodfknmnhlaiaaaCVwE
import Derived.Laws.StructEq
import Derived.Lib.MinMax
set_option linter.unusedVariables false
set_option linter.unusedSimpArgs false
namespace Vw
open Go

section
variable {P : Program} {E : Env} {M : Nat → Option Nat} {s : S} {a : Act} {w : World} {o : Oper} {pin d : Nat} {r : AV × Option (Nat × List AV)}

theorem run_bin {op : BinOp} {t : TypeId} {x y : Operand} {ta : TypeId} {u v : Value} (ho : o.op = .binOp op t x y ta) (hx : a.eval x = u) (hg : eqGuard op t x y u (a.eval y) = pure ()) (hy : a.eval y = v)
    {z : Value} (hb : (binOp op t u v).run P w = .ok z w) : (execOp a.eval o).run P w = .ok (.value z) w := by
  subst hx hy
  simp [execOp, ho, hg, hb]

theorem sound_bin (h : St E M s a w) {op : BinOp} {t ta : TypeId} {x y : Operand} (ho : o.op = .binOp op t x y ta) (hr : arun s pin d (.bin op x y) = some r) : Owed P E M s a w o r := by
  have hx := h.ev x
  have hy := h.ev y
  simp only [arun, pureR] at hr
  cases hr1 : abin op (s.ev x) (s.ev y) with
  | none => simp [hr1] at hr
  | some v' =>
    simp only [hr1, Option.map_some, Option.some.injEq] at hr
    subst hr
    unfold abin at hr1
    split at hr1
    · rename_i k p k' q hxv hyv
      rw [hxv] at hx
      rw [hyv] at hy
      simp only [Den] at hx hy
      split at hr1
      · rename_i hkk
        subst hkk
        have go : ∀ z, (binOp op t (.int k p) (.int k q)).run P w = .ok z w → Den (E.C M s.H w) v' z → Owed P E M s a w o (v', none) := fun z hz hd => owed_pure h (run_bin ho hx (eqGuard_at_int _ _ _ _ _ _ _) hy hz) hd
        cases op <;> simp only [Option.some.injEq, reduceCtorEq] at hr1
        case quo =>
          split at hr1
          · cases hr1
          · rename_i hq
            simp only [Option.some.injEq] at hr1
            subst hr1
            exact go _ (by simp only [binOp_quo, Op.intDiv, hq, if_false]; rfl) (by simp [Den])
        case rem =>
          split at hr1
          · cases hr1
          · rename_i hq
            simp only [Option.some.injEq] at hr1
            subst hr1
            exact go _ (by simp only [binOp_rem, Op.intDiv, hq, if_false]; rfl) (by simp [Den])
        all_goals
          subst hr1
          exact go _ (by first | (simp only [binOp_add, binOp_sub, binOp_mul, binOp_and, binOp_or, binOp_xor, binOp_andNot, intBits_and, intBits_or, intBits_xor, intBits_andNot, Op.intArith, binOp_eql, binOp_neq, binOp_lss, binOp_leq, binOp_gtr, binOp_geq]; rfl)) (by simp [Den])
      · cases hr1
    · rename_i p q hxv hyv
      rw [hxv] at hx
      rw [hyv] at hy
      simp only [Den] at hx hy
      have go : ∀ z, (binOp op t (.string p) (.string q)).run P w = .ok z w → Den (E.C M s.H w) v' z → Owed P E M s a w o (v', none) := fun z hz hd => owed_pure h (run_bin ho hx (eqGuard_at_string _ _ _ _ _ _) hy hz) hd
      cases op <;> simp only [Option.some.injEq, reduceCtorEq] at hr1
      case add =>
        split at hr1
        · rename_i hs
          simp only [Option.some.injEq] at hr1
          subst hr1
          refine go (.string (p ++ q)) ?_ (by simp [Den])
          simp only [binOp, Op.stringOp]
          rw [if_neg (by simp only [IntKind.max_i64]; omega)]
          rfl
        · cases hr1
      all_goals
        subst hr1
        exact go _ (by simp only [binOp, Op.stringOp]; rfl) (by simp [Den])
    · cases hr1

theorem sound_binB (h : St E M s a w) {op : BinOp} {t ta : TypeId} {x y : Operand} (ho : o.op = .binOp op t x y ta) (hu : P.underlying t = some .bool) (hr : arun s pin d (.binB op x y) = some r) : Owed P E M s a w o r := by
  have hx := h.ev x
  have hy := h.ev y
  simp only [arun, pureR] at hr
  cases hr1 : abinB op (s.ev x) (s.ev y) with
  | none => simp [hr1] at hr
  | some v' =>
    simp only [hr1, Option.map_some, Option.some.injEq] at hr
    subst hr
    unfold abinB at hr1
    split at hr1
    · rename_i p q hxv hyv
      rw [hxv] at hx
      rw [hyv] at hy
      simp only [Den] at hx hy
      have e1 := run_eql_bool (P := P) w t p q hu
      cases op <;> simp only [Option.some.injEq, reduceCtorEq] at hr1
      · subst hr1
        exact owed_pure h (run_bin ho hx (eqGuard_at_bool _ _ _ _ _ _) hy e1) (by simp [Den])
      · subst hr1
        refine owed_pure h (run_bin ho hx (eqGuard_at_bool _ _ _ _ _ _) hy (z := .bool (!(p == q))) ?_) (by simp [Den])
        have e2 : (Op.equalIn (9999 + 1) t (.bool p) (.bool q)).run P w = .ok (p == q) w := run_equalIn_bool w 9999 t p q hu
        simp only [binOp, Op.equal, Op.maxDepth, Sem.run_bind]
        rw [e2]
        rfl
    · cases hr1

theorem eqFields_run {C : Ctx} (w : World) (d : Nat) : ∀ {fs : List Field} {l : List (Nat × Option IntKind)} {cs ds : List AV} {us vs : Array Value} {b : Bool}, eqOffs P fs = some l → DenP C cs us.toList → DenP C ds vs.toList → eqCells l cs ds = some b → (Op.eqFields (d + 1) us vs fs).run P w = .ok b w
  | [], l, cs, ds, us, vs, b, hl, hc, hd, he => by
    simp only [eqOffs, Option.some.injEq] at hl
    subst hl
    simp only [eqCells, Option.some.injEq] at he
    subst he
    simp [Op.eqFields]
  | f :: r, l, cs, ds, us, vs, b, hl, hc, hd, he => by
    simp only [eqOffs] at hl
    split at hl
    · cases hl
    · rename_i hname
      have atC : ∀ {xs : List AV} {ys : Array Value} {x : AV}, DenP C xs ys.toList → xs[f.offset]? = some x → ∃ v, ys[f.offset]? = some v ∧ Den C x v := fun h1 h2 => by
        obtain ⟨v, hv, hdv⟩ := (denP_get.1 h1) _ _ h2
        exact ⟨v, by simpa using hv, hdv⟩
      have run1 : ∀ (z z' : Value) (q : Bool), isAggB P f.type = some false → us[f.offset]? = some z → vs[f.offset]? = some z' → (Op.equalIn (d + 1) f.type z z').run P w = .ok q w → (Op.eqFields (d + 1) us vs (f :: r)).run P w = if q then (Op.eqFields (d + 1) us vs r).run P w else .ok false w := by
        intro z z' q hagg h1 h2 h3
        have hp : ∀ (xs : Array Value) (y : Value), xs[f.offset]? = some y → (part f.type xs f.offset).run P w = .ok y w := fun xs y hy => by simp [part, run_isAgg hagg, hy]
        simp only [Op.eqFields, hname, ne_eq, not_false_eq_true, if_true, Sem.run_bind, hp us z h1, hp vs z' h2, Result.andThen_ok, h3]
        cases q <;> simp
      split at hl
      · rename_i k l' hu hl'
        simp only [Option.some.injEq] at hl
        subst hl
        simp only [eqCells] at he
        split at he
        · rename_i k1 p k2 q t h1 h2 h3
          split at he
          · rename_i hk
            obtain ⟨rfl, rfl⟩ := hk
            simp only [Option.some.injEq] at he
            subst he
            obtain ⟨v, hv, hdv⟩ := atC hc h1
            obtain ⟨v', hv', hdv'⟩ := atC hd h2
            simp only [Den] at hdv hdv'
            subst hdv hdv'
            have ih := eqFields_run w d hl' hc hd h3
            rw [run1 _ _ (p == q) (by simp [isAggB, hu]) hv hv' (run_equalIn_int w d f.type _ _ p q hu)]
            by_cases hpq : p = q
            · subst hpq; simpa using ih
            · have : (p == q) = false := by simpa using hpq
              rw [this]; simp [hpq]
          · cases he
        · cases he
      · rename_i l' hu hl'
        simp only [Option.some.injEq] at hl
        subst hl
        simp only [eqCells] at he
        split at he
        · rename_i p q t h1 h2 h3
          simp only [Option.some.injEq] at he
          subst he
          obtain ⟨v, hv, hdv⟩ := atC hc h1
          obtain ⟨v', hv', hdv'⟩ := atC hd h2
          simp only [Den] at hdv hdv'
          subst hdv hdv'
          have ih := eqFields_run w d hl' hc hd h3
          rw [run1 _ _ (p == q) (by simp [isAggB, hu]) hv hv' (run_equalIn_bool' w d f.type p q hu)]
          cases hpq : (p == q)
          · simp
          · simpa using ih
        · cases he
      · cases hl

theorem sound_eqS (h : St E M s a w) {op : BinOp} {t ta : TypeId} {fs : Array Field} {neg : Bool} {l : List (Nat × Option IntKind)} {x y : Operand} (ho : o.op = .binOp op t x y ta) (hu : P.underlying t = some (.struct fs)) (hl : eqOffs P fs.toList = some l)
    (hop : (op = .eql ∧ neg = false) ∨ (op = .neq ∧ neg = true)) (hg : P.stoodInHeld t = false ∧ P.eqGuardType P.depth t = false) (hr : arun s pin d (.eqS neg l x y) = some r) : Owed P E M s a w o r := by
  have hx := h.ev x
  have hy := h.ev y
  simp only [arun] at hr
  split at hr
  · rename_i cs ds hxv hyv
    rw [hxv] at hx
    rw [hyv] at hy
    simp only [Den] at hx hy
    obtain ⟨us, hux, _, hcs⟩ := hx
    obtain ⟨vs, hvy, _, hds⟩ := hy
    cases he : eqCells l cs ds with
    | none => simp [he] at hr
    | some b =>
      simp only [he, Option.map_some, Option.some.injEq] at hr
      subst hr
      have hf : P.fieldsOf t = fs := by simp [Program.fieldsOf, hu]
      have hrun := eqFields_run w 9998 hl hcs hds he
      have heq : (Op.equalIn 10000 t (.agg us) (.agg vs)).run P w = .ok b w := by
        rw [show (10000 : Nat) = 9999 + 1 from rfl, run_equalIn_struct w 9999 t us vs (by rw [hf]; exact hu) hg.1, hf]
        exact hrun
      have hgd := run_eqGuard_agg w op t x y us vs hg.2
      refine owed_pure h (v := .bool (if neg then !b else b)) ?_ (by simp [Den])
      have hb : (binOp op t (.agg us) (.agg vs)).run P w = .ok (.bool (if neg then !b else b)) w := by
        rcases hop with ⟨rfl, rfl⟩ | ⟨rfl, rfl⟩
        · rw [run_eql_struct, heq]; rfl
        · rw [run_neq_struct, heq]; rfl
      simp [execOp, ho, hux, hvy, hgd, hb]
  · cases hr

theorem run_isnil (h : St E M s a w) {op : BinOp} {t ta e : TypeId} {neg : Bool} {x : Operand} (ho : o.op = .binOp op t x (.const (.slice none 0 0)) ta) (hu : P.underlying t = some (.slice e))
    (hop : (op = .eql ∧ neg = false) ∨ (op = .neq ∧ neg = true)) {p : Option Addr} {n c : Nat} (hv : a.eval x = .slice p n c) : (execOp a.eval o).run P w = .ok (.value (.bool (if neg then !p.isNone else p.isNone))) w := by
  have heq0 : ∀ d, (Op.equalIn (d + 1) t (.slice p n c) (.slice none 0 0)).run P w = .ok p.isNone w := fun d => by
    cases p <;> simp [Op.equalIn, run_underlying hu]
  have heq : (Op.equalIn (9999 + 1) t (.slice p n c) (.slice none 0 0)).run P w = .ok p.isNone w := heq0 9999
  have hb : (binOp op t (.slice p n c) (.slice none 0 0)).run P w = .ok (.bool (if neg then !p.isNone else p.isNone)) w := by
    rcases hop with ⟨rfl, rfl⟩ | ⟨rfl, rfl⟩
    · simp only [binOp, Op.equal, Op.maxDepth, Sem.run_bind]
      rw [heq]; rfl
    · simp only [binOp, Op.equal, Op.maxDepth, Sem.run_bind]
      rw [heq]; rfl
  refine run_bin ho hv ?_ rfl hb
  rcases hop with ⟨rfl, _⟩ | ⟨rfl, _⟩ <;> rfl

/-- A slice that is told has so many elements; one without a place has none. -/
theorem slen_spec {C : Ctx} {x : AV} {v : Value} {n : Nat} (h : Den C x v) (hn : x.slen = some n) (hH : ∀ id len off k sz, x = .own id k sz ∨ x = .osl id len off k sz → ∃ cs, C.H id = some cs ∧ cs.length = (match x with | .own _ k sz => k * sz | .osl _ len _ _ _ => len | _ => 0)) :
    ∃ p c, v = .slice p n c ∧ (p.isNone = true → n = 0) := by
  cases x
  case rows fr cs k =>
    simp only [AV.slen, Option.some.injEq] at hn
    subst hn
    simp only [Den] at h
    rcases h with ⟨h1, _, h3⟩ | ⟨g, o, cap, cur, e, fz, h1, _⟩
    · subst h3; obtain ⟨p, c, h1⟩ := h1.at; exact ⟨p, c, h1, fun _ => rfl⟩
    · exact ⟨_, _, h1, fun h => by cases h⟩
  case own id k sz =>
    simp only [AV.slen, Option.some.injEq] at hn
    subst hn
    obtain ⟨cs, h1, h2⟩ := hH id 0 0 k sz (.inl rfl)
    simp only [Den] at h
    obtain ⟨_, cs', h3, _, hval⟩ := h
    rw [h1] at h3
    injection h3 with h3
    subst h3
    rcases hval h2 with ⟨a, b, _⟩ | ⟨g, cap, cur, e, _, b, _⟩
    · subst b; exact ⟨none, 0, a, fun _ => rfl⟩
    · exact ⟨_, _, b, fun h => by cases h⟩
  case osl id len off k sz =>
    simp only [AV.slen, Option.some.injEq] at hn
    subst hn
    obtain ⟨cs, h1, h2⟩ := hH id len off k sz (.inr rfl)
    simp only [Den] at h
    obtain ⟨_, cs', h3, _, _, hval⟩ := h
    rw [h1] at h3
    injection h3 with h3
    subst h3
    rcases hval h2 with ⟨a, b⟩ | ⟨g, o, cap, _, b, _⟩
    · subst b; exact ⟨none, 0, a, fun _ => rfl⟩
    · exact ⟨_, _, b, fun h => by cases h⟩
  all_goals simp [AV.slen] at hn

theorem sound_extract (h : St E M s a w) {x : Operand} {i : Nat} (ho : o.op = .extract x i) (hr : arun s pin d (.extract x i) = some r) : Owed P E M s a w o r := by
  have hx := h.ev x
  simp only [arun] at hr
  split at hr
  · rename_i vs hxv
    rw [hxv] at hx
    simp only [Den] at hx
    obtain ⟨us, hv, hl, hd⟩ := hx
    unfold pureR at hr
    cases hi : vs[i]? with
    | none => simp [hi] at hr
    | some b =>
      simp only [hi, Option.map_some, Option.some.injEq] at hr
      subst hr
      obtain ⟨u, hu, hd'⟩ := (denP_get.1 hd) i b hi
      refine owed_pure h (v := u) ?_ hd'
      have hu' : us[i]? = some u := by simpa using hu
      simp [execOp, ho, hv, Instr.extract, hu']
  · cases hr

theorem sound_fldv (h : St E M s a w) {t : TypeId} {f off n : Nat} {agg : Bool} {x : Operand} (ho : o.op = .field t x f) (hl : lowOp P (.field t x f) = some (.fldv agg off n x)) (hr : arun s pin d (.fldv agg off n x) = some r) : Owed P E M s a w o r := by
  have hx := h.ev x
  simp only [arun] at hr
  split at hr
  · rename_i cs hxv
    rw [hxv] at hx
    simp only [Den] at hx
    obtain ⟨us, hv, hle, hd⟩ := hx
    split at hr
    · rename_i hc
      unfold pureR at hr
      cases hm : mkAV agg ((cs.drop off).take n) with
      | none => simp [hm] at hr
      | some v' =>
        simp only [hm, Option.map_some, Option.some.injEq] at hr
        subst hr
        have hd' := denP_take' (denP_drop hd off) n
        have hlen : (List.take n (us.toList.drop off)).length = (List.take n (cs.drop off)).length := by simp; omega
        simp only [lowOp] at hl
        split at hl
        · rename_i fields hu
          split at hl
          · rename_i fd hfd
            split at hl
            · rename_i n' h1 h2
              simp only [Option.some.injEq, AOp.fldv.injEq, and_true] at hl
              obtain ⟨ha, h3, h4⟩ := hl
              subst ha h3 h4
              rcases den_mkAV hm hd' hlen with ⟨_, hv'⟩ | ⟨ha, _⟩
              · refine owed_pure h (v := .agg (us.extract fd.offset (fd.offset + n'))) ?_ ?_
                · simp [execOp, ho, Instr.field, run_underlying hu, hfd, hv, asAgg, part, run_isAgg h1, run_size h2]
                · have : (List.take n' (us.toList.drop fd.offset)).toArray = us.extract fd.offset (fd.offset + n') := by
                    apply Array.ext'
                    simp [Array.toList_extract, List.extract]
                  rw [← this]
                  exact hv'
              · cases ha
            · rename_i n' h1 h2
              simp only [Option.some.injEq, AOp.fldv.injEq, and_true] at hl
              obtain ⟨ha, h3, h4⟩ := hl
              subst ha h3 h4
              rcases den_mkAV hm hd' hlen with ⟨ha, _⟩ | ⟨_, v, hvs, hv'⟩
              · cases ha
              · refine owed_pure h (v := v) ?_ hv'
                have h0 : us[fd.offset]? = some v := by
                  have : (List.take 1 (us.toList.drop fd.offset))[0]? = some v := by rw [hvs]; rfl
                  rw [List.getElem?_take, if_pos (by omega), List.getElem?_drop] at this
                  simpa using this
                simp [execOp, ho, Instr.field, run_underlying hu, hfd, hv, asAgg, part, run_isAgg h1, h0]
            · cases hl
          · cases hl
        · cases hl
    · cases hr
  · cases hr

/-- What a value holds that is read as a slice. -/
theorem rd_spec {C : Ctx} (hk : HOK C) {x : AV} {v : Value} {cs : List AV} {n : Nat} (h : Den C x v) (hr : rd C.H x = some (cs, n)) :
    (EmptyS v ∧ cs = [] ∧ n = 0) ∨ ∃ g o cap cur e fz, v = .slice (some ⟨g, o, none⟩) n cap ∧ C.w.heap[g]? = some (.cells cur e fz) ∧ n ≤ cap ∧ DenP C cs (cur.toList.drop o) := by
  unfold rd at hr
  split at hr
  · simp only [Option.some.injEq, Prod.mk.injEq] at hr
    obtain ⟨rfl, rfl⟩ := hr
    simp only [Den] at h
    rcases h with h | ⟨g, o, cap, cur, e, fz, a, b, c, d, f⟩
    · exact .inl h
    · exact .inr ⟨g, o, cap, cur, e, fz, a, b, d, f⟩
  · rename_i id m sz
    simp only [Den] at h
    obtain ⟨_, ds, hH, _, hval⟩ := h
    simp only [hH] at hr
    split at hr
    · rename_i hc
      simp only [Option.some.injEq, Prod.mk.injEq] at hr
      obtain ⟨rfl, rfl⟩ := hr
      rcases hk.has id ds hH with ⟨hn, he⟩ | ⟨g, cur, e, hM, hg, hd⟩
      · subst he
        rcases hval hc with ⟨a, b, _⟩ | ⟨g, cap, cur, e, a, _⟩
        · exact .inl ⟨.inl a, rfl, b⟩
        · rw [hn] at a; cases a
      · rcases hval hc with ⟨_, _, c⟩ | ⟨g', cap, cur', e', a, b, c, _, f, _⟩
        · rw [hM] at c; cases c
        · rw [hM] at a
          injection a with a
          subst a
          exact .inr ⟨g, 0, cap, cur, e, (0, 0), b, hg, c, by simpa using hd⟩
    · cases hr
  · rename_i id len off m sz
    simp only [Den] at h
    obtain ⟨_, ds, hH, _, hof, hval⟩ := h
    simp only [hH] at hr
    split at hr
    · rename_i hc
      simp only [Option.some.injEq, Prod.mk.injEq] at hr
      obtain ⟨rfl, rfl⟩ := hr
      rcases hval hc with ⟨a, rfl⟩ | ⟨g, o', cap, hM, hv, hle, ho⟩
      · exact .inl ⟨.inl a, by simp, rfl⟩
      · rcases hk.has id ds hH with ⟨hn, _⟩ | ⟨g', cur, e, hM', hg, hd⟩
        · rw [hn] at hM; cases hM
        · rw [hM'] at hM
          injection hM with hM
          subst hM
          refine .inr ⟨g', o', cap, cur, e, (0, 0), hv, hg, hle, ?_⟩
          by_cases hm : m = 0
          · subst hm; simp [DenP]
          · rw [ho hm]
            exact denP_take (denP_drop hd off) _
    · cases hr
  · simp only [Option.some.injEq, Prod.mk.injEq] at hr
    obtain ⟨rfl, rfl⟩ := hr
    simp only [Den] at h
    exact .inl ⟨.inl h, rfl, rfl⟩
  · cases hr

theorem sound_lenS (h : St E M s a w) {c : Call} {x : Operand} (ho : o.op = .call c) (hl : lowCall P c = some (.lenS x)) (hr : arun s pin d (.lenS x) = some r) : Owed P E M s a w o r := by
  have hx := h.ev x
  simp only [arun] at hr
  split at hr
  · rename_i t' hxv
    simp only [Option.some.injEq] at hr
    subst hr
    rw [hxv] at hx
    simp only [Den] at hx
    replace hl := lowCall_old hl (fun _ _ _ h => by cases h)
    unfold lowCall0 at hl
    split at hl
    · rename_i x' t hc1 hc2 hc3
      have hargs : c.args = #[x'] := Array.ext' hc2
      have htys : c.argTypes = #[t] := Array.ext' hc3
      split at hl
      · rename_i hu
        simp only [Option.some.injEq, AOp.lenS.injEq] at hl
        subst hl
        refine owed_pure h (v := .int .i64 t'.size) ?_ (by simp [Den])
        simp [execOp, ho, resolve, hc1, hargs, htys, invoke, builtin, Builtin.len_, run_underlying hu, hx, goInt]
      all_goals simp at hl
    all_goals (first | (simp at hl; done) | ((repeat (split at hl)) <;> simp at hl))
  · cases hr

theorem sound_len (h : St E M s a w) {c : Call} {x : Operand} (ho : o.op = .call c) (hl : lowCall P c = some (.len x)) (hr : arun s pin d (.len x) = some r) : Owed P E M s a w o r := by
  have hx := h.ev x
  simp only [arun] at hr
  cases hrd : rd s.H (s.ev x) with
  | none => simp [hrd] at hr
  | some q =>
    obtain ⟨cs, n⟩ := q
    simp only [hrd, Option.map_some, Option.some.injEq] at hr
    subst hr
    replace hl := lowCall_old hl (fun _ _ _ h => by cases h)
    unfold lowCall0 at hl
    split at hl
    · rename_i x' t hc1 hc2 hc3
      have hargs : c.args = #[x'] := Array.ext' hc2
      have htys : c.argTypes = #[t] := Array.ext' hc3
      split at hl
      · simp at hl
      · rename_i e hu
        simp only [Option.some.injEq, AOp.len.injEq] at hl
        subst hl
        refine owed_pure h (v := .int .i64 n) ?_ (by simp [Den])
        rcases rd_spec h.hok hx hrd with ⟨hv, _, rfl⟩ | ⟨g, o', cap, cur, e', fz, hv, _⟩
        · obtain ⟨p, c', hv⟩ := hv.at
          simp [execOp, ho, resolve, hc1, hargs, htys, invoke, builtin, Builtin.len_, run_underlying hu, hv, goInt]
        · simp [execOp, ho, resolve, hc1, hargs, htys, invoke, builtin, Builtin.len_, run_underlying hu, hv, goInt]
      all_goals simp at hl
    all_goals (first | (simp at hl; done) | ((repeat (split at hl)) <;> simp at hl))

theorem sound_constLen (h : St E M s a w) {c : Call} {x : Operand} (ho : o.op = .call c) (hl : lowCall P c = some (.mv x)) (hr : arun s pin d (.mv x) = some r) : Owed P E M s a w o r := by
  simp only [arun, Option.some.injEq] at hr
  subst hr
  replace hl := lowCall_old hl (fun _ _ _ h => by cases h)
  unfold lowCall0 at hl
  split at hl
  · rename_i x' t hc1 hc2 hc3
    have hargs : c.args = #[x'] := Array.ext' hc2
    have htys : c.argTypes = #[t] := Array.ext' hc3
    split at hl
    · simp at hl
    · simp at hl
    · rename_i n e hu
      simp only [Option.some.injEq, AOp.mv.injEq] at hl
      subst hl
      refine owed_pure h (v := .int .i64 n) ?_ (by simp [S.ev, ofVal, ofCell, Den])
      simp [execOp, ho, resolve, hc1, hargs, htys, invoke, builtin, Builtin.len_, run_underlying hu, goInt]
    · simp at hl
  all_goals (first | (simp at hl; done) | ((repeat (split at hl)) <;> simp at hl))

theorem sound_idxS (h : St E M s a w) {t : TypeId} {x i : Operand} (ho : o.op = .index t x i) (hl : lowOp P (.index t x i) = some (.idxS x i)) (hr : arun s pin d (.idxS x i) = some r) : Owed P E M s a w o r := by
  have hx := h.ev x
  have hi := h.ev i
  simp only [lowOp] at hl
  split at hl
  · rename_i hu
    simp only [arun] at hr
    split at hr
    · rename_i t' k j hxv hiv
      rw [hxv] at hx
      rw [hiv] at hi
      simp only [Den] at hx hi
      split at hr
      · rename_i hc
        simp only [Option.some.injEq] at hr
        subst hr
        refine owed_pure h (v := .int .u8 (t'[j.toNat]'hc.2).toNat) ?_ (by simp [Den])
        simp [execOp, ho, Instr.index, hi, hx, asIntOf, run_underlying hu, hc]
      · cases hr
    · cases hr
  · simp at hl

theorem sound_idxA (h : St E M s a w) {t : TypeId} {n : Nat} {x i : Operand} (ho : o.op = .indexAddr t x i) (hl : lowOp P (.indexAddr t x i) = some (.idxA n x i)) (hr : arun s pin d (.idxA n x i) = some r) : Owed P E M s a w o r := by
  have hx := h.ev x
  have hi := h.ev i
  simp only [lowOp] at hl
  split at hl
  · rename_i e hu
    have hn : sizeAt P e = some n := by
      cases hs : sizeAt P e with
      | none => simp [hs] at hl
      | some m => simp [hs] at hl; rw [hl]
    have run : ∀ (k : IntKind) (j : Int) g o' len cap, a.eval i = .int k j → a.eval x = .slice (some ⟨g, o', none⟩) len cap → 0 ≤ j → j < len → (execOp a.eval o).run P w = .ok (.value (.pointer (some ⟨g, o' + j.toNat * n, none⟩))) w := by
      intro k j g o' len cap h1 h2 h3 h4
      simp [execOp, ho, Instr.indexAt, run_underlying hu, h1, h2, asIntOf, run_size hn, h3, h4, Addr.add_lit]
    simp only [arun] at hr
    split at hr
    · rename_i k j hiv
      rw [hiv] at hi
      simp only [Den] at hi
      split at hr
      · rename_i fr cs m hxv
        rw [hxv] at hx
        simp only [Den] at hx
        split at hr
        · rename_i hc
          simp only [Option.some.injEq] at hr
          subst hr
          rcases hx with ⟨_, _, rfl⟩ | ⟨g, o', cap, cur, e', fz, hv, hg, hok, hle, hd⟩
          · omega
          · refine owed_pure h (run k j g o' m cap hi hv hc.1 hc.2) ?_
            simp only [Den]
            exact ⟨g, o', cur, e', fz, rfl, hg, hok, hd⟩
        · cases hr
      · rename_i id m sz hxv
        rw [hxv] at hx
        simp only [Den] at hx
        obtain ⟨_, cs, hH, hle, hval⟩ := hx
        have hH' : s.H id = some cs := hH
        simp only [hH'] at hr
        split at hr
        · rename_i hc
          simp only [Option.some.injEq] at hr
          subst hr
          rcases hval hc.1 with ⟨_, rfl, _⟩ | ⟨g, cap, cur, e', hMg, hv, _⟩
          · omega
          · refine owed_pure h (run k j g 0 m cap hi hv hc.2.1 hc.2.2) ?_
            simp only [Den]
            exact ⟨rfl, cs, hH, by omega, fun _ => ⟨g, hMg, by simp⟩⟩
        · cases hr
      · rename_i id len off m sz hxv
        rw [hxv] at hx
        simp only [Den] at hx
        obtain ⟨_, cs, hH, hle, hof, hval⟩ := hx
        have hH' : s.H id = some cs := hH
        simp only [hH'] at hr
        split at hr
        · rename_i hc
          simp only [Option.some.injEq] at hr
          subst hr
          rcases hval hc.1 with ⟨_, rfl⟩ | ⟨g, o', cap, hMg, hv, hcap, hoo⟩
          · omega
          · have e : o' = off := hoo (by omega)
            subst e
            refine owed_pure h (run k j g o' m cap hi hv hc.2.1 hc.2.2) ?_
            simp only [Den]
            exact ⟨rfl, cs, hH, by omega, fun _ => ⟨g, hMg, rfl⟩⟩
        · cases hr
      · cases hr
    · cases hr
  · cases hs : sizeAt P ‹_› <;> simp [hs] at hl
  · cases hl

theorem sound_idxP (h : St E M s a w) {t : TypeId} {n m : Nat} {x i : Operand} (ho : o.op = .indexAddr t x i) (hl : lowOp P (.indexAddr t x i) = some (.idxP n m x i)) (hr : arun s pin d (.idxP n m x i) = some r) : Owed P E M s a w o r := by
  have hx := h.ev x
  have hi := h.ev i
  simp only [lowOp] at hl
  split at hl
  · cases hs : sizeAt P ‹_› <;> simp [hs] at hl
  · rename_i len e hu
    have hn : sizeAt P e = some n ∧ len = m := by
      cases hs : sizeAt P e with
      | none => simp [hs] at hl
      | some q => simp [hs] at hl; rw [hl.1]; exact ⟨rfl, hl.2⟩
    obtain ⟨hn, rfl⟩ := hn
    simp only [arun] at hr
    split at hr
    · rename_i k j hiv
      rw [hiv] at hi
      simp only [Den] at hi
      split at hr
      · rename_i id l off hxv
        rw [hxv] at hx
        simp only [Den] at hx
        obtain ⟨_, cs, hH, hle, hval⟩ := hx
        have hH' : s.H id = some cs := hH
        simp only [hH'] at hr
        split at hr
        · rename_i hc
          simp only [Option.some.injEq] at hr
          subst hr
          obtain ⟨g, hMg, hv⟩ := hval hc.1
          refine owed_pure h (v := .pointer (some ⟨g, off + j.toNat * n, none⟩)) ?_ ?_
          · simp [execOp, ho, Instr.indexAt, run_underlying hu, hi, hv, asIntOf, Instr.sureAddr, run_size hn, hc.2.1, hc.2.2, Addr.add_lit]
          · simp only [Den]
            exact ⟨rfl, cs, hH, hle, fun _ => ⟨g, hMg, rfl⟩⟩
        · cases hr
      · cases hr
    · cases hr
  · cases hl

end
end Vw
