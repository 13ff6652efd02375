/- A function's body and its contract; a call by the callee's contract. -/
import Derived.Test.YtodfknmnhlaiaaaCVwJ
set_option linter.unusedVariables false
set_option linter.unusedSimpArgs false
namespace Vw
open Go

theorem denP_map {C C' : Ctx} {f : AV → AV} (h : ∀ a v, Den C a v → Den C' (f a) v) : ∀ {cs : List AV} {vs : List Value}, DenP C cs vs → DenP C' (cs.map f) vs
  | [], _, _ => by simp [DenP]
  | _ :: _, [], hd => by simp [DenP] at hd
  | _ :: _, _ :: _, hd => by
    simp only [DenP, List.map_cons] at *
    exact ⟨h _ _ hd.1, denP_map h hd.2⟩

/-- A result, once no object is written any more: an owned slice is plain data in new memory. -/
def AV.fz (H : Nat → Option (List AV)) : Nat → AV → AV
  | 0, _ => .unk
  | n + 1, .own id k sz => match H id with
    | some cs => if cs.length = k * sz then .rows true (cs.map (AV.fz H n)) k else .unk
    | none => .unk
  | _ + 1, .osl .. => .unk
  | n + 1, .rows fr cs k => .rows fr (cs.map (AV.fz H n)) k
  | n + 1, .agg cs => .agg (cs.map (AV.fz H n))
  | n + 1, .tup cs => .tup (cs.map (AV.fz H n))
  | _ + 1, .ref .. => .unk
  | _ + 1, .prow .. => .unk
  | _ + 1, a => a

theorem Den.fz {C : Ctx} {w0 : World} (hk : HOK C) (hnew : ∀ id g, C.M id = some g → w0.heap.size ≤ g) (hA : ∀ g, g < w0.heap.size → C.A g) (hB : ∀ g, C.B g → g < w0.heap.size) :
    ∀ (n : Nat) (a : AV) (v : Value), Den C a v → Den (Ctx.callee w0 C.w C.B) (a.fz C.H n) v
  | 0, _, _, _ => by simp [AV.fz, Den]
  | n + 1, a, v, h => by
    have ih := Den.fz hk hnew hA hB n
    cases a with
    | own id k sz =>
      simp only [Den] at h
      obtain ⟨_, cs, hH, _, hval⟩ := h
      simp only [AV.fz, hH]
      split
      · rename_i hc
        simp only [Den]
        rcases hval hc with ⟨h1, h2, h3⟩ | ⟨g, cap, cur, e, hM, hv, hn, _, hg, _⟩
        · rcases hk.has id cs hH with ⟨_, rfl⟩ | ⟨g, _, _, a, _⟩
          · exact .inl ⟨.inl h1, rfl, h2⟩
          · rw [h3] at a; cases a
        · rcases hk.has id cs hH with ⟨a, _⟩ | ⟨g', cur', e', a, b, c⟩
          · rw [hM] at a; cases a
          · rw [hM] at a
            injection a with a
            subst a
            have hge := hnew id g hM
            exact .inr ⟨g, 0, cap, cur', e', (0, 0), hv, b, ⟨(fun _ h => by cases h), fun hb => by have := hB g hb; omega, fun _ (ha : g < w0.heap.size) => by omega⟩, hn, by rw [List.drop_zero]; exact denP_map ih c⟩
      · simp [Den]
    | rows fr cs k =>
      simp only [AV.fz, Den] at *
      rcases h with ⟨h1, rfl, h3⟩ | ⟨g, o, cap, cur, e, fz, h1, h2, h3, h4, h5⟩
      · exact .inl ⟨h1, rfl, h3⟩
      · exact .inr ⟨g, o, cap, cur, e, fz, h1, h2, ⟨(fun _ h => by cases h), h3.2.1, fun hf (ha : g < w0.heap.size) => h3.2.2 hf (hA g ha)⟩, h4, denP_map ih h5⟩
    | agg cs =>
      simp only [AV.fz, Den] at *
      obtain ⟨vs, h1, h2, h3⟩ := h
      exact ⟨vs, h1, by simpa using h2, denP_map ih h3⟩
    | tup cs =>
      simp only [AV.fz, Den] at *
      obtain ⟨vs, h1, h2, h3⟩ := h
      exact ⟨vs, h1, by simpa using h2, denP_map ih h3⟩
    | ref => simp [AV.fz, Den]
    | osl => simp [AV.fz, Den]
    | prow => simp [AV.fz, Den]
    | unk => simp [AV.fz, Den]
    | _ => simpa [AV.fz, Den] using h

section
variable {P : Program} {E : Env} {M : Nat → Option Nat} {s : S} {a : Act} {w : World}

def resSem (tmps : Array Value) : ResultVar → Sem Value
  | .tmp t => pure (tmps.getD t undef)
  | .cell ad t => do loadVar t (← asAddr (tmps.getD ad undef))

/-- The results, read where they lie. -/
theorem run_results (h : St E M s a w) : ∀ {rs : List ResultVar} {xs : List ARes} {avs : List AV}, lowRes P rs = some xs → aresL s xs = some avs →
    ∃ us : List Value, (rs.mapM (resSem a.tmps)).run P w = .ok us w ∧ us.length = avs.length ∧ DenP (E.C M s.H w) avs us
  | [], xs, avs, hl, hr => by
    simp [lowRes] at hl
    subst hl
    simp [aresL] at hr
    subst hr
    exact ⟨[], by simp, rfl, by simp [DenP]⟩
  | .tmp t :: rs, xs, avs, hl, hr => by
    simp only [lowRes] at hl
    cases hl1 : lowRes P rs with
    | none => simp [hl1] at hl
    | some l =>
      simp [hl1] at hl
      subst hl
      simp only [aresL, ares] at hr
      cases hr1 : aresL s l with
      | none => simp [hr1] at hr
      | some ys =>
        simp [hr1] at hr
        subst hr
        obtain ⟨us, h1, h2, h3⟩ := run_results h hl1 hr1
        refine ⟨a.tmps.getD t undef :: us, ?_, by simp [h2], by simp only [DenP]; exact ⟨h.slots t, h3⟩⟩
        simp only [List.mapM_cons, Sem.run_bind, Sem.run_pure, Result.andThen_ok, h1, resSem]
  | .cell t ty :: rs, xs, avs, hl, hr => by
    have fin : ∀ (agg : Bool) (n : Nat) (l : List ARes), ((agg = true ∧ isAggB P ty = some true ∧ sizeAt P ty = some n) ∨ (agg = false ∧ isAggB P ty = some false ∧ n = 1)) → lowRes P rs = some l → xs = .cell t agg n :: l →
        ∃ us : List Value, ((ResultVar.cell t ty :: rs).mapM (resSem a.tmps)).run P w = .ok us w ∧ us.length = avs.length ∧ DenP (E.C M s.H w) avs us := by
      intro agg n l hty hl1 hxs
      subst hxs
      simp only [aresL, ares] at hr
      cases hr0 : loadAV s.H agg n (s.σ t) with
      | none => simp [hr0] at hr
      | some y =>
        cases hr1 : aresL s l with
        | none => simp [hr0, hr1] at hr
        | some ys =>
          simp [hr0, hr1] at hr
          subst hr
          obtain ⟨us, h1, h2, h3⟩ := run_results h hl1 hr1
          obtain ⟨g, off, u, e1, e2, e3⟩ := load_res h.hok hty (h.slots t) hr0
          refine ⟨u :: us, ?_, by simp [h2], by simp only [DenP]; exact ⟨e3, h3⟩⟩
          have hA : (asAddr (a.tmps.getD t undef)).run P w = .ok ⟨g, off, none⟩ w := by rw [e1]; rfl
          have hB : (resSem a.tmps (.cell t ty)).run P w = .ok u w := by simp only [resSem, Sem.run_bind, hA, Result.andThen_ok, e2]
          simp only [List.mapM_cons, Sem.run_bind, Sem.run_pure, Result.andThen_ok, hB, h1]
    simp only [lowRes] at hl
    split at hl
    · rename_i n l h1 h2 h3
      simp only [Option.some.injEq] at hl
      exact fin true n l (.inl ⟨rfl, h1, h2⟩) h3 hl.symm
    · rename_i n l h1 h2 h3
      simp only [Option.some.injEq] at hl
      exact fin false 1 l (.inr ⟨rfl, h1, rfl⟩) h3 hl.symm
    · cases hl

theorem results_run (h : St E M s a w) {fn : Func} {xs : List ARes} {avs : List AV} (hl : lowRes P fn.results.toList = some xs) (hr : aresL s xs = some avs) :
    ∃ v, (results fn a.tmps).run P w = .ok v w ∧ Den (E.C M s.H w) (tupOf avs) v := by
  obtain ⟨us, h1, h2, h3⟩ := run_results h hl hr
  have hm : (results fn a.tmps).run P w = .ok (if h : us.toArray.size = 1 then us.toArray[0] else .tuple us.toArray) w := by
    have hf : (fun (r : ResultVar) => (match r with | .tmp t => (pure (a.tmps.getD t undef) : Sem Value) | .cell ad t => do loadVar t (← asAddr (a.tmps.getD ad undef)))) = resSem a.tmps := by funext r; cases r <;> rfl
    unfold results
    rw [Array.mapM_eq_mapM_toList]
    simp only [Sem.run_bind, Sem.run_map]
    erw [hf]
    simp only [h1, Result.andThen_ok]
    rfl
  refine ⟨_, hm, ?_⟩
  match avs, us, h2, h3 with
  | [], [], _, _ => simp [tupOf, Den, DenP]
  | [x], [u], _, hd =>
    simp only [DenP] at hd
    simpa [tupOf] using hd.1
  | x :: y :: l, u :: v :: r, hlen, hd =>
    simp only [tupOf, Den]
    simp only [List.length_cons] at hlen
    exact ⟨(u :: v :: r).toArray, by simp, by simpa using hlen, by simpa using hd⟩

def S.init (args : List AV) : S := mkS (args.zipIdx.map fun p => (p.2, p.1)) []

theorem lk_zip : ∀ (args : List AV) (k t : Nat), lk ((args.zipIdx k).map fun p => (p.2, p.1)) t = if k ≤ t then (args[t - k]?).getD .unk else .unk
  | [], k, t => by simp [lk]
  | x :: r, k, t => by
    simp only [List.zipIdx_cons, List.map_cons, lk, lk_zip r (k + 1) t]
    by_cases h : t = k
    · subst h; simp
    · rw [if_neg h]
      by_cases h1 : k ≤ t
      · rw [if_pos (by omega), if_pos h1]
        have : t - k = (t - (k + 1)) + 1 := by omega
        rw [this]; rfl
      · rw [if_neg (by omega), if_neg h1]

/-- THE CONTRACT OUT OF THE BODY's WALK. -/
theorem pcall_of {f : Nat} {af : AFn} {args : List AV} {Q : AV → Prop} (hf : lowFn P f = some af) (hn : args.length = af.np)
    (h : awp P 0 af.body (fun e s => (e = .normal ∨ e = .ret) ∧ ∃ l, aresL s af.res = some l ∧ Q ((tupOf l).fz s.H 5)) (S.init args)) : PCall P f args Q := by
  intro w B vs hB hlen hd
  unfold lowFn at hf
  split at hf
  · rename_i fn hfn
    split at hf
    · rename_i c hb
      split at hf
      · rename_i b r hlb hlr
        split at hf
        · rename_i hps
          simp only [Option.some.injEq] at hf
          subst hf
          simp only at hn h
          refine calls_of_wp hfn hb ?_
          let E : Env := ⟨w, fun g => g < w.heap.size, B, fun _ => none, 0, fn.ntmps, fun _ h => h, hB⟩
          have hst : St E (fun _ => none) (S.init args) { tmps := vs.toArray ++ Array.replicate (fn.ntmps - vs.toArray.size) undef, defers := [] } w := by
            refine ⟨rfl, by simp [E]; omega, fun t => ?_, ⟨fun id cs hc => by simp [S.init, mkS, hk, Env.C] at hc, fun _ _ => rfl, fun _ _ _ h => by cases h⟩, ⟨rfl, rfl, rfl, Nat.le_refl _, fun _ _ _ => rfl, fun _ h => absurd h (Nat.not_lt_zero _), (fun _ _ _ h => by cases h), fun _ _ h => absurd h (Nat.not_lt_zero _)⟩⟩
            show Den _ (lk _ t) _
            rw [lk_zip]
            simp only [Nat.zero_le, if_true, Nat.sub_zero]
            cases ha : args[t]? with
            | none => simp [Den]
            | some x =>
              obtain ⟨v, hv, hdv⟩ := (denP_get.1 hd) t x ha
              have : (vs.toArray ++ Array.replicate (fn.ntmps - vs.toArray.size) undef).getD t undef = v := by
                have ht : t < vs.length := (List.getElem?_eq_some_iff.1 hv).1
                rw [Array.getD_eq_getD_getElem?, Array.getElem?_append_left (by simpa using ht)]
                simp [hv]
              rw [this]
              simpa [S.init, mkS, E, Env.C, Ctx.callee, hk] using hdv
          refine Go.wp_mono (h E _ _ w c rfl hlb hst) fun e a' w' ⟨M', s', h1, he, l, hl, hq⟩ => ?_
          obtain ⟨v, hrun, hden⟩ := results_run h1 hlr hl
          have hold := h1.old
          have hfz := Den.fz (w0 := w) h1.hok (fun id g hg => hold.new id g (Nat.zero_le _) hg) (fun g hg => hg) (fun g hg => hB g hg) 5 _ _ hden
          have hbelow : Go.RowKit.Below w.heap.size w w' := ⟨hold.os, hold.tape, hold.output, hold.size, fun g hg => hold.block g hg (fun id hi => absurd hi (Nat.not_lt_zero _))⟩
          have hfin : ∃ v, (results fn a'.tmps).run P w' = .ok v w' ∧ ∃ res u, Q res ∧ Ending.returned v = .returned u ∧ Den (Ctx.callee w w' B) res u ∧ Go.RowKit.Below w.heap.size w w' := ⟨v, hrun, _, v, hq, rfl, hfz, hbelow⟩
          rcases he with rfl | rfl
          · exact ⟨h1.defers, hfin⟩
          · exact ⟨h1.defers, hfin⟩
        · cases hf
      · cases hf
    · cases hf
  · cases hf

theorem denP_of_list {C : Ctx} {f : AV → AV} {C' : Ctx} {args : List Operand} (hd : ∀ x, Den C' (f (s.ev x)) (a.eval x)) : DenP C' (args.map fun x => f (s.ev x)) (args.map a.eval) := by
  induction args with
  | nil => simp [DenP]
  | cons x r ih => simp only [List.map_cons, DenP]; exact ⟨hd x, ih⟩

/-- A CALL BY THE CALLEE's CONTRACT. 'sh': nothing of the caller's own is handed over, and the result may share memory with the arguments. -/
theorem pcall_step {pin f : Nat} {cargs : List AV} {Q : AV → Prop} {args : List Operand} {dst : Option Nat} {K : S → Prop} (hc : PCall P f cargs Q) (hargs : args.map (fun x => (s.ev x).pass s.H) = cargs)
    (hK : ∀ res, Q res → K (s.put dst (res.tk false) none)) : callOwed P pin f args dst K s := by
  intro E M a w hp hdst hst
  have hd : DenP (Ctx.callee w w fun _ => False) cargs (args.map a.eval) := by
    rw [← hargs]
    exact denP_of_list (C := E.C M s.H w) (f := fun x => x.pass s.H) fun x => Den.pass (C := E.C M s.H w) hst.hok (hst.ev x)
  refine (hc w (fun _ => False) (args.map a.eval) (fun _ h => h.elim) (by rw [← hargs]; simp) hd).mono fun e w' ⟨res, v, hq, he, hdv, hb⟩ => ?_
  have htr : Tr E M s.H w M s.H w' := Tr.ext hst.hok hst.old (fun g hg => hb.block g hg) hb.size hb.os hb.tape hb.output
  have hold := hst.old
  have hdv' : Den (E.C M s.H w') (res.tk false) v :=
    Den.tk (C := E.C M s.H w') (w := w) (fun id g hg => hst.hok.lt hg) (fun g hg => Nat.lt_of_lt_of_le (E.hA g hg) hold.size) (fun g hg => Nat.lt_of_lt_of_le (E.hB g hg) hold.size) (fun h => by cases h) hdv
  exact ⟨M, s.put dst (res.tk false) none, v, hK res hq, he, hst.put (u := none) hdst htr hdv'⟩

end
end Vw
