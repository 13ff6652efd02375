/- Calls that are handed objects, and that hand objects back: the contract, its proof from a walk, the call by it. -/
import Derived.Test.YtodfknmnhlaiaaaCVwL
set_option linter.unusedVariables false
set_option linter.unusedSimpArgs false
namespace Vw
open Go

/-! ### Objects renamed -/

def posL : List Nat → Nat → Nat → Option Nat
  | [], _, _ => none
  | x :: r, id, k => if id = x then some k else posL r id (k + 1)

theorem posL_some : ∀ {ids : List Nat} {id k j : Nat}, posL ids id k = some j → ∃ i, j = k + i ∧ ids[i]? = some id
  | [], _, _, _, h => by simp [posL] at h
  | x :: r, id, k, j, h => by
    simp only [posL] at h
    split at h
    · rename_i hx; injection h with h; exact ⟨0, by omega, by simp [hx]⟩
    · obtain ⟨i, h1, h2⟩ := posL_some h; exact ⟨i + 1, by omega, by simpa using h2⟩

theorem posL_zero {ids : List Nat} {id i : Nat} (h : posL ids id 0 = some i) : ids[i]? = some id := by
  obtain ⟨j, h1, h2⟩ := posL_some h
  have : i = j := by omega
  rw [this]; exact h2

theorem posL_none : ∀ {ids : List Nat} {id k : Nat}, posL ids id k = none → id ∉ ids
  | [], _, _, _ => by simp
  | x :: r, id, k, h => by
    simp only [posL] at h
    split at h
    · cases h
    · rename_i hx; simp [hx, posL_none h]

theorem posL_of : ∀ {ids : List Nat} {id i k : Nat}, ids.Nodup → ids[i]? = some id → posL ids id k = some (k + i)
  | [], _, _, _, _, h => by simp at h
  | x :: r, id, i, k, hn, h => by
    simp only [posL]
    rw [List.nodup_cons] at hn
    cases i with
    | zero => simp at h; rw [if_pos h.symm]; rfl
    | succ i =>
      have h' : r[i]? = some id := by simpa using h
      have hne : id ≠ x := fun he => hn.1 (he ▸ List.mem_of_getElem? h')
      rw [if_neg hne, posL_of hn.2 h']
      congr 1; omega

/-- A value, its objects under other names; those without a name read as plain data ('Z'); plain data as 'φ' says. -/
def AV.ren (ρ : Nat → Option Nat) (Z : Nat → Option (List AV)) (b0 : Bool) (φ : Bool → Option Bool) : Nat → AV → AV
  | 0, _ => .unk
  | n + 1, .own id k sz => match ρ id with
    | some i => .own i k sz
    | none => match Z id with
      | some cs => if cs.length = k * sz then .rows b0 (cs.map (AV.ren ρ Z b0 φ n)) k else .unk
      | none => .unk
  | _ + 1, .ref id len off => match ρ id with
    | some i => .ref i len off
    | none => .unk
  | n + 1, .osl id len off k sz => match ρ id with
    | some i => .osl i len off k sz
    | none => match Z id with
      | some cs => if cs.length = len then .rows b0 (((cs.drop off).take (k * sz)).map (AV.ren ρ Z b0 φ n)) k else .unk
      | none => .unk
  | n + 1, .rows fr cs k => match φ fr with
    | some fr' => .rows fr' (cs.map (AV.ren ρ Z b0 φ n)) k
    | none => .unk
  | n + 1, .agg cs => .agg (cs.map (AV.ren ρ Z b0 φ n))
  | n + 1, .tup cs => .tup (cs.map (AV.ren ρ Z b0 φ n))
  | _ + 1, .prow .. => .unk
  | _ + 1, .val (.slice none 0 0) => .rows b0 [] 0
  | _ + 1, a => a

theorem Den.ren {C C' : Ctx} {ρ : Nat → Option Nat} {Z : Nat → Option (List AV)} {b0 : Bool} {φ : Bool → Option Bool} (hk : HOK C) (hw : C'.w = C.w)
    (hρ : ∀ id i, ρ id = some i → C'.M i = C.M id ∧ ∀ cs, C.H id = some cs → ∃ cs', C'.H i = some cs' ∧ cs'.length = cs.length)
    (hZ : ∀ id cs, ρ id = none → Z id = some cs → C.H id = some cs ∧ ∀ g, C.M id = some g → C'.ok b0 g)
    (hφ : ∀ fr fr' g, φ fr = some fr' → g < C.w.heap.size → C.ok fr g → C'.ok fr' g) :
    ∀ (n : Nat) (a : AV) (v : Value), Den C a v → Den C' (a.ren ρ Z b0 φ n) v
  | 0, _, _, _ => by simp [AV.ren, Den]
  | n + 1, a, v, h => by
    have ih := Den.ren hk hw hρ hZ hφ n
    cases a with
    | own id k sz =>
      simp only [Den] at h
      obtain ⟨h0, cs, hH, hle, hval⟩ := h
      simp only [AV.ren]
      cases hr : ρ id with
      | some i =>
        obtain ⟨hM, hHi⟩ := hρ id i hr
        obtain ⟨cs', hcs', hl⟩ := hHi cs hH
        simp only [Den]
        refine ⟨h0, cs', hcs', by omega, fun he => ?_⟩
        rcases hval (by omega) with ⟨e1, e2, e3⟩ | ⟨g, cap, cur, e, hg, hv, hn, hc, hh, hs⟩
        · exact .inl ⟨e1, e2, hM.trans e3⟩
        · exact .inr ⟨g, cap, cur, e, hM.trans hg, hv, hn, hc, by rw [hw]; exact hh, hs⟩
      | none =>
        cases hz : Z id with
        | none => simp [Den]
        | some cs1 =>
          obtain ⟨hz1, hz2⟩ := hZ id cs1 hr hz
          rw [hH] at hz1
          injection hz1 with hz1
          subst hz1
          simp only
          split
          · rename_i hc
            simp only [Den]
            rcases hval hc with ⟨h1, h2, h3⟩ | ⟨g, cap, cur, e, hM, hv, hn, _, hg, _⟩
            · rcases hk.has id cs hH with ⟨_, rfl⟩ | ⟨g, _, _, a, _⟩
              · exact .inl ⟨.inl h1, rfl, h2⟩
              · rw [h3] at a; cases a
            · rcases hk.has id cs hH with ⟨a, _⟩ | ⟨g', cur', e', a, b, c⟩
              · rw [hM] at a; cases a
              · rw [hM] at a
                injection a with a
                subst a
                exact .inr ⟨g, 0, cap, cur', e', (0, 0), hv, by rw [hw]; exact b, hz2 g hM, hn, by rw [List.drop_zero]; exact denP_map ih c⟩
          · simp [Den]
    | ref id len off =>
      simp only [Den] at h
      obtain ⟨h0, cs, hH, hle, hval⟩ := h
      simp only [AV.ren]
      cases hr : ρ id with
      | some i =>
        obtain ⟨hM, hHi⟩ := hρ id i hr
        obtain ⟨cs', hcs', hl⟩ := hHi cs hH
        simp only [Den]
        refine ⟨h0, cs', hcs', by omega, fun he => ?_⟩
        obtain ⟨g, hg, hv⟩ := hval (by omega)
        exact ⟨g, hM.trans hg, hv⟩
      | none => simp [Den]
    | osl id len off k sz =>
      simp only [Den] at h
      obtain ⟨h0, cs, hH, hle, hof, hval⟩ := h
      simp only [AV.ren]
      cases hr : ρ id with
      | some i =>
        obtain ⟨hM, hHi⟩ := hρ id i hr
        obtain ⟨cs', hcs', hl⟩ := hHi cs hH
        simp only [Den]
        refine ⟨h0, cs', hcs', by omega, hof, fun he => ?_⟩
        rcases hval (by omega) with h | ⟨g, o, cap, hg, hv⟩
        · exact .inl h
        · exact .inr ⟨g, o, cap, hM.trans hg, hv⟩
      | none =>
        cases hz : Z id with
        | none => simp [Den]
        | some cs1 =>
          obtain ⟨hz1, hz2⟩ := hZ id cs1 hr hz
          rw [hH] at hz1
          injection hz1 with hz1
          subst hz1
          simp only
          split
          · rename_i hc
            simp only [Den]
            rcases hval hc with ⟨h1, rfl⟩ | ⟨g, o, cap, hM, hv, hn, ho⟩
            · exact .inl ⟨.inl h1, by simp, rfl⟩
            · rcases hk.has id cs hH with ⟨a, _⟩ | ⟨g', cur', e', a, b, c⟩
              · rw [hM] at a; cases a
              · rw [hM] at a
                injection a with a
                subst a
                refine .inr ⟨g, o, cap, cur', e', (0, 0), hv, by rw [hw]; exact b, hz2 g hM, hn, ?_⟩
                by_cases hk0 : k = 0
                · subst hk0; simp [DenP]
                · rw [ho hk0]
                  exact denP_map ih (denP_take (denP_drop c off) _)
          · simp [Den]
    | rows fr cs k =>
      simp only [Den] at h
      simp only [AV.ren]
      cases hf : φ fr with
      | none => simp [Den]
      | some fr' =>
        simp only [Den]
        rcases h with ⟨h1, rfl, h3⟩ | ⟨g, o, cap, cur, e, fz, h1, h2, h3, h4, h5⟩
        · exact .inl ⟨h1, rfl, h3⟩
        · exact .inr ⟨g, o, cap, cur, e, fz, h1, by rw [hw]; exact h2, hφ fr fr' g hf (lt_of_heap h2) h3, h4, denP_map ih h5⟩
    | agg cs =>
      simp only [AV.ren, Den] at *
      obtain ⟨vs, h1, h2, h3⟩ := h
      exact ⟨vs, h1, by simpa using h2, denP_map ih h3⟩
    | tup cs =>
      simp only [AV.ren, Den] at *
      obtain ⟨vs, h1, h2, h3⟩ := h
      exact ⟨vs, h1, by simpa using h2, denP_map ih h3⟩
    | prow => simp [AV.ren, Den]
    | unk => simp [AV.ren, Den]
    | val u =>
      simp only [Den] at h
      subst h
      unfold AV.ren
      split <;> simp_all [Den, EmptyS.nil]
    | _ => simpa [AV.ren, Den] using h

/-! ### The contract -/

def nthH (H : List (List AV)) : Nat → Option (List AV) := fun i => H[i]?

/-- The context of a call: what is new lies behind what was there when it began. -/
def Ctx.cl (w w' : World) (M : Nat → Option Nat) (H : Nat → Option (List AV)) (B : Nat → Prop) : Ctx := ⟨w', M, H, fun g => g < w.heap.size, B⟩

/-- How a call leaves the heap: what was there is as it was, but for the blocks of the first 'k' objects, which keep their places and sizes. -/
structure Back (w : World) (k : Nat) (M0 M' : Nat → Option Nat) (w' : World) : Prop where
  os : w'.os = w.os
  tape : w'.tape = w.tape
  output : w'.output = w.output
  size : w.heap.size ≤ w'.heap.size
  block : ∀ g, g < w.heap.size → (∀ i, i < k → M0 i ≠ some g) → w'.heap[g]? = w.heap[g]?
  pinned : ∀ i, i < k → M' i = M0 i
  new : ∀ i g, k ≤ i → M' i = some g → w.heap.size ≤ g
  psize : ∀ i g, i < k → M0 i = some g → ∀ cur e, w.heap[g]? = some (.cells cur e (0, 0)) → ∃ cur' e', w'.heap[g]? = some (.cells cur' e' (0, 0)) ∧ cur'.size = cur.size

/-- A FUNCTION THAT MAY WRITE THE OBJECTS IT IS HANDED, AND MAKE NEW ONES: handed the objects 'H0' (named by their places), it returns a value and the objects' new cells, behind them those of the new ones. -/
def BCall (P : Program) (f : Nat) (args : List AV) (H0 : List (List AV)) (Q : AV → List (List AV) → Prop) : Prop :=
  ∀ (w : World) (M0 : Nat → Option Nat) (B : Nat → Prop) (vs : List Value), (∀ g, B g → g < w.heap.size) → vs.length = args.length → HOK (Ctx.cl w w M0 (nthH H0) B) → DenP (Ctx.cl w w M0 (nthH H0) B) args vs →
    Calls P f vs.toArray w fun e w' => ∃ res v H' M', Q res H' ∧ e = .returned v ∧ HOK (Ctx.cl w w' M' (nthH H') B) ∧ Den (Ctx.cl w w' M' (nthH H') B) res v ∧ Back w H0.length M0 M' w'

theorem BCall.mono {P : Program} {f : Nat} {args : List AV} {H0 : List (List AV)} {Q Q' : AV → List (List AV) → Prop} (h : BCall P f args H0 Q) (hq : ∀ r H, Q r H → Q' r H) : BCall P f args H0 Q' :=
  fun w M0 B vs hB hl hk hd => (h w M0 B vs hB hl hk hd).mono fun _ _ ⟨res, v, H', M', a, b⟩ => ⟨res, v, H', M', hq _ _ a, b⟩

theorem PCall.mono {P : Program} {f : Nat} {args : List AV} {Q Q' : AV → Prop} (h : PCall P f args Q) (hq : ∀ r, Q r → Q' r) : PCall P f args Q' :=
  fun w B vs hB hl hd => (h w B vs hB hl hd).mono fun _ _ ⟨res, v, a, b⟩ => ⟨res, v, hq _ a, b⟩

/-- What a call of objects yields, read as plain data. -/
theorem BCall.plain {P : Program} {f : Nat} {args : List AV} {Q : AV → List (List AV) → Prop} (h : BCall P f args [] Q) : PCall P f args (fun r => ∃ r0 H', Q r0 H' ∧ r = r0.ren (fun _ => none) (nthH H') true some 5) := by
  intro w B vs hB hl hd
  have e0 : nthH [] = fun _ => none := by funext i; simp [nthH]
  have e1 : Ctx.cl w w (fun _ => none) (nthH []) B = Ctx.callee w w B := by simp only [Ctx.cl, Ctx.callee, e0]
  refine (h w (fun _ => none) B vs hB hl (by rw [e1]; exact ⟨(fun _ _ h => by cases h), (fun _ _ => rfl), (fun _ _ _ h => by cases h)⟩) (by rw [e1]; exact hd)).mono fun e w' ⟨res, v, H', M', hq, he, hok, hden, hb⟩ => ?_
  refine ⟨_, v, ⟨res, H', hq, rfl⟩, he, ?_, hb.os, hb.tape, hb.output, hb.size, fun g hg => hb.block g hg (fun i hi => absurd hi (Nat.not_lt_zero _))⟩
  refine Den.ren (C := Ctx.cl w w' M' (nthH H') B) (C' := Ctx.callee w w' B) hok rfl (fun _ _ h => by cases h) (fun id cs _ hz => ⟨hz, fun g hg => ?_⟩) (fun fr fr' g hf hg ho => ?_) 5 _ _ hden
  · have hge := hb.new id g (Nat.zero_le _) hg
    exact ⟨fun _ h => (by cases h), fun hb' => (by have := hB g hb'; omega), fun _ (ha : g < w.heap.size) => (by omega)⟩
  · injection hf with hf
    subst hf
    exact ⟨fun _ h => (by cases h), ho.2.1, ho.2.2⟩

/-! ### From a walk -/

mutual
/-- A nil slice told as an owned slice without elements. -/
def AV.fixNil (L : List (Nat × Nat)) : AV → AV × List (Nat × Nat)
  | .val (.slice none 0 0) => match L with
    | (id, sz) :: r => (.own id 0 sz, r)
    | [] => (.val (.slice none 0 0), [])
  | .agg cs => (.agg (fixNilL L cs).1, (fixNilL L cs).2)
  | .tup cs => (.tup (fixNilL L cs).1, (fixNilL L cs).2)
  | a => (a, L)
def fixNilL (L : List (Nat × Nat)) : List AV → List AV × List (Nat × Nat)
  | [] => ([], L)
  | c :: r => ((c.fixNil L).1 :: (fixNilL (c.fixNil L).2 r).1, (fixNilL (c.fixNil L).2 r).2)
end

/-- Objects that were not there are there without cells. -/
def orNil (H : Nat → Option (List AV)) (ids : List Nat) : Nat → Option (List AV) := fun id => if id ∈ ids then some ((H id).getD []) else H id

mutual
theorem fixNil_suffix : ∀ (a : AV) (L : List (Nat × Nat)), ∃ k, (a.fixNil L).2 = L.drop k
  | .val v, L => by
    unfold AV.fixNil
    split
    · rename_i he
      cases L with
      | nil => exact ⟨0, rfl⟩
      | cons p r => exact ⟨1, rfl⟩
    · rename_i he; cases he
    · rename_i he; cases he
    · exact ⟨0, rfl⟩
  | .agg cs, L => fixNilL_suffix cs L
  | .tup cs, L => fixNilL_suffix cs L
  | .unk, L => ⟨0, rfl⟩
  | .und, L => ⟨0, rfl⟩
  | .int .., L => ⟨0, rfl⟩
  | .bool _, L => ⟨0, rfl⟩
  | .str _, L => ⟨0, rfl⟩
  | .rows .., L => ⟨0, rfl⟩
  | .prow .., L => ⟨0, rfl⟩
  | .ref .., L => ⟨0, rfl⟩
  | .own .., L => ⟨0, rfl⟩
  | .osl .., L => ⟨0, rfl⟩
theorem fixNilL_suffix : ∀ (cs : List AV) (L : List (Nat × Nat)), ∃ k, (fixNilL L cs).2 = L.drop k
  | [], L => ⟨0, rfl⟩
  | c :: r, L => by
    obtain ⟨k, hk⟩ := fixNil_suffix c L
    obtain ⟨j, hj⟩ := fixNilL_suffix r (c.fixNil L).2
    exact ⟨k + j, by simp only [fixNilL]; rw [hj, hk, List.drop_drop]⟩
end

theorem fixNilL_length : ∀ (cs : List AV) (L : List (Nat × Nat)), (fixNilL L cs).1.length = cs.length
  | [], L => rfl
  | c :: r, L => by simp only [fixNilL, List.length_cons, fixNilL_length r]

theorem Den_nil_own {C : Ctx} {id sz : Nat} (h1 : C.H id = some []) (h2 : C.M id = none) : Den C (.own id 0 sz) (.slice none 0 0) := by
  unfold Den
  exact ⟨rfl, [], h1, by simp, fun _ => .inl ⟨rfl, rfl, h2⟩⟩

mutual
theorem Den.fixNil {C : Ctx} : ∀ (a : AV) (L : List (Nat × Nat)) (v : Value), (∀ p ∈ L, C.H p.1 = some [] ∧ C.M p.1 = none) → Den C a v → Den C (a.fixNil L).1 v
  | .val u, L, v, hL, h => by
    unfold AV.fixNil
    split
    · rename_i he
      injection he with he
      subst he
      cases L with
      | nil => exact h
      | cons p r =>
        obtain ⟨h1, h2⟩ := hL p (by simp)
        simp only [Den] at h
        subst h
        exact Den_nil_own h1 h2
    · rename_i he; cases he
    · rename_i he; cases he
    · exact h
  | .agg cs, L, v, hL, h => by
    simp only [AV.fixNil, Den] at *
    obtain ⟨vs, h1, h2, h3⟩ := h
    exact ⟨vs, h1, by rw [fixNilL_length]; exact h2, DenP.fixNil cs L _ hL h3⟩
  | .tup cs, L, v, hL, h => by
    simp only [AV.fixNil, Den] at *
    obtain ⟨vs, h1, h2, h3⟩ := h
    exact ⟨vs, h1, by rw [fixNilL_length]; exact h2, DenP.fixNil cs L _ hL h3⟩
  | .unk, _, _, _, h => h
  | .und, _, _, _, h => h
  | .int .., _, _, _, h => h
  | .bool _, _, _, _, h => h
  | .str _, _, _, _, h => h
  | .rows .., _, _, _, h => h
  | .prow .., _, _, _, h => h
  | .ref .., _, _, _, h => h
  | .own .., _, _, _, h => h
  | .osl .., _, _, _, h => h
theorem DenP.fixNil {C : Ctx} : ∀ (cs : List AV) (L : List (Nat × Nat)) (vs : List Value), (∀ p ∈ L, C.H p.1 = some [] ∧ C.M p.1 = none) → DenP C cs vs → DenP C (fixNilL L cs).1 vs
  | [], _, _, _, h => h
  | _ :: _, _, [], _, h => by simp [DenP] at h
  | c :: r, L, v :: vs, hL, h => by
    simp only [fixNilL, DenP] at *
    obtain ⟨k, hk⟩ := fixNil_suffix c L
    exact ⟨Den.fixNil c L v hL h.1, DenP.fixNil r _ vs (fun p hp => hL p (by rw [hk] at hp; exact List.mem_of_mem_drop hp)) h.2⟩
end

def S.initB (args : List AV) (H0 : List (List AV)) : S := mkS (args.zipIdx.map fun p => (p.2, p.1)) (H0.zipIdx.map fun p => (p.2, p.1))

theorem hk_zip : ∀ (H0 : List (List AV)) (k t : Nat), hk ((H0.zipIdx k).map fun p => (p.2, p.1)) t = if k ≤ t then H0[t - k]? else none
  | [], k, t => by simp [hk]
  | x :: r, k, t => by
    simp only [List.zipIdx_cons, List.map_cons, hk, hk_zip r (k + 1) t]
    by_cases h : t = k
    · subst h; simp
    · rw [if_neg h]
      by_cases h1 : k ≤ t
      · rw [if_pos (by omega), if_pos h1]
        have : t - k = (t - (k + 1)) + 1 := by omega
        rw [this]; rfl
      · rw [if_neg (by omega), if_neg h1]

theorem St.adopt {E : Env} {M : Nat → Option Nat} {s : S} {a : Act} {w : World} (h : St E M s a w) : ∀ (ids : List Nat), St E M ⟨s.σ, orNil s.H ids⟩ a w
  | [] => by
    have : orNil s.H [] = s.H := by funext id; simp [orNil]
    rw [this]; exact h
  | id :: r => by
    have ih := St.adopt h r
    by_cases hn : orNil s.H r id = none
    · have e : orNil s.H (id :: r) = upd (orNil s.H r) id (some []) := by
        funext j
        unfold orNil upd
        by_cases hj : j = id
        · subst hj
          have : s.H j = none := by
            unfold orNil at hn
            split at hn
            · cases hn
            · exact hn
          simp [this]
        · by_cases hr : j ∈ r <;> simp [hj, hr]
      rw [e]
      have t := Tr.adopt (E := E) (M := M) (H := orNil s.H r) (w := w) ih.hok ih.old hn
      exact ⟨h.defers, h.size, fun t' => Den.keeps t.keeps (ih.slots t'), t.hok, t.old⟩
    · have e : orNil s.H (id :: r) = orNil s.H r := by
        funext j
        unfold orNil at hn ⊢
        by_cases hj : j = id
        · subst hj
          by_cases hr : j ∈ r
          · simp [hr]
          · rw [if_neg hr] at hn
            obtain ⟨cs, hc⟩ := Option.ne_none_iff_exists'.1 hn
            simp [hc]
        · simp [hj]
      rw [e]
      exact ih

def posF (ids : List Nat) (id : Nat) : Option Nat := posL ids id 0

/-- The names under which objects go out: the place in the list. -/
def AV.can (ids : List Nat) (H : Nat → Option (List AV)) (a : AV) : AV := a.ren (posF ids) H true some 5

/-- What is asked where a call returns. -/
def retOk (pins outs : List Nat) (nils : List (Nat × Nat)) (H : Nat → Option (List AV)) : Prop :=
  (∀ id ∈ pins, (H id).isSome = true) ∧ ∀ p ∈ nils, H p.1 = none ∧ p.1 ∈ outs

/-- THE CONTRACT OUT OF THE BODY's WALK. At each return: 'outs', the objects that go out, behind those that came in; 'nils', the objects by which nil slices of the result are told. -/
theorem bcall_of {P : Program} {f : Nat} {af : AFn} {args : List AV} {H0 : List (List AV)} {Q : AV → List (List AV) → Prop} {pins : List Nat} {pin : Nat} (hf : lowFn P f = some af) (hn : args.length = af.np) (hpins : pins = List.range H0.length) (hpn : pin = H0.length)
    (h : awp P pin af.body (fun e s => (e = .normal ∨ e = .ret) ∧ ∃ (outs : List Nat) (nils : List (Nat × Nat)) (l : List AV), ((pins ++ outs).Nodup ∧ ∀ id ∈ outs, pin ≤ id) ∧ aresL s af.res = some l ∧ retOk pins outs nils s.H ∧
      Q (((tupOf l).fixNil nils).1.can (pins ++ outs) (orNil s.H outs)) ((pins ++ outs).map fun id => ((s.H id).getD []).map (AV.can (pins ++ outs) (orNil s.H outs)))) (S.initB args H0)) : BCall P f args H0 Q := by
  subst hpins hpn
  intro w M0 B vs hB hlen hk0 hd
  unfold lowFn at hf
  split at hf
  · rename_i fn hfn
    split at hf
    · rename_i c hb
      split at hf
      · rename_i b r hlb hlr
        split at hf
        · rename_i hps
          simp only [Option.some.injEq] at hf
          subst hf
          simp only at hn h
          refine calls_of_wp hfn hb ?_
          let E : Env := ⟨w, fun g => g < w.heap.size, B, M0, H0.length, fn.ntmps, fun _ h => h, hB⟩
          have hH : (S.initB args H0).H = nthH H0 := by
            funext i
            show hk _ i = _
            rw [hk_zip]
            simp [nthH]
          have hC : E.C M0 (S.initB args H0).H w = Ctx.cl w w M0 (nthH H0) B := by rw [hH]; rfl
          have hst : St E M0 (S.initB args H0) { tmps := vs.toArray ++ Array.replicate (fn.ntmps - vs.toArray.size) undef, defers := [] } w := by
            refine ⟨rfl, by simp [E]; omega, fun t => ?_, by rw [hC]; exact hk0, ⟨rfl, rfl, rfl, Nat.le_refl _, fun _ _ _ => rfl, fun _ _ => rfl, fun id g hid hg => ?_, fun _ _ _ _ cur e h => ⟨cur, e, h, rfl⟩⟩⟩
            · rw [hC]
              show Den _ (lk _ t) _
              rw [lk_zip]
              simp only [Nat.zero_le, if_true, Nat.sub_zero]
              cases ha : args[t]? with
              | none => simp [Den]
              | some x =>
                obtain ⟨v, hv, hdv⟩ := (denP_get.1 hd) t x ha
                have : (vs.toArray ++ Array.replicate (fn.ntmps - vs.toArray.size) undef).getD t undef = v := by
                  have ht : t < vs.length := (List.getElem?_eq_some_iff.1 hv).1
                  rw [Array.getD_eq_getD_getElem?, Array.getElem?_append_left (by simpa using ht)]
                  simp [hv]
                rw [this]
                exact hdv
            · have : nthH H0 id = none := by have : E.pin = H0.length := rfl; simp [nthH]; omega
              have := hk0.no id this
              rw [show M0 id = none from this] at hg
              cases hg
          refine Go.wp_mono (h E _ _ w c rfl hlb hst) fun e a' w' ⟨M', s', h1, he, outs, nils, l, ⟨hnd, hout⟩, hl, ⟨hpin, hnil⟩, hq⟩ => ?_
          obtain ⟨v, hrun, hden⟩ := results_run h1 hlr hl
          have hold := h1.old
          -- with the nil slices' objects
          have h2 := St.adopt h1 outs
          have hH2 : ∀ id, id ∈ outs → orNil s'.H outs id = some ((s'.H id).getD []) := fun id hi => by simp [orNil, hi]
          have hH3 : ∀ id, id ∈ List.range H0.length ++ outs → orNil s'.H outs id = some ((s'.H id).getD []) := fun id hi => by
            rcases List.mem_append.1 hi with hi | hi
            · obtain ⟨cs, hc⟩ := Option.isSome_iff_exists.1 (hpin id hi)
              unfold orNil
              split
              · rfl
              · rw [hc]; rfl
            · exact hH2 id hi
          have hden2 : Den (E.C M' (orNil s'.H outs) w') ((tupOf l).fixNil nils).1 v := by
            refine Den.fixNil _ nils v (fun p hp => ?_) ?_
            · obtain ⟨hp1, hp2⟩ := hnil p hp
              refine ⟨?_, h1.hok.no _ hp1⟩
              show orNil s'.H outs p.1 = _
              rw [hH2 _ hp2, hp1]; rfl
            · have : ∀ (ids : List Nat), Den (E.C M' (orNil s'.H ids) w') (tupOf l) v := by
                intro ids
                induction ids with
                | nil =>
                  have : orNil s'.H [] = s'.H := by funext id; simp [orNil]
                  rw [this]; exact hden
                | cons id r ih =>
                  have ihs := St.adopt h1 r
                  by_cases hn : orNil s'.H r id = none
                  · have e : orNil s'.H (id :: r) = upd (orNil s'.H r) id (some []) := by
                      funext j
                      unfold orNil upd
                      by_cases hj : j = id
                      · subst hj
                        have : s'.H j = none := by
                          unfold orNil at hn
                          split at hn
                          · cases hn
                          · exact hn
                        simp [this]
                      · by_cases hr : j ∈ r <;> simp [hj, hr]
                    rw [e]
                    exact Den.keeps (Tr.adopt (E := E) (M := M') (H := orNil s'.H r) (w := w') ihs.hok ihs.old hn).keeps ih
                  · have e : orNil s'.H (id :: r) = orNil s'.H r := by
                      funext j
                      unfold orNil at hn ⊢
                      by_cases hj : j = id
                      · subst hj
                        by_cases hr : j ∈ r
                        · simp [hr]
                        · rw [if_neg hr] at hn
                          obtain ⟨cs, hc⟩ := Option.ne_none_iff_exists'.1 hn
                          simp [hc]
                      · simp [hj]
                    rw [e]
                    exact ih
              exact this outs
          -- the names
          let ids := List.range H0.length ++ outs
          let Mo : Nat → Option Nat := fun i => match ids[i]? with | some id => M' id | none => none
          let Ho : List (List AV) := ids.map fun id => ((s'.H id).getD []).map (AV.can ids (orNil s'.H outs))
          have hlow : ∀ i, i < H0.length → ids[i]? = some i := fun i hi => by
            show (List.range H0.length ++ outs)[i]? = _
            rw [List.getElem?_append_left (by simpa using hi), List.getElem?_range hi]
          have hMo : ∀ i, i < H0.length → Mo i = M0 i := fun i hi => by
            show (match ids[i]? with | some id => M' id | none => none) = _
            rw [hlow i hi]; exact hold.pinned i hi
          have hge : ∀ i id, H0.length ≤ i → ids[i]? = some id → H0.length ≤ id := fun i id hi h => by
            have h' : (List.range H0.length ++ outs)[i]? = some id := h
            rw [List.getElem?_append_right (by simpa using hi)] at h'
            exact hout id (List.mem_of_getElem? h')
          have hren : ∀ a u, Den (E.C M' (orNil s'.H outs) w') a u → Den (Ctx.cl w w' Mo (nthH Ho) B) (a.can ids (orNil s'.H outs)) u := by
            intro a u hau
            have hMo' : ∀ id i, posL ids id 0 = some i → Mo i = M' id := fun id i hp => by
              show (match ids[i]? with | some id => M' id | none => none) = _
              rw [posL_zero hp]
            refine Den.ren (C := E.C M' (orNil s'.H outs) w') (C' := Ctx.cl w w' Mo (nthH Ho) B) h2.hok rfl (fun id i hp => ⟨hMo' id i hp, fun cs hcs => ?_⟩) (fun id cs hp hz => ⟨hz, fun g hg => ?_⟩) (fun fr fr' g hf hg ho => ?_) 5 a u hau
            · have hi := posL_zero hp
              have hc : orNil s'.H outs id = some ((s'.H id).getD []) := hH3 id (List.mem_of_getElem? hi)
              have hcs' : orNil s'.H outs id = some cs := hcs
              rw [hc] at hcs'
              injection hcs' with hcs'
              refine ⟨((s'.H id).getD []).map (AV.can ids (orNil s'.H outs)), ?_, by rw [List.length_map, hcs']⟩
              show Ho[i]? = _
              simp [Ho, List.getElem?_map, hi]
            · have hnot : id ∉ ids := posL_none hp
              have hid : H0.length ≤ id := by
                rcases Nat.lt_or_ge id H0.length with hlt | hge
                · exact absurd (List.mem_append_left outs (List.mem_range.2 hlt)) hnot
                · exact hge
              have hgnew : w.heap.size ≤ g := hold.new id g hid hg
              refine ⟨fun i hi => ?_, fun hb => ?_, fun _ (ha : g < w.heap.size) => by omega⟩
              · have hi' : (match ids[i]? with | some id => M' id | none => none) = some g := hi
                cases hx : ids[i]? with
                | none => rw [hx] at hi'; cases hi'
                | some id' =>
                  rw [hx] at hi'
                  have : id' = id := h1.hok.inj id' id g hi' hg
                  subst this
                  exact hnot (List.mem_of_getElem? hx)
              · have := hB g hb; omega
            · injection hf with hf
              subst hf
              refine ⟨fun i hi => ?_, ho.2.1, ho.2.2⟩
              have hi' : (match ids[i]? with | some id => M' id | none => none) = some g := hi
              cases hx : ids[i]? with
              | none => rw [hx] at hi'; cases hi'
              | some id' => rw [hx] at hi'; exact ho.1 id' hi'
          have hokf : HOK (Ctx.cl w w' Mo (nthH Ho) B) := by
            refine ⟨fun i cs hc => ?_, fun i hc => ?_, fun i j g hi hj => ?_⟩
            · have hc' : Ho[i]? = some cs := hc
              simp only [Ho, List.getElem?_map, Option.map_eq_some_iff] at hc'
              obtain ⟨id, hid, rfl⟩ := hc'
              have hMi : Mo i = M' id := by
                show (match ids[i]? with | some id => M' id | none => none) = _
                rw [hid]
              rcases h2.hok.has id _ (hH3 id (List.mem_of_getElem? hid)) with ⟨a, b⟩ | ⟨g, cur, e', a, b, c⟩
              · exact .inl ⟨hMi.trans a, by rw [b]; rfl⟩
              · exact .inr ⟨g, cur, e', hMi.trans a, b, denP_map hren c⟩
            · have hc' : Ho[i]? = none := hc
              simp only [Ho, List.getElem?_map, Option.map_eq_none_iff] at hc'
              show (match ids[i]? with | some id => M' id | none => none) = none
              rw [hc']
            · have hi' : (match ids[i]? with | some id => M' id | none => none) = some g := hi
              have hj' : (match ids[j]? with | some id => M' id | none => none) = some g := hj
              cases hx : ids[i]? with
              | none => rw [hx] at hi'; cases hi'
              | some x =>
                cases hy : ids[j]? with
                | none => rw [hy] at hj'; cases hj'
                | some y =>
                  rw [hx] at hi'
                  rw [hy] at hj'
                  have hxy : x = y := h1.hok.inj x y g hi' hj'
                  subst hxy
                  have e1 := posL_of (k := 0) hnd hx
                  have e2 := posL_of (k := 0) hnd hy
                  rw [e1] at e2
                  injection e2 with e2
                  omega
          have hback : Back w H0.length M0 Mo w' := by
            refine ⟨hold.os, hold.tape, hold.output, hold.size, hold.block, hMo, fun i g hi hg => ?_, fun i g hi hg => hold.psize i g hi hg⟩
            have hg' : (match ids[i]? with | some id => M' id | none => none) = some g := hg
            cases hx : ids[i]? with
            | none => rw [hx] at hg'; cases hg'
            | some id => rw [hx] at hg'; exact hold.new id g (hge i id hi hx) hg'
          have hfin : ∃ v, (results fn a'.tmps).run P w' = .ok v w' ∧ ∃ res u H' M', Q res H' ∧ Ending.returned v = .returned u ∧ HOK (Ctx.cl w w' M' (nthH H') B) ∧ Den (Ctx.cl w w' M' (nthH H') B) res u ∧ Back w H0.length M0 M' w' :=
            ⟨v, hrun, _, v, Ho, Mo, hq, rfl, hokf, hren _ _ hden2, hback⟩
          rcases he with rfl | rfl
          · exact ⟨h1.defers, hfin⟩
          · exact ⟨h1.defers, hfin⟩
        · cases hf
      · cases hf
    · cases hf
  · cases hf
end Vw
