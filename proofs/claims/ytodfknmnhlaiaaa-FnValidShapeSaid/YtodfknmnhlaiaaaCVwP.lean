/- A call by a contract that speaks of objects. -/
import Derived.Test.YtodfknmnhlaiaaaCVwN
set_option linter.unusedVariables false
set_option linter.unusedSimpArgs false
namespace Vw
open Go

def zF (sh : Bool) (H : Nat → Option (List AV)) (id : Nat) : Option (List AV) := if sh then none else H id
def noH (_ : Nat) : Option (List AV) := none
def phiD (_ : Bool) : Option Bool := some false
def phiU (sh b : Bool) : Option Bool := if b then some true else if sh then some false else none
def idxF (ids : List Nat) (i : Nat) : Option Nat := ids[i]?

/-- What a caller hands over: the objects 'ids' by their places; other owned slices as plain data ('sh': not at all). -/
def AV.down (ids : List Nat) (sh : Bool) (H : Nat → Option (List AV)) (a : AV) : AV :=
  a.ren (posF ids) (zF sh H) false phiD 5

/-- What a caller gets back. -/
def AV.up (ids : List Nat) (sh : Bool) (a : AV) : AV :=
  a.ren (idxF ids) noH true (phiU sh) 5

def updL (H : Nat → Option (List AV)) (us : List (Nat × List AV)) : Nat → Option (List AV) := fun id => match hk us id with
  | some cs => some cs
  | none => H id

def S.putL (s : S) (dst : Option Nat) (v : AV) (us : List (Nat × List AV)) : S :=
  ⟨match dst with | some d => upd s.σ d v | none => s.σ, updL s.H us⟩

def news : Option Nat → Nat → List Nat
  | some d, k => (List.range k).map (16 * d + ·)
  | none, _ => []

theorem news_mem {dst : Option Nat} {k id : Nat} (h : id ∈ news dst k) : ∃ d j, dst = some d ∧ j < k ∧ id = 16 * d + j := by
  cases dst with
  | none => simp [news] at h
  | some d =>
    simp only [news, List.mem_map, List.mem_range] at h
    obtain ⟨j, h1, h2⟩ := h
    exact ⟨d, j, rfl, h1, h2.symm⟩

theorem news_nodup (dst : Option Nat) (k : Nat) : (news dst k).Nodup := by
  cases dst with
  | none => simp [news]
  | some d =>
    simp only [news]
    refine List.Pairwise.map _ (fun a b hab he => hab ?_) List.nodup_range
    have : 16 * d + a = 16 * d + b := he
    omega

theorem news_len (dst : Option Nat) (k : Nat) : (news dst k).length ≤ k := by
  cases dst <;> simp [news]

/-- Objects that came in keep their lengths. -/
def lenOk : List (List AV) → List (List AV) → Prop
  | [], _ => True
  | _ :: _, [] => False
  | a :: r, b :: s => b.length = a.length ∧ lenOk r s

theorem lenOk_spec : ∀ {H0 H' : List (List AV)}, lenOk H0 H' → ∀ (i : Nat) (cs : List AV), H0[i]? = some cs → ∃ cs' : List AV, H'[i]? = some cs' ∧ cs'.length = cs.length
  | [], _, _, i, cs, h => by simp at h
  | a :: r, [], hl, _, _, _ => by simp [lenOk] at hl
  | a :: r, b :: s, hl, i, cs, h => by
    cases i with
    | zero => simp at h; subst h; exact ⟨b, by simp, hl.1⟩
    | succ i => simpa using lenOk_spec hl.2 i cs (by simpa using h)

theorem hk_zip_posL : ∀ (ids : List Nat) (cs : List (List AV)) (id k : Nat), ids.length ≤ cs.length →
    hk (ids.zip cs) id = (posL ids id k).bind fun j => cs[j - k]?
  | [], cs, id, k, _ => by simp [hk, posL]
  | x :: r, [], id, k, h => by simp at h
  | x :: r, c :: s, id, k, h => by
    simp only [List.length_cons] at h
    simp only [List.zip_cons_cons, hk, posL]
    by_cases hx : id = x
    · simp [hx]
    · rw [if_neg hx, if_neg hx, hk_zip_posL r s id (k + 1) (by omega)]
      cases hp : posL r id (k + 1) with
      | none => rfl
      | some j =>
        obtain ⟨i, h1, _⟩ := posL_some hp
        simp only [Option.bind_some]
        have : j - k = (j - (k + 1)) + 1 := by omega
        rw [this, List.getElem?_cons_succ]

section
variable {P : Program} {s : S}

theorem bcall_stepF {pin f : Nat} {cargs : List AV} {H0 : List (List AV)} {Q : AV → List (List AV) → Prop} {args : List Operand} {dst : Option Nat} {K : S → Prop} (ids : List Nat) (sh : Bool)
    {F : Nat → Option (List AV)} (hF : ∀ id cs, F id = some cs → s.H id = some cs)
    (hc : BCall P f cargs H0 Q) (hargs : args.map (fun x => (s.ev x).down ids sh F) = cargs) (hH0 : ids.map (fun id => (s.H id).map (List.map (AV.down ids sh F))) = H0.map some) (hids : ids.Nodup)
    (hK : ∀ res H', Q res H' → lenOk H0 H' ∧ (∀ id ∈ news dst (H'.length - H0.length), s.H id = none ∧ pin ≤ id) ∧
      K (s.putL dst (res.up (ids ++ news dst (H'.length - H0.length)) sh) ((ids ++ news dst (H'.length - H0.length)).zip (H'.map (List.map (AV.up (ids ++ news dst (H'.length - H0.length)) sh)))))) :
    callOwed P pin f args dst K s := by
  intro E M a w hp hdst hst
  have hok := hst.hok
  have hold := hst.old
  have hlen : ids.length = H0.length := by have := congrArg List.length hH0; simpa using this
  -- the objects that are handed over
  have hobj : ∀ (i : Nat) (cs : List AV), H0[i]? = some cs → ∃ id cs0, ids[i]? = some id ∧ s.H id = some cs0 ∧ cs = cs0.map (AV.down ids sh F) := by
    intro i cs hi
    have := congrArg (fun l => l[i]?) hH0
    simp only [List.getElem?_map, hi, Option.map_some] at this
    cases hx : ids[i]? with
    | none => simp [hx] at this
    | some id =>
      simp only [hx, Option.map_some, Option.some.injEq] at this
      cases hy : s.H id with
      | none => simp [hy] at this
      | some cs0 =>
        simp only [hy, Option.map_some, Option.some.injEq] at this
        exact ⟨id, cs0, rfl, hy, this.symm⟩
  have hobj' : ∀ (i id : Nat), ids[i]? = some id → ∃ cs0, s.H id = some cs0 ∧ H0[i]? = some (cs0.map (AV.down ids sh F)) := by
    intro i id hi
    have hlt : i < H0.length := by rw [← hlen]; exact (List.getElem?_eq_some_iff.1 hi).1
    obtain ⟨id', cs0, h1, h2, h3⟩ := hobj i _ (List.getElem?_eq_getElem hlt)
    rw [hi] at h1
    injection h1 with h1
    subst h1
    exact ⟨cs0, h2, by rw [List.getElem?_eq_getElem hlt, h3]⟩
  let M0 : Nat → Option Nat := fun i => match ids[i]? with | some id => M id | none => none
  let Bc : Nat → Prop := fun g => if sh then E.B g ∨ ∃ id, id ∉ ids ∧ M id = some g else False
  have hM0 : ∀ i g, M0 i = some g → ∃ id, ids[i]? = some id ∧ M id = some g := by
    intro i g hi
    have hi' : (match ids[i]? with | some id => M id | none => none) = some g := hi
    cases hx : ids[i]? with
    | none => rw [hx] at hi'; cases hi'
    | some id => rw [hx] at hi'; exact ⟨id, rfl, hi'⟩
  have hM0' : ∀ i id, ids[i]? = some id → M0 i = M id := by
    intro i id hi
    show (match ids[i]? with | some id => M id | none => none) = _
    rw [hi]
  have hBc : ∀ g, Bc g → g < w.heap.size := by
    intro g hg
    cases sh with
    | false => exact absurd hg (by simp [Bc])
    | true =>
      simp only [Bc, if_true] at hg
      rcases hg with hg | ⟨id, _, hid⟩
      · exact Nat.lt_of_lt_of_le (E.hB g hg) hold.size
      · exact hok.lt hid
  have hdn : ∀ x u, Den (E.C M s.H w) x u → Den (Ctx.cl w w M0 (nthH H0) Bc) (x.down ids sh F) u := by
    intro x u hxu
    refine Den.ren (C := E.C M s.H w) (C' := Ctx.cl w w M0 (nthH H0) Bc) hok rfl (fun id i hi => ?_) (fun id cs hi hz => ?_) (fun fr fr' g hf hlt ho => ?_) 5 x u hxu
    · have hi' := posL_zero hi
      refine ⟨hM0' i id hi', fun cs hcs => ?_⟩
      obtain ⟨cs0, h1, h2⟩ := hobj' i id hi'
      have : some cs = some cs0 := hcs.symm.trans h1
      injection this with this
      subst this
      exact ⟨_, h2, by simp⟩
    · cases sh with
      | true => simp [zF] at hz
      | false =>
        simp only [zF, Bool.false_eq_true, if_false] at hz
        refine ⟨hF _ _ hz, fun g hg => ⟨fun i hi1 => ?_, fun hb => ?_, fun h => by cases h⟩⟩
        · obtain ⟨id', h1, h2⟩ := hM0 i g hi1
          have : id' = id := hok.inj id' id g h2 hg
          subst this
          exact posL_none hi (List.mem_of_getElem? h1)
        · have hb' : Bc g := hb
          simp [Bc] at hb'
    · injection hf with hf
      subst hf
      refine ⟨fun i hi => ?_, fun hb => ?_, fun h => by cases h⟩
      · obtain ⟨id', h1, h2⟩ := hM0 i g hi
        exact ho.1 id' h2
      · have hb' : Bc g := hb
        cases sh with
        | false => simp [Bc] at hb'
        | true =>
          simp only [Bc, if_true] at hb'
          rcases hb' with hb | ⟨id, _, hid⟩
          · exact ho.2.1 hb
          · exact ho.1 id hid
  have hk0 : HOK (Ctx.cl w w M0 (nthH H0) Bc) := by
    refine ⟨fun i cs hc => ?_, fun i hc => ?_, fun i j g hi hj => ?_⟩
    · obtain ⟨id, cs0, h1, h2, rfl⟩ := hobj i cs hc
      rcases hok.has id cs0 h2 with ⟨a, b⟩ | ⟨g, cur, e, a, b, c⟩
      · exact .inl ⟨(hM0' i id h1).trans a, by rw [b]; rfl⟩
      · exact .inr ⟨g, cur, e, (hM0' i id h1).trans a, b, denP_map hdn c⟩
    · have hc' : H0[i]? = none := hc
      show (match ids[i]? with | some id => M id | none => none) = none
      have : ids[i]? = none := by
        rw [List.getElem?_eq_none_iff] at hc' ⊢
        omega
      rw [this]
    · obtain ⟨x, h1, h2⟩ := hM0 i g hi
      obtain ⟨y, h3, h4⟩ := hM0 j g hj
      have : x = y := hok.inj x y g h2 h4
      subst this
      have e1 := posL_of (k := 0) hids h1
      have e2 := posL_of (k := 0) hids h3
      rw [e1] at e2
      injection e2 with e2
      omega
  have hd : DenP (Ctx.cl w w M0 (nthH H0) Bc) cargs (args.map a.eval) := by
    rw [← hargs]
    exact denP_of_list (C := E.C M s.H w) (f := fun x => x.down ids sh F) fun x => hdn _ _ (hst.ev x)
  refine (hc w M0 Bc (args.map a.eval) hBc (by rw [← hargs]; simp) hk0 hd).mono fun e w' ⟨res, v, H', M', hq, he, hok', hden, hb⟩ => ?_
  obtain ⟨hl, hfresh, hkk⟩ := hK res H' hq
  generalize hN : news dst (H'.length - H0.length) = N at *
  have hNl : (ids ++ N).length ≤ H'.length := by
    have h1 := news_len dst (H'.length - H0.length)
    rw [hN] at h1
    have h2 : H0.length ≤ H'.length := by
      rcases Nat.lt_or_ge H'.length H0.length with h | h
      · obtain ⟨cs', h3, _⟩ := lenOk_spec hl H'.length _ (List.getElem?_eq_getElem h)
        rw [List.getElem?_eq_none (Nat.le_refl _)] at h3
        cases h3
      · exact h
    simp only [List.length_append]
    omega
  have hnd : (ids ++ N).Nodup := by
    rw [List.nodup_append]
    refine ⟨hids, hN ▸ news_nodup _ _, fun x hx y hy hxy => ?_⟩
    subst hxy
    obtain ⟨i, hi⟩ := List.getElem?_of_mem hx
    obtain ⟨cs0, h1, _⟩ := hobj' i x hi
    rw [(hfresh x hy).1] at h1
    cases h1
  -- where a name of the list comes from
  have hsplit : ∀ (i id : Nat), (ids ++ N)[i]? = some id → (i < H0.length ∧ ids[i]? = some id) ∨ (H0.length ≤ i ∧ id ∈ N) := by
    intro i id hi
    rcases Nat.lt_or_ge i ids.length with h | h
    · rw [List.getElem?_append_left h] at hi
      exact .inl ⟨by omega, hi⟩
    · rw [List.getElem?_append_right h] at hi
      exact .inr ⟨by omega, List.mem_of_getElem? hi⟩
  let M'' : Nat → Option Nat := fun id => match posL (ids ++ N) id 0 with | some i => M' i | none => M id
  have hMs : ∀ (id i : Nat), (ids ++ N)[i]? = some id → M'' id = M' i := by
    intro id i hi
    have := posL_of (k := 0) hnd hi
    show (match posL (ids ++ N) id 0 with | some i => M' i | none => M id) = _
    rw [this]; simp
  have hMn : ∀ id, posL (ids ++ N) id 0 = none → M'' id = M id := by
    intro id hi
    show (match posL (ids ++ N) id 0 with | some i => M' i | none => M id) = _
    rw [hi]
  let us := (ids ++ N).zip (H'.map (List.map (AV.up (ids ++ N) sh)))
  have hHs : ∀ (id i : Nat), (ids ++ N)[i]? = some id → ∃ cs : List AV, H'[i]? = some cs ∧ updL s.H us id = some (cs.map (AV.up (ids ++ N) sh)) := by
    intro id i hi
    have hp := posL_of (k := 0) hnd hi
    have hlt : i < H'.length := Nat.lt_of_lt_of_le (List.getElem?_eq_some_iff.1 hi).1 hNl
    refine ⟨_, List.getElem?_eq_getElem hlt, ?_⟩
    show (match hk us id with | some cs => some cs | none => s.H id) = _
    rw [hk_zip_posL _ _ id 0 (by simpa using hNl), hp]
    simp [hlt]
  have hHn : ∀ id, posL (ids ++ N) id 0 = none → updL s.H us id = s.H id := by
    intro id hi
    show (match hk us id with | some cs => some cs | none => s.H id) = _
    rw [hk_zip_posL _ _ id 0 (by simpa using hNl), hi]
    rfl
  have hpinM : ∀ (i id : Nat), ids[i]? = some id → M' i = M id := fun i id hi => by
    have hlt : i < H0.length := by rw [← hlen]; exact (List.getElem?_eq_some_iff.1 hi).1
    exact (hb.pinned i hlt).trans (hM0' i id hi)
  have hsame : ∀ g, g < w.heap.size → (∀ id, id ∈ ids → M id ≠ some g) → w'.heap[g]? = w.heap[g]? := by
    intro g hg hn
    refine hb.block g hg fun i hi hM => ?_
    obtain ⟨id, h1, h2⟩ := hM0 i g hM
    exact hn id (List.mem_of_getElem? h1) h2
  have hsz : ∀ (g : Nat) (cur : Array Value) (e : TypeId), w.heap[g]? = some (.cells cur e (0, 0)) → ∃ (cur' : Array Value) (e' : TypeId), w'.heap[g]? = some (.cells cur' e' (0, 0)) ∧ cur'.size = cur.size := by
    intro g cur e hg
    by_cases hx : ∃ i, i < H0.length ∧ M0 i = some g
    · obtain ⟨i, hi, hM⟩ := hx
      exact hb.psize i g hi hM cur e hg
    · refine ⟨cur, e, (hb.block g (lt_of_heap hg) fun i hi hM => hx ⟨i, hi, hM⟩).trans hg, rfl⟩
  have hkeeps : Keeps (E.C M s.H w) (E.C M'' (updL s.H us) w') := by
    refine ⟨fun g hg hn => hsame g hg fun id _ => hn id, fun g hg hn id hid => ?_, fun _ _ h => h, fun _ _ h => h, fun id cs hcs => ?_, fun id cs cs' hcs hcs' hll g hg cur e hcur => hsz g cur e hcur⟩
    · have hid' : M'' id = some g := hid
      cases hp : posL (ids ++ N) id 0 with
      | none => rw [hMn id hp] at hid'; exact hn id hid'
      | some i =>
        have hi := posL_zero hp
        rw [hMs id i hi] at hid'
        rcases hsplit i id hi with ⟨h1, h2⟩ | ⟨h1, h2⟩
        · rw [hpinM i id h2] at hid'; exact hn id hid'
        · have := hb.new i g h1 hid'
          have hg' : g < w.heap.size := hg
          omega
    · have hcs' : s.H id = some cs := hcs
      cases hp : posL (ids ++ N) id 0 with
      | none => exact ⟨cs, (hHn id hp).trans hcs', Nat.le_refl _, fun _ => hMn id hp⟩
      | some i =>
        have hi := posL_zero hp
        rcases hsplit i id hi with ⟨h1, h2⟩ | ⟨h1, h2⟩
        · obtain ⟨cs1, h3, h4⟩ := hHs id i hi
          obtain ⟨cs0, h5, h6⟩ := hobj' i id h2
          rw [hcs'] at h5
          injection h5 with h5
          subst h5
          obtain ⟨cs2, h7, h8⟩ := lenOk_spec hl i _ h6
          rw [h3] at h7
          injection h7 with h7
          subst h7
          refine ⟨_, h4, by simp [h8], fun _ => ?_⟩
          show M'' id = M id
          rw [hMs id i hi, hpinM i id h2]
        · rw [(hfresh id h2).1] at hcs'
          cases hcs'
  have hup : ∀ x u, Den (Ctx.cl w w' M' (nthH H') Bc) x u → Den (E.C M'' (updL s.H us) w') (x.up (ids ++ N) sh) u := by
    intro x u hxu
    refine Den.ren (C := Ctx.cl w w' M' (nthH H') Bc) (C' := E.C M'' (updL s.H us) w') hok' rfl (fun i id hi => ⟨hMs id i hi, fun cs hcs => ?_⟩) (fun id cs hi hz => by cases hz) (fun fr fr' g hf hlt ho => ?_) 5 x u hxu
    · obtain ⟨cs1, h1, h2⟩ := hHs id i hi
      have hcs' : H'[i]? = some cs := hcs
      rw [hcs'] at h1
      injection h1 with h1
      subst h1
      exact ⟨_, h2, by simp⟩
    · have hnone : fr' = true ∨ (fr' = false ∧ fr = false ∧ sh = true) := by
        cases fr <;> cases sh <;> simp [phiU] at hf <;> simp [← hf]
      have htrue : fr' = true → fr = true := fun h => by cases fr <;> cases sh <;> simp_all [phiU]
      refine ⟨fun id hid => ?_, fun hbb => ?_, fun hfr ha => ?_⟩
      · have hid' : M'' id = some g := hid
        cases hp : posL (ids ++ N) id 0 with
        | some i =>
          rw [hMs id i (posL_zero hp)] at hid'
          exact ho.1 i hid'
        | none =>
          rw [hMn id hp] at hid'
          rcases hnone with h | ⟨h1, h2, h3⟩
          · exact ho.2.2 (htrue h) (hok.lt hid')
          · refine ho.2.1 ?_
            show (if sh then E.B g ∨ ∃ id, id ∉ ids ∧ M id = some g else False)
            rw [if_pos h3]
            exact .inr ⟨id, fun hm => posL_none hp (List.mem_append_left _ hm), hid'⟩
      · rcases hnone with h | ⟨h1, h2, h3⟩
        · have h4 : g < w.heap.size := Nat.lt_of_lt_of_le (E.hB g hbb) hold.size
          exact ho.2.2 (htrue h) h4
        · refine ho.2.1 ?_
          show (if sh then E.B g ∨ ∃ id, id ∉ ids ∧ M id = some g else False)
          rw [if_pos h3]
          exact .inl hbb
      · have h4 : g < w.heap.size := Nat.lt_of_lt_of_le (E.hA g ha) hold.size
        exact ho.2.2 (htrue hfr) h4
  have hokN : HOK (E.C M'' (updL s.H us) w') := by
    refine ⟨fun id cs hcs => ?_, fun id hn => ?_, fun i j g hi hj => ?_⟩
    · have hcs' : updL s.H us id = some cs := hcs
      cases hp : posL (ids ++ N) id 0 with
      | some i =>
        have hi := posL_zero hp
        obtain ⟨cs1, h1, h2⟩ := hHs id i hi
        rw [hcs'] at h2
        injection h2 with h2
        subst h2
        rcases hok'.has i cs1 h1 with ⟨a, b⟩ | ⟨g, cur, e, a, b, c⟩
        · exact .inl ⟨(hMs id i hi).trans a, by rw [b]; rfl⟩
        · exact .inr ⟨g, cur, e, (hMs id i hi).trans a, b, denP_map hup c⟩
      | none =>
        rw [hHn id hp] at hcs'
        rcases hok.has id cs hcs' with ⟨a, b⟩ | ⟨g, cur, e, a, b, c⟩
        · exact .inl ⟨(hMn id hp).trans a, b⟩
        · refine .inr ⟨g, cur, e, (hMn id hp).trans a, (hsame g (lt_of_heap b) fun id' hm hid' => ?_).trans b, DenP.keeps hkeeps c⟩
          have : id' = id := hok.inj id' id g hid' a
          subst this
          exact posL_none hp (List.mem_append_left _ hm)
    · have hn' : updL s.H us id = none := hn
      cases hp : posL (ids ++ N) id 0 with
      | some i =>
        obtain ⟨cs1, h1, h2⟩ := hHs id i (posL_zero hp)
        rw [hn'] at h2
        cases h2
      | none =>
        rw [hHn id hp] at hn'
        exact (hMn id hp).trans (hok.no id hn')
    · have hi' : M'' i = some g := hi
      have hj' : M'' j = some g := hj
      have cross : ∀ x y k, (ids ++ N)[k]? = some x → M' k = some g → posL (ids ++ N) y 0 = none → M y = some g → False := by
        intro x y k hk hMk hpy hMy
        rcases hsplit k x hk with ⟨h1, h2⟩ | ⟨h1, h2⟩
        · rw [hpinM k x h2] at hMk
          have : x = y := hok.inj x y g hMk hMy
          subst this
          exact posL_none hpy (List.mem_of_getElem? hk)
        · have := hb.new k g h1 hMk
          have := hok.lt hMy
          omega
      cases hp : posL (ids ++ N) i 0 with
      | some x =>
        have hx := posL_zero hp
        rw [hMs i x hx] at hi'
        cases hq' : posL (ids ++ N) j 0 with
        | some y =>
          have hy := posL_zero hq'
          rw [hMs j y hy] at hj'
          have : x = y := hok'.inj x y g hi' hj'
          subst this
          rw [hx] at hy
          injection hy
        | none =>
          rw [hMn j hq'] at hj'
          exact (cross i j x hx hi' hq' hj').elim
      | none =>
        rw [hMn i hp] at hi'
        cases hq' : posL (ids ++ N) j 0 with
        | some y =>
          have hy := posL_zero hq'
          rw [hMs j y hy] at hj'
          exact (cross j i y hy hj' hp hi').elim
        | none =>
          rw [hMn j hq'] at hj'
          exact hok.inj i j g hi' hj'
  have holdN : Old E M'' w' := by
    refine ⟨hb.os.trans hold.os, hb.tape.trans hold.tape, hb.output.trans hold.output, Nat.le_trans hold.size hb.size, fun g hg hn => ?_, fun id hid => ?_, fun id g hid hg => ?_, fun id g hid hg cur e hcur => ?_⟩
    · refine (hsame g (Nat.lt_of_lt_of_le hg hold.size) fun id hm hid => ?_).trans (hold.block g hg hn)
      rcases Nat.lt_or_ge id E.pin with hpi | hpi
      · exact hn id hpi ((hold.pinned id hpi).symm.trans hid)
      · have := hold.new id g hpi hid; omega
    · cases hp' : posL (ids ++ N) id 0 with
      | none => exact (hMn id hp').trans (hold.pinned id hid)
      | some i =>
        have hi := posL_zero hp'
        rcases hsplit i id hi with ⟨h1, h2⟩ | ⟨h1, h2⟩
        · rw [hMs id i hi, hpinM i id h2]; exact hold.pinned id hid
        · have := (hfresh id h2).2; omega
    · cases hp' : posL (ids ++ N) id 0 with
      | none => rw [hMn id hp'] at hg; exact hold.new id g hid hg
      | some i =>
        have hi := posL_zero hp'
        rw [hMs id i hi] at hg
        rcases hsplit i id hi with ⟨h1, h2⟩ | ⟨h1, h2⟩
        · rw [hpinM i id h2] at hg; exact hold.new id g hid hg
        · have := hb.new i g h1 hg
          have := hold.size
          omega
    · obtain ⟨cur', e', h1, h2⟩ := hold.psize id g hid hg cur e hcur
      obtain ⟨cur2, e2, h3, h4⟩ := hsz g cur' e' h1
      exact ⟨cur2, e2, h3, h4.trans h2⟩
  have hfin : St E M'' (s.putL dst (res.up (ids ++ N) sh) us) (a.put dst v) w' := by
    have hv := hup _ _ hden
    cases dst with
    | none => exact ⟨hst.defers, hst.size, fun t => Den.keeps hkeeps (hst.slots t), hokN, holdN⟩
    | some d =>
      have hd' : d < a.tmps.size := by simpa [dstOk, hst.size] using hdst
      refine ⟨hst.defers, by simp [Act.put, hst.size], fun t => ?_, hokN, holdN⟩
      rw [getD_put a d v t hd']
      by_cases htd : t = d
      · subst htd; simp only [S.putL, upd_eq, if_true]; exact hv
      · simp only [S.putL, upd_ne _ _ _ _ htd, if_neg htd]; exact Den.keeps hkeeps (hst.slots t)
  exact ⟨M'', _, v, hkk, he, hfin⟩

end
end Vw
