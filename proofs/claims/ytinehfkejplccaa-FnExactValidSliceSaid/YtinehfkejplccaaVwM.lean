/- Regions that draw their order, whose operations make no objects and write none: one walk in the order of the text serves every order. -/
import Derived.Test.YtinehfkejplccaaVwL
import Derived.Orders
set_option linter.unusedVariables false
set_option linter.unusedSimpArgs false
namespace Vw
open Go

def AOp.operands : AOp → List Operand
  | .mv x | .box x | .load _ _ x | .un _ x | .conv _ x | .nilck x | .fld _ x | .fldv _ _ _ x | .extract x _ | .len x | .lenS x => [x]
  | .pick c a b => [c, a, b]
  | .alloc _ => []
  | .build _ ps => ps.map (·.2.2)
  | .bslice _ _ ps _ => ps.map (·.2)
  | .store _ x v | .bin _ x v | .binB _ x v | .mkslice _ _ x v | .idxA _ x v | .idxP _ _ x v | .idxS x v | .append _ x v => [x, v]
  | .slice _ x lo hi | .sliceS x lo hi => x :: (lo.toList ++ hi.toList)
  | .call _ l => l

def AOper.looks (o : AOper) : List Nat :=
  (o.op.operands.filterMap fun | .tmp t => some t | _ => none) ++ (match o.guard with | some (t, _) => [t] | none => [])

/-- Neither writes what the other looks at, or writes. -/
def AOper.apart (x y : AOper) : Bool :=
  (match x.dst with | some d => !(y.looks.contains d) && y.dst != some d | none => true) && (match y.dst with | some d => !(x.looks.contains d) | none => true)

section
variable {P : Program} {pin : Nat} {K : S → Prop} {s s' : S}

theorem arun_congr {d : Nat} {ao : AOp} (hH : s'.H = s.H) (he : ∀ x ∈ ao.operands, s'.ev x = s.ev x) : arun s' pin d ao = arun s pin d ao := by
  cases ao <;> simp only [AOp.operands] at he <;> simp only [arun, hH]
  case build zs ps =>
    rw [List.map_congr_left (l := ps) (f := fun p => (p.1, p.2.1, s'.ev p.2.2)) (g := fun p => (p.1, p.2.1, s.ev p.2.2)) fun p hp => by rw [he _ (List.mem_map.2 ⟨p, hp, rfl⟩)]]
  case bslice sz zs ps n =>
    rw [List.map_congr_left (l := ps) (f := fun p => (p.1 * sz, sz, s'.ev p.2)) (g := fun p => (p.1 * sz, sz, s.ev p.2)) fun p hp => by rw [he _ (List.mem_map.2 ⟨p, hp, rfl⟩)]]
  case slice sz x lo hi => cases lo <;> cases hi <;> simp_all
  case sliceS x lo hi => cases lo <;> cases hi <;> simp_all
  all_goals simp_all

/-- The operation can run, and yields this. -/
def qcan (P : Program) (pin : Nat) (o : AOper) (s : S) (v : AV) : Prop :=
  match o.op with
  | .call f args => ∃ r0, PCall P f (args.map fun x => (s.ev x).pass s.H) (fun r => r = r0) ∧ v = r0.tk false
  | ao => arun s pin (o.dst.getD 0) ao = some (v, none)

def qone (P : Program) (pin : Nat) (o : AOper) (K : S → Prop) (s : S) : Prop :=
  match aguard s o.guard with
  | some g => (g = true → ∃ v, qcan P pin o s v ∧ K (s.put o.dst v none)) ∧ (g = false → K (s.put o.dst .und none))
  | none => False

def qSeq (P : Program) (pin : Nat) : List AOper → (S → Prop) → S → Prop
  | [], K, s => K s
  | o :: r, K, s => qone P pin o (qSeq P pin r K) s

theorem qone_mono {o : AOper} {K' : S → Prop} (h : ∀ s, K s → K' s) (hq : qone P pin o K s) : qone P pin o K' s := by
  unfold qone at *
  split at hq
  · exact ⟨fun hg => let ⟨v, h1, h2⟩ := hq.1 hg; ⟨v, h1, h _ h2⟩, fun hg => h _ (hq.2 hg)⟩
  · exact hq

theorem ev_put {o : AOper} {x : Operand} {dst : Option Nat} {v : AV} (h : ∀ d, dst = some d → x ≠ .tmp d) : (s.put dst v none).ev x = s.ev x := by
  cases dst with
  | none => rfl
  | some d =>
    cases x with
    | tmp t =>
      have hne : t ≠ d := fun e => h d rfl (e ▸ rfl)
      simp [S.ev, S.put, upd_ne _ _ _ _ hne]
    | _ => rfl

theorem aguard_put {gd : Option (Nat × Bool)} {dst : Option Nat} {v : AV} (h : ∀ d, dst = some d → ∀ t b, gd = some (t, b) → t ≠ d) : aguard (s.put dst v none) gd = aguard s gd := by
  cases gd with
  | none => rfl
  | some tb =>
    obtain ⟨t, b⟩ := tb
    cases dst with
    | none => rfl
    | some d =>
      have hne := h d rfl t b rfl
      simp [aguard, S.put, upd_ne _ _ _ _ hne]

theorem apart_spec {x y : AOper} (h : x.apart y = true) : (∀ d, x.dst = some d → d ∉ y.looks) ∧ (∀ d, x.dst = some d → y.dst ≠ some d) ∧ (∀ d, y.dst = some d → d ∉ x.looks) := by
  refine ⟨fun d hd => ?_, fun d hd => ?_, fun d hd => ?_⟩ <;> simp [AOper.apart, hd] at h
  · exact h.1.1
  · exact h.1.2
  · exact h.2

theorem looks_op {o : AOper} {t : Nat} (h : Operand.tmp t ∈ o.op.operands) : t ∈ o.looks := by
  unfold AOper.looks
  exact List.mem_append_left _ (List.mem_filterMap.2 ⟨_, h, rfl⟩)

theorem looks_guard {o : AOper} {t : Nat} {b : Bool} (h : o.guard = some (t, b)) : t ∈ o.looks := by
  unfold AOper.looks
  rw [h]
  exact List.mem_append_right _ (by simp)

theorem qcan_put {o : AOper} {dst : Option Nat} {u v : AV} (h : ∀ d, dst = some d → d ∉ o.looks) (hq : qcan P pin o (s.put dst u none) v) : qcan P pin o s v := by
  have hH : (s.put dst u none).H = s.H := rfl
  have he : ∀ x ∈ o.op.operands, (s.put dst u none).ev x = s.ev x := fun x hx => ev_put (o := o) fun d hd he => h d hd (looks_op (he ▸ hx))
  unfold qcan at *
  cases hop : o.op
  case call f args =>
    rw [hop] at hq he
    simp only at hq ⊢
    obtain ⟨r0, h1, h2⟩ := hq
    refine ⟨r0, ?_, h2⟩
    have : (args.map fun x => ((s.put dst u none).ev x).pass (s.put dst u none).H) = args.map fun x => (s.ev x).pass s.H := List.map_congr_left fun x hx => by rw [he x hx, hH]
    rwa [this] at h1
  all_goals
    rw [hop] at hq he
    simp only at hq ⊢
    rw [arun_congr hH he] at hq
    exact hq

theorem qcan_put' {o : AOper} {dst : Option Nat} {u v : AV} (h : ∀ d, dst = some d → d ∉ o.looks) (hq : qcan P pin o s v) : qcan P pin o (s.put dst u none) v := by
  have hH : s.H = (s.put dst u none).H := rfl
  have he : ∀ x ∈ o.op.operands, s.ev x = (s.put dst u none).ev x := fun x hx => (ev_put (o := o) fun d hd he => h d hd (looks_op (he ▸ hx))).symm
  unfold qcan at *
  cases hop : o.op
  case call f args =>
    rw [hop] at hq he
    simp only at hq ⊢
    obtain ⟨r0, h1, h2⟩ := hq
    refine ⟨r0, ?_, h2⟩
    have : (args.map fun x => (s.ev x).pass s.H) = args.map fun x => ((s.put dst u none).ev x).pass (s.put dst u none).H := List.map_congr_left fun x hx => by rw [he x hx, hH]
    rwa [this] at h1
  all_goals
    rw [hop] at hq he
    simp only at hq ⊢
    rw [arun_congr hH he] at hq
    exact hq

theorem put_comm {x y : Option Nat} {u v : AV} (h : ∀ d, x = some d → y ≠ some d) : (s.put x u none).put y v none = (s.put y v none).put x u none := by
  cases x with
  | none => rfl
  | some d =>
    cases y with
    | none => rfl
    | some e =>
      have hne : d ≠ e := fun he => h d rfl (he ▸ rfl)
      simp only [S.put, updO, S.mk.injEq, and_true]
      funext t
      simp only [upd]
      by_cases h1 : t = e <;> by_cases h2 : t = d <;> simp_all

theorem qone_swap {x y : AOper} (h : x.apart y = true) (hq : qone P pin x (qone P pin y K) s) : qone P pin y (qone P pin x K) s := by
  obtain ⟨h1, h2, h3⟩ := apart_spec h
  have gy : ∀ u, aguard (s.put x.dst u none) y.guard = aguard s y.guard := fun u => aguard_put fun d hd t b ht e => h1 d hd (e ▸ looks_guard ht)
  have gx : ∀ u, aguard (s.put y.dst u none) x.guard = aguard s x.guard := fun u => aguard_put fun d hd t b ht e => h3 d hd (e ▸ looks_guard ht)
  unfold qone at hq
  split at hq
  · rename_i g hg
    -- what the second one does, wherever the first has gone
    cases g with
    | true =>
      obtain ⟨u, hu, hk⟩ := hq.1 rfl
      rw [gy] at hk
      unfold qone
      split at hk
      · rename_i g' hg'
        refine ⟨fun e => ?_, fun e => ?_⟩
        · obtain ⟨v, hv, hk'⟩ := hk.1 e
          refine ⟨v, qcan_put h1 hv, ?_⟩
          rw [gx, hg]
          exact ⟨fun _ => ⟨u, qcan_put' h3 hu, by rw [← put_comm h2]; exact hk'⟩, fun e => (by cases e)⟩
        · rw [gx, hg]
          exact ⟨fun _ => ⟨u, qcan_put' h3 hu, by rw [← put_comm h2]; exact hk.2 e⟩, fun e => (by cases e)⟩
      · exact hk.elim
    | false =>
      have hk := hq.2 rfl
      rw [gy] at hk
      unfold qone
      split at hk
      · rename_i g' hg'
        refine ⟨fun e => ?_, fun e => ?_⟩
        · obtain ⟨v, hv, hk'⟩ := hk.1 e
          refine ⟨v, qcan_put h1 hv, ?_⟩
          rw [gx, hg]
          exact ⟨fun e => (by cases e), fun _ => (by rw [← put_comm h2]; exact hk')⟩
        · rw [gx, hg]
          exact ⟨fun e => (by cases e), fun _ => (by rw [← put_comm h2]; exact hk.2 e)⟩
      · exact hk.elim
  · exact hq.elim

theorem qSeq_front : ∀ {l1 : List AOper} {x : AOper} {l2 : List AOper} {s : S}, (∀ y ∈ l1, y.apart x = true) → qSeq P pin (l1 ++ x :: l2) K s → qone P pin x (qSeq P pin (l1 ++ l2) K) s
  | [], _, _, _, _, h => h
  | y :: l1, x, l2, s, ha, h => qone_swap (ha y (by simp)) (qone_mono (fun s hs => qSeq_front (fun z hz => ha z (by simp [hz])) hs) h)


/-- One operation of the walk in any order, from the abstract step. -/
theorem qone_step {E : Env} {M : Nat → Option Nat} {a : Act} {w : World} {o : Oper} {ao : AOper} {ops : Array Oper} {K' : Act → World → Prop} {Q : Exit → Act → World → Prop} {i : Nat}
    (hi : ops[i]? = some o) (h : St E M s a w) (hl : lowOper P E.nt ops o = some ao)
    (hK : ∀ a w, Told E K a w → K' a w) (hs : qone P E.pin ao K s) : wpOp P ops Q i K' a w := by
  have hl' := hl
  unfold lowOper at hl
  split at hl
  · rename_i op gd hop hgd hd
    simp only [Option.some.injEq] at hl
    subst hl
    unfold qone at hs
    split at hs
    · rename_i g hg
      have hw := aguard_spec h hgd hg
      unfold wpOp
      rw [hi]
      simp only [hw]
      cases g with
      | true =>
        simp only [if_true]
        obtain ⟨v, hv, hk⟩ := hs.1 rfl
        refine .inl (astep_sound h hl' hK ?_)
        unfold qcan at hv
        cases op
        case call f args =>
          obtain ⟨r0, hc, rfl⟩ := hv
          simp only [astep]
          exact pcall_step hc rfl fun r hr => by rw [hr]; exact hk
        all_goals
          simp only at hv
          simp only [astep, hv]
          exact hk
      | false =>
        simp only [Bool.false_eq_true, if_false]
        exact hK _ _ ⟨M, _, h.skip hd, hs.2 rfl⟩
    · exact hs.elim
  · cases hl

/-! ### Every order -/

def nth (al : List AOper) (i : Nat) : AOper := (al[i]?).getD ⟨none, .mv (.tmp 0), none, []⟩

/-- Of two operations among the first n of which the later one need not wait for the earlier one, neither writes what the other looks at; the others wait for all ahead of them. -/
def drawOk (n : Nat) (al : List AOper) : Bool :=
  (List.range al.length).all fun i => (nth al i).after.all (fun j => decide (j < i)) && (List.range i).all fun j => (nth al i).after.contains j || (decide (i < n) && (nth al j).apart (nth al i))

theorem drawOk_spec {n : Nat} {al : List AOper} (h : drawOk n al = true) {i : Nat} (hi : i < al.length) :
    (∀ j ∈ (nth al i).after, j < i) ∧ ∀ j, j < i → j ∉ (nth al i).after → i < n ∧ (nth al j).apart (nth al i) = true := by
  have := List.all_eq_true.1 h i (List.mem_range.2 hi)
  rw [Bool.and_eq_true] at this
  refine ⟨fun j hj => by simpa using List.all_eq_true.1 this.1 j hj, fun j hj hn => ?_⟩
  have := List.all_eq_true.1 this.2 j (List.mem_range.2 hj)
  rw [Bool.or_eq_true] at this
  rcases this with h | h
  · exact absurd (by simpa using h) hn
  · simpa using h

theorem astep_mono {o : AOper} {K' : S → Prop} (h : ∀ s, K s → K' s) (hs : astep P pin o K s) : astep P pin o K' s := by
  unfold astep at *
  cases hop : o.op
  case call f args =>
    rw [hop] at hs
    intro E M a w hp hd hst
    exact (hs E M a w hp hd hst).mono fun e w' ⟨M', s', v, hk, he, h1⟩ => ⟨M', s', v, h _ hk, he, h1⟩
  all_goals
    rw [hop] at hs
    simp only at hs ⊢
    split at hs
    · rename_i r hr
      first | exact h _ hs | (rw [hr]; exact h _ hs)
    · exact hs.elim

/-- A step as in a region with one order. -/
def gstep (P : Program) (pin : Nat) (o : AOper) (K : S → Prop) (s : S) : Prop :=
  match aguard s o.guard with
  | some g => (g = true → astep P pin o K s) ∧ (g = false → K (s.put o.dst .und none))
  | none => False

def qMix (P : Program) (pin n : Nat) (al : List AOper) : List Nat → (S → Prop) → S → Prop
  | [], K, s => K s
  | i :: r, K, s => if i < n then qone P pin (nth al i) (qMix P pin n al r K) s else gstep P pin (nth al i) (qMix P pin n al r K) s

theorem qMix_front {n : Nat} {al : List AOper} {i : Nat} (hin : i < n) : ∀ {l1 l2 : List Nat} {s : S}, (∀ j ∈ l1, j < n ∧ (nth al j).apart (nth al i) = true) → qMix P pin n al (l1 ++ i :: l2) K s → qone P pin (nth al i) (qMix P pin n al (l1 ++ l2) K) s
  | [], _, _, _, h => by simpa [qMix, hin] using h
  | y :: l1, l2, s, ha, h => by
    have hy := ha y (by simp)
    simp only [List.cons_append, qMix, if_pos hy.1] at h ⊢
    exact qone_swap hy.2 (qone_mono (fun s hs => qMix_front hin (fun z hz => ha z (by simp [hz])) hs) h)

theorem qMix_of {n : Nat} : ∀ {post pre : List AOper} {s : S} {al : List AOper}, al = pre ++ post → n ≤ pre.length → aSeq P pin post K s → qMix P pin n al (List.range' pre.length post.length) K s
  | [], _, s, al, _, _, h => h
  | o :: r, pre, s, al, hal, hn, h => by
    simp only [List.length_cons, List.range'_succ, qMix]
    rw [if_neg (by omega)]
    have ho : nth al pre.length = o := by subst hal; simp [nth]
    rw [ho]
    have ih : ∀ s, aSeq P pin r K s → qMix P pin n al (List.range' (pre.length + 1) r.length) K s := fun s hs => by
      have := qMix_of (n := n) (post := r) (pre := pre ++ [o]) (s := s) (al := al) (by rw [hal]; simp) (by simp; omega) hs
      simpa using this
    simp only [aSeq] at h
    unfold gstep
    cases hg : aguard s o.guard with
    | none => rw [hg] at h; exact h.elim
    | some g =>
      rw [hg] at h
      exact ⟨fun e => astep_mono ih (h.1 e), fun e => ih _ (h.2 e)⟩

theorem qMix_of' {n : Nat} : ∀ {mid pre post : List AOper} {s : S} {al : List AOper}, al = pre ++ mid ++ post → n = pre.length + mid.length → qSeq P pin mid (aSeq P pin post K) s → qMix P pin n al (List.range' pre.length (mid.length + post.length)) K s
  | [], pre, post, s, al, hal, hn, h => by
    simpa using qMix_of (P := P) (pin := pin) (K := K) (n := n) (post := post) (pre := pre) (s := s) (al := al) (by simpa using hal) (by simp at hn; omega) h
  | o :: r, pre, post, s, al, hal, hn, h => by
    simp only [List.length_cons] at hn
    rw [List.length_cons, show r.length + 1 + post.length = (r.length + post.length) + 1 by omega, List.range'_succ]
    simp only [qMix]
    rw [if_pos (by omega)]
    have ho : nth al pre.length = o := by subst hal; simp [nth]
    rw [ho]
    refine qone_mono (fun s hs => ?_) h
    have := qMix_of' (n := n) (mid := r) (pre := pre ++ [o]) (post := post) (s := s) (al := al) (by rw [hal]; simp) (by simp; omega) hs
    simpa using this

theorem lowOpers_spec {nt : Nat} {ops : Array Oper} : ∀ {l : List Oper} {al : List AOper}, lowOpers P nt ops l = some al → al.length = l.length ∧ ∀ i o, l[i]? = some o → lowOper P nt ops o = some (nth al i)
  | [], al, h => by simp [lowOpers] at h; subst h; simp
  | x :: r, al, h => by
    simp only [lowOpers] at h
    split at h
    · rename_i y l' hy hl'
      simp only [Option.some.injEq] at h
      subst h
      obtain ⟨h1, h2⟩ := lowOpers_spec hl'
      refine ⟨by simp [h1], fun i o hi => ?_⟩
      cases i with
      | zero => simp at hi; subst hi; simpa [nth] using hy
      | succ i => simpa [nth] using h2 i o (by simpa using hi)
    · cases h

/-- Which operations are left. -/
def left (n : Nat) (listed : Array Bool) : List Nat := (List.range n).filter fun i => !listed.getD i true

theorem mem_left {n : Nat} {listed : Array Bool} {i : Nat} : i ∈ left n listed ↔ i < n ∧ listed.getD i true = false := by simp [left]

theorem getD_set_ne {listed : Array Bool} {i j : Nat} (h : j ≠ i) (d : Bool) : (listed.setIfInBounds i true).getD j d = listed.getD j d := by
  simp only [Array.getD_eq_getD_getElem?, Array.getElem?_setIfInBounds, if_neg (Ne.symm h)]

theorem getD_set_eq {listed : Array Bool} {i : Nat} : (listed.setIfInBounds i true).getD i true = true := by
  simp only [Array.getD_eq_getD_getElem?, Array.getElem?_setIfInBounds, if_pos]
  split <;> simp

theorem left_take {n : Nat} {listed : Array Bool} {i : Nat} (h : i ∈ left n listed) :
    ∃ l1 l2, left n listed = l1 ++ i :: l2 ∧ (∀ j ∈ l1, j < i ∧ listed.getD j true = false) ∧ left n (listed.setIfInBounds i true) = l1 ++ l2 := by
  obtain ⟨hi, hf⟩ := mem_left.1 h
  have hr : List.range n = List.range i ++ i :: List.range' (i + 1) (n - i - 1) := by
    rw [List.range_eq_range', List.range_eq_range', show n = i + ((n - i - 1) + 1) by omega, ← List.range'_append_1, List.range'_succ]
    simp
  refine ⟨(List.range i).filter fun j => !listed.getD j true, (List.range' (i + 1) (n - i - 1)).filter fun j => !listed.getD j true, ?_, fun j hj => ?_, ?_⟩
  · unfold left
    rw [hr, List.filter_append, List.filter_cons, if_pos (by rw [hf]; rfl)]
  · simpa using hj
  · unfold left
    rw [hr, List.filter_append, List.filter_cons, if_neg (by rw [getD_set_eq]; simp)]
    congr 1
    · exact List.filter_congr fun j hj => by rw [getD_set_ne (by have := List.mem_range.1 hj; omega)]
    · exact List.filter_congr fun j hj => by rw [getD_set_ne (by have := (List.mem_range'_1.1 hj).1; omega)]

theorem mem_ready {nt : Nat} {ops : Array Oper} {al : List AOper} {listed : Array Bool} (hl : lowOpers P nt ops ops.toList = some al) {i : Nat} :
    i ∈ Region.ready .any ops listed ↔ i ∈ left ops.size listed ∧ ∀ j ∈ (nth al i).after, listed.getD j false = true := by
  obtain ⟨h1, h2⟩ := lowOpers_spec hl
  simp only [Region.ready, left, List.mem_filter, List.mem_range, Bool.and_eq_true, Bool.not_eq_true']
  constructor
  · rintro ⟨hi, hf, ha⟩
    refine ⟨⟨hi, hf⟩, fun j hj => ?_⟩
    have ho : ops.toList[i]? = some ops[i] := by simp [hi]
    have hlo := h2 i _ ho
    unfold lowOper at hlo
    split at hlo
    · simp only [Option.some.injEq] at hlo
      rw [← hlo] at hj
      simp only [List.mem_map, List.mem_filter] at hj
      obtain ⟨e, ⟨he, hb⟩, rfl⟩ := hj
      rw [Array.getElem?_eq_getElem hi] at ha
      simp only [Option.map_some, Option.getD_some] at ha
      have := Array.all_eq_true_iff_forall_mem.1 ha e (by simpa using he)
      simpa [hb] using this
    · cases hlo
  · rintro ⟨⟨hi, hf⟩, ha⟩
    refine ⟨hi, hf, ?_⟩
    have ho : ops.toList[i]? = some ops[i] := by simp [hi]
    have hlo := h2 i _ ho
    unfold lowOper at hlo
    split at hlo
    · simp only [Option.some.injEq] at hlo
      rw [Array.getElem?_eq_getElem hi]
      simp only [Option.map_some, Option.getD_some]
      refine Array.all_eq_true_iff_forall_mem.2 fun e he => ?_
      cases hb : Region.binds .any e with
      | false => simp
      | true =>
        simp only [Bool.not_true, Bool.false_or]
        refine ha _ ?_
        rw [← hlo]
        simp only [List.mem_map, List.mem_filter]
        exact ⟨e, ⟨by simpa using he, hb⟩, rfl⟩
    · cases hlo

theorem ready_none {n nt : Nat} {ops : Array Oper} {al : List AOper} {listed : Array Bool} (hl : lowOpers P nt ops ops.toList = some al) (hok : drawOk n al = true) (hsz : listed.size = ops.size)
    (hr : Region.ready .any ops listed = []) : left ops.size listed = [] := by
  obtain ⟨h1, h2⟩ := lowOpers_spec hl
  cases hc : left ops.size listed with
  | nil => rfl
  | cons x r =>
    have hx : x ∈ left ops.size listed := by rw [hc]; simp
    obtain ⟨l1, l2, h3, h4, _⟩ := left_take hx
    have hnil : ∀ j, j < x → listed.getD j true = true := by
      intro j hj
      cases hg : listed.getD j true with
      | true => rfl
      | false =>
        have hm : j ∈ left ops.size listed := mem_left.2 ⟨by have := (mem_left.1 hx).1; omega, hg⟩
        obtain ⟨m1, m2, h5, h6, _⟩ := left_take hm
        rw [hc] at h5
        cases m1 with
        | nil => simp at h5; omega
        | cons y m1 => simp at h5; have := (h6 y (by simp)).1; omega
    have : x ∈ Region.ready .any ops listed := (mem_ready hl).2 ⟨hx, fun j hj => by
      have hjx := (drawOk_spec hok (by rw [h1]; simpa using (mem_left.1 hx).1)).1 j hj
      have := hnil j hjx
      have hlt : j < listed.size := by have := (mem_left.1 hx).1; omega
      simpa [Array.getD_eq_getD_getElem?, hlt] using this⟩
    rw [hr] at this
    cases this

/-- One operation in its place, from the abstract step. -/
theorem gstep_step {E : Env} {M : Nat → Option Nat} {a : Act} {w : World} {o : Oper} {ao : AOper} {ops : Array Oper} {K' : Act → World → Prop} {Q : Exit → Act → World → Prop} {i : Nat}
    (hi : ops[i]? = some o) (h : St E M s a w) (hl : lowOper P E.nt ops o = some ao)
    (hK : ∀ a w, Told E K a w → K' a w) (hs : gstep P E.pin ao K s) : wpOp P ops Q i K' a w := by
  have hl' := hl
  unfold lowOper at hl
  split at hl
  · rename_i op gd hop hgd hd
    simp only [Option.some.injEq] at hl
    subst hl
    unfold gstep at hs
    split at hs
    · rename_i g hg
      have hw := aguard_spec h hgd hg
      unfold wpOp
      rw [hi]
      simp only [hw]
      cases g with
      | true =>
        simp only [if_true]
        exact .inl (astep_sound h hl' hK (hs.1 rfl))
      | false =>
        simp only [Bool.false_eq_true, if_false]
        exact hK _ _ ⟨M, _, h.skip hd, hs.2 rfl⟩
    · exact hs.elim
  · cases hl

theorem qAny {n : Nat} {E : Env} {ops : Array Oper} {al : List AOper} {Q : Exit → Act → World → Prop} (hl : lowOpers P E.nt ops ops.toList = some al) (hok : drawOk n al = true)
    (hQ : ∀ a w, Told E K a w → Q .normal a w) : ∀ (fuel : Nat) (listed : Array Bool) (M : Nat → Option Nat) (s : S) (a : Act) (w : World), listed.size = ops.size → (left ops.size listed).length ≤ fuel → St E M s a w →
    qMix P E.pin n al (left ops.size listed) K s → wpAny P .any ops Q fuel listed a w
  | 0, listed, M, s, a, w, hsz, hf, h, hs => by
    have hnil : left ops.size listed = [] := List.eq_nil_of_length_eq_zero (Nat.le_zero.1 hf)
    rw [hnil] at hs
    refine ⟨?_, hQ _ _ ⟨M, s, h, hs⟩⟩
    refine List.eq_nil_iff_forall_not_mem.2 fun i hi => ?_
    have := ((mem_ready hl).1 hi).1
    rw [hnil] at this
    cases this
  | fuel + 1, listed, M, s, a, w, hsz, hf, h, hs => by
    refine ⟨fun hr => ?_, fun i hi => ?_⟩
    · rw [ready_none hl hok hsz hr] at hs
      exact hQ _ _ ⟨M, s, h, hs⟩
    · obtain ⟨h1, h2⟩ := lowOpers_spec hl
      obtain ⟨hil, hia⟩ := (mem_ready hl).1 hi
      obtain ⟨l1, l2, h3, h4, h5⟩ := left_take hil
      have hin := (mem_left.1 hil).1
      have hap : ∀ j ∈ l1, i < n ∧ (nth al j).apart (nth al i) = true := fun j hj => by
        refine (drawOk_spec hok (by rw [h1]; simpa using hin)).2 j (h4 j hj).1 fun hja => ?_
        have hja' := hia j hja
        have hlt : j < listed.size := by have := (h4 j hj).1; omega
        have h6 := (h4 j hj).2
        simp [Array.getD_eq_getD_getElem?, hlt] at hja' h6
        rw [hja'] at h6
        cases h6
      have ho : ops[i]? = some ops[i] := by simp [hin]
      have next : ∀ a' w', Told E (qMix P E.pin n al (l1 ++ l2) K) a' w' → wpAny P .any ops Q fuel (listed.setIfInBounds i true) a' w' := fun a' w' ⟨M', s', hst, hk⟩ => by
        refine qAny hl hok hQ fuel _ M' s' a' w' (by simpa using hsz) ?_ hst ?_
        · rw [h5]
          rw [h3] at hf
          simp at hf ⊢
          omega
        · rw [h5]
          exact hk
      rw [h3] at hs
      by_cases hn : i < n
      · exact qone_step ho h (h2 i _ (by simp [hin])) next (qMix_front hn (fun j hj => ⟨by have := (h4 j hj).1; omega, (hap j hj).2⟩) hs)
      · cases l1 with
        | cons j l1 => exact absurd (hap j (by simp)).1 hn
        | nil =>
          simp only [List.nil_append, qMix, if_neg hn] at hs
          exact gstep_step ho h (h2 i _ (by simp [hin])) next hs

theorem St.drawn {E : Env} {M : Nat → Option Nat} {a : Act} {w : World} (h : St E M s a w) (n : Nat) : St E M s a { w with drawn := n } := by
  have t : Tr E M s.H w M s.H { w with drawn := n } := Tr.same h.hok h.old rfl rfl rfl rfl
  exact ⟨h.defers, h.size, fun t' => Den.keeps t.keeps (h.slots t'), t.hok, t.old⟩

theorem left_all (n : Nat) : left n (Array.replicate n false) = List.range n := by
  unfold left
  rw [List.filter_eq_self]
  intro i hi
  have : i < n := List.mem_range.1 hi
  simp [Array.getD_eq_getD_getElem?, this]

/-- A REGION THAT DRAWS ITS ORDER: the walk in the order of the text serves. -/
theorem awp_draw {Q : Exit → S → Prop} {mid post : List AOper} (hm : P.follows .mixedOrders = true) (hok : drawOk mid.length (mid ++ post) = true) (h : qSeq P pin mid (aSeq P pin post (Q .normal)) s) : awp P pin (.draw (mid ++ post)) Q s := by
  intro E M a w cc hp hl hs
  subst hp
  cases cc <;> simp only [lowCode] at hl <;> first
    | (exfalso; first | (simp at hl; done) | ((repeat' (split at hl)) <;> simp at hl; done) | (simp only [Option.map_eq_some_iff] at hl; obtain ⟨_, _, hl⟩ := hl; (try split at hl) <;> simp at hl; done))
    | skip
  rename_i id os dr
  simp only [Option.map_eq_some_iff] at hl
  obtain ⟨l, hl1, hl2⟩ := hl
  cases dr with
  | false => simp at hl2
  | true =>
    simp only [if_true, ACode.draw.injEq] at hl2
    subst hl2
    have hlen : mid.length + post.length = os.size := by simpa using (lowOpers_spec hl1).1
    refine wp_region_any hm (qAny hl1 hok (fun a w h => h) os.size _ M s a _ (by simp) (by simp [left_all]) (hs.drawn _) ?_)
    rw [left_all, ← hlen, List.range_eq_range']
    exact qMix_of' (pre := []) (mid := mid) (post := post) (by simp) (by simp) h

/-! ### The equations for simp -/

def bindQ (P : Program) (pin : Nat) (K : S → Prop) (r : Res) (dst : Option Nat) (l : List AOper) (s : S) : Prop := match r with | some (v, none) => qSeq P pin l K (s.put dst v none) | _ => False
theorem bindQ_some (v : AV) (dst : Option Nat) (l : List AOper) (s : S) : bindQ P pin K (some (v, none)) dst l s = qSeq P pin l K (s.put dst v none) := rfl
def qIf (P : Program) (pin : Nat) (K : S → Prop) (g : Bool) (o : AOper) (l : List AOper) (s : S) : Prop := (g = true → qSeq P pin (o :: l) K s) ∧ (g = false → qSeq P pin l K (s.put o.dst .und none))
theorem qIf_true (o : AOper) (l : List AOper) (s : S) : qIf P pin K true o l s = qSeq P pin (o :: l) K s := by simp [qIf]
theorem qIf_false (dst : Option Nat) (op : AOp) (gd : Option (Nat × Bool)) (af : List Nat) (l : List AOper) (s : S) : qIf P pin K false ⟨dst, op, gd, af⟩ l s = qSeq P pin l K (s.put dst .und none) := by simp [qIf]
theorem qIf_split {g : Bool} {o : AOper} {l : List AOper} {s : S} (h1 : g = true → qSeq P pin (o :: l) K s) (h2 : g = false → qSeq P pin l K (s.put o.dst .und none)) : qIf P pin K g o l s := ⟨h1, h2⟩
def bindH (P : Program) (pin : Nat) (K : S → Prop) (r : Option Bool) (o : AOper) (l : List AOper) (s : S) : Prop := match r with | some g => qIf P pin K g o l s | none => False
theorem bindH_some (g : Bool) (o : AOper) (l : List AOper) (s : S) : bindH P pin K (some g) o l s = qIf P pin K g o l s := rfl

theorem qSeq_nil (s : S) : qSeq P pin [] K s = K s := rfl
theorem qSeq_nilA (l : List AOper) (s : S) : qSeq P pin [] (aSeq P pin l K) s = aSeq P pin l K s := rfl
theorem qSeq_guard (dst : Option Nat) (op : AOp) (t : Nat) (b : Bool) (af : List Nat) (r : List AOper) (s : S) :
    qSeq P pin (⟨dst, op, some (t, b), af⟩ :: r) K s = bindH P pin K (aguard s (some (t, b))) ⟨dst, op, none, af⟩ r s := by
  simp only [qSeq, qone]
  cases aguard s (some (t, b)) with
  | none => rfl
  | some g => simp [bindH, qIf, qSeq, qone, aguard, qcan]

def qCall (P : Program) (pin : Nat) (f : Nat) (args : List Operand) (dst : Option Nat) (r : List AOper) (K : S → Prop) (s : S) : Prop :=
  qone P pin ⟨dst, .call f args, none, []⟩ (qSeq P pin r K) s
theorem qSeq_call (dst : Option Nat) (f : Nat) (args : List Operand) (af : List Nat) (r : List AOper) (s : S) :
    qSeq P pin (⟨dst, .call f args, none, af⟩ :: r) K s = qCall P pin f args dst r K s := rfl

/-- A CALL IN A REGION THAT DRAWS: the callee's contract names one answer. -/
theorem qcall_step {f : Nat} {cargs : List AV} {r0 : AV} {args : List Operand} {dst : Option Nat} {r : List AOper} (hc : PCall P f cargs (fun x => x = r0)) (hargs : args.map (fun x => (s.ev x).pass s.H) = cargs)
    (hK : qSeq P pin r K (s.put dst (r0.tk false) none)) : qCall P pin f args dst r K s := by
  unfold qCall qone
  simp only [aguard]
  exact ⟨fun _ => ⟨_, ⟨r0, by rw [hargs]; exact hc, rfl⟩, hK⟩, fun h => (by cases h)⟩

theorem bindQ_eq (ao : AOp) (dst : Option Nat) (af : List Nat) (r : List AOper) (s : S) (hn : ∀ f l, ao ≠ .call f l) :
    qSeq P pin (⟨dst, ao, none, af⟩ :: r) K s = bindQ P pin K (arun s pin (dst.getD 0) ao) dst r s := by
  have hq : ∀ v, qcan P pin ⟨dst, ao, none, af⟩ s v = (arun s pin (dst.getD 0) ao = some (v, none)) := fun v => by
    unfold qcan
    cases ao
    case call f l => exact absurd rfl (hn f l)
    all_goals rfl
  simp only [qSeq, qone, aguard, forall_const, Bool.true_eq_false, false_implies, and_true, hq]
  generalize arun s pin (dst.getD 0) ao = z
  unfold bindQ
  refine propext ⟨fun ⟨v, h1, h2⟩ => by rw [h1]; exact h2, fun h => ?_⟩
  split at h
  · exact ⟨_, rfl, h⟩
  · exact h.elim
theorem qSeq_mv (x : Operand) (dst : Option Nat) (af : List Nat) (r : List AOper) (s : S) :
    qSeq P pin (⟨dst, .mv x, none, af⟩ :: r) K s = bindQ P pin K (arun s pin (dst.getD 0) (.mv x)) dst r s := bindQ_eq _ _ _ _ _ fun _ _ h => (by cases h)
theorem qSeq_pick (c x y : Operand) (dst : Option Nat) (af : List Nat) (r : List AOper) (s : S) :
    qSeq P pin (⟨dst, .pick c x y, none, af⟩ :: r) K s = bindQ P pin K (arun s pin (dst.getD 0) (.pick c x y)) dst r s := bindQ_eq _ _ _ _ _ fun _ _ h => (by cases h)
theorem qSeq_box (x : Operand) (dst : Option Nat) (af : List Nat) (r : List AOper) (s : S) :
    qSeq P pin (⟨dst, .box x, none, af⟩ :: r) K s = bindQ P pin K (arun s pin (dst.getD 0) (.box x)) dst r s := bindQ_eq _ _ _ _ _ fun _ _ h => (by cases h)
theorem qSeq_build (zs : List Value) (ps : List (Nat × Nat × Operand)) (dst : Option Nat) (af : List Nat) (r : List AOper) (s : S) :
    qSeq P pin (⟨dst, .build zs ps, none, af⟩ :: r) K s = bindQ P pin K (arun s pin (dst.getD 0) (.build zs ps)) dst r s := bindQ_eq _ _ _ _ _ fun _ _ h => (by cases h)
theorem qSeq_load (g : Bool) (sz : Nat) (x : Operand) (dst : Option Nat) (af : List Nat) (r : List AOper) (s : S) :
    qSeq P pin (⟨dst, .load g sz x, none, af⟩ :: r) K s = bindQ P pin K (arun s pin (dst.getD 0) (.load g sz x)) dst r s := bindQ_eq _ _ _ _ _ fun _ _ h => (by cases h)
theorem qSeq_bin (o : BinOp) (x y : Operand) (dst : Option Nat) (af : List Nat) (r : List AOper) (s : S) :
    qSeq P pin (⟨dst, .bin o x y, none, af⟩ :: r) K s = bindQ P pin K (arun s pin (dst.getD 0) (.bin o x y)) dst r s := bindQ_eq _ _ _ _ _ fun _ _ h => (by cases h)
theorem qSeq_binB (o : BinOp) (x y : Operand) (dst : Option Nat) (af : List Nat) (r : List AOper) (s : S) :
    qSeq P pin (⟨dst, .binB o x y, none, af⟩ :: r) K s = bindQ P pin K (arun s pin (dst.getD 0) (.binB o x y)) dst r s := bindQ_eq _ _ _ _ _ fun _ _ h => (by cases h)
theorem qSeq_un (o : UnOp) (x : Operand) (dst : Option Nat) (af : List Nat) (r : List AOper) (s : S) :
    qSeq P pin (⟨dst, .un o x, none, af⟩ :: r) K s = bindQ P pin K (arun s pin (dst.getD 0) (.un o x)) dst r s := bindQ_eq _ _ _ _ _ fun _ _ h => (by cases h)
theorem qSeq_conv (k : IntKind) (x : Operand) (dst : Option Nat) (af : List Nat) (r : List AOper) (s : S) :
    qSeq P pin (⟨dst, .conv k x, none, af⟩ :: r) K s = bindQ P pin K (arun s pin (dst.getD 0) (.conv k x)) dst r s := bindQ_eq _ _ _ _ _ fun _ _ h => (by cases h)
theorem qSeq_nilck (x : Operand) (dst : Option Nat) (af : List Nat) (r : List AOper) (s : S) :
    qSeq P pin (⟨dst, .nilck x, none, af⟩ :: r) K s = bindQ P pin K (arun s pin (dst.getD 0) (.nilck x)) dst r s := bindQ_eq _ _ _ _ _ fun _ _ h => (by cases h)
theorem qSeq_slice (sz : Nat) (x : Operand) (lo hi : Option Operand) (dst : Option Nat) (af : List Nat) (r : List AOper) (s : S) :
    qSeq P pin (⟨dst, .slice sz x lo hi, none, af⟩ :: r) K s = bindQ P pin K (arun s pin (dst.getD 0) (.slice sz x lo hi)) dst r s := bindQ_eq _ _ _ _ _ fun _ _ h => (by cases h)
theorem qSeq_sliceS (x : Operand) (lo hi : Option Operand) (dst : Option Nat) (af : List Nat) (r : List AOper) (s : S) :
    qSeq P pin (⟨dst, .sliceS x lo hi, none, af⟩ :: r) K s = bindQ P pin K (arun s pin (dst.getD 0) (.sliceS x lo hi)) dst r s := bindQ_eq _ _ _ _ _ fun _ _ h => (by cases h)
theorem qSeq_fld (o : Nat) (x : Operand) (dst : Option Nat) (af : List Nat) (r : List AOper) (s : S) :
    qSeq P pin (⟨dst, .fld o x, none, af⟩ :: r) K s = bindQ P pin K (arun s pin (dst.getD 0) (.fld o x)) dst r s := bindQ_eq _ _ _ _ _ fun _ _ h => (by cases h)
theorem qSeq_fldv (g : Bool) (o sz : Nat) (x : Operand) (dst : Option Nat) (af : List Nat) (r : List AOper) (s : S) :
    qSeq P pin (⟨dst, .fldv g o sz x, none, af⟩ :: r) K s = bindQ P pin K (arun s pin (dst.getD 0) (.fldv g o sz x)) dst r s := bindQ_eq _ _ _ _ _ fun _ _ h => (by cases h)
theorem qSeq_idxA (sz : Nat) (x i : Operand) (dst : Option Nat) (af : List Nat) (r : List AOper) (s : S) :
    qSeq P pin (⟨dst, .idxA sz x i, none, af⟩ :: r) K s = bindQ P pin K (arun s pin (dst.getD 0) (.idxA sz x i)) dst r s := bindQ_eq _ _ _ _ _ fun _ _ h => (by cases h)
theorem qSeq_idxP (sz n : Nat) (x i : Operand) (dst : Option Nat) (af : List Nat) (r : List AOper) (s : S) :
    qSeq P pin (⟨dst, .idxP sz n x i, none, af⟩ :: r) K s = bindQ P pin K (arun s pin (dst.getD 0) (.idxP sz n x i)) dst r s := bindQ_eq _ _ _ _ _ fun _ _ h => (by cases h)
theorem qSeq_idxS (x i : Operand) (dst : Option Nat) (af : List Nat) (r : List AOper) (s : S) :
    qSeq P pin (⟨dst, .idxS x i, none, af⟩ :: r) K s = bindQ P pin K (arun s pin (dst.getD 0) (.idxS x i)) dst r s := bindQ_eq _ _ _ _ _ fun _ _ h => (by cases h)
theorem qSeq_extract (x : Operand) (i : Nat) (dst : Option Nat) (af : List Nat) (r : List AOper) (s : S) :
    qSeq P pin (⟨dst, .extract x i, none, af⟩ :: r) K s = bindQ P pin K (arun s pin (dst.getD 0) (.extract x i)) dst r s := bindQ_eq _ _ _ _ _ fun _ _ h => (by cases h)
theorem qSeq_len (x : Operand) (dst : Option Nat) (af : List Nat) (r : List AOper) (s : S) :
    qSeq P pin (⟨dst, .len x, none, af⟩ :: r) K s = bindQ P pin K (arun s pin (dst.getD 0) (.len x)) dst r s := bindQ_eq _ _ _ _ _ fun _ _ h => (by cases h)
theorem qSeq_lenS (x : Operand) (dst : Option Nat) (af : List Nat) (r : List AOper) (s : S) :
    qSeq P pin (⟨dst, .lenS x, none, af⟩ :: r) K s = bindQ P pin K (arun s pin (dst.getD 0) (.lenS x)) dst r s := bindQ_eq _ _ _ _ _ fun _ _ h => (by cases h)
theorem innL_ints (p : Nat → Bool) (k : IntKind) (xs : List Int) : innL p (xs.map (AV.int k)) = true := by
  induction xs with
  | nil => rfl
  | cons x r ih => simp [innL, AV.inn, ih]

theorem innL_append (p : Nat → Bool) (xs ys : List AV) : innL p (xs ++ ys) = (innL p xs && innL p ys) := by
  induction xs with
  | nil => simp [innL]
  | cons x r ih => simp [innL, ih, Bool.and_assoc]

attribute [push_cast] bindQ_some qIf_true qIf_false bindH_some qSeq_nil qSeq_guard qSeq_call qSeq_mv qSeq_pick qSeq_box qSeq_build qSeq_load qSeq_bin qSeq_binB qSeq_un qSeq_conv qSeq_nilck qSeq_slice qSeq_sliceS qSeq_fld qSeq_fldv qSeq_idxA qSeq_idxP qSeq_idxS qSeq_extract qSeq_len qSeq_lenS

end
end Vw
