/- Regions that draw their order: one walk in the order of the text serves every order. Their operations read a heap that is fixed when the region begins; some make new objects; calls (which keep their order) may write the objects of a list. -/
import Derived.Test.YtodfknmnhlaiaaaCVwP
import Derived.Orders
set_option linter.unusedVariables false
set_option linter.unusedSimpArgs false
namespace Vw
open Go

def AOp.operands : AOp → List Operand
  | .mv x | .box x | .load _ _ x | .un _ x | .conv _ x | .nilck x | .fld _ x | .fldv _ _ _ x | .extract x _ | .len x | .lenS x | .isnil _ x => [x]
  | .pick c a b => [c, a, b]
  | .alloc _ => []
  | .build _ ps => ps.map (·.2.2)
  | .bslice _ _ ps _ => ps.map (·.2)
  | .blit _ _ ps _ => ps.map (·.2)
  | .store _ x v | .bin _ x v | .binB _ x v | .mkslice _ _ x v | .idxA _ x v | .idxP _ _ x v | .idxS x v | .append _ x v | .minmax _ x v | .eqS _ _ x v => [x, v]
  | .slice _ x lo hi | .sliceS x lo hi | .sliceP _ _ x lo hi => x :: (lo.toList ++ hi.toList)
  | .call _ l => l

def AOp.isCall : AOp → Bool
  | .call .. => true
  | .store .. => true
  | .append .. => true
  | .bslice _ _ _ 0 => true
  | _ => false

/-- Marks: an operation whose slot is marked looks at the objects that a region may write, and keeps its place among those that write. -/
def mkB : Nat := 1000000000
def isMk : List Nat → Option Nat → Bool
  | [], _ => false
  | _ :: _, none => false
  | z :: r, some d => if z = mkB + d then true else isMk r (some d)

def AOper.looks (o : AOper) : List Nat :=
  (o.op.operands.filterMap fun | .tmp t => some t | _ => none) ++ (match o.guard with | some (t, _) => [t] | none => [])

def AOper.callish (Z : List Nat) (o : AOper) : Bool := o.op.isCall || isMk Z o.dst

/-- Neither writes what the other looks at, or writes; they are not both calls. -/
def AOper.apart (Z : List Nat) (x y : AOper) : Bool :=
  (match x.dst with | some d => !(y.looks.contains d) && y.dst != some d | none => true) && (match y.dst with | some d => !(x.looks.contains d) | none => true) && !(x.callish Z && y.callish Z)

section
variable {P : Program} {pin : Nat} {F : Nat → Option (List AV)} {Z : List Nat} {K : S → Prop} {s s' : S}

theorem arun_congr {d : Nat} {ao : AOp} (hH : s'.H = s.H) (he : ∀ x ∈ ao.operands, s'.ev x = s.ev x) : arun s' pin d ao = arun s pin d ao := by
  cases ao <;> simp only [AOp.operands] at he <;> simp only [arun, hH]
  case build zs ps =>
    rw [List.map_congr_left (l := ps) (f := fun p => (p.1, p.2.1, s'.ev p.2.2)) (g := fun p => (p.1, p.2.1, s.ev p.2.2)) fun p hp => by rw [he _ (List.mem_map.2 ⟨p, hp, rfl⟩)]]
  case bslice sz zs ps n =>
    rw [List.map_congr_left (l := ps) (f := fun p => (p.1 * sz, sz, s'.ev p.2)) (g := fun p => (p.1 * sz, sz, s.ev p.2)) fun p hp => by rw [he _ (List.mem_map.2 ⟨p, hp, rfl⟩)]]
  case blit sz zs ps n =>
    rw [List.map_congr_left (l := ps) (f := fun p => (p.1 * sz, sz, s'.ev p.2)) (g := fun p => (p.1 * sz, sz, s.ev p.2)) fun p hp => by rw [he _ (List.mem_map.2 ⟨p, hp, rfl⟩)]]
  case slice sz x lo hi => cases lo <;> cases hi <;> simp_all
  case sliceS x lo hi => cases lo <;> cases hi <;> simp_all
  case sliceP sz n x lo hi => cases lo <;> cases hi <;> simp_all
  all_goals simp_all

theorem ev_H (σ : Nat → AV) (H H' : Nat → Option (List AV)) (x : Operand) : S.ev ⟨σ, H⟩ x = S.ev ⟨σ, H'⟩ x := by cases x <;> rfl

theorem loadAV_mono {F H : Nat → Option (List AV)} (h : ∀ id cs, F id = some cs → H id = some cs) {agg : Bool} {sz : Nat} {x y : AV} (hl : loadAV F agg sz x = some y) : loadAV H agg sz x = some y := by
  cases x <;> simp only [loadAV] at hl ⊢ <;> try exact hl
  rename_i id len off
  cases hf : F id with
  | none => rw [hf] at hl; cases hl
  | some cs => rw [hf] at hl; rw [h id cs hf]; exact hl

theorem rd_mono {F H : Nat → Option (List AV)} (h : ∀ id cs, F id = some cs → H id = some cs) {x : AV} {y : List AV × Nat} (hl : rd F x = some y) : rd H x = some y := by
  unfold rd at hl ⊢
  split at hl
  · exact hl
  · rename_i id n sz
    cases hf : F id with
    | none => rw [hf] at hl; cases hl
    | some cs => rw [hf] at hl; rw [h id cs hf]; exact hl
  · rename_i id len off n sz
    cases hf : F id with
    | none => rw [hf] at hl; cases hl
    | some cs => rw [hf] at hl; rw [h id cs hf]; exact hl
  · exact hl
  · cases hl

/-- More heap, the same yield: where what is made is not there yet. -/
theorem arun_mono {σ : Nat → AV} {F H : Nat → Option (List AV)} (h : ∀ id cs, F id = some cs → H id = some cs) {d : Nat} {ao : AOp} {v : AV} {u : Option (Nat × List AV)}
    (hr : arun ⟨σ, F⟩ pin d ao = some (v, u)) (hu : ∀ id cs, u = some (id, cs) → H id = none ∨ F id ≠ none) : arun ⟨σ, H⟩ pin d ao = some (v, u) := by
  have hev : ∀ x, S.ev ⟨σ, F⟩ x = S.ev ⟨σ, H⟩ x := ev_H σ F H
  cases ao <;> simp only [arun, hev] at hr ⊢ <;> try exact hr
  case alloc zs =>
    split at hr
    · rename_i hc
      simp only [Option.some.injEq, Prod.mk.injEq] at hr
      have h1 := (hu _ _ hr.2.symm).resolve_right (fun h => h (by simpa using hc.1))
      rw [if_pos ⟨by rw [h1]; rfl, hc.2⟩]
      simp [hr.1, hr.2]
    · cases hr
  case box x =>
    split at hr
    · split at hr
      · rename_i hc
        simp only [Option.some.injEq, Prod.mk.injEq] at hr
        have h1 := (hu _ _ hr.2.symm).resolve_right (fun h => h (by simpa using hc.1))
        rw [if_pos ⟨by rw [h1]; rfl, hc.2⟩]
        simp [hr.1, hr.2]
      · cases hr
    · cases hr
  case bslice sz zs ps n =>
    split at hr
    · rename_i hc
      have hr' := hr
      simp only [Option.map_eq_some_iff, Prod.mk.injEq] at hr'
      obtain ⟨cs, h0, h2, h3⟩ := hr'
      have h1 := (hu _ _ h3.symm).resolve_right (fun h => h (by simpa using hc.1))
      rw [if_pos ⟨by rw [h1]; rfl, hc.2⟩]
      exact hr
    · cases hr
  case load agg sz x =>
    unfold pureR at hr ⊢
    simp only [Option.map_eq_some_iff] at hr ⊢
    obtain ⟨y, h1, h2⟩ := hr
    exact ⟨y, loadAV_mono h h1, h2⟩
  case store sz x y =>
    split at hr
    · rename_i id len off hx
      cases hf : F id with
      | none => rw [hf] at hr; cases hr
      | some cs => rw [hf] at hr; rw [h id cs hf]; exact hr
    · cases hr
  case nilck x =>
    split at hr
    · rename_i id len off hx
      cases hf : F id with
      | none => rw [hf] at hr; cases hr
      | some cs => rw [hf] at hr; rw [h id cs hf]; exact hr
    · exact hr
    · cases hr
  case mkslice sz zs l c =>
    split at hr
    · split at hr
      · rename_i hc
        simp only [Option.some.injEq, Prod.mk.injEq] at hr
        have h1 := (hu _ _ hr.2.symm).resolve_right (fun h => h (by simpa using hc.1))
        rw [if_pos ⟨by rw [h1]; rfl, hc.2⟩]
        simp [hr.1, hr.2]
      · cases hr
    · cases hr
  case fld off x =>
    split at hr
    · rename_i id len o hx
      cases hf : F id with
      | none => rw [hf] at hr; cases hr
      | some cs => rw [hf] at hr; rw [h id cs hf]; exact hr
    · exact hr
    · cases hr
  case idxA sz x i =>
    split at hr
    · split at hr
      · exact hr
      · rename_i id n sz' hx
        cases hf : F id with
        | none => rw [hf] at hr; cases hr
        | some cs => rw [hf] at hr; rw [h id cs hf]; exact hr
      · rename_i id len off n sz' hx
        cases hf : F id with
        | none => rw [hf] at hr; cases hr
        | some cs => rw [hf] at hr; rw [h id cs hf]; exact hr
      · cases hr
    · cases hr
  case idxP sz n x i =>
    split at hr
    · split at hr
      · rename_i id len o hx
        cases hf : F id with
        | none => rw [hf] at hr; cases hr
        | some cs => rw [hf] at hr; rw [h id cs hf]; exact hr
      · cases hr
    · cases hr
  case slice sz x lo hi =>
    have hm : ∀ y : Option Operand, y.map (S.ev ⟨σ, F⟩) = y.map (S.ev ⟨σ, H⟩) := fun y => by cases y <;> simp [hev]
    rw [hm lo, hm hi] at hr
    split at hr
    · exact hr
    · rename_i id n sz' hx
      cases hf : F id with
      | none => rw [hf] at hr; cases hr
      | some cs => rw [hf] at hr; rw [h id cs hf]; exact hr
    · rename_i id len off n sz' hx
      cases hf : F id with
      | none => rw [hf] at hr; cases hr
      | some cs => rw [hf] at hr; rw [h id cs hf]; exact hr
    · cases hr
  case sliceP sz n x lo hi =>
    have hm : ∀ y : Option Operand, y.map (S.ev ⟨σ, F⟩) = y.map (S.ev ⟨σ, H⟩) := fun y => by cases y <;> simp [hev]
    rw [hm lo, hm hi] at hr
    split at hr
    · rename_i id len off hx
      cases hf : F id with
      | none => rw [hf] at hr; cases hr
      | some cs => rw [hf] at hr; rw [h id cs hf]; exact hr
    · cases hr
  case len x =>
    simp only [Option.map_eq_some_iff] at hr ⊢
    obtain ⟨y, h1, h2⟩ := hr
    exact ⟨y, rd_mono h h1, h2⟩
  case append sz x y =>
    cases hy : rd F (S.ev ⟨σ, H⟩ y) with
    | none => rw [hy] at hr; cases hr
    | some ys =>
      rw [hy] at hr
      rw [rd_mono h hy]
      obtain ⟨l, m⟩ := ys
      dsimp only at hr
      dsimp only
      split at hr
      · rename_i hc
        rw [if_pos hc]
        split at hr
        · rename_i id n sz' hx
          cases hf : F id with
          | none => rw [hf] at hr; cases hr
          | some cs => rw [hf] at hr; rw [h id cs hf]; exact hr
        · split at hr
          · rename_i hc2
            have hr' := hr
            simp only [Option.some.injEq, Prod.mk.injEq] at hr'
            have h1 := (hu _ _ hr'.2.symm).resolve_right (fun h => h (by simpa using hc2.1))
            rw [if_pos ⟨by rw [h1]; rfl, hc2.2⟩]
            exact hr
          · cases hr
        · cases hr
      · cases hr

/-! ### One operation, wherever it comes -/

/-- The heap that the operations read is there still. -/
def Sees (F : Nat → Option (List AV)) (s : S) : Prop := ∀ id cs, F id = some cs → s.H id = some cs

def inNew (dst : Option Nat) (id : Nat) : Prop := ∃ d k, dst = some d ∧ k < 16 ∧ id = 16 * d + k

/-- What a call yields, handed these values, whatever the rest of the state: 'X', the cells now of the objects that it may write. -/
def callQ (P : Program) (pin : Nat) (F : Nat → Option (List AV)) (X : List (Nat × List AV)) (f : Nat) (avs : List AV) (dst : Option Nat) (R : AV → List (Nat × List AV) → Prop) : Prop :=
  ∀ E M s a w (args : List Operand), E.pin = pin → dstOk E.nt dst = true → St E M s a w → Sees F s → (∀ p ∈ X, s.H p.1 = some p.2) → (∀ id, inNew dst id → s.H id = none) → args.map s.ev = avs →
    Calls P f (args.map a.eval).toArray w fun e w' => ∃ M' v' v u, R v u ∧ e = .returned v' ∧ St E M' (s.putL dst v u) (a.put dst v') w'

/-- The heap as an operation that keeps its place sees it: the objects that the region may write are there, too. -/
def mixH (Z : List Nat) (H F : Nat → Option (List AV)) : Nat → Option (List AV) := fun j => if j ∈ Z then H j else F j
def gv (Z : List Nat) (c : Bool) (H F : Nat → Option (List AV)) : Nat → Option (List AV) := if c then mixH Z H F else F

theorem gv_sees {c : Bool} {H : Nat → Option (List AV)} (h : ∀ j cs, F j = some cs → H j = some cs) : ∀ j cs, gv Z c H F j = some cs → H j = some cs := fun j cs hj => by
  unfold gv mixH at hj
  cases c with
  | false => exact h j cs hj
  | true =>
    simp only [if_true] at hj
    split at hj
    · exact hj
    · exact h j cs hj
theorem gv_updL {c : Bool} {H : Nat → Option (List AV)} {u : List (Nat × List AV)} (hu : c = true → ∀ p ∈ u, p.1 ∉ Z) (hno : ∀ j, (∀ p ∈ u, p.1 ≠ j) → updL H u j = H j) : gv Z c (updL H u) F = gv Z c H F := by
  cases c with
  | false => rfl
  | true =>
    funext j
    simp only [gv, mixH, if_true]
    split
    · rename_i hj
      exact hno j fun p hp he => hu rfl p hp (he ▸ hj)
    · rfl

def ocan (P : Program) (pin : Nat) (F : Nat → Option (List AV)) (Z : List Nat) (o : AOper) (s : S) (X : List (Nat × List AV)) (R : AV → List (Nat × List AV) → Prop) : Prop :=
  (∀ p ∈ X, s.H p.1 = some p.2 ∧ p.1 ∈ Z) ∧ (∀ v u, R v u → ∀ p ∈ u, (o.callish Z = true ∧ p.1 ∈ Z ∧ s.H p.1 ≠ none) ∨ (inNew o.dst p.1 ∧ s.H p.1 = none ∧ (o.callish Z = true ∨ p.1 ∉ Z))) ∧
  match o.op with
  | .call f args => (∀ id, inNew o.dst id → s.H id = none) ∧ callQ P pin F X f (args.map s.ev) o.dst R
  | ao => X = [] ∧ ∃ v u, arun ⟨s.σ, gv Z (o.callish Z) s.H F⟩ pin (o.dst.getD 0) ao = some (v, u) ∧ (∀ id cs, u = some (id, cs) → s.H id = none → id = 16 * o.dst.getD 0) ∧ R = fun v' u' => v' = v ∧ u' = u.toList

def qone (P : Program) (pin : Nat) (F : Nat → Option (List AV)) (Z : List Nat) (o : AOper) (K : S → Prop) (s : S) : Prop :=
  match aguard s o.guard with
  | some g => (g = true → ∃ X R, ocan P pin F Z o s X R ∧ (∃ v u, R v u) ∧ ∀ v u, R v u → K (s.putL o.dst v u)) ∧ (g = false → K (s.putL o.dst .und []))
  | none => False

def qSeq (P : Program) (pin : Nat) (F : Nat → Option (List AV)) (Z : List Nat) : List AOper → (S → Prop) → S → Prop
  | [], K, s => K s
  | o :: r, K, s => qone P pin F Z o (qSeq P pin F Z r K) s

theorem qone_mono {o : AOper} {K' : S → Prop} (h : ∀ s, K s → K' s) (hq : qone P pin F Z o K s) : qone P pin F Z o K' s := by
  unfold qone at *
  split at hq
  · exact ⟨fun hg => let ⟨X, R, h1, h2, h3⟩ := hq.1 hg; ⟨X, R, h1, h2, fun v u hr => h _ (h3 v u hr)⟩, fun hg => h _ (hq.2 hg)⟩
  · exact hq

theorem ev_putL {x : Operand} {dst : Option Nat} {v : AV} {u : List (Nat × List AV)} (h : ∀ d, dst = some d → x ≠ .tmp d) : (s.putL dst v u).ev x = s.ev x := by
  cases dst with
  | none => cases x <;> rfl
  | some d =>
    cases x with
    | tmp t =>
      have hne : t ≠ d := fun e => h d rfl (e ▸ rfl)
      simp [S.ev, S.putL, upd_ne _ _ _ _ hne]
    | _ => rfl

theorem aguard_putL {gd : Option (Nat × Bool)} {dst : Option Nat} {v : AV} {u : List (Nat × List AV)} (h : ∀ d, dst = some d → ∀ t b, gd = some (t, b) → t ≠ d) : aguard (s.putL dst v u) gd = aguard s gd := by
  cases gd with
  | none => rfl
  | some tb =>
    obtain ⟨t, b⟩ := tb
    cases dst with
    | none => rfl
    | some d =>
      have hne := h d rfl t b rfl
      simp [aguard, S.putL, upd_ne _ _ _ _ hne]

theorem apart_spec {x y : AOper} (h : x.apart Z y = true) : (∀ d, x.dst = some d → d ∉ y.looks) ∧ (∀ d, x.dst = some d → y.dst ≠ some d) ∧ (∀ d, y.dst = some d → d ∉ x.looks) ∧ ¬ (x.callish Z = true ∧ y.callish Z = true) := by
  unfold AOper.apart at h
  simp only [Bool.and_eq_true, Bool.not_eq_true'] at h
  obtain ⟨⟨h1, h2⟩, h3⟩ := h
  refine ⟨fun d hd => ?_, fun d hd => ?_, fun d hd => ?_, fun hc => ?_⟩
  · rw [hd] at h1; simp at h1; exact h1.1
  · rw [hd] at h1; simp at h1; exact h1.2
  · rw [hd] at h2; simpa using h2
  · simp [hc.1, hc.2] at h3

theorem looks_op {o : AOper} {t : Nat} (h : Operand.tmp t ∈ o.op.operands) : t ∈ o.looks := by
  unfold AOper.looks
  exact List.mem_append_left _ (List.mem_filterMap.2 ⟨_, h, rfl⟩)

theorem looks_guard {o : AOper} {t : Nat} {b : Bool} (h : o.guard = some (t, b)) : t ∈ o.looks := by
  unfold AOper.looks
  rw [h]
  exact List.mem_append_right _ (by simp)

theorem updL_none {H : Nat → Option (List AV)} {u : List (Nat × List AV)} {id : Nat} (h : ∀ p ∈ u, p.1 ≠ id) : updL H u id = H id := by
  unfold updL
  cases hk1 : hk u id with
  | none => rfl
  | some cs =>
    obtain ⟨p, hp, h1, _⟩ := hk_mem u id cs hk1
    exact absurd h1 (h p hp)

theorem updL_back {H : Nat → Option (List AV)} {u : List (Nat × List AV)} {id : Nat} (h : updL H u id = none) : H id = none := by
  unfold updL at h
  cases hk1 : hk u id with
  | none => rw [hk1] at h; exact h
  | some cs => rw [hk1] at h; cases h

theorem callish_call {o : AOper} {f : Nat} {args : List Operand} (h : o.op = .call f args) : o.callish Z = true := by simp [AOper.callish, h, AOp.isCall]

/-- Where the operation can run behind another one it can run ahead of it, and yields the same. -/
theorem ocan_putL {o : AOper} {dst : Option Nat} {v : AV} {u : List (Nat × List AV)} {X : List (Nat × List AV)} {R : AV → List (Nat × List AV) → Prop}
    (h : ∀ d, dst = some d → d ∉ o.looks) (hz : o.callish Z = true → ∀ p ∈ u, p.1 ∉ Z) (hq : ocan P pin F Z o (s.putL dst v u) X R) : ocan P pin F Z o s X R := by
  have he : ∀ x ∈ o.op.operands, (s.putL dst v u).ev x = s.ev x := fun x hx => ev_putL fun d hd he => h d hd (looks_op (he ▸ hx))
  have hzz : o.callish Z = true → ∀ j ∈ Z, (s.putL dst v u).H j = s.H j := fun hc j hj => updL_none fun q hq he => hz hc q hq (he ▸ hj)
  have hgv : gv Z (o.callish Z) (s.putL dst v u).H F = gv Z (o.callish Z) s.H F := gv_updL hz fun j hj => updL_none hj
  obtain ⟨h1, h2, h3⟩ := hq
  refine ⟨fun p hp => ⟨?_, (h1 p hp).2⟩, fun v' u' hr p hp => ?_, ?_⟩
  · have hcall : o.callish Z = true := by
      cases ho : o.op <;> rw [ho] at h3 <;> first | exact callish_call ho | (simp only at h3; rw [h3.1] at hp; cases hp)
    rw [← hzz hcall _ (h1 p hp).2]
    exact (h1 p hp).1
  · rcases h2 v' u' hr p hp with ⟨h4, h5, h6⟩ | ⟨h4, h5, h6⟩
    · exact .inl ⟨h4, h5, by rw [← hzz h4 _ h5]; exact h6⟩
    · exact .inr ⟨h4, updL_back h5, h6⟩
  · cases ho : o.op
    case call f args =>
      rw [ho] at h3 he
      simp only at h3 ⊢
      refine ⟨fun id hid => updL_back (h3.1 id hid), ?_⟩
      have : args.map (s.putL dst v u).ev = args.map s.ev := List.map_congr_left fun x hx => he x hx
      rw [this] at h3
      exact h3.2
    all_goals
      rw [ho] at h3 he
      simp only at h3 ⊢
      obtain ⟨h4, v1, u1, h5, h6, h7⟩ := h3
      refine ⟨h4, v1, u1, ?_, fun id cs hu hn => ?_, h7⟩
      · rw [← h5, ← hgv]
        exact (arun_congr (s := ⟨(s.putL dst v u).σ, gv Z (o.callish Z) (s.putL dst v u).H F⟩) (s' := ⟨s.σ, gv Z (o.callish Z) (s.putL dst v u).H F⟩) rfl fun x hx => by rw [ev_H s.σ _ s.H, ev_H (s.putL dst v u).σ _ (s.putL dst v u).H]; exact (he x hx).symm)
      · refine h6 id cs hu ?_
        rcases h2 v1 u1.toList (by rw [h7]; exact ⟨rfl, rfl⟩) (id, cs) (by rw [hu]; simp) with ⟨h8, h9, h10⟩ | ⟨_, h9, _⟩
        · exact absurd hn (by rw [← hzz h8 _ h9]; exact h10)
        · exact h9

/-- And behind it, where it can run ahead of it. -/
theorem ocan_putL' {o : AOper} {dst : Option Nat} {v : AV} {u : List (Nat × List AV)} {X : List (Nat × List AV)} {R : AV → List (Nat × List AV) → Prop}
    (h : ∀ d, dst = some d → d ∉ o.looks) (hz : o.callish Z = true → ∀ p ∈ u, p.1 ∉ Z) (hf : ∀ p ∈ u, inNew o.dst p.1 → s.H p.1 ≠ none) (hq : ocan P pin F Z o s X R) : ocan P pin F Z o (s.putL dst v u) X R := by
  have he : ∀ x ∈ o.op.operands, s.ev x = (s.putL dst v u).ev x := fun x hx => (ev_putL fun d hd he => h d hd (looks_op (he ▸ hx))).symm
  have hzz : o.callish Z = true → ∀ j ∈ Z, (s.putL dst v u).H j = s.H j := fun hc j hj => updL_none fun q hq he => hz hc q hq (he ▸ hj)
  have hgv : gv Z (o.callish Z) (s.putL dst v u).H F = gv Z (o.callish Z) s.H F := gv_updL hz fun j hj => updL_none hj
  obtain ⟨h1, h2, h3⟩ := hq
  have hnew : ∀ id, inNew o.dst id → s.H id = none → (s.putL dst v u).H id = s.H id := fun id hid hno => updL_none fun q hq he => hf q hq (he ▸ hid) (he ▸ hno)
  refine ⟨fun p hp => ⟨?_, (h1 p hp).2⟩, fun v' u' hr p hp => ?_, ?_⟩
  · have hcall : o.callish Z = true := by
      cases ho : o.op <;> rw [ho] at h3 <;> first | exact callish_call ho | (simp only at h3; rw [h3.1] at hp; cases hp)
    rw [hzz hcall _ (h1 p hp).2]
    exact (h1 p hp).1
  · rcases h2 v' u' hr p hp with ⟨h4, h5, h6⟩ | ⟨h4, h5, h6⟩
    · exact .inl ⟨h4, h5, by rw [hzz h4 _ h5]; exact h6⟩
    · exact .inr ⟨h4, (hnew _ h4 h5).trans h5, h6⟩
  · cases ho : o.op
    case call f args =>
      rw [ho] at h3 he
      simp only at h3 ⊢
      refine ⟨fun id hid => (hnew id hid (h3.1 id hid)).trans (h3.1 id hid), ?_⟩
      have : args.map s.ev = args.map (s.putL dst v u).ev := List.map_congr_left fun x hx => he x hx
      rw [← this]
      exact h3.2
    all_goals
      rw [ho] at h3 he
      simp only at h3 ⊢
      obtain ⟨h4, v1, u1, h5, h6, h7⟩ := h3
      refine ⟨h4, v1, u1, ?_, fun id cs hu hn => h6 id cs hu (updL_back hn), h7⟩
      rw [← h5, hgv]
      exact (arun_congr (s := ⟨s.σ, gv Z (o.callish Z) s.H F⟩) (s' := ⟨(s.putL dst v u).σ, gv Z (o.callish Z) s.H F⟩) rfl fun x hx => by rw [ev_H s.σ _ s.H, ev_H (s.putL dst v u).σ _ (s.putL dst v u).H]; exact (he x hx).symm)

theorem putL_comm {x y : Option Nat} {v v' : AV} {u u' : List (Nat × List AV)} (h : ∀ d, x = some d → y ≠ some d) (hu : ∀ p ∈ u, ∀ q ∈ u', p.1 ≠ q.1) : (s.putL x v u).putL y v' u' = (s.putL y v' u').putL x v u := by
  have hH : updL (updL s.H u) u' = updL (updL s.H u') u := by
    funext id
    unfold updL
    cases h1 : hk u' id with
    | none => rfl
    | some cs' =>
      cases h2 : hk u id with
      | none => rfl
      | some cs =>
        obtain ⟨p, hp, e1, _⟩ := hk_mem u id cs h2
        obtain ⟨q, hq, e2, _⟩ := hk_mem u' id cs' h1
        exact absurd (e1.trans e2.symm) (hu p hp q hq)
  unfold S.putL
  simp only [S.mk.injEq]
  refine ⟨?_, hH⟩
  cases x with
  | none => rfl
  | some d =>
    cases y with
    | none => rfl
    | some e =>
      have hne : d ≠ e := fun he => h d rfl (he ▸ rfl)
      funext t
      simp only [upd]
      by_cases h1 : t = e <;> by_cases h2 : t = d <;> simp_all

theorem inNew_disj {x y : Option Nat} (h : ∀ d, x = some d → y ≠ some d) {id : Nat} (h1 : inNew x id) : ¬ inNew y id := by
  rintro ⟨e, j, he, hj, h2⟩
  obtain ⟨d, k, hd, hk, h3⟩ := h1
  have : d = e := by omega
  exact h d hd (this ▸ he)

theorem ocan_single {o : AOper} {X : List (Nat × List AV)} {R : AV → List (Nat × List AV) → Prop} (hc : o.callish Z = false) (h : ocan P pin F Z o s X R) : ∃ v u, (∀ v' u', R v' u' ↔ v' = v ∧ u' = u) := by
  obtain ⟨_, _, h3⟩ := h
  cases ho : o.op
  case call f args => rw [callish_call ho] at hc; cases hc
  all_goals
    rw [ho] at h3
    simp only at h3
    obtain ⟨_, v, u, _, _, h4⟩ := h3
    exact ⟨v, u.toList, fun v' u' => by rw [h4]⟩

theorem ocan_det {o : AOper} {X X' : List (Nat × List AV)} {R R' : AV → List (Nat × List AV) → Prop} (hc : o.callish Z = false) (h : ocan P pin F Z o s X R) (h' : ocan P pin F Z o s X' R') : R = R' := by
  obtain ⟨_, _, h3⟩ := h
  obtain ⟨_, _, h3'⟩ := h'
  cases ho : o.op
  case call f args => rw [callish_call ho] at hc; cases hc
  all_goals
    rw [ho] at h3 h3'
    simp only at h3 h3'
    obtain ⟨_, v, u, h5, _, h4⟩ := h3
    obtain ⟨_, v', u', h5', _, h4'⟩ := h3'
    rw [h5] at h5'
    simp only [Option.some.injEq, Prod.mk.injEq] at h5'
    obtain ⟨rfl, rfl⟩ := h5'
    rw [h4, h4']

theorem ocan_ids {o : AOper} {X : List (Nat × List AV)} {R : AV → List (Nat × List AV) → Prop} (h : ocan P pin F Z o s X R) {v : AV} {u : List (Nat × List AV)} (hr : R v u) : ∀ p ∈ u, (o.callish Z = true ∧ p.1 ∈ Z ∧ s.H p.1 ≠ none) ∨ (inNew o.dst p.1 ∧ s.H p.1 = none ∧ (o.callish Z = true ∨ p.1 ∉ Z)) := h.2.1 v u hr

theorem qone_swap {x y : AOper} (h : x.apart Z y = true) (hq : qone P pin F Z x (qone P pin F Z y K) s) : qone P pin F Z y (qone P pin F Z x K) s := by
  obtain ⟨h1, h2, h3, h0⟩ := apart_spec h
  have h2' : ∀ d, y.dst = some d → x.dst ≠ some d := fun d hd he => h2 d he hd
  have gy : ∀ v u, aguard (s.putL x.dst v u) y.guard = aguard s y.guard := fun v u => aguard_putL fun d hd t b ht e => h1 d hd (e ▸ looks_guard ht)
  have gx : ∀ v u, aguard (s.putL y.dst v u) x.guard = aguard s x.guard := fun v u => aguard_putL fun d hd t b ht e => h3 d hd (e ▸ looks_guard ht)
  unfold qone at hq
  cases hgx : aguard s x.guard with
  | none => rw [hgx] at hq; exact hq.elim
  | some g =>
    rw [hgx] at hq
    cases g with
    | false =>
      have hk := hq.2 rfl
      rw [gy] at hk
      unfold qone
      cases hgy : aguard s y.guard with
      | none => rw [hgy] at hk; exact hk.elim
      | some g' =>
        rw [hgy] at hk
        refine ⟨fun e => ?_, fun e => ?_⟩
        · obtain ⟨Y, T, hy, hne, hky⟩ := hk.1 e
          refine ⟨Y, T, ocan_putL h1 (fun _ p hp => by cases hp) hy, hne, fun v' u' hr => ?_⟩
          rw [gx, hgx]
          exact ⟨fun e => (by cases e), fun _ => (by rw [← putL_comm h2 (fun p hp => by cases hp)]; exact hky v' u' hr)⟩
        · rw [gx, hgx]
          exact ⟨fun e => (by cases e), fun _ => (by rw [← putL_comm h2 (fun p hp => by cases hp)]; exact hk.2 e)⟩
    | true =>
      obtain ⟨X, R, hx, ⟨v0, u0, hr0⟩, hk⟩ := hq.1 rfl
      have hk0 := hk v0 u0 hr0
      rw [gy] at hk0
      unfold qone
      cases hgy : aguard s y.guard with
      | none => rw [hgy] at hk0; exact hk0.elim
      | some g' =>
        rw [hgy] at hk0
        refine ⟨fun e => ?_, fun e => ?_⟩
        · subst e
          obtain ⟨Y, T, hy, hne, hky⟩ := hk0.1 rfl
          have hzx : ∀ v u, R v u → y.callish Z = true → ∀ p ∈ u, p.1 ∉ Z := fun v u hr hc p hp => by
            rcases ocan_ids hx hr p hp with ⟨a, _⟩ | ⟨_, _, a | a⟩
            · exact absurd ⟨a, hc⟩ h0
            · exact absurd ⟨a, hc⟩ h0
            · exact a
          have hys : ocan P pin F Z y s Y T := ocan_putL h1 (hzx v0 u0 hr0) hy
          refine ⟨Y, T, hys, hne, fun v' u' hr' => ?_⟩
          rw [gx, hgx]
          have hidy := ocan_ids hys hr'
          refine ⟨fun _ => ⟨X, R, ?_, ⟨v0, u0, hr0⟩, fun v u hr => ?_⟩, fun e => (by cases e)⟩
          · refine ocan_putL' h3 (fun hc p hp => ?_) (fun p hp hn => ?_) hx
            · rcases hidy p hp with ⟨a, _⟩ | ⟨_, _, a | a⟩
              · exact absurd ⟨hc, a⟩ h0
              · exact absurd ⟨hc, a⟩ h0
              · exact a
            · rcases hidy p hp with ⟨_, _, c⟩ | ⟨a, _, _⟩
              · exact c
              · exact absurd a (inNew_disj h2 hn)
          · have hcomm : (s.putL y.dst v' u').putL x.dst v u = (s.putL x.dst v u).putL y.dst v' u' := by
              refine (putL_comm h2 fun p hp q hq' he => ?_).symm
              rcases ocan_ids hx hr p hp with ⟨a, b, _⟩ | ⟨a, _, b⟩ <;> rcases hidy q hq' with ⟨c, d, _⟩ | ⟨c, _, d⟩
              · exact h0 ⟨a, c⟩
              · exact d.elim (fun d => h0 ⟨a, d⟩) (fun d => d (he ▸ b))
              · exact b.elim (fun b => h0 ⟨b, c⟩) (fun b => b (he ▸ d))
              · exact inNew_disj h2 a (he ▸ c)
            rw [hcomm]
            cases hyc : y.callish Z with
            | true =>
              have hxc : x.callish Z = false := by
                cases hb : x.callish Z with
                | false => rfl
                | true => exact absurd ⟨hb, hyc⟩ h0
              obtain ⟨v1, u1, h4⟩ := ocan_single hxc hx
              obtain ⟨rfl, rfl⟩ := (h4 _ _).1 hr
              obtain ⟨rfl, rfl⟩ := (h4 _ _).1 hr0
              exact hky v' u' hr'
            | false =>
              have hT := hk v u hr
              rw [gy, hgy] at hT
              obtain ⟨Y', T', hy', _, hky'⟩ := hT.1 rfl
              have hT' : T' = T := ocan_det hyc (ocan_putL h1 (fun hc => by rw [hyc] at hc; cases hc) hy') hys
              subst hT'
              exact hky' v' u' hr'
        · subst e
          rw [gx, hgx]
          refine ⟨fun _ => ⟨X, R, ocan_putL' h3 (fun _ p hp => by cases hp) (fun p hp => by cases hp) hx, ⟨v0, u0, hr0⟩, fun v u hr => ?_⟩, fun e => (by cases e)⟩
          have hk1 := hk v u hr
          rw [gy, hgy] at hk1
          rw [← putL_comm h2 (fun p _ q hq => by cases hq)]
          exact hk1.2 rfl

theorem qSeq_front : ∀ {l1 : List AOper} {x : AOper} {l2 : List AOper} {s : S}, (∀ y ∈ l1, y.apart Z x = true) → qSeq P pin F Z (l1 ++ x :: l2) K s → qone P pin F Z x (qSeq P pin F Z (l1 ++ l2) K) s
  | [], _, _, _, _, h => h
  | y :: l1, x, l2, s, ha, h => qone_swap (ha y (by simp)) (qone_mono (fun s hs => qSeq_front (fun z hz => ha z (by simp [hz])) hs) h)

theorem put_putL (s : S) (dst : Option Nat) (v : AV) (u : Option (Nat × List AV)) : s.put dst v u = s.putL dst v u.toList := by
  unfold S.put S.putL
  simp only [S.mk.injEq]
  refine ⟨rfl, ?_⟩
  cases u with
  | none => funext id; simp [updO, updL, hk]
  | some p =>
    funext id
    simp only [updO, updL, Option.toList, hk, upd]
    split <;> rfl

theorem Sees.putL {dst : Option Nat} {v : AV} {u : List (Nat × List AV)} (h : Sees F s) (hu : ∀ p ∈ u, F p.1 = none) : Sees F (s.putL dst v u) := by
  intro id cs hc
  refine (updL_none fun p hp he => ?_).trans (h id cs hc)
  have := hu p hp
  rw [he, hc] at this
  cases this

/-- One operation of the walk in any order, from the abstract step. -/
theorem qone_step {E : Env} {M : Nat → Option Nat} {a : Act} {w : World} {o : Oper} {ao : AOper} {ops : Array Oper} {K' : Act → World → Prop} {Q : Exit → Act → World → Prop} {i : Nat}
    (hi : ops[i]? = some o) (h : St E M s a w) (hF : Sees F s) (hZ : ∀ id ∈ Z, F id = none) (hl : lowOper P E.nt ops o = some ao)
    (hK : ∀ a w M s, St E M s a w → Sees F s → K s → K' a w) (hs : qone P E.pin F Z ao K s) : wpOp P ops Q i K' a w := by
  have hl' := hl
  unfold lowOper at hl
  split at hl
  · rename_i op gd hop hgd hd
    simp only [Option.some.injEq] at hl
    subst hl
    unfold qone at hs
    split at hs
    · rename_i g hg
      have hw := aguard_spec h hgd hg
      unfold wpOp
      rw [hi]
      simp only [hw]
      cases g with
      | true =>
        simp only [if_true]
        obtain ⟨X, R, hcan, _, hk⟩ := hs.1 rfl
        have hnone : ∀ v u, R v u → ∀ p ∈ u, F p.1 = none := fun v u hr p hp => by
          rcases ocan_ids hcan hr p hp with ⟨_, hz, _⟩ | ⟨_, hn, _⟩
          · exact hZ _ hz
          · cases hf : F p.1 with
            | none => rfl
            | some cs => rw [hF _ _ hf] at hn; cases hn
        refine .inl (astep_sound (K := fun s' => Sees F s' ∧ K s') h hl' (fun a w ⟨M', s', h1, h2, h3⟩ => hK a w M' s' h1 h2 h3) ?_)
        obtain ⟨hX, hR, h3⟩ := hcan
        cases op
        case call f args =>
          simp only at h3
          simp only [astep]
          intro E' M1 a1 w1 hp hdst hst
          refine (h3.2 E' M1 s a1 w1 args hp hdst hst hF (fun p hp => (hX p hp).1) h3.1 rfl).mono fun e w' ⟨M', v', v, u, hr, he, hst'⟩ => ?_
          exact ⟨M', _, v', ⟨Sees.putL hF (hnone v u hr), hk v u hr⟩, he, hst'⟩
        case isnil neg x =>
          simp only at h3
          obtain ⟨_, v, u, h5, _⟩ := h3
          simp [arun] at h5
        all_goals
          simp only at h3
          obtain ⟨_, v, u, h5, h6, rfl⟩ := h3
          have hr0 := hR v u.toList ⟨rfl, rfl⟩
          have h7 := arun_mono (pin := E.pin) (H := s.H) (gv_sees hF) h5 (fun id cs hu => by
            subst hu
            rcases hr0 (id, cs) (by simp) with ⟨hc, hz, hn⟩ | ⟨_, hn, _⟩
            · refine .inr ?_
              rw [hc]
              simp only [gv, mixH, if_true]
              rw [if_pos hz]
              exact hn
            · exact .inl hn)
          simp only [astep]
          rw [show (arun s E.pin _ _) = some (v, u) from h7]
          show Sees F (s.put o.dst v u) ∧ K (s.put o.dst v u)
          rw [put_putL]
          exact ⟨Sees.putL hF (hnone _ _ ⟨rfl, rfl⟩), hk _ _ ⟨rfl, rfl⟩⟩
      | false =>
        simp only [Bool.false_eq_true, if_false]
        have := hs.2 rfl
        have hst := h.skip (dst := o.dst) hd
        rw [put_putL] at hst
        exact hK _ _ M _ hst (Sees.putL hF fun p hp => by cases hp) this
    · exact hs.elim
  · cases hl

/-! ### Every order -/

def nth (al : List AOper) (i : Nat) : AOper := (al[i]?).getD ⟨none, .mv (.tmp 0), none, []⟩

/-- Which operations an operation waits for, by way of others: a number's bits. -/
def maskOf (ms : List Nat) : List Nat → Nat
  | [] => 0
  | j :: r => (maskOf ms r) ||| (1 <<< j) ||| (ms.getD j 0)
def masksFrom (ms : List Nat) : List AOper → List Nat
  | [] => ms
  | o :: r => masksFrom (ms ++ [maskOf ms o.after]) r

/-- One waits for the other, by way of others. -/
inductive Anc (al : List AOper) : Nat → Nat → Prop
  | one {i j : Nat} : j ∈ (nth al i).after → Anc al i j
  | more {i k j : Nat} : k ∈ (nth al i).after → Anc al k j → Anc al i j

theorem maskOf_spec {al : List AOper} {ms : List Nat} (hm : ∀ i j, (ms.getD i 0).testBit j = true → Anc al i j) {i : Nat} : ∀ {af : List Nat} {j : Nat}, (∀ k ∈ af, k ∈ (nth al i).after) → (maskOf ms af).testBit j = true → Anc al i j
  | [], j, _, h => by simp [maskOf] at h
  | k :: r, j, ha, h => by
    simp only [maskOf, Nat.testBit_or, Bool.or_eq_true] at h
    rcases h with (h | h) | h
    · exact maskOf_spec hm (fun k hk => ha k (by simp [hk])) h
    · have : j = k := by
        rw [Nat.one_shiftLeft, Nat.testBit_two_pow] at h
        exact (of_decide_eq_true h).symm
      subst this
      exact .one (ha j (by simp))
    · exact .more (ha k (by simp)) (hm k j h)

theorem masksFrom_spec {al : List AOper} : ∀ {post pre : List AOper} {ms : List Nat}, al = pre ++ post → ms.length = pre.length → (∀ i j, (ms.getD i 0).testBit j = true → Anc al i j) → ∀ i j, ((masksFrom ms post).getD i 0).testBit j = true → Anc al i j
  | [], _, ms, _, _, h => h
  | o :: r, pre, ms, hal, hl, h => by
    refine masksFrom_spec (post := r) (pre := pre ++ [o]) (by rw [hal]; simp) (by simp [hl]) fun i j hij => ?_
    rcases Nat.lt_trichotomy i ms.length with hi | hi | hi
    · refine h i j ?_
      simpa [List.getD, List.getElem?_append_left hi] using hij
    · subst hi
      have ho : nth al ms.length = o := by subst hal; simp [nth, hl]
      refine maskOf_spec h (fun k hk => ?_) (i := ms.length) (af := o.after) (by simpa [List.getD] using hij)
      rw [ho]; exact hk
    · have : (ms ++ [maskOf ms o.after]).getD i 0 = 0 := by
        simp only [List.getD]
        rw [List.getElem?_eq_none (by simp; omega)]
        rfl
      rw [this] at hij
      simp at hij

/-- Of two operations among the first n of which the later one need not wait for the earlier one, neither writes what the other looks at; the others wait for all ahead of them. -/
def drawOk (Z : List Nat) (n : Nat) (al : List AOper) : Bool :=
  (List.range al.length).all fun i => (nth al i).after.all (fun j => decide (j < i)) && (List.range i).all fun j => ((masksFrom [] al).getD i 0).testBit j || (decide (i < n) && (nth al j).apart Z (nth al i))

theorem drawOk_spec {n : Nat} {al : List AOper} (h : drawOk Z n al = true) {i : Nat} (hi : i < al.length) :
    (∀ j ∈ (nth al i).after, j < i) ∧ ∀ j, j < i → ¬ Anc al i j → i < n ∧ (nth al j).apart Z (nth al i) = true := by
  have := List.all_eq_true.1 h i (List.mem_range.2 hi)
  rw [Bool.and_eq_true] at this
  refine ⟨fun j hj => by simpa using List.all_eq_true.1 this.1 j hj, fun j hj hn => ?_⟩
  have := List.all_eq_true.1 this.2 j (List.mem_range.2 hj)
  rw [Bool.or_eq_true] at this
  rcases this with h | h
  · exact absurd (masksFrom_spec (al := al) (post := al) (pre := []) rfl rfl (fun i j h => by simp at h) i j h) hn
  · simpa using h

theorem astep_mono {o : AOper} {K' : S → Prop} (h : ∀ s, K s → K' s) (hs : astep P pin o K s) : astep P pin o K' s := by
  unfold astep at *
  cases hop : o.op
  case call f args =>
    rw [hop] at hs
    intro E M a w hp hd hst
    exact (hs E M a w hp hd hst).mono fun e w' ⟨M', s', v, hk, he, h1⟩ => ⟨M', s', v, h _ hk, he, h1⟩
  case isnil neg x =>
    rw [hop] at hs
    exact nilStep_mono h hs
  all_goals
    rw [hop] at hs
    simp only at hs ⊢
    split at hs
    · rename_i r hr
      first | exact h _ hs | (rw [hr]; exact h _ hs)
    · exact hs.elim

/-- A step as in a region with one order. -/
def gstep (P : Program) (pin : Nat) (o : AOper) (K : S → Prop) (s : S) : Prop :=
  match aguard s o.guard with
  | some g => (g = true → astep P pin o K s) ∧ (g = false → K (s.put o.dst .und none))
  | none => False

def qMix (P : Program) (pin : Nat) (F : Nat → Option (List AV)) (Z : List Nat) (n : Nat) (al : List AOper) : List Nat → (S → Prop) → S → Prop
  | [], K, s => K s
  | i :: r, K, s => if i < n then qone P pin F Z (nth al i) (qMix P pin F Z n al r K) s else gstep P pin (nth al i) (qMix P pin F Z n al r K) s

theorem qMix_front {n : Nat} {al : List AOper} {i : Nat} (hin : i < n) : ∀ {l1 l2 : List Nat} {s : S}, (∀ j ∈ l1, j < n ∧ (nth al j).apart Z (nth al i) = true) → qMix P pin F Z n al (l1 ++ i :: l2) K s → qone P pin F Z (nth al i) (qMix P pin F Z n al (l1 ++ l2) K) s
  | [], _, _, _, h => by simpa [qMix, hin] using h
  | y :: l1, l2, s, ha, h => by
    have hy := ha y (by simp)
    simp only [List.cons_append, qMix, if_pos hy.1] at h ⊢
    exact qone_swap hy.2 (qone_mono (fun s hs => qMix_front hin (fun z hz => ha z (by simp [hz])) hs) h)

theorem qMix_of {n : Nat} : ∀ {post pre : List AOper} {s : S} {al : List AOper}, al = pre ++ post → n ≤ pre.length → aSeq P pin post K s → qMix P pin F Z n al (List.range' pre.length post.length) K s
  | [], _, s, al, _, _, h => h
  | o :: r, pre, s, al, hal, hn, h => by
    simp only [List.length_cons, List.range'_succ, qMix]
    rw [if_neg (by omega)]
    have ho : nth al pre.length = o := by subst hal; simp [nth]
    rw [ho]
    have ih : ∀ s, aSeq P pin r K s → qMix P pin F Z n al (List.range' (pre.length + 1) r.length) K s := fun s hs => by
      have := qMix_of (n := n) (post := r) (pre := pre ++ [o]) (s := s) (al := al) (by rw [hal]; simp) (by simp; omega) hs
      simpa using this
    simp only [aSeq] at h
    unfold gstep
    cases hg : aguard s o.guard with
    | none => rw [hg] at h; exact h.elim
    | some g =>
      rw [hg] at h
      exact ⟨fun e => astep_mono ih (h.1 e), fun e => ih _ (h.2 e)⟩

theorem qMix_of' {n : Nat} : ∀ {mid pre post : List AOper} {s : S} {al : List AOper}, al = pre ++ mid ++ post → n = pre.length + mid.length → qSeq P pin F Z mid (aSeq P pin post K) s → qMix P pin F Z n al (List.range' pre.length (mid.length + post.length)) K s
  | [], pre, post, s, al, hal, hn, h => by
    simpa using qMix_of (P := P) (pin := pin) (F := F) (Z := Z) (K := K) (n := n) (post := post) (pre := pre) (s := s) (al := al) (by simpa using hal) (by simp at hn; omega) h
  | o :: r, pre, post, s, al, hal, hn, h => by
    simp only [List.length_cons] at hn
    rw [List.length_cons, show r.length + 1 + post.length = (r.length + post.length) + 1 by omega, List.range'_succ]
    simp only [qMix]
    rw [if_pos (by omega)]
    have ho : nth al pre.length = o := by subst hal; simp [nth]
    rw [ho]
    refine qone_mono (fun s hs => ?_) h
    have := qMix_of' (n := n) (mid := r) (pre := pre ++ [o]) (post := post) (s := s) (al := al) (by rw [hal]; simp) (by simp; omega) hs
    simpa using this

theorem lowOpers_spec {nt : Nat} {ops : Array Oper} : ∀ {l : List Oper} {al : List AOper}, lowOpers P nt ops l = some al → al.length = l.length ∧ ∀ i o, l[i]? = some o → lowOper P nt ops o = some (nth al i)
  | [], al, h => by simp [lowOpers] at h; subst h; simp
  | x :: r, al, h => by
    simp only [lowOpers] at h
    split at h
    · rename_i y l' hy hl'
      simp only [Option.some.injEq] at h
      subst h
      obtain ⟨h1, h2⟩ := lowOpers_spec hl'
      refine ⟨by simp [h1], fun i o hi => ?_⟩
      cases i with
      | zero => simp at hi; subst hi; simpa [nth] using hy
      | succ i => simpa [nth] using h2 i o (by simpa using hi)
    · cases h

/-- A new slice of a region that draws, told as plain data. -/
def litOp : AOp → AOp
  | .bslice sz zs ps n => if n = 0 then .bslice sz zs ps n else .blit sz zs ps n
  | ao => ao
def litA (o : AOper) : AOper := ⟨o.dst, litOp o.op, o.guard, o.after⟩

theorem qone_blit {E : Env} {M : Nat → Option Nat} {a : Act} {w : World} {o : Oper} {dst : Option Nat} {gd : Option (Nat × Bool)} {af : List Nat} {sz n : Nat} {zs : List Value} {qs : List (Nat × Operand)} {ops : Array Oper} {K' : Act → World → Prop} {Q : Exit → Act → World → Prop} {i : Nat}
    (hi : ops[i]? = some o) (h : St E M s a w) (hF : Sees F s) (hl : lowOper P E.nt ops o = some ⟨dst, .bslice sz zs qs n, gd, af⟩)
    (hK : ∀ a w M s, St E M s a w → Sees F s → K s → K' a w) (hs : qone P E.pin F Z ⟨dst, .blit sz zs qs n, gd, af⟩ K s) : wpOp P ops Q i K' a w := by
  unfold lowOper at hl
  split at hl
  · rename_i op gd' hop hgd hd
    simp only [Option.some.injEq, AOper.mk.injEq] at hl
    obtain ⟨rfl, rfl, rfl, rfl⟩ := hl
    unfold qone at hs
    split at hs
    · rename_i g hg
      have hw := aguard_spec h hgd hg
      unfold wpOp
      rw [hi]
      simp only [hw]
      cases g with
      | true =>
        simp only [if_true]
        obtain ⟨X, R, hcan, _, hk⟩ := hs.1 rfl
        obtain ⟨hX, hR, h3⟩ := hcan
        simp only at h3
        obtain ⟨_, v, u, h5, h6, rfl⟩ := h3
        have h7 : arun s E.pin (o.dst.getD 0) (.blit sz zs qs n) = some (v, u) := by
          have hev : ∀ G x, S.ev ⟨s.σ, G⟩ x = s.ev x := fun G x => ev_H s.σ G s.H x
          simp only [arun, hev] at h5 ⊢
          exact h5
        have hu : u = none := by
          simp only [arun, Option.map_eq_some_iff, Prod.mk.injEq] at h7
          obtain ⟨_, _, _, e⟩ := h7
          exact e.symm
        subst hu
        have hbs : ∃ t ps, o.op = .buildSlice t n ps := by
          revert hop
          cases o.op <;> intro hop <;> simp only [lowOp] at hop
          case buildSlice t m ps =>
            split at hop
            · split at hop
              · split at hop
                · simp only [Option.some.injEq, AOp.bslice.injEq] at hop
                  obtain ⟨_, _, _, rfl⟩ := hop
                  exact ⟨_, _, rfl⟩
                · cases hop
              · cases hop
            · cases hop
          case slice t x lo hi mx =>
            exfalso
            cases mx with
            | some _ => simp [lowOp] at hop
            | none =>
              simp only at hop
              split at hop
              · simp at hop
              · simp at hop
              · obtain ⟨_, _, _, _, _, e⟩ := lowSliceP_some hop
                cases e
          case call c =>
            exfalso
            have := lowCall_old hop (fun _ _ _ h => by cases h)
            unfold lowCall0 at this
            (repeat' (split at this)) <;> simp at this
          all_goals
            exfalso
            first
              | (simp at hop; done)
              | ((repeat' (split at hop)) <;> simp at hop; done)
              | (simp only [lowBin, lowSliceP, Option.map_eq_some_iff] at hop; (repeat' (split at hop)) <;> simp at hop; done)
              | (unfold lowBin at hop; (repeat' (split at hop)) <;> simp at hop; done)
              | (obtain ⟨_, _, hop⟩ := Option.map_eq_some_iff.1 hop; simp at hop; done)
        obtain ⟨t, ps, hbop⟩ := hbs
        rw [hbop] at hop
        obtain ⟨M', w', v', ht, hrun, hden⟩ := sound_blit h hbop hop h7
        have hst := h.put (dst := o.dst) hd ht hden
        refine .inl ?_
        unfold Oper.wp
        rcases hrun with hrun | ⟨hrun, rfl⟩
        · rw [hrun]
          have hsee : Sees F (s.put o.dst v none) := by rw [put_putL]; exact Sees.putL hF fun p hp => by cases hp
          exact hK _ _ M' _ hst hsee (by rw [put_putL]; exact hk v [] ⟨rfl, rfl⟩)
        · rw [hrun]
          have hsee : Sees F (s.put o.dst v none) := by rw [put_putL]; exact Sees.putL hF fun p hp => by cases hp
          exact hK _ _ M' _ hst hsee (by rw [put_putL]; exact hk v [] ⟨rfl, rfl⟩)
      | false =>
        simp only [Bool.false_eq_true, if_false]
        have := hs.2 rfl
        have hst := h.skip (dst := o.dst) hd
        rw [put_putL] at hst
        exact hK _ _ M _ hst (Sees.putL hF fun p hp => by cases hp) this
    · exact hs.elim
  · cases hl

/-- One operation, from its lowering or from that with its new slice told as plain data. -/
theorem qone_low {E : Env} {M : Nat → Option Nat} {a : Act} {w : World} {o : Oper} {ao ao0 : AOper} {ops : Array Oper} {K' : Act → World → Prop} {Q : Exit → Act → World → Prop} {i : Nat}
    (hi : ops[i]? = some o) (h : St E M s a w) (hF : Sees F s) (hZ : ∀ id ∈ Z, F id = none) (hl : lowOper P E.nt ops o = some ao0) (hao : ao = ao0 ∨ ao = litA ao0)
    (hK : ∀ a w M s, St E M s a w → Sees F s → K s → K' a w) (hs : qone P E.pin F Z ao K s) : wpOp P ops Q i K' a w := by
  rcases hao with rfl | rfl
  · exact qone_step hi h hF hZ hl hK hs
  · obtain ⟨dst, op, gd, af⟩ := ao0
    by_cases hb : ∃ sz zs ps n, n ≠ 0 ∧ op = .bslice sz zs ps n
    · obtain ⟨sz, zs, ps, n, hn, rfl⟩ := hb
      have e : litA ⟨dst, .bslice sz zs ps n, gd, af⟩ = ⟨dst, .blit sz zs ps n, gd, af⟩ := by simp [litA, litOp, hn]
      rw [e] at hs
      exact qone_blit hi h hF hl hK hs
    · have e : litA ⟨dst, op, gd, af⟩ = ⟨dst, op, gd, af⟩ := by
        unfold litA
        have : litOp op = op := by
          unfold litOp
          split
          · split
            · rfl
            · rename_i hn
              exact absurd ⟨_, _, _, _, hn, rfl⟩ hb
          · rfl
        rw [this]
      rw [e] at hs
      exact qone_step hi h hF hZ hl hK hs

/-- The lowering of a region, of whose first n operations some new slices are told as plain data. -/
structure Lows (P : Program) (nt n : Nat) (ops : Array Oper) (al : List AOper) : Prop where
  len : al.length = ops.toList.length
  each : ∀ i o, ops.toList[i]? = some o → ∃ ao0, lowOper P nt ops o = some ao0 ∧ (nth al i).after = ao0.after ∧ (nth al i = ao0 ∨ (i < n ∧ nth al i = litA ao0))

/-- Which operations are left. -/
def left (n : Nat) (listed : Array Bool) : List Nat := (List.range n).filter fun i => !listed.getD i true

theorem mem_left {n : Nat} {listed : Array Bool} {i : Nat} : i ∈ left n listed ↔ i < n ∧ listed.getD i true = false := by simp [left]

theorem getD_set_ne {listed : Array Bool} {i j : Nat} (h : j ≠ i) (d : Bool) : (listed.setIfInBounds i true).getD j d = listed.getD j d := by
  simp only [Array.getD_eq_getD_getElem?, Array.getElem?_setIfInBounds, if_neg (Ne.symm h)]

theorem getD_set_eq {listed : Array Bool} {i : Nat} : (listed.setIfInBounds i true).getD i true = true := by
  simp only [Array.getD_eq_getD_getElem?, Array.getElem?_setIfInBounds, if_pos]
  split <;> simp

theorem left_take {n : Nat} {listed : Array Bool} {i : Nat} (h : i ∈ left n listed) :
    ∃ l1 l2, left n listed = l1 ++ i :: l2 ∧ (∀ j ∈ l1, j < i ∧ listed.getD j true = false) ∧ left n (listed.setIfInBounds i true) = l1 ++ l2 ∧ ∀ j ∈ l2, i < j := by
  obtain ⟨hi, hf⟩ := mem_left.1 h
  have hr : List.range n = List.range i ++ i :: List.range' (i + 1) (n - i - 1) := by
    rw [List.range_eq_range', List.range_eq_range', show n = i + ((n - i - 1) + 1) by omega, ← List.range'_append_1, List.range'_succ]
    simp
  refine ⟨(List.range i).filter fun j => !listed.getD j true, (List.range' (i + 1) (n - i - 1)).filter fun j => !listed.getD j true, ?_, fun j hj => ?_, ?_, fun j hj => by have := (List.mem_range'_1.1 (List.mem_filter.1 hj).1).1; omega⟩
  · unfold left
    rw [hr, List.filter_append, List.filter_cons, if_pos (by rw [hf]; rfl)]
  · simpa using hj
  · unfold left
    rw [hr, List.filter_append, List.filter_cons, if_neg (by rw [getD_set_eq]; simp)]
    congr 1
    · exact List.filter_congr fun j hj => by rw [getD_set_ne (by have := List.mem_range.1 hj; omega)]
    · exact List.filter_congr fun j hj => by rw [getD_set_ne (by have := (List.mem_range'_1.1 hj).1; omega)]

theorem mem_ready {n nt : Nat} {ops : Array Oper} {al : List AOper} {listed : Array Bool} (hl : Lows P nt n ops al) {i : Nat} :
    i ∈ Region.ready .any ops listed ↔ i ∈ left ops.size listed ∧ ∀ j ∈ (nth al i).after, listed.getD j false = true := by
  have h2 := hl.each
  simp only [Region.ready, left, List.mem_filter, List.mem_range, Bool.and_eq_true, Bool.not_eq_true']
  constructor
  · rintro ⟨hi, hf, ha⟩
    refine ⟨⟨hi, hf⟩, fun j hj => ?_⟩
    have ho : ops.toList[i]? = some ops[i] := by simp [hi]
    obtain ⟨ao0, hlo, haf, _⟩ := h2 i _ ho
    unfold lowOper at hlo
    split at hlo
    · simp only [Option.some.injEq] at hlo
      rw [haf, ← hlo] at hj
      simp only [List.mem_map, List.mem_filter] at hj
      obtain ⟨e, ⟨he, hb⟩, rfl⟩ := hj
      rw [Array.getElem?_eq_getElem hi] at ha
      simp only [Option.map_some, Option.getD_some] at ha
      have := Array.all_eq_true_iff_forall_mem.1 ha e (by simpa using he)
      simpa [hb] using this
    · cases hlo
  · rintro ⟨⟨hi, hf⟩, ha⟩
    refine ⟨hi, hf, ?_⟩
    have ho : ops.toList[i]? = some ops[i] := by simp [hi]
    obtain ⟨ao0, hlo, haf, _⟩ := h2 i _ ho
    unfold lowOper at hlo
    split at hlo
    · simp only [Option.some.injEq] at hlo
      rw [Array.getElem?_eq_getElem hi]
      simp only [Option.map_some, Option.getD_some]
      refine Array.all_eq_true_iff_forall_mem.2 fun e he => ?_
      cases hb : Region.binds .any e with
      | false => simp
      | true =>
        simp only [Bool.not_true, Bool.false_or]
        refine ha _ ?_
        rw [haf, ← hlo]
        simp only [List.mem_map, List.mem_filter]
        exact ⟨e, ⟨by simpa using he, hb⟩, rfl⟩
    · cases hlo

theorem ready_none {n nt : Nat} {ops : Array Oper} {al : List AOper} {listed : Array Bool} (hl : Lows P nt n ops al) (hok : drawOk Z n al = true) (hsz : listed.size = ops.size)
    (hr : Region.ready .any ops listed = []) : left ops.size listed = [] := by
  have h1 := hl.len
  cases hc : left ops.size listed with
  | nil => rfl
  | cons x r =>
    have hx : x ∈ left ops.size listed := by rw [hc]; simp
    obtain ⟨l1, l2, h3, h4, _, _⟩ := left_take hx
    have hnil : ∀ j, j < x → listed.getD j true = true := by
      intro j hj
      cases hg : listed.getD j true with
      | true => rfl
      | false =>
        have hm : j ∈ left ops.size listed := mem_left.2 ⟨by have := (mem_left.1 hx).1; omega, hg⟩
        obtain ⟨m1, m2, h5, h6, _, _⟩ := left_take hm
        rw [hc] at h5
        cases m1 with
        | nil => simp at h5; omega
        | cons y m1 => simp at h5; have := (h6 y (by simp)).1; omega
    have : x ∈ Region.ready .any ops listed := (mem_ready hl).2 ⟨hx, fun j hj => by
      have hjx := (drawOk_spec hok (by rw [h1]; simpa using (mem_left.1 hx).1)).1 j hj
      have := hnil j hjx
      have hlt : j < listed.size := by have := (mem_left.1 hx).1; omega
      simpa [Array.getD_eq_getD_getElem?, hlt] using this⟩
    rw [hr] at this
    cases this

/-- One operation in its place, from the abstract step. -/
theorem gstep_step {E : Env} {M : Nat → Option Nat} {a : Act} {w : World} {o : Oper} {ao : AOper} {ops : Array Oper} {K' : Act → World → Prop} {Q : Exit → Act → World → Prop} {i : Nat}
    (hi : ops[i]? = some o) (h : St E M s a w) (hl : lowOper P E.nt ops o = some ao)
    (hK : ∀ a w, Told E K a w → K' a w) (hs : gstep P E.pin ao K s) : wpOp P ops Q i K' a w := by
  have hl' := hl
  unfold lowOper at hl
  split at hl
  · rename_i op gd hop hgd hd
    simp only [Option.some.injEq] at hl
    subst hl
    unfold gstep at hs
    split at hs
    · rename_i g hg
      have hw := aguard_spec h hgd hg
      unfold wpOp
      rw [hi]
      simp only [hw]
      cases g with
      | true =>
        simp only [if_true]
        exact .inl (astep_sound h hl' hK (hs.1 rfl))
      | false =>
        simp only [Bool.false_eq_true, if_false]
        exact hK _ _ ⟨M, _, h.skip hd, hs.2 rfl⟩
    · exact hs.elim
  · cases hl

theorem qAny {n : Nat} {E : Env} {ops : Array Oper} {al : List AOper} {Q : Exit → Act → World → Prop} (hl : Lows P E.nt n ops al) (hok : drawOk Z n al = true) (hZ : ∀ id ∈ Z, F id = none)
    (hQ : ∀ a w, Told E K a w → Q .normal a w) : ∀ (fuel : Nat) (listed : Array Bool) (M : Nat → Option Nat) (s : S) (a : Act) (w : World), listed.size = ops.size → (left ops.size listed).length ≤ fuel → St E M s a w → ((∃ i ∈ left ops.size listed, i < n) → Sees F s) → (∀ i, i < ops.size → listed.getD i true = true → ∀ j ∈ (nth al i).after, listed.getD j false = true) →
    qMix P E.pin F Z n al (left ops.size listed) K s → wpAny P .any ops Q fuel listed a w
  | 0, listed, M, s, a, w, hsz, hf, h, _, _, hs => by
    have hnil : left ops.size listed = [] := List.eq_nil_of_length_eq_zero (Nat.le_zero.1 hf)
    rw [hnil] at hs
    refine ⟨?_, hQ _ _ ⟨M, s, h, hs⟩⟩
    refine List.eq_nil_iff_forall_not_mem.2 fun i hi => ?_
    have := ((mem_ready hl).1 hi).1
    rw [hnil] at this
    cases this
  | fuel + 1, listed, M, s, a, w, hsz, hf, h, hF, hcl, hs => by
    refine ⟨fun hr => ?_, fun i hi => ?_⟩
    · rw [ready_none hl hok hsz hr] at hs
      exact hQ _ _ ⟨M, s, h, hs⟩
    · have h1 := hl.len
      have h2 := hl.each
      obtain ⟨hil, hia⟩ := (mem_ready hl).1 hi
      obtain ⟨l1, l2, h3, h4, h5, h8⟩ := left_take hil
      have hin := (mem_left.1 hil).1
      have hap : ∀ j ∈ l1, i < n ∧ (nth al j).apart Z (nth al i) = true := fun j hj => by
        refine (drawOk_spec hok (by rw [h1]; simpa using hin)).2 j (h4 j hj).1 fun hja => ?_
        have hanc : ∀ i j, Anc al i j → i < ops.size → (∀ k ∈ (nth al i).after, listed.getD k false = true) → listed.getD j false = true := by
          intro i j hA
          induction hA with
          | one hm => exact fun _ hk => hk _ hm
          | more hm _ ih =>
            intro hi1 hk
            have hk1 := hk _ hm
            have hlt1 : ∀ k, listed.getD k false = true → k < ops.size := fun k hk => by
              rcases Nat.lt_or_ge k listed.size with h | h
              · omega
              · simp [Array.getD_eq_getD_getElem?, Array.getElem?_eq_none h] at hk
            have h9 := hlt1 _ hk1
            exact ih h9 (hcl _ h9 (by
              have hlt2 := h9
              rw [← hsz] at hlt2
              simpa [Array.getD_eq_getD_getElem?, hlt2] using hk1))
        have hja' := hanc i j hja hin hia
        have hlt : j < listed.size := by have := (h4 j hj).1; omega
        have h6 := (h4 j hj).2
        simp [Array.getD_eq_getD_getElem?, hlt] at hja' h6
        rw [hja'] at h6
        cases h6
      have ho : ops[i]? = some ops[i] := by simp [hin]
      have next : ∀ a' w' M' s', St E M' s' a' w' → ((∃ i ∈ l1 ++ l2, i < n) → Sees F s') → qMix P E.pin F Z n al (l1 ++ l2) K s' → wpAny P .any ops Q fuel (listed.setIfInBounds i true) a' w' := fun a' w' M' s' hst hF' hk => by
        refine qAny hl hok hZ hQ fuel _ M' s' a' w' (by simpa using hsz) ?_ hst ?_ ?_ ?_
        · rw [h5]
          rw [h3] at hf
          simp at hf ⊢
          omega
        · rw [h5]
          exact hF'
        · intro k hk1 hk2 j hj
          have hmono : ∀ q, listed.getD q false = true → (listed.setIfInBounds i true).getD q false = true := fun q hq => by
            by_cases hqi : q = i
            · subst hqi
              have hlq : q < listed.size := by omega
              simp [Array.getD_eq_getD_getElem?, hlq]
            · rw [getD_set_ne hqi]; exact hq
          by_cases hki : k = i
          · subst hki; exact hmono j (hia j hj)
          · rw [getD_set_ne hki] at hk2
            exact hmono j (hcl k hk1 hk2 j hj)
        · rw [h5]
          exact hk
      rw [h3] at hs hF
      by_cases hn : i < n
      · obtain ⟨ao0, hlo, _, hao⟩ := h2 i _ (show ops.toList[i]? = some ops[i] by simp [hin])
        exact qone_low ho h (hF ⟨i, by simp, hn⟩) hZ hlo (hao.imp id And.right) (fun a w M s a1 a2 a3 => next a w M s a1 (fun _ => a2) a3) (qMix_front hn (fun j hj => ⟨by have := (h4 j hj).1; omega, (hap j hj).2⟩) hs)
      · cases l1 with
        | cons j l1 => exact absurd (hap j (by simp)).1 hn
        | nil =>
          simp only [List.nil_append, qMix, if_neg hn] at hs
          obtain ⟨ao0, hlo, _, hao⟩ := h2 i _ (show ops.toList[i]? = some ops[i] by simp [hin])
          have hao : nth al i = ao0 := hao.resolve_right (fun h => hn h.1)
          exact gstep_step ho h (hao ▸ hlo) (fun a w ⟨M, s, a1, a2⟩ => next a w M s a1 (fun ⟨j, hj, hjn⟩ => by have := h8 j (by simpa using hj); omega) a2) hs

theorem St.drawn {E : Env} {M : Nat → Option Nat} {a : Act} {w : World} (h : St E M s a w) (n : Nat) : St E M s a { w with drawn := n } := by
  have t : Tr E M s.H w M s.H { w with drawn := n } := Tr.same h.hok h.old rfl rfl rfl rfl
  exact ⟨h.defers, h.size, fun t' => Den.keeps t.keeps (h.slots t'), t.hok, t.old⟩

theorem left_all (n : Nat) : left n (Array.replicate n false) = List.range n := by
  unfold left
  rw [List.filter_eq_self]
  intro i hi
  have : i < n := List.mem_range.1 hi
  simp [Array.getD_eq_getD_getElem?, this]

theorem Lows.plain {nt n : Nat} {ops : Array Oper} {al : List AOper} (h : lowOpers P nt ops ops.toList = some al) : Lows P nt n ops al := by
  obtain ⟨h1, h2⟩ := lowOpers_spec h
  exact ⟨h1, fun i o ho => ⟨_, h2 i o ho, rfl, .inl rfl⟩⟩
theorem nth_map_left {mid post : List AOper} {i : Nat} (h : i < mid.length) : nth (mid.map litA ++ post) i = litA (nth (mid ++ post) i) := by
  unfold nth
  rw [List.getElem?_append_left (by simpa using h), List.getElem?_append_left h]
  simp [h]
theorem nth_map_right {mid post : List AOper} {i : Nat} (h : mid.length ≤ i) : nth (mid.map litA ++ post) i = nth (mid ++ post) i := by
  unfold nth
  rw [List.getElem?_append_right (by simpa using h), List.getElem?_append_right h]
  simp
theorem Lows.lit {nt : Nat} {ops : Array Oper} {mid post : List AOper} (h : lowOpers P nt ops ops.toList = some (mid ++ post)) : Lows P nt mid.length ops (mid.map litA ++ post) := by
  obtain ⟨h1, h2⟩ := lowOpers_spec h
  refine ⟨by simpa using h1, fun i o ho => ⟨_, h2 i o ho, ?_, ?_⟩⟩
  · rcases Nat.lt_or_ge i mid.length with hi | hi
    · rw [nth_map_left hi]; rfl
    · rw [nth_map_right hi]
  · rcases Nat.lt_or_ge i mid.length with hi | hi
    · exact .inr ⟨hi, nth_map_left hi⟩
    · exact .inl (nth_map_right hi)

/-- A REGION THAT DRAWS ITS ORDER: the walk in the order of the text serves. -/
theorem awp_drawF {Q : Exit → S → Prop} {mid post : List AOper} (F : Nat → Option (List AV)) (Z : List Nat) (hm : P.follows .mixedOrders = true) (hok : drawOk Z mid.length (mid ++ post) = true) (hF : Sees F s) (hZ : ∀ id ∈ Z, F id = none)
    (h : qSeq P pin F Z mid (aSeq P pin post (Q .normal)) s) : awp P pin (.draw (mid ++ post)) Q s := by
  intro E M a w cc hp hl hs
  subst hp
  cases cc <;> simp only [lowCode] at hl <;> first
    | (exfalso; first | (simp at hl; done) | ((repeat' (split at hl)) <;> simp at hl; done) | (simp only [Option.map_eq_some_iff] at hl; obtain ⟨_, _, hl⟩ := hl; (try split at hl) <;> simp at hl; done))
    | skip
  rename_i id os dr
  simp only [Option.map_eq_some_iff] at hl
  obtain ⟨l, hl1, hl2⟩ := hl
  cases dr with
  | false => simp at hl2
  | true =>
    simp only [if_true, ACode.draw.injEq] at hl2
    subst hl2
    have hlen : mid.length + post.length = os.size := by simpa using (lowOpers_spec hl1).1
    refine wp_region_any hm (qAny (F := F) (Z := Z) (Lows.plain hl1) hok hZ (fun a w h => h) os.size _ M s a _ (by simp) (by simp [left_all]) (hs.drawn _) (fun _ => hF) (fun i hi hi2 => by simp [Array.getD_eq_getD_getElem?, hi] at hi2) ?_)
    rw [left_all, ← hlen, List.range_eq_range']
    exact qMix_of' (pre := []) (mid := mid) (post := post) (by simp) (by simp) h

/-- The same, with the new slices of its first part told as plain data. -/
theorem awp_drawL {Q : Exit → S → Prop} {mid post : List AOper} (F : Nat → Option (List AV)) (Z : List Nat) (hm : P.follows .mixedOrders = true) (hok : drawOk Z mid.length (mid.map litA ++ post) = true) (hF : Sees F s) (hZ : ∀ id ∈ Z, F id = none)
    (h : qSeq P pin F Z (mid.map litA) (aSeq P pin post (Q .normal)) s) : awp P pin (.draw (mid ++ post)) Q s := by
  intro E M a w cc hp hl hs
  subst hp
  cases cc <;> simp only [lowCode] at hl <;> first
    | (exfalso; first | (simp at hl; done) | ((repeat' (split at hl)) <;> simp at hl; done) | (simp only [Option.map_eq_some_iff] at hl; obtain ⟨_, _, hl⟩ := hl; (try split at hl) <;> simp at hl; done))
    | skip
  rename_i id os dr
  simp only [Option.map_eq_some_iff] at hl
  obtain ⟨l, hl1, hl2⟩ := hl
  cases dr with
  | false => simp at hl2
  | true =>
    simp only [if_true, ACode.draw.injEq] at hl2
    subst hl2
    have hlen : mid.length + post.length = os.size := by simpa using (lowOpers_spec hl1).1
    refine wp_region_any hm (qAny (F := F) (Z := Z) (Lows.lit hl1) hok hZ (fun a w h => h) os.size _ M s a _ (by simp) (by simp [left_all]) (hs.drawn _) (fun _ => hF) (fun i hi hi2 => by simp [Array.getD_eq_getD_getElem?, hi] at hi2) ?_)
    rw [left_all, ← hlen, List.range_eq_range', ← List.length_map (f := litA) (as := mid)]
    exact qMix_of' (pre := []) (mid := mid.map litA) (post := post) (by simp) (by simp) h

theorem awp_draw {Q : Exit → S → Prop} {mid post : List AOper} (hm : P.follows .mixedOrders = true) (hok : drawOk [] mid.length (mid ++ post) = true) (h : qSeq P pin s.H [] mid (aSeq P pin post (Q .normal)) s) : awp P pin (.draw (mid ++ post)) Q s :=
  awp_drawF s.H [] hm hok (fun _ _ h => h) (fun _ h => by cases h) h
end
end Vw
