/- Regions that draw their order, with new slices told as plain data and calls that may write one object: for the walk. -/
import Derived.Test.YtodfknmnhlaiaaaCVwT
set_option linter.unusedVariables false
set_option linter.unusedSimpArgs false
namespace Vw
open Go

theorem litA_eq (d : Option Nat) (op : AOp) (g : Option (Nat × Bool)) (a : List Nat) : litA ⟨d, op, g, a⟩ = ⟨d, litOp op, g, a⟩ := rfl
theorem litOp_bslice (sz : Nat) (zs : List Value) (ps : List (Nat × Operand)) (n : Nat) : litOp (.bslice sz zs ps n) = if n = 0 then .bslice sz zs ps n else .blit sz zs ps n := rfl
theorem litOp_mv (x : Operand) : litOp (.mv x) = .mv x := rfl
theorem litOp_pick (c a b : Operand) : litOp (.pick c a b) = .pick c a b := rfl
theorem litOp_alloc (zs : List Value) : litOp (.alloc zs) = .alloc zs := rfl
theorem litOp_box (x : Operand) : litOp (.box x) = .box x := rfl
theorem litOp_build (zs : List Value) (ps : List (Nat × Nat × Operand)) : litOp (.build zs ps) = .build zs ps := rfl
theorem litOp_load (agg : Bool) (sz : Nat) (x : Operand) : litOp (.load agg sz x) = .load agg sz x := rfl
theorem litOp_store (sz : Nat) (x v : Operand) : litOp (.store sz x v) = .store sz x v := rfl
theorem litOp_bin (op : BinOp) (x y : Operand) : litOp (.bin op x y) = .bin op x y := rfl
theorem litOp_binB (op : BinOp) (x y : Operand) : litOp (.binB op x y) = .binB op x y := rfl
theorem litOp_un (op : UnOp) (x : Operand) : litOp (.un op x) = .un op x := rfl
theorem litOp_conv (k : IntKind) (x : Operand) : litOp (.conv k x) = .conv k x := rfl
theorem litOp_nilck (x : Operand) : litOp (.nilck x) = .nilck x := rfl
theorem litOp_mkslice (sz : Nat) (zs : List Value) (l c : Operand) : litOp (.mkslice sz zs l c) = .mkslice sz zs l c := rfl
theorem litOp_slice (sz : Nat) (x : Operand) (lo hi : Option Operand) : litOp (.slice sz x lo hi) = .slice sz x lo hi := rfl
theorem litOp_sliceS (x : Operand) (lo hi : Option Operand) : litOp (.sliceS x lo hi) = .sliceS x lo hi := rfl
theorem litOp_fld (off : Nat) (x : Operand) : litOp (.fld off x) = .fld off x := rfl
theorem litOp_fldv (agg : Bool) (off sz : Nat) (x : Operand) : litOp (.fldv agg off sz x) = .fldv agg off sz x := rfl
theorem litOp_idxA (sz : Nat) (x i : Operand) : litOp (.idxA sz x i) = .idxA sz x i := rfl
theorem litOp_idxP (sz n : Nat) (x i : Operand) : litOp (.idxP sz n x i) = .idxP sz n x i := rfl
theorem litOp_idxS (x i : Operand) : litOp (.idxS x i) = .idxS x i := rfl
theorem litOp_extract (x : Operand) (i : Nat) : litOp (.extract x i) = .extract x i := rfl
theorem litOp_len (x : Operand) : litOp (.len x) = .len x := rfl
theorem litOp_lenS (x : Operand) : litOp (.lenS x) = .lenS x := rfl
theorem litOp_append (sz : Nat) (x y : Operand) : litOp (.append sz x y) = .append sz x y := rfl
theorem litOp_minmax (mx : Bool) (x y : Operand) : litOp (.minmax mx x y) = .minmax mx x y := rfl
theorem litOp_eqS (neg : Bool) (l : List (Nat × Option IntKind)) (x y : Operand) : litOp (.eqS neg l x y) = .eqS neg l x y := rfl
theorem litOp_sliceP (sz n : Nat) (x : Operand) (lo hi : Option Operand) : litOp (.sliceP sz n x lo hi) = .sliceP sz n x lo hi := rfl
theorem litOp_isnil (neg : Bool) (x : Operand) : litOp (.isnil neg x) = .isnil neg x := rfl
theorem litOp_call (f : Nat) (args : List Operand) : litOp (.call f args) = .call f args := rfl

/-- The heap without an object. -/
def dropK (id : Nat) : List (Nat × List AV) → List (Nat × List AV)
  | [] => []
  | p :: r => if p.1 = id then dropK id r else p :: dropK id r
theorem dropK_nil (id : Nat) : dropK id [] = [] := rfl
theorem dropK_cons (id i : Nat) (cs : List AV) (r : List (Nat × List AV)) : dropK id ((i, cs) :: r) = if i = id then dropK id r else (i, cs) :: dropK id r := rfl
theorem hk_dropK (id : Nat) : ∀ (H : List (Nat × List AV)) (j : Nat), hk (dropK id H) j = if j = id then none else hk H j
  | [], j => by simp [dropK, hk]
  | p :: r, j => by
    have ih := hk_dropK id r j
    simp only [dropK]
    by_cases h : p.1 = id
    · rw [if_pos h, ih]
      by_cases hj : j = id
      · simp [hj]
      · rw [if_neg hj, if_neg hj]
        simp only [hk]
        rw [if_neg (fun e => hj (e.trans h))]
    · rw [if_neg h]
      simp only [hk]
      by_cases hj : j = p.1
      · rw [if_pos hj, if_pos hj, if_neg (fun e => h (hj ▸ e))]
      · rw [if_neg hj, if_neg hj, ih]

section
variable {P : Program} {pin : Nat} {σ : List (Nat × AV)} {H HF : List (Nat × List AV)} {Z : List Nat} {K : S → Prop}

theorem awp_drawL0 {Q : Exit → S → Prop} {mid post : List AOper} (hm : P.follows .mixedOrders = true) (hok : drawOk [] mid.length (mid.map litA ++ post) = true)
    (h : qSeq P pin (hk H) [] (mid.map litA) (aSeq P pin post (Q .normal)) (mkS σ H)) : awp P pin (.draw (mid ++ post)) Q (mkS σ H) :=
  awp_drawL (hk H) [] hm hok (fun _ _ h => h) (fun _ h => by cases h) h

theorem awp_drawZ {Q : Exit → S → Prop} {mid post : List AOper} (id : Nat) (hm : P.follows .mixedOrders = true) (hok : drawOk [id] mid.length (mid.map litA ++ post) = true)
    (h : qSeq P pin (hk (dropK id H)) [id] (mid.map litA) (aSeq P pin post (Q .normal)) (mkS σ H)) : awp P pin (.draw (mid ++ post)) Q (mkS σ H) := by
  refine awp_drawL (hk (dropK id H)) [id] hm hok (fun j cs hj => ?_) (fun j hj => ?_) h
  · rw [hk_dropK] at hj
    split at hj
    · cases hj
    · exact hj
  · simp only [List.mem_singleton] at hj
    rw [hk_dropK, if_pos hj]

/-- The same, for a list of objects (there already or made by the region), and marks. -/
theorem awp_drawX {Q : Exit → S → Prop} {mid post : List AOper} (Z : List Nat) (hm : P.follows .mixedOrders = true) (hok : drawOk Z mid.length (mid.map litA ++ post) = true)
    (h : qSeq P pin (hk (dropL Z H)) Z (mid.map litA) (aSeq P pin post (Q .normal)) (mkS σ H)) : awp P pin (.draw (mid ++ post)) Q (mkS σ H) := by
  refine awp_drawL (hk (dropL Z H)) Z hm hok (fun j cs hj => ?_) (fun j hj => ?_) h
  · rw [hk_dropL] at hj
    split at hj
    · cases hj
    · exact hj
  · rw [hk_dropL, if_pos hj]

theorem qSeq_blit (sz : Nat) (zs : List Value) (ps : List (Nat × Operand)) (n : Nat) (dst : Option Nat) (af : List Nat) (r : List AOper) : qSeq P pin (hk HF) Z (⟨dst, .blit sz zs ps n, none, af⟩ :: r) K (mkS σ H) = bindX P pin HF Z K (isMk Z dst) (.blit sz zs ps n) dst r σ H := bindQ_mk _ _ _ _ (fun _ _ h => by cases h) rfl
theorem arun_blit {s : S} {d : Nat} (sz : Nat) (zs : List Value) (ps : List (Nat × Operand)) (n : Nat) : arun s pin d (.blit sz zs ps n) =
    withO (fillR (zcells (zs.map ofCell) n) (ps.map fun p => (p.1 * sz, sz, s.ev p.2))) fun cs => some (.rows true cs n, none) := by
  simp only [arun, withO]
  cases fillR (zcells (zs.map ofCell) n) (ps.map fun p => (p.1 * sz, sz, s.ev p.2)) <;> rfl

/-- A call in a region that draws, the objects that it is handed named. -/
def qcallI (P : Program) (pin : Nat) (HF : List (Nat × List AV)) (Z : List Nat) (f : Nat) (ids : List Nat) (sh : Bool) (cargs : List AV) (dst : Option Nat) (r : List AOper) (K : S → Prop) (σ : List (Nat × AV)) (H : List (Nat × List AV)) : Prop :=
  ∀ args : List Operand, args.map (fun x => ((mkS σ H).ev x).down ids sh (hk HF)) = cargs → qCall P pin (hk HF) Z f args dst r K (mkS σ H)
theorem qcallI_of {f : Nat} {args : List Operand} {dst : Option Nat} {r : List AOper} (ids : List Nat) (sh : Bool) (h : qcallI P pin HF Z f ids sh (args.map fun x => ((mkS σ H).ev x).down ids sh (hk HF)) dst r K σ H) : qCall P pin (hk HF) Z f args dst r K (mkS σ H) := h args rfl
theorem qcall1D {f d id : Nat} {sh : Bool} {cargs h0 : List AV} {Q : AV → List (List AV) → Prop} {r : List AOper} (hc : BCall P f cargs [h0] Q) (hH : (hk H id).map (List.map (AV.down [id] sh (hk HF))) = some h0) (hz : id ∈ Z) (hne : ∃ v H', Q v H')
    (hK : ∀ res H', Q res H' → (lenOk [h0] H' ∧ H'.length - 1 ≤ 16 ∧ freshD H d ∧ pin ≤ 16 * d ∧ ∀ z ∈ Z, ¬ z / 16 = d) ∧ qSeq P pin (hk HF) Z r K (after [id] sh 1 (some d) res H' (mkS σ H))) : qcallI P pin HF Z f [id] sh cargs (some d) r K σ H := by
  intro args ha
  obtain ⟨v, H', hq⟩ := hne
  have h1 := (hK v H' hq).1
  cases hc0 : hk H id with
  | none => rw [hc0] at hH; cases hH
  | some c0 =>
    rw [hc0] at hH
    exact qcall1 id sh hc ha hc0 (by simpa using hH) hz h1.2.2 ⟨v, H', hq⟩ fun res H'' hq' => ⟨(hK res H'' hq').1.1, (hK res H'' hq').1.2.1, (hK res H'' hq').2⟩

/-- What is known between two pieces of code. -/
theorem awp_join {s : S} {c1 c2 : ACode} {Q : Exit → S → Prop} {κ : Type} (I : κ → S) (Pre : κ → Prop) (h1 : awp P pin c1 (fun e s' => e = .normal ∧ ∃ x, Pre x ∧ Sub pin s' (I x)) s) (h2 : ∀ x, Pre x → awp P pin c2 Q (I x)) : awp P pin (.seq c1 c2) Q s := by
  refine awp_seq (awp_mono ?_ h1)
  rintro e s' ⟨rfl, x, hx, hsub⟩
  exact awp_sub hsub (h2 x hx)

/-- A smaller state, its slots and objects found by computing. -/
theorem Sub.of_eqs {pin : Nat} {σ σ' : List (Nat × AV)} {H H' : List (Nat × List AV)} (h1 : σ'.map (fun p => lk σ p.1) = σ'.map Prod.snd) (h2 : H'.map (fun p => hk H p.1) = H'.map (fun p => some p.2)) (h3 : ∀ id, id < pin → hk H' id = none → hk H id = none)
    (h4 : ∀ p ∈ σ', p.2.inn (fun id => (hk H' id).isSome) = true) (h5 : ∀ p ∈ H', innL (fun id => (hk H' id).isSome) p.2 = true) : Sub pin (mkS σ H) (mkS σ' H') := by
  refine Sub.of_lists (fun p hp => ?_) (fun p hp => ?_) h3 h4 h5
  · have := (List.map_inj_left.1 h1) p hp
    exact this
  · exact (List.map_inj_left.1 h2) p hp
theorem exSub2 {α0 α1 : Type} {pin : Nat} {s : S} {Pre : α0 × α1 → Prop} {I : α0 × α1 → S} {a : α0} {b : α1} (h2 : Sub pin s (I (a, b))) (h1 : Pre (a, b)) : ∃ x, Pre x ∧ Sub pin s (I x) := ⟨_, h1, h2⟩
theorem exSub3 {α0 α1 α2 : Type} {pin : Nat} {s : S} {Pre : α0 × α1 × α2 → Prop} {I : α0 × α1 × α2 → S} {a : α0} {b : α1} {c : α2} (h2 : Sub pin s (I (a, b, c))) (h1 : Pre (a, b, c)) : ∃ x, Pre x ∧ Sub pin s (I x) := ⟨_, h1, h2⟩
theorem exSub4 {α0 α1 α2 α3 : Type} {pin : Nat} {s : S} {Pre : α0 × α1 × α2 × α3 → Prop} {I : α0 × α1 × α2 × α3 → S} {a : α0} {b : α1} {c : α2} {d : α3} (h2 : Sub pin s (I (a, b, c, d))) (h1 : Pre (a, b, c, d)) : ∃ x, Pre x ∧ Sub pin s (I x) := ⟨_, h1, h2⟩
theorem exSub5 {α0 α1 α2 α3 α4 : Type} {pin : Nat} {s : S} {Pre : α0 × α1 × α2 × α3 × α4 → Prop} {I : α0 × α1 × α2 × α3 × α4 → S} {a : α0} {b : α1} {c : α2} {d : α3} {e : α4} (h2 : Sub pin s (I (a, b, c, d, e))) (h1 : Pre (a, b, c, d, e)) : ∃ x, Pre x ∧ Sub pin s (I x) := ⟨_, h1, h2⟩
theorem exSub6 {α0 α1 α2 α3 α4 α5 : Type} {pin : Nat} {s : S} {Pre : α0 × α1 × α2 × α3 × α4 × α5 → Prop} {I : α0 × α1 × α2 × α3 × α4 × α5 → S} {a : α0} {b : α1} {c : α2} {d : α3} {e : α4} {f : α5} (h2 : Sub pin s (I (a, b, c, d, e, f))) (h1 : Pre (a, b, c, d, e, f)) : ∃ x, Pre x ∧ Sub pin s (I x) := ⟨_, h1, h2⟩
theorem exSub7 {α0 α1 α2 α3 α4 α5 α6 : Type} {pin : Nat} {s : S} {Pre : α0 × α1 × α2 × α3 × α4 × α5 × α6 → Prop} {I : α0 × α1 × α2 × α3 × α4 × α5 × α6 → S} {a : α0} {b : α1} {c : α2} {d : α3} {e : α4} {f : α5} {g : α6} (h2 : Sub pin s (I (a, b, c, d, e, f, g))) (h1 : Pre (a, b, c, d, e, f, g)) : ∃ x, Pre x ∧ Sub pin s (I x) := ⟨_, h1, h2⟩
theorem exSub8 {α0 α1 α2 α3 α4 α5 α6 α7 : Type} {pin : Nat} {s : S} {Pre : α0 × α1 × α2 × α3 × α4 × α5 × α6 × α7 → Prop} {I : α0 × α1 × α2 × α3 × α4 × α5 × α6 × α7 → S} {a : α0} {b : α1} {c : α2} {d : α3} {e : α4} {f : α5} {g : α6} {h : α7} (h2 : Sub pin s (I (a, b, c, d, e, f, g, h))) (h1 : Pre (a, b, c, d, e, f, g, h)) : ∃ x, Pre x ∧ Sub pin s (I x) := ⟨_, h1, h2⟩
end
attribute [push_cast] litA_eq litOp_bslice litOp_mv litOp_pick litOp_alloc litOp_box litOp_build litOp_load litOp_store litOp_bin litOp_binB litOp_un litOp_conv litOp_nilck litOp_mkslice litOp_slice litOp_sliceS litOp_fld litOp_fldv litOp_idxA litOp_idxP litOp_idxS litOp_extract litOp_len litOp_lenS litOp_append litOp_minmax litOp_eqS litOp_sliceP litOp_isnil litOp_call dropK_nil dropK_cons qSeq_blit arun_blit
end Vw
