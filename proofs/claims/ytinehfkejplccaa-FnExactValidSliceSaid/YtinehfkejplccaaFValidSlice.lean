/- The law FnExactValidSlice returns true for every slice of three integers and two booleans, and every argument reads afterwards as it read before. Its conditions: none. -/
import Derived.Test.YtinehfkejplccaaT1
import Derived.Test.YtinehfkejplccaaVwO
import Derived.Test.YtinehfkejplccaaRows
import Derived.ProofKit
import Derived.OpenShut
import Derived.ShutString
import Derived.ChangeOld
import Derived.Below
import Derived.Lib.SmallJoins
namespace Go.Proofs.Ytinehfkejplccaa.fnExactValidSliceDone
open Go.ChangeShapes Go.WideShapes Go.ChangeAt Go.RowKit Go.Joins
set_option linter.unusedVariables false

theorem own : ownKnob Try.prog.godebug = none := by kernel_rfl
theorem laidOut : laidOutB Try.prog = true := by kernel_rfl
theorem cells23 : Try.prog.cellsOf 23 = 5 := by kernel_rfl

theorem walk (a b c : Int) (g h : Bool) (w : World) :
    Calls Try.prog 3 #[.agg #[.int .i64 a, .int .i64 b, .int .i64 c, .bool g, .bool h]] w fun e w' => e = .returned (.bool true) ∧ Below w.heap.size w w' := by
  refine (law3_ok a b c g h w (fun _ => False) [.agg #[.int .i64 a, .int .i64 b, .int .i64 c, .bool g, .bool h]] (fun _ h => h.elim) rfl ?_).mono fun e w' ⟨res, v, hq, he, hd, hb⟩ => ?_
  · simp [Vw.DenP, Vw.Den]
  · subst hq
    simp only [Vw.Den] at hd
    subst hd
    exact ⟨he, hb⟩

set_option maxRecDepth 100000 in
theorem lifted (os : Os) (started : os.Started) (H : Type) (enc : TypeId × Value → H) :
    ReturnsInHanded {} Try.checked os 3 .any (Rows.fnExactValidSliceSpec.pre6 enc Try.prog Try.f3 Rows.fnExactValidSliceRow.domain false) (Rows.fnExactValidSliceSpec.post enc Try.prog Try.f3 false true false false) := by
  refine returnsInHanded_of_change (C := Try.checked) own started (by kernel_rfl) Try.func3
    (ChangeSpec.witness6 (enc := enc) (C := Try.checked) false ⟨#[], #[.agg #[.int .i64 0, .int .i64 0, .int .i64 0, .bool false, .bool false]], []⟩ 8 (by kernel_rfl) (by kernel_rfl) (by kernel_rfl) (by kernel_rfl)) ?_
  intro W base args ds gs before hval0 hW hcnd _
  have hval : ∀ (j : Nat) t v, Try.f3.params[j]? = some t → args[j]? = some v → Value.okWide Try.prog W .any base t v := hval0
  have hW' := hW
  obtain ⟨p, q, hA0, hV, rfl, hfz, hnd⟩ := hW
  have hA : DataW.TrodAll enc Try.prog W 0 (fun _ => true) true Try.f3.params.toList args.toList ds p := hA0
  rw [Try.params3] at hA hval
  obtain ⟨v0, vs0, d0, ds0, p0, q0, hargs, rfl, rfl, h0, r0⟩ := trodAll_cons hA
  obtain ⟨rfl, rfl, rfl⟩ := trodAll_nil r0
  obtain rfl : args = #[v0] := by cases args; simp_all
  obtain ⟨rfl, rfl⟩ := trodVars_none hV
  have k0 := h0
  have lt0 : ∀ x ∈ p0, x.block < W.heap.size := by obtain ⟨m, hm⟩ := k0; exact DataW.trod_lt m _ _ _ hm
  obtain ⟨a, b, c, g, h, rfl⟩ : ∃ (a b c : Int) (g h : Bool), v0 = .agg #[.int .i64 a, .int .i64 b, .int .i64 c, .bool g, .bool h] := by
    obtain ⟨c0, c1, c2, c3, c4, y0, y1, y2, y3, y4, m, rfl, _, _, hy0, hy1, hy2, hy3, hy4⟩ := Vw.open_agg5 Try.underlying23 (by kernel_rfl) cells23 (hval 0 23 v0 rfl rfl) h0
    obtain ⟨a, e0, _⟩ := DataW.trod_int Try.underlying3 hy0
    obtain ⟨b, e1, _⟩ := DataW.trod_int Try.underlying3 hy1
    obtain ⟨c, e2, _⟩ := DataW.trod_int Try.underlying3 hy2
    obtain ⟨g, e3, _⟩ := DataW.trod_bool Try.underlying4 hy3
    obtain ⟨h, e4, _⟩ := DataW.trod_bool Try.underlying4 hy4
    simp at e0 e1 e2 e3 e4
    exact ⟨a, b, c, g, h, by rw [e0, e1, e2, e3, e4]⟩
  clear hA0 hval0
  refine (walk a b c g h W).mono fun e W' ⟨he, bel⟩ => ?_
  subst he
  exact ⟨_, rfl, _, _, _, [], _, [], hW', trodAll_mk1 (shut_bool Try.underlying4 _), (trodAll_cons_mk (Below.trod laidOut (by kernel_rfl) (of_decide_eq_true (by kernel_rfl)) k0 bel lt0) trodAll_mk0), rfl, bel.frame _, fun h => by cases h⟩

theorem over : Rows.fnExactValidSliceRow.holds Try.pinned (OpenSpec.ofChange Rows.fnExactValidSliceSpec) :=
  OpenClaim.holds_of_wide 3 Try.f3 rfl rfl rfl rfl rfl rfl rfl ⟨rfl, rfl, rfl, rfl, rfl⟩ rfl rfl rfl rfl rfl (by kernel_rfl) Try.func3 (by kernel_rfl)
    (of_decide_eq_true (by kernel_rfl)) (by unfold Func.isWrapper; first | (rw [if_pos (by decide +kernel)]; kernel_rfl) | (rw [if_neg (by decide +kernel)]; exact ⟨rfl, rfl⟩))
    (fun os started H enc _ => lifted os started H enc)

theorem proved : Rows.FnExactValidSliceSaid := over
#print axioms proved
end Go.Proofs.Ytinehfkejplccaa.fnExactValidSliceDone
