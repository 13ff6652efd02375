import Derived.Test.YtahdlohpncjdbaaDoorCKh9
import Derived.Test.YtahdlohpncjdbaaDoorCM1
import Derived.Test.YtahdlohpncjdbaaDoorCW3
set_option linter.unusedSimpArgs false
set_option linter.unusedVariables false
set_option maxRecDepth 4000
set_option maxHeartbeats 4000000
namespace Go.Proofs.YtahdlohpncjdbaaDoor
open VwM Vw Go
set_option linter.unusedSectionVars false
variable [SentA]

def kidB (cs : List Int) (es : List Ex) (id : Int) : Bool := vB cs es && (decide (-1 ≤ id) && decide (id ≤ (es.length : Int) - 1))
def kidsA (cs : List Int) (es : List Ex) (id : Int) : List Int := if kidB cs es id = true then kidsT es id es.length else []
def opensT (es : List Ex) : Nat → List Int
  | 0 => []
  | k + 1 => match es[k]? with
    | some e => if e.2.2 = true then opensT es k ++ [(k : Int)] else opensT es k
    | none => opensT es k
def opensA (cs : List Int) (es : List Ex) : List Int := if vB cs es = true then opensT es es.length else []
theorem vB_8 {cs : List Int} {es : List Ex} (h : vB cs es = true) : es.length ≤ 8 ∧ cs.length ≤ 60 ∧ parOk es := by
  unfold vB at h
  simp only [Bool.and_eq_true,decide_eq_true_eq] at h
  obtain ⟨⟨h1,h2⟩,h3⟩ := h
  refine ⟨h2,by unfold vMem at h1; simp at h1; omega,fun i e he => ?_⟩
  have hi : i < es.length := (List.getElem?_eq_some_iff.1 he).1
  have := (allX_iff (f := sxV cs.length es)).1 h3 i e hi he
  unfold sxV exV at this
  simp only [Bool.and_eq_true,decide_eq_true_eq] at this
  omega




set_option maxHeartbeats 8000000 in
theorem toBufferF_ok (cs : List Int) (es : List Ex) (m n : Nat) (hm : cs.length = m) (hn : es.length = n) (hb : m ≤ 1048576 ∧ n ≤ 1048576 ∧ exB 1048576 es) : BCall Tryd.prog 10 [.agg [.rows false (IL cs) m,.rows false (EL false es) n]] [] (fun r H' => r = .agg [.own 0 m 1,.own 1 n 5] ∧ H' = IL cs :: (esF es).cellsG (· + 2) :: (esF es).conts) := by
  subst hm hn
  obtain ⟨hb1,hb2,hb3⟩ := hb
  have hq : es.length ≤ 1048576 ∧ exB 1099511627776 es := ⟨hb2,fun e he => by have := hb3 e he; omega⟩
  refine bcall_of (pins := []) (pin := 0) l10_eq rfl rfl rfl ?_
  have hel := EL_length false es
  (repeat' (first
 | (first | refine awp_seq ?_ | refine awp_block ?_)
 | ((first | refine awp_reg ?_ | refine awp_condB ?_ | refine awp_skip ?_ | refine awp_exit ?_); simp (disch := omega) only [push_cast,seval,l10r0,l10r1,l10r2,l10r3,l10r4,innL_EL,hel])
 | ((first | refine condB_split (fun h => ?_) (fun h => ?_) | refine gIf_split (fun h => ?_) (fun h => ?_) | refine qIf_split (fun h => ?_) (fun h => ?_)) <;> (try simp only [h]) <;> (try simp only [bitvec_to_nat] at h) <;> (try simp only [h]) <;> (first | (exfalso; omega) | (focus (exfalso; simp_all; done)) | (simp (disch := omega) only [push_cast,seval,innL_EL,hel]) | skip))
 | ((first | ((with_reducible refine callD_of (f := 34) false ?_); simp (disch := omega) only [push_cast,seval,innL_EL,hel]; (refine callFN (toExportSF_ok _ _ ?_ ?_) (by (simp (disch := omega) only [push_cast,seval,innL_EL,hel]); done) ?_; (iterate 2 (exact sd))))) <;> (try simp (disch := omega) only [push_cast,seval,innL_EL,hel]))
 | ((first | refine callD_of false ?_ | refine qcallD_of false ?_); simp (disch := omega) only [push_cast,seval,innL_EL,hel])
 | ((first | ((first | refine call0D (toIntS_ok _ _ ?_ ?_) ?_ | refine qcall0D (toIntS_ok _ _ ?_ ?_) ⟨_,_,rfl,rfl⟩ ?_); (iterate 2 (exact sd)); rintro _ _ ⟨rfl,rfl⟩)) <;> (try simp (disch := omega) only [push_cast,seval,innL_EL,hel]))))
  refine awp_ret ⟨.inr rfl,ret_famB (id0 := 96) (id1 := 160) (d := 10) (F := esF es) (cs := cs) rfl ?_ ?_ ?_ (by omega)⟩
  · simp only [hk,if_false,hk_famD_low _ _ _ 96 (by omega)]
    rfl
  · rfl
  · intro j hj
    simp only [hk,fim_ne 10 j 32 (by omega),fim_ne 10 j 48 (by omega),fim_ne 10 j 160 (by omega),if_false]
    exact hk_famD_same _ _ _ _ hj



end Go.Proofs.YtahdlohpncjdbaaDoor
