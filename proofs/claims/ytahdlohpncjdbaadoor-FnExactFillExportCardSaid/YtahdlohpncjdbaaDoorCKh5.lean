import Derived.Test.YtahdlohpncjdbaaDoorCKh4
import Derived.Test.YtahdlohpncjdbaaDoorCM1
set_option linter.unusedSimpArgs false
set_option linter.unusedVariables false
set_option maxRecDepth 4000
set_option maxHeartbeats 4000000
namespace Go.Proofs.YtahdlohpncjdbaaDoor
open VwM Vw Go
set_option linter.unusedSectionVars false
variable [SentA]

/-- An export by itself. -/
def exV (m : Int) (i : Nat) (e : Ex) : Bool := (decide (-1 ≤ e.1) && decide (e.1 ≤ (i : Int) - 1)) && vV e.2.1.1 e.2.1.2.1 e.2.1.2.2 && (!e.2.2 || allI (offs e.2.1.1 e.2.1.2.1 e.2.1.2.2) 0 (m - 1))
def opE (es : List Ex) (p : Int) : Bool := match es[p.toNat]? with | some f => f.2.2 | none => false
/-- An export of a buffer. -/
def sxV (m : Int) (es : List Ex) (i : Nat) (e : Ex) : Bool := exV m i e && (!e.2.2 || (decide (e.1 < 0) || opE es e.1))
def allX (f : Nat → Ex → Bool) (es : List Ex) : Nat → Bool
  | 0 => true
  | k + 1 => allX f es k && (match es[k]? with | some e => f k e | none => true)
def vB (cs : List Int) (es : List Ex) : Bool := vMem cs && decide (es.length ≤ 8) && allX (sxV cs.length es) es es.length
theorem allX_succ {f : Nat → Ex → Bool} {es : List Ex} {k : Nat} {e : Ex} (h : es[k]? = some e) : allX f es (k + 1) = (allX f es k && f k e) := by simp only [allX,h]
theorem allX_iff {f : Nat → Ex → Bool} {es : List Ex} : ∀ {k : Nat},allX f es k = true ↔ ∀ i e,i < k → es[i]? = some e → f i e = true
  | 0 => by simp [allX]
  | k + 1 => by
    constructor
    · intro h i e hi he
      simp only [allX,Bool.and_eq_true] at h
      by_cases hik : i = k
      · subst hik; rw [he] at h; exact h.2
      · exact allX_iff.1 h.1 i e (by omega) he
    · intro h
      simp only [allX,Bool.and_eq_true]
      refine ⟨allX_iff.2 fun i e hi he => h i e (by omega) he,?_⟩
      cases he : es[k]? with
 | none => rfl
 | some e => exact h k e (by omega) he
theorem allX_no {f : Nat → Ex → Bool} {es : List Ex} {i n : Nat} {e : Ex} (h : es[i]? = some e) (hf : f i e = false) (hi : i < n) : allX f es n = false := by
  rw [Bool.eq_false_iff]
  intro h'
  have := allX_iff.1 h' i e hi h
  rw [hf] at this; cases this
theorem mem_ltH {es : List Ex} {i : Nat} (h : i < es.length) : ∃ p b x y o,es[i]? = some (p,(b,x,y),o) := ⟨_,_,_,_,_,List.getElem?_eq_getElem h⟩
theorem parOk_of {m : Int} {es : List Ex} (h : allX (exV m) es es.length = true) : parOk es := fun i e he => by
  have := allX_iff.1 h i e (List.getElem?_eq_some_iff.1 he).1 he
  simp only [exV,Bool.and_eq_true,decide_eq_true_eq] at this
  omega
/-- Bounds of what a buffer's exports have. -/
def exB (n : Nat) (es : List Ex) : Prop := ∀ e ∈ es,e.2.1.2.1.length ≤ n ∧ e.2.1.2.2.length ≤ n
theorem exB_get {n : Nat} {es : List Ex} (h : exB n es) {i : Nat} {p b : Int} {x y : List Int} {o : Bool} (he : es[i]? = some (p,(b,x,y),o)) : x.length ≤ n ∧ y.length ≤ n := h _ (List.mem_of_getElem? he)


theorem sfits2_ok (b : Int) (sh st : List Int) (s : Int) (n m : Nat) (hn : sh.length = n) (hm : st.length = m) (hb : okV b sh st ∧ -1000000 ≤ s ∧ s ≤ 1099511627776) : PCall Tryd.prog 56 [.agg [.int .i64 b,.rows false (IL sh) n,.rows false (IL st) m],.int .i64 s] (fun r => r = .bool (allI (offs b sh st) 0 (s - 1))) := by
  subst hn hm
  obtain ⟨hok,hs1,hs2⟩ := hb
  have hol := offs_length b sh st
  have hpb := hok.1.2
  have hlb : (offs b sh st).length ≤ 1099511627776 := by omega
  refine pcall_of l56_eq rfl ?_
  (repeat' (first
 | (first | refine awp_seq ?_ | refine awp_block ?_)
 | ((first | refine awp_reg ?_ | refine awp_condB ?_ | refine awp_skip ?_ | refine awp_exit ?_); simp (disch := omega) only [push_cast,seval,l56r0,l56r1])
 | ((first | refine condB_split (fun h => ?_) (fun h => ?_) | refine gIf_split (fun h => ?_) (fun h => ?_) | refine qIf_split (fun h => ?_) (fun h => ?_)) <;> (try simp only [h]) <;> (try simp only [bitvec_to_nat] at h) <;> (try simp only [h]) <;> (first | (exfalso; omega) | (focus (exfalso; simp_all; done)) | (simp (disch := omega) only [push_cast,seval]) | skip))
 | ((first | refine callD_of false ?_ | refine qcallD_of false ?_); simp (disch := omega) only [push_cast,seval])
 | ((first | ((first | refine call0D (soffsets_ok _ _ _ _ _ ?_ ?_ ?_) ?_ | refine qcall0D (soffsets_ok _ _ _ _ _ ?_ ?_ ?_) ⟨_,_,rfl,rfl⟩ ?_); (iterate 3 (exact sd)); rintro _ _ ⟨rfl,rfl⟩) | ((first | refine call0D (BCall.ofP (allIn_ok _ _ _ _ ?_ ?_)) ?_ | refine qcall0D (BCall.ofP (allIn_ok _ _ _ _ ?_ ?_)) ⟨_,_,rfl,rfl⟩ ?_); (iterate 2 (exact sd)); rintro _ _ ⟨rfl,rfl⟩)) <;> (try simp (disch := omega) only [push_cast,seval]))
 | (refine awp_ret ⟨.inr rfl,_,rfl,?_⟩; (try simp (disch := omega) only [push_cast,seval]))))


set_option maxHeartbeats 8000000 in
theorem svEx_ok (cs : List Int) (es : List Ex) (m n i : Nat) (p b : Int) (x y : List Int) (o : Bool) (hm : cs.length = m) (hn : es.length = n) (he : es[i]? = some (p,(b,x,y),o)) (hb : m ≤ 1099511627776 ∧ n ≤ 1099511627776 ∧ exB 1099511627776 es) :
    PCall Tryd.prog 61 [.agg [.rows false (IL cs) m,.rows false (EL false es) n],.int .i64 i] (fun r => r = .bool (sxV m es i (p,(b,x,y),o))) := by
  subst hm hn
  obtain ⟨hb1,hb2,hb3⟩ := hb
  have hlt : i < es.length := (List.getElem?_eq_some_iff.1 he).1
  obtain ⟨hbx,hby⟩ := exB_get hb3 he
  have hd := EL_drop false es i he
  simp only at hd
  have hel := EL_length false es
  have hil : i * 5 + 5 ≤ es.length * 5 := by omega
  refine pcall_of l61_eq rfl ?_
  unfold sxV exV
  simp only
  by_cases hp : -1 ≤ p ∧ p ≤ (i : Int) - 1
  · have hpd : (decide (-1 ≤ p) && decide (p ≤ (i : Int) - 1)) = true := by rw [Bool.and_eq_true,decide_eq_true_eq,decide_eq_true_eq]; exact hp
    rw [hpd]
    cases hv : vV b x y with
    | false =>
      (repeat' (first
 | (first | refine awp_seq ?_ | refine awp_block ?_)
 | ((first | refine awp_reg ?_ | refine awp_condB ?_ | refine awp_skip ?_ | refine awp_exit ?_); simp (disch := omega) only [push_cast,seval,l61r0,l61r1,l61r2,l61r3,l61r4,hd,hel,hil,hv,hpd,innL_EL])
 | ((first | refine condB_split (fun h => ?_) (fun h => ?_) | refine gIf_split (fun h => ?_) (fun h => ?_) | refine qIf_split (fun h => ?_) (fun h => ?_)) <;> (try simp only [h]) <;> (try simp only [bitvec_to_nat] at h) <;> (try simp only [h]) <;> (first | (exfalso; omega) | (focus (exfalso; simp_all; done)) | (simp (disch := omega) only [push_cast,seval,hd,hel,hil,hv,hpd,innL_EL]) | skip))
 | ((first | refine callD_of false ?_ | refine qcallD_of false ?_); simp (disch := omega) only [push_cast,seval,hd,hel,hil,hv,hpd,innL_EL])
 | ((first | ((first | refine call0D (BCall.ofP (inRange_ok _ _ _)) ?_ | refine qcall0D (BCall.ofP (inRange_ok _ _ _)) ⟨_,_,rfl,rfl⟩ ?_); rintro _ _ ⟨rfl,rfl⟩) | ((first | refine call0D (BCall.ofP (svalidView_ok _ _ _ _ _ ?_ ?_ ?_)) ?_ | refine qcall0D (BCall.ofP (svalidView_ok _ _ _ _ _ ?_ ?_ ?_)) ⟨_,_,rfl,rfl⟩ ?_); (iterate 3 (exact sd)); rintro _ _ ⟨rfl,rfl⟩) | ((first | refine call0D (BCall.ofP (sfits2_ok _ _ _ _ _ _ ?_ ?_ ?_)) ?_ | refine qcall0D (BCall.ofP (sfits2_ok _ _ _ _ _ _ ?_ ?_ ?_)) ⟨_,_,rfl,rfl⟩ ?_); (iterate 3 (exact sd)); rintro _ _ ⟨rfl,rfl⟩)) <;> (try simp (disch := omega) only [push_cast,seval,hd,hel,hil,hv,hpd,innL_EL]))
 | (refine awp_ret ⟨.inr rfl,_,rfl,?_⟩; (try simp (disch := omega) only [push_cast,seval,hd,hel,hil,hv,hpd,innL_EL]))))
      all_goals (try simp)
    | true =>
      have q : okV b x y ∧ -1000000 ≤ (cs.length : Int) ∧ (cs.length : Int) ≤ 1099511627776 := ⟨(okV_valid hv).1,by omega⟩
      cases o with
 | false =>
        (repeat' (first
 | (first | refine awp_seq ?_ | refine awp_block ?_)
 | ((first | refine awp_reg ?_ | refine awp_condB ?_ | refine awp_skip ?_ | refine awp_exit ?_); simp (disch := omega) only [push_cast,seval,l61r0,l61r1,l61r2,l61r3,l61r4,hd,hel,hil,hv,hpd,innL_EL])
 | ((first | refine condB_split (fun h => ?_) (fun h => ?_) | refine gIf_split (fun h => ?_) (fun h => ?_) | refine qIf_split (fun h => ?_) (fun h => ?_)) <;> (try simp only [h]) <;> (try simp only [bitvec_to_nat] at h) <;> (try simp only [h]) <;> (first | (exfalso; omega) | (focus (exfalso; simp_all; done)) | (simp (disch := omega) only [push_cast,seval,hd,hel,hil,hv,hpd,innL_EL]) | skip))
 | ((first | refine callD_of false ?_ | refine qcallD_of false ?_); simp (disch := omega) only [push_cast,seval,hd,hel,hil,hv,hpd,innL_EL])
 | ((first | ((first | refine call0D (BCall.ofP (inRange_ok _ _ _)) ?_ | refine qcall0D (BCall.ofP (inRange_ok _ _ _)) ⟨_,_,rfl,rfl⟩ ?_); rintro _ _ ⟨rfl,rfl⟩) | ((first | refine call0D (BCall.ofP (svalidView_ok _ _ _ _ _ ?_ ?_ ?_)) ?_ | refine qcall0D (BCall.ofP (svalidView_ok _ _ _ _ _ ?_ ?_ ?_)) ⟨_,_,rfl,rfl⟩ ?_); (iterate 3 (exact sd)); rintro _ _ ⟨rfl,rfl⟩) | ((first | refine call0D (BCall.ofP (sfits2_ok _ _ _ _ _ _ ?_ ?_ ?_)) ?_ | refine qcall0D (BCall.ofP (sfits2_ok _ _ _ _ _ _ ?_ ?_ ?_)) ⟨_,_,rfl,rfl⟩ ?_); (iterate 3 (exact sd)); rintro _ _ ⟨rfl,rfl⟩)) <;> (try simp (disch := omega) only [push_cast,seval,hd,hel,hil,hv,hpd,innL_EL]))
 | (refine awp_ret ⟨.inr rfl,_,rfl,?_⟩; (try simp (disch := omega) only [push_cast,seval,hd,hel,hil,hv,hpd,innL_EL]))))
        all_goals (try simp)
 | true =>
        cases hf : allI (offs b x y) 0 ((cs.length : Int) - 1) with
        | false =>
          (repeat' (first
 | (first | refine awp_seq ?_ | refine awp_block ?_)
 | ((first | refine awp_reg ?_ | refine awp_condB ?_ | refine awp_skip ?_ | refine awp_exit ?_); simp (disch := omega) only [push_cast,seval,l61r0,l61r1,l61r2,l61r3,l61r4,hd,hel,hil,hv,hpd,hf,innL_EL])
 | ((first | refine condB_split (fun h => ?_) (fun h => ?_) | refine gIf_split (fun h => ?_) (fun h => ?_) | refine qIf_split (fun h => ?_) (fun h => ?_)) <;> (try simp only [h]) <;> (try simp only [bitvec_to_nat] at h) <;> (try simp only [h]) <;> (first | (exfalso; omega) | (focus (exfalso; simp_all; done)) | (simp (disch := omega) only [push_cast,seval,hd,hel,hil,hv,hpd,hf,innL_EL]) | skip))
 | ((first | refine callD_of false ?_ | refine qcallD_of false ?_); simp (disch := omega) only [push_cast,seval,hd,hel,hil,hv,hpd,hf,innL_EL])
 | ((first | ((first | refine call0D (BCall.ofP (inRange_ok _ _ _)) ?_ | refine qcall0D (BCall.ofP (inRange_ok _ _ _)) ⟨_,_,rfl,rfl⟩ ?_); rintro _ _ ⟨rfl,rfl⟩) | ((first | refine call0D (BCall.ofP (svalidView_ok _ _ _ _ _ ?_ ?_ ?_)) ?_ | refine qcall0D (BCall.ofP (svalidView_ok _ _ _ _ _ ?_ ?_ ?_)) ⟨_,_,rfl,rfl⟩ ?_); (iterate 3 (exact sd)); rintro _ _ ⟨rfl,rfl⟩) | ((first | refine call0D (BCall.ofP (sfits2_ok _ _ _ _ _ _ ?_ ?_ ?_)) ?_ | refine qcall0D (BCall.ofP (sfits2_ok _ _ _ _ _ _ ?_ ?_ ?_)) ⟨_,_,rfl,rfl⟩ ?_); (iterate 3 (exact sd)); rintro _ _ ⟨rfl,rfl⟩)) <;> (try simp (disch := omega) only [push_cast,seval,hd,hel,hil,hv,hpd,hf,innL_EL]))
 | (refine awp_ret ⟨.inr rfl,_,rfl,?_⟩; (try simp (disch := omega) only [push_cast,seval,hd,hel,hil,hv,hpd,hf,innL_EL]))))
          all_goals (try simp)
        | true =>
          by_cases hpm : p < 0
          · (repeat' (first
 | (first | refine awp_seq ?_ | refine awp_block ?_)
 | ((first | refine awp_reg ?_ | refine awp_condB ?_ | refine awp_skip ?_ | refine awp_exit ?_); simp (disch := omega) only [push_cast,seval,l61r0,l61r1,l61r2,l61r3,l61r4,hd,hel,hil,hv,hpd,hf,hpm,innL_EL])
 | ((first | refine condB_split (fun h => ?_) (fun h => ?_) | refine gIf_split (fun h => ?_) (fun h => ?_) | refine qIf_split (fun h => ?_) (fun h => ?_)) <;> (try simp only [h]) <;> (try simp only [bitvec_to_nat] at h) <;> (try simp only [h]) <;> (first | (exfalso; omega) | (focus (exfalso; simp_all; done)) | (simp (disch := omega) only [push_cast,seval,hd,hel,hil,hv,hpd,hf,hpm,innL_EL]) | skip))
 | ((first | refine callD_of false ?_ | refine qcallD_of false ?_); simp (disch := omega) only [push_cast,seval,hd,hel,hil,hv,hpd,hf,hpm,innL_EL])
 | ((first | ((first | refine call0D (BCall.ofP (inRange_ok _ _ _)) ?_ | refine qcall0D (BCall.ofP (inRange_ok _ _ _)) ⟨_,_,rfl,rfl⟩ ?_); rintro _ _ ⟨rfl,rfl⟩) | ((first | refine call0D (BCall.ofP (svalidView_ok _ _ _ _ _ ?_ ?_ ?_)) ?_ | refine qcall0D (BCall.ofP (svalidView_ok _ _ _ _ _ ?_ ?_ ?_)) ⟨_,_,rfl,rfl⟩ ?_); (iterate 3 (exact sd)); rintro _ _ ⟨rfl,rfl⟩) | ((first | refine call0D (BCall.ofP (sfits2_ok _ _ _ _ _ _ ?_ ?_ ?_)) ?_ | refine qcall0D (BCall.ofP (sfits2_ok _ _ _ _ _ _ ?_ ?_ ?_)) ⟨_,_,rfl,rfl⟩ ?_); (iterate 3 (exact sd)); rintro _ _ ⟨rfl,rfl⟩)) <;> (try simp (disch := omega) only [push_cast,seval,hd,hel,hil,hv,hpd,hf,hpm,innL_EL]))
 | (refine awp_ret ⟨.inr rfl,_,rfl,?_⟩; (try simp (disch := omega) only [push_cast,seval,hd,hel,hil,hv,hpd,hf,hpm,innL_EL]))))
            all_goals (try simp [hpm])
          · obtain ⟨q,rfl⟩ : ∃ q : Nat,p = q := ⟨p.toNat,by omega⟩
            obtain ⟨p2,b2,x2,y2,o2,he2⟩ := mem_ltH (es := es) (i := q) (by omega)
            have hd2 := EL_drop false es q he2
            simp only at hd2
            have hil2 : q * 5 + 5 ≤ es.length * 5 := by omega
            have h4 : ((EL false es).drop (q * 5 + 4)).take 1 = [.bool o2] := by
              have := congrArg (fun l => (l.drop 4).take 1) hd2
              simpa [List.drop_take,List.drop_drop,List.take_take] using this
            have ho : opE es (q : Int) = o2 := by simp [opE,he2]
            (repeat' (first
 | (first | refine awp_seq ?_ | refine awp_block ?_)
 | ((first | refine awp_reg ?_ | refine awp_condB ?_ | refine awp_skip ?_ | refine awp_exit ?_); simp (disch := omega) only [push_cast,seval,l61r0,l61r1,l61r2,l61r3,l61r4,hd,hel,hil,hd2,hil2,h4,hv,hpd,hf,hpm,ho,innL_EL])
 | ((first | refine condB_split (fun h => ?_) (fun h => ?_) | refine gIf_split (fun h => ?_) (fun h => ?_) | refine qIf_split (fun h => ?_) (fun h => ?_)) <;> (try simp only [h]) <;> (try simp only [bitvec_to_nat] at h) <;> (try simp only [h]) <;> (first | (exfalso; omega) | (focus (exfalso; simp_all; done)) | (simp (disch := omega) only [push_cast,seval,hd,hel,hil,hd2,hil2,h4,hv,hpd,hf,hpm,ho,innL_EL]) | skip))
 | ((first | refine callD_of false ?_ | refine qcallD_of false ?_); simp (disch := omega) only [push_cast,seval,hd,hel,hil,hd2,hil2,h4,hv,hpd,hf,hpm,ho,innL_EL])
 | ((first | ((first | refine call0D (BCall.ofP (inRange_ok _ _ _)) ?_ | refine qcall0D (BCall.ofP (inRange_ok _ _ _)) ⟨_,_,rfl,rfl⟩ ?_); rintro _ _ ⟨rfl,rfl⟩) | ((first | refine call0D (BCall.ofP (svalidView_ok _ _ _ _ _ ?_ ?_ ?_)) ?_ | refine qcall0D (BCall.ofP (svalidView_ok _ _ _ _ _ ?_ ?_ ?_)) ⟨_,_,rfl,rfl⟩ ?_); (iterate 3 (exact sd)); rintro _ _ ⟨rfl,rfl⟩) | ((first | refine call0D (BCall.ofP (sfits2_ok _ _ _ _ _ _ ?_ ?_ ?_)) ?_ | refine qcall0D (BCall.ofP (sfits2_ok _ _ _ _ _ _ ?_ ?_ ?_)) ⟨_,_,rfl,rfl⟩ ?_); (iterate 3 (exact sd)); rintro _ _ ⟨rfl,rfl⟩)) <;> (try simp (disch := omega) only [push_cast,seval,hd,hel,hil,hd2,hil2,h4,hv,hpd,hf,hpm,ho,innL_EL]))
 | (refine awp_ret ⟨.inr rfl,_,rfl,?_⟩; (try simp (disch := omega) only [push_cast,seval,hd,hel,hil,hd2,hil2,h4,hv,hpd,hf,hpm,ho,innL_EL]))))
            all_goals (try simp [hpm,ho])
  · have hpd : (decide (-1 ≤ p) && decide (p ≤ (i : Int) - 1)) = false := by rw [Bool.eq_false_iff]; intro h; simp at h; omega
    rw [hpd]
    (repeat' (first
 | (first | refine awp_seq ?_ | refine awp_block ?_)
 | ((first | refine awp_reg ?_ | refine awp_condB ?_ | refine awp_skip ?_ | refine awp_exit ?_); simp (disch := omega) only [push_cast,seval,l61r0,l61r1,l61r2,l61r3,l61r4,hd,hel,hil,hpd,innL_EL])
 | ((first | refine condB_split (fun h => ?_) (fun h => ?_) | refine gIf_split (fun h => ?_) (fun h => ?_) | refine qIf_split (fun h => ?_) (fun h => ?_)) <;> (try simp only [h]) <;> (try simp only [bitvec_to_nat] at h) <;> (try simp only [h]) <;> (first | (exfalso; omega) | (focus (exfalso; simp_all; done)) | (simp (disch := omega) only [push_cast,seval,hd,hel,hil,hpd,innL_EL]) | skip))
 | ((first | refine callD_of false ?_ | refine qcallD_of false ?_); simp (disch := omega) only [push_cast,seval,hd,hel,hil,hpd,innL_EL])
 | ((first | ((first | refine call0D (BCall.ofP (inRange_ok _ _ _)) ?_ | refine qcall0D (BCall.ofP (inRange_ok _ _ _)) ⟨_,_,rfl,rfl⟩ ?_); rintro _ _ ⟨rfl,rfl⟩) | ((first | refine call0D (BCall.ofP (svalidView_ok _ _ _ _ _ ?_ ?_ ?_)) ?_ | refine qcall0D (BCall.ofP (svalidView_ok _ _ _ _ _ ?_ ?_ ?_)) ⟨_,_,rfl,rfl⟩ ?_); (iterate 3 (exact sd)); rintro _ _ ⟨rfl,rfl⟩) | ((first | refine call0D (BCall.ofP (sfits2_ok _ _ _ _ _ _ ?_ ?_ ?_)) ?_ | refine qcall0D (BCall.ofP (sfits2_ok _ _ _ _ _ _ ?_ ?_ ?_)) ⟨_,_,rfl,rfl⟩ ?_); (iterate 3 (exact sd)); rintro _ _ ⟨rfl,rfl⟩)) <;> (try simp (disch := omega) only [push_cast,seval,hd,hel,hil,hpd,innL_EL]))
 | (refine awp_ret ⟨.inr rfl,_,rfl,?_⟩; (try simp (disch := omega) only [push_cast,seval,hd,hel,hil,hpd,innL_EL]))))
    all_goals (try simp)

end Go.Proofs.YtahdlohpncjdbaaDoor
