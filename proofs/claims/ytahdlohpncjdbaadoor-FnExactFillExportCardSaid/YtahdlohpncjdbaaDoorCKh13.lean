import Derived.Test.YtahdlohpncjdbaaDoorCKh12
import Derived.Test.YtahdlohpncjdbaaDoorCM1
set_option linter.unusedSimpArgs false
set_option linter.unusedVariables false
set_option maxRecDepth 4000
set_option maxHeartbeats 4000000
namespace Go.Proofs.YtahdlohpncjdbaaDoor
open VwM Vw Go
set_option linter.unusedSectionVars false
variable [SentA]

def opA (es : List Ex) (id : Int) : Bool := (decide (0 ≤ id) && decide (id ≤ (es.length : Int) - 1)) && (match es[id.toNat]? with | some e => e.2.2 | none => false)
def vwA (es : List Ex) (id : Int) : Vw3 := (es.getD id.toNat (0,(0,[],[]),false)).2.1
def loadA (cs : List Int) (es : List Ex) (id : Int) : List Int := if (vB cs es && opA es id) = true then takesL cs (offs (vwA es id).1 (vwA es id).2.1 (vwA es id).2.2) else []
theorem opA_at {es : List Ex} {id : Int} (h : opA es id = true) : ∃ (q : Nat) (p b : Int) (x y : List Int),id = q ∧ q < es.length ∧ es[q]? = some (p,(b,x,y),true) ∧ vwA es id = (b,x,y) := by
  unfold opA at h
  simp only [Bool.and_eq_true,decide_eq_true_eq] at h
  obtain ⟨⟨h1,h2⟩,h3⟩ := h
  obtain ⟨q,rfl⟩ : ∃ q : Nat,id = q := ⟨id.toNat,by omega⟩
  obtain ⟨p,b,x,y,o,he⟩ := mem_ltH (es := es) (i := q) (by omega)
  simp only [Int.toNat_natCast,he] at h3
  subst h3
  exact ⟨q,p,b,x,y,rfl,by omega,he,by simp [vwA,List.getD,he]⟩
theorem vB_see {cs : List Int} {es : List Ex} {q : Nat} {p b : Int} {x y : List Int} (h : vB cs es = true) (he : es[q]? = some (p,(b,x,y),true)) : seeB cs b x y = true := by
  unfold vB at h
  simp only [Bool.and_eq_true,decide_eq_true_eq] at h
  obtain ⟨⟨h1,h2⟩,h3⟩ := h
  have hi : q < es.length := (List.getElem?_eq_some_iff.1 he).1
  have := (allX_iff (f := sxV cs.length es)).1 h3 q _ hi he
  unfold sxV exV at this
  simp only [Bool.and_eq_true,Bool.not_true,Bool.false_or] at this
  unfold seeB
  simp only [Bool.and_eq_true]
  exact ⟨⟨h1,this.1.1.2⟩,this.1.2⟩
set_option maxHeartbeats 8000000 in
theorem siO_ok (cs : List Int) (es : List Ex) (m n : Nat) (id : Int) (hm : cs.length = m) (hn : es.length = n) (hb : m ≤ 1099511627776 ∧ n ≤ 1099511627776) :
    PCall Tryd.prog 30 [.agg [.rows false (IL cs) m,.rows false (EL false es) n],.int .i64 id] (fun r => r = .bool (opA es id)) := by
  subst hm hn
  obtain ⟨hb1,hb2⟩ := hb
  have hel := EL_length false es
  refine pcall_of l30_eq rfl ?_
  unfold opA
  by_cases hr : 0 ≤ id ∧ id ≤ (es.length : Int) - 1
  · have hrd : (decide (0 ≤ id) && decide (id ≤ (es.length : Int) - 1)) = true := by rw [Bool.and_eq_true,decide_eq_true_eq,decide_eq_true_eq]; exact hr
    rw [hrd]
    obtain ⟨q,rfl⟩ : ∃ q : Nat,id = q := ⟨id.toNat,by omega⟩
    obtain ⟨p,b,x,y,o,he⟩ := mem_ltH (es := es) (i := q) (by omega)
    have hd := EL_drop false es q he
    simp only at hd
    have hil : q * 5 + 5 ≤ es.length * 5 := by omega
    have h4 : ((EL false es).drop (q * 5 + 4)).take 1 = [.bool o] := by
      have := congrArg (fun l => (l.drop 4).take 1) hd
      simpa [List.drop_take,List.drop_drop,List.take_take] using this
    simp only [Int.toNat_natCast,he]
    (repeat' (first
 | (first | refine awp_seq ?_ | refine awp_block ?_)
 | ((first | refine awp_reg ?_ | refine awp_condB ?_ | refine awp_skip ?_ | refine awp_exit ?_); simp (disch := omega) only [push_cast,seval,l30r0,l30r1,h4,hel,hil,hrd,innL_EL])
 | ((first | refine condB_split (fun h => ?_) (fun h => ?_) | refine gIf_split (fun h => ?_) (fun h => ?_) | refine qIf_split (fun h => ?_) (fun h => ?_)) <;> (try simp only [h]) <;> (try simp only [bitvec_to_nat] at h) <;> (try simp only [h]) <;> (first | (exfalso; omega) | (focus (exfalso; simp_all; done)) | (simp (disch := omega) only [push_cast,seval,h4,hel,hil,hrd,innL_EL]) | skip))
 | ((first | refine callD_of false ?_ | refine qcallD_of false ?_); simp (disch := omega) only [push_cast,seval,h4,hel,hil,hrd,innL_EL])
 | ((first | ((first | refine call0D (BCall.ofP (inRange_ok _ _ _)) ?_ | refine qcall0D (BCall.ofP (inRange_ok _ _ _)) ⟨_,_,rfl,rfl⟩ ?_); rintro _ _ ⟨rfl,rfl⟩)) <;> (try simp (disch := omega) only [push_cast,seval,h4,hel,hil,hrd,innL_EL]))
 | (refine awp_ret ⟨.inr rfl,_,rfl,?_⟩; (try simp (disch := omega) only [push_cast,seval,h4,hel,hil,hrd,innL_EL]))))
    all_goals (try simp)
  · have hrd : (decide (0 ≤ id) && decide (id ≤ (es.length : Int) - 1)) = false := by rw [Bool.eq_false_iff]; intro h; simp at h; omega
    rw [hrd]
    (repeat' (first
 | (first | refine awp_seq ?_ | refine awp_block ?_)
 | ((first | refine awp_reg ?_ | refine awp_condB ?_ | refine awp_skip ?_ | refine awp_exit ?_); simp (disch := omega) only [push_cast,seval,l30r0,l30r1,hel,hrd,innL_EL])
 | ((first | refine condB_split (fun h => ?_) (fun h => ?_) | refine gIf_split (fun h => ?_) (fun h => ?_) | refine qIf_split (fun h => ?_) (fun h => ?_)) <;> (try simp only [h]) <;> (try simp only [bitvec_to_nat] at h) <;> (try simp only [h]) <;> (first | (exfalso; omega) | (focus (exfalso; simp_all; done)) | (simp (disch := omega) only [push_cast,seval,hel,hrd,innL_EL]) | skip))
 | ((first | refine callD_of false ?_ | refine qcallD_of false ?_); simp (disch := omega) only [push_cast,seval,hel,hrd,innL_EL])
 | ((first | ((first | refine call0D (BCall.ofP (inRange_ok _ _ _)) ?_ | refine qcall0D (BCall.ofP (inRange_ok _ _ _)) ⟨_,_,rfl,rfl⟩ ?_); rintro _ _ ⟨rfl,rfl⟩)) <;> (try simp (disch := omega) only [push_cast,seval,hel,hrd,innL_EL]))
 | (refine awp_ret ⟨.inr rfl,_,rfl,?_⟩; (try simp (disch := omega) only [push_cast,seval,hel,hrd,innL_EL]))))
    all_goals (try simp)


set_option maxHeartbeats 8000000 in
theorem ihO_ok (cs : List Int) (es : List Ex) (m n : Nat) (id : Int) (hm : cs.length = m) (hn : es.length = n) (hb : m ≤ 1099511627776 ∧ n ≤ 1099511627776 ∧ exB 1099511627776 es) :
    PCall Tryd.prog 35 [.agg [.rows false (IL cs) m,.rows false (EL false es) n],.int .i64 id] (fun r => r = .bool (vB cs es && opA es id)) := by
  subst hm hn
  have hb0 := hb
  obtain ⟨hb1,hb2,hb3⟩ := hb
  have hel := EL_length false es
  refine pcall_of l35_eq rfl ?_
  cases hv : vB cs es with
  | false =>
    (repeat' (first
 | (first | refine awp_seq ?_ | refine awp_block ?_)
 | ((first | refine awp_reg ?_ | refine awp_condB ?_ | refine awp_skip ?_ | refine awp_exit ?_); simp (disch := omega) only [push_cast,seval,l35r0,l35r1,hv,hel,innL_EL])
 | ((first | refine condB_split (fun h => ?_) (fun h => ?_) | refine gIf_split (fun h => ?_) (fun h => ?_) | refine qIf_split (fun h => ?_) (fun h => ?_)) <;> (try simp only [h]) <;> (try simp only [bitvec_to_nat] at h) <;> (try simp only [h]) <;> (first | (exfalso; omega) | (focus (exfalso; simp_all; done)) | (simp (disch := omega) only [push_cast,seval,hv,hel,innL_EL]) | skip))
 | ((first | refine callD_of false ?_ | refine qcallD_of false ?_); simp (disch := omega) only [push_cast,seval,hv,hel,innL_EL])
 | ((first | ((first | refine call0D (BCall.ofP (ivBu_ok _ _ _ _ ?_ ?_ ?_)) ?_ | refine qcall0D (BCall.ofP (ivBu_ok _ _ _ _ ?_ ?_ ?_)) ⟨_,_,rfl,rfl⟩ ?_); (iterate 3 (exact sd)); rintro _ _ ⟨rfl,rfl⟩) | ((first | refine call0D (BCall.ofP (upTo_ok _ _)) ?_ | refine qcall0D (BCall.ofP (upTo_ok _ _)) ⟨_,_,rfl,rfl⟩ ?_); rintro _ _ ⟨rfl,rfl⟩)) <;> (try simp (disch := omega) only [push_cast,seval,hv,hel,innL_EL]))
 | (refine awp_ret ⟨.inr rfl,_,rfl,?_⟩; (try simp (disch := omega) only [push_cast,seval,hv,hel,innL_EL]))))
    all_goals (try simp)
  | true =>
    unfold opA
    by_cases hr : 0 ≤ id ∧ id ≤ (es.length : Int) - 1
    · have hrd : (decide (0 ≤ id) && decide (id ≤ (es.length : Int) - 1)) = true := by rw [Bool.and_eq_true,decide_eq_true_eq,decide_eq_true_eq]; exact hr
      rw [hrd]
      obtain ⟨q,rfl⟩ : ∃ q : Nat,id = q := ⟨id.toNat,by omega⟩
      obtain ⟨p,b,x,y,o,he⟩ := mem_ltH (es := es) (i := q) (by omega)
      have hd := EL_drop false es q he
      simp only at hd
      have hil : q * 5 + 5 ≤ es.length * 5 := by omega
      have h4 : ((EL false es).drop (q * 5 + 4)).take 1 = [.bool o] := by
        have := congrArg (fun l => (l.drop 4).take 1) hd
        simpa [List.drop_take,List.drop_drop,List.take_take] using this
      simp only [Int.toNat_natCast,he]
      (repeat' (first
 | (first | refine awp_seq ?_ | refine awp_block ?_)
 | ((first | refine awp_reg ?_ | refine awp_condB ?_ | refine awp_skip ?_ | refine awp_exit ?_); simp (disch := omega) only [push_cast,seval,l35r0,l35r1,hv,h4,hel,hil,hrd,innL_EL])
 | ((first | refine condB_split (fun h => ?_) (fun h => ?_) | refine gIf_split (fun h => ?_) (fun h => ?_) | refine qIf_split (fun h => ?_) (fun h => ?_)) <;> (try simp only [h]) <;> (try simp only [bitvec_to_nat] at h) <;> (try simp only [h]) <;> (first | (exfalso; omega) | (focus (exfalso; simp_all; done)) | (simp (disch := omega) only [push_cast,seval,hv,h4,hel,hil,hrd,innL_EL]) | skip))
 | ((first | refine callD_of false ?_ | refine qcallD_of false ?_); simp (disch := omega) only [push_cast,seval,hv,h4,hel,hil,hrd,innL_EL])
 | ((first | ((first | refine call0D (BCall.ofP (ivBu_ok _ _ _ _ ?_ ?_ ?_)) ?_ | refine qcall0D (BCall.ofP (ivBu_ok _ _ _ _ ?_ ?_ ?_)) ⟨_,_,rfl,rfl⟩ ?_); (iterate 3 (exact sd)); rintro _ _ ⟨rfl,rfl⟩) | ((first | refine call0D (BCall.ofP (upTo_ok _ _)) ?_ | refine qcall0D (BCall.ofP (upTo_ok _ _)) ⟨_,_,rfl,rfl⟩ ?_); rintro _ _ ⟨rfl,rfl⟩)) <;> (try simp (disch := omega) only [push_cast,seval,hv,h4,hel,hil,hrd,innL_EL]))
 | (refine awp_ret ⟨.inr rfl,_,rfl,?_⟩; (try simp (disch := omega) only [push_cast,seval,hv,h4,hel,hil,hrd,innL_EL]))))
      all_goals (try simp)
    · have hrd : (decide (0 ≤ id) && decide (id ≤ (es.length : Int) - 1)) = false := by rw [Bool.eq_false_iff]; intro h; simp at h; omega
      rw [hrd]
      (repeat' (first
 | (first | refine awp_seq ?_ | refine awp_block ?_)
 | ((first | refine awp_reg ?_ | refine awp_condB ?_ | refine awp_skip ?_ | refine awp_exit ?_); simp (disch := omega) only [push_cast,seval,l35r0,l35r1,hv,hel,hrd,innL_EL])
 | ((first | refine condB_split (fun h => ?_) (fun h => ?_) | refine gIf_split (fun h => ?_) (fun h => ?_) | refine qIf_split (fun h => ?_) (fun h => ?_)) <;> (try simp only [h]) <;> (try simp only [bitvec_to_nat] at h) <;> (try simp only [h]) <;> (first | (exfalso; omega) | (focus (exfalso; simp_all; done)) | (simp (disch := omega) only [push_cast,seval,hv,hel,hrd,innL_EL]) | skip))
 | ((first | refine callD_of false ?_ | refine qcallD_of false ?_); simp (disch := omega) only [push_cast,seval,hv,hel,hrd,innL_EL])
 | ((first | ((first | refine call0D (BCall.ofP (ivBu_ok _ _ _ _ ?_ ?_ ?_)) ?_ | refine qcall0D (BCall.ofP (ivBu_ok _ _ _ _ ?_ ?_ ?_)) ⟨_,_,rfl,rfl⟩ ?_); (iterate 3 (exact sd)); rintro _ _ ⟨rfl,rfl⟩) | ((first | refine call0D (BCall.ofP (upTo_ok _ _)) ?_ | refine qcall0D (BCall.ofP (upTo_ok _ _)) ⟨_,_,rfl,rfl⟩ ?_); rintro _ _ ⟨rfl,rfl⟩)) <;> (try simp (disch := omega) only [push_cast,seval,hv,hel,hrd,innL_EL]))
 | (refine awp_ret ⟨.inr rfl,_,rfl,?_⟩; (try simp (disch := omega) only [push_cast,seval,hv,hel,hrd,innL_EL]))))
      all_goals (try simp)

end Go.Proofs.YtahdlohpncjdbaaDoor
