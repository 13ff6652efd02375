import Derived.Test.YtiknpnnhbhfipaaDoorCKh12
import Derived.Test.YtiknpnnhbhfipaaDoorCM1
set_option linter.unusedSimpArgs false
set_option linter.unusedVariables false
set_option maxRecDepth 4000
set_option maxHeartbeats 4000000
namespace Go.Proofs.YtiknpnnhbhfipaaDoor
open VwM Vw Go
set_option linter.unusedSectionVars false
variable [SentA]

def opA (es : List Ex) (id : Int) : Bool := (decide (0 ≤ id) && decide (id ≤ (es.length : Int) - 1)) && (match es[id.toNat]? with | some e => e.2.2 | none => false)
def vwA (es : List Ex) (id : Int) : Vw3 := (es.getD id.toNat (0,(0,[],[]),false)).2.1
def loadA (cs : List Int) (es : List Ex) (id : Int) : List Int := if (vB cs es && opA es id) = true then takesL cs (offs (vwA es id).1 (vwA es id).2.1 (vwA es id).2.2) else []
theorem opA_at {es : List Ex} {id : Int} (h : opA es id = true) : ∃ (q : Nat) (p b : Int) (x y : List Int),id = q ∧ q < es.length ∧ es[q]? = some (p,(b,x,y),true) ∧ vwA es id = (b,x,y) := by
  unfold opA at h
  simp only [Bool.and_eq_true,decide_eq_true_eq] at h
  obtain ⟨⟨h1,h2⟩,h3⟩ := h
  obtain ⟨q,rfl⟩ : ∃ q : Nat,id = q := ⟨id.toNat,by omega⟩
  obtain ⟨p,b,x,y,o,he⟩ := mem_ltH (es := es) (i := q) (by omega)
  simp only [Int.toNat_natCast,he] at h3
  subst h3
  exact ⟨q,p,b,x,y,rfl,by omega,he,by simp [vwA,List.getD,he]⟩
theorem vB_see {cs : List Int} {es : List Ex} {q : Nat} {p b : Int} {x y : List Int} (h : vB cs es = true) (he : es[q]? = some (p,(b,x,y),true)) : seeB cs b x y = true := by
  unfold vB at h
  simp only [Bool.and_eq_true,decide_eq_true_eq] at h
  obtain ⟨⟨h1,h2⟩,h3⟩ := h
  have hi : q < es.length := (List.getElem?_eq_some_iff.1 he).1
  have := (allX_iff (f := sxV cs.length es)).1 h3 q _ hi he
  unfold sxV exV at this
  simp only [Bool.and_eq_true,Bool.not_true,Bool.false_or] at this
  unfold seeB
  simp only [Bool.and_eq_true]
  exact ⟨⟨h1,this.1.1.2⟩,this.1.2⟩
theorem see_prX {mem : List Int} {b : Int} {sh st : List Int} (h : seeB mem b sh st = true) : (offs b sh st).length ≤ 60 ∧ mem.length ≤ 60 := by
  obtain ⟨_,_,_,f4,f5,f6⟩ := see_facts h
  have := offs_length b sh st
  omega
theorem loadA_len (cs : List Int) (es : List Ex) (id : Int) : (loadA cs es id).length ≤ 60 := by
  unfold loadA
  split
  · rename_i h
    rw [Bool.and_eq_true] at h
    obtain ⟨q,p,b,x,y,_,_,he,hv⟩ := opA_at h.2
    rw [hv,takesL_length]
    exact (see_prX (vB_see h.1 he)).1
  · exact Nat.zero_le _


set_option maxHeartbeats 8000000 in
theorem siO_ok (cs : List Int) (es : List Ex) (m n : Nat) (id : Int) (hm : cs.length = m) (hn : es.length = n) (hb : m ≤ 1099511627776 ∧ n ≤ 1099511627776) :
    PCall Tryd.prog 36 [.agg [.rows false (IL cs) m,.rows false (EL false es) n],.int .i64 id] (fun r => r = .bool (opA es id)) := by
  subst hm hn
  obtain ⟨hb1,hb2⟩ := hb
  have hel := EL_length false es
  refine pcall_of l36_eq rfl ?_
  unfold opA
  by_cases hr : 0 ≤ id ∧ id ≤ (es.length : Int) - 1
  · have hrd : (decide (0 ≤ id) && decide (id ≤ (es.length : Int) - 1)) = true := by rw [Bool.and_eq_true,decide_eq_true_eq,decide_eq_true_eq]; exact hr
    rw [hrd]
    obtain ⟨q,rfl⟩ : ∃ q : Nat,id = q := ⟨id.toNat,by omega⟩
    obtain ⟨p,b,x,y,o,he⟩ := mem_ltH (es := es) (i := q) (by omega)
    have hd := EL_drop false es q he
    simp only at hd
    have hil : q * 5 + 5 ≤ es.length * 5 := by omega
    have h4 : ((EL false es).drop (q * 5 + 4)).take 1 = [.bool o] := by
      have := congrArg (fun l => (l.drop 4).take 1) hd
      simpa [List.drop_take,List.drop_drop,List.take_take] using this
    simp only [Int.toNat_natCast,he]
    (repeat' (first
 | (first | refine awp_seq ?_ | refine awp_block ?_)
 | ((first | refine awp_reg ?_ | refine awp_condB ?_ | refine awp_skip ?_ | refine awp_exit ?_); simp (disch := omega) only [push_cast,seval,l36r0,l36r1,h4,hel,hil,hrd,innL_EL])
 | ((first | refine condB_split (fun h => ?_) (fun h => ?_) | refine gIf_split (fun h => ?_) (fun h => ?_) | refine qIf_split (fun h => ?_) (fun h => ?_)) <;> (try simp only [h]) <;> (try simp only [bitvec_to_nat] at h) <;> (try simp only [h]) <;> (first | (exfalso; omega) | (focus (exfalso; simp_all; done)) | (simp (disch := omega) only [push_cast,seval,h4,hel,hil,hrd,innL_EL]) | skip))
 | ((first | refine callD_of false ?_ | refine qcallD_of false ?_); simp (disch := omega) only [push_cast,seval,h4,hel,hil,hrd,innL_EL])
 | ((first | ((first | refine call0D (BCall.ofP (inRange_ok _ _ _)) ?_ | refine qcall0D (BCall.ofP (inRange_ok _ _ _)) ⟨_,_,rfl,rfl⟩ ?_); rintro _ _ ⟨rfl,rfl⟩)) <;> (try simp (disch := omega) only [push_cast,seval,h4,hel,hil,hrd,innL_EL]))
 | (refine awp_ret ⟨.inr rfl,_,rfl,?_⟩; (try simp (disch := omega) only [push_cast,seval,h4,hel,hil,hrd,innL_EL]))))
    all_goals (try simp)
  · have hrd : (decide (0 ≤ id) && decide (id ≤ (es.length : Int) - 1)) = false := by rw [Bool.eq_false_iff]; intro h; simp at h; omega
    rw [hrd]
    (repeat' (first
 | (first | refine awp_seq ?_ | refine awp_block ?_)
 | ((first | refine awp_reg ?_ | refine awp_condB ?_ | refine awp_skip ?_ | refine awp_exit ?_); simp (disch := omega) only [push_cast,seval,l36r0,l36r1,hel,hrd,innL_EL])
 | ((first | refine condB_split (fun h => ?_) (fun h => ?_) | refine gIf_split (fun h => ?_) (fun h => ?_) | refine qIf_split (fun h => ?_) (fun h => ?_)) <;> (try simp only [h]) <;> (try simp only [bitvec_to_nat] at h) <;> (try simp only [h]) <;> (first | (exfalso; omega) | (focus (exfalso; simp_all; done)) | (simp (disch := omega) only [push_cast,seval,hel,hrd,innL_EL]) | skip))
 | ((first | refine callD_of false ?_ | refine qcallD_of false ?_); simp (disch := omega) only [push_cast,seval,hel,hrd,innL_EL])
 | ((first | ((first | refine call0D (BCall.ofP (inRange_ok _ _ _)) ?_ | refine qcall0D (BCall.ofP (inRange_ok _ _ _)) ⟨_,_,rfl,rfl⟩ ?_); rintro _ _ ⟨rfl,rfl⟩)) <;> (try simp (disch := omega) only [push_cast,seval,hel,hrd,innL_EL]))
 | (refine awp_ret ⟨.inr rfl,_,rfl,?_⟩; (try simp (disch := omega) only [push_cast,seval,hel,hrd,innL_EL]))))
    all_goals (try simp)


set_option maxHeartbeats 8000000 in
theorem ihO_ok (cs : List Int) (es : List Ex) (m n : Nat) (id : Int) (hm : cs.length = m) (hn : es.length = n) (hb : m ≤ 1099511627776 ∧ n ≤ 1099511627776 ∧ exB 1099511627776 es) :
    PCall Tryd.prog 38 [.agg [.rows false (IL cs) m,.rows false (EL false es) n],.int .i64 id] (fun r => r = .bool (vB cs es && opA es id)) := by
  subst hm hn
  have hb0 := hb
  obtain ⟨hb1,hb2,hb3⟩ := hb
  have hel := EL_length false es
  refine pcall_of l38_eq rfl ?_
  cases hv : vB cs es with
  | false =>
    (repeat' (first
 | (first | refine awp_seq ?_ | refine awp_block ?_)
 | ((first | refine awp_reg ?_ | refine awp_condB ?_ | refine awp_skip ?_ | refine awp_exit ?_); simp (disch := omega) only [push_cast,seval,l38r0,l38r1,hv,hel,innL_EL])
 | ((first | refine condB_split (fun h => ?_) (fun h => ?_) | refine gIf_split (fun h => ?_) (fun h => ?_) | refine qIf_split (fun h => ?_) (fun h => ?_)) <;> (try simp only [h]) <;> (try simp only [bitvec_to_nat] at h) <;> (try simp only [h]) <;> (first | (exfalso; omega) | (focus (exfalso; simp_all; done)) | (simp (disch := omega) only [push_cast,seval,hv,hel,innL_EL]) | skip))
 | ((first | refine callD_of false ?_ | refine qcallD_of false ?_); simp (disch := omega) only [push_cast,seval,hv,hel,innL_EL])
 | ((first | ((first | refine call0D (BCall.ofP (ivBu_ok _ _ _ _ ?_ ?_ ?_)) ?_ | refine qcall0D (BCall.ofP (ivBu_ok _ _ _ _ ?_ ?_ ?_)) ⟨_,_,rfl,rfl⟩ ?_); (iterate 3 (exact sd)); rintro _ _ ⟨rfl,rfl⟩) | ((first | refine call0D (BCall.ofP (upTo_ok _ _)) ?_ | refine qcall0D (BCall.ofP (upTo_ok _ _)) ⟨_,_,rfl,rfl⟩ ?_); rintro _ _ ⟨rfl,rfl⟩)) <;> (try simp (disch := omega) only [push_cast,seval,hv,hel,innL_EL]))
 | (refine awp_ret ⟨.inr rfl,_,rfl,?_⟩; (try simp (disch := omega) only [push_cast,seval,hv,hel,innL_EL]))))
    all_goals (try simp)
  | true =>
    unfold opA
    by_cases hr : 0 ≤ id ∧ id ≤ (es.length : Int) - 1
    · have hrd : (decide (0 ≤ id) && decide (id ≤ (es.length : Int) - 1)) = true := by rw [Bool.and_eq_true,decide_eq_true_eq,decide_eq_true_eq]; exact hr
      rw [hrd]
      obtain ⟨q,rfl⟩ : ∃ q : Nat,id = q := ⟨id.toNat,by omega⟩
      obtain ⟨p,b,x,y,o,he⟩ := mem_ltH (es := es) (i := q) (by omega)
      have hd := EL_drop false es q he
      simp only at hd
      have hil : q * 5 + 5 ≤ es.length * 5 := by omega
      have h4 : ((EL false es).drop (q * 5 + 4)).take 1 = [.bool o] := by
        have := congrArg (fun l => (l.drop 4).take 1) hd
        simpa [List.drop_take,List.drop_drop,List.take_take] using this
      simp only [Int.toNat_natCast,he]
      (repeat' (first
 | (first | refine awp_seq ?_ | refine awp_block ?_)
 | ((first | refine awp_reg ?_ | refine awp_condB ?_ | refine awp_skip ?_ | refine awp_exit ?_); simp (disch := omega) only [push_cast,seval,l38r0,l38r1,hv,h4,hel,hil,hrd,innL_EL])
 | ((first | refine condB_split (fun h => ?_) (fun h => ?_) | refine gIf_split (fun h => ?_) (fun h => ?_) | refine qIf_split (fun h => ?_) (fun h => ?_)) <;> (try simp only [h]) <;> (try simp only [bitvec_to_nat] at h) <;> (try simp only [h]) <;> (first | (exfalso; omega) | (focus (exfalso; simp_all; done)) | (simp (disch := omega) only [push_cast,seval,hv,h4,hel,hil,hrd,innL_EL]) | skip))
 | ((first | refine callD_of false ?_ | refine qcallD_of false ?_); simp (disch := omega) only [push_cast,seval,hv,h4,hel,hil,hrd,innL_EL])
 | ((first | ((first | refine call0D (BCall.ofP (ivBu_ok _ _ _ _ ?_ ?_ ?_)) ?_ | refine qcall0D (BCall.ofP (ivBu_ok _ _ _ _ ?_ ?_ ?_)) ⟨_,_,rfl,rfl⟩ ?_); (iterate 3 (exact sd)); rintro _ _ ⟨rfl,rfl⟩) | ((first | refine call0D (BCall.ofP (upTo_ok _ _)) ?_ | refine qcall0D (BCall.ofP (upTo_ok _ _)) ⟨_,_,rfl,rfl⟩ ?_); rintro _ _ ⟨rfl,rfl⟩)) <;> (try simp (disch := omega) only [push_cast,seval,hv,h4,hel,hil,hrd,innL_EL]))
 | (refine awp_ret ⟨.inr rfl,_,rfl,?_⟩; (try simp (disch := omega) only [push_cast,seval,hv,h4,hel,hil,hrd,innL_EL]))))
      all_goals (try simp)
    · have hrd : (decide (0 ≤ id) && decide (id ≤ (es.length : Int) - 1)) = false := by rw [Bool.eq_false_iff]; intro h; simp at h; omega
      rw [hrd]
      (repeat' (first
 | (first | refine awp_seq ?_ | refine awp_block ?_)
 | ((first | refine awp_reg ?_ | refine awp_condB ?_ | refine awp_skip ?_ | refine awp_exit ?_); simp (disch := omega) only [push_cast,seval,l38r0,l38r1,hv,hel,hrd,innL_EL])
 | ((first | refine condB_split (fun h => ?_) (fun h => ?_) | refine gIf_split (fun h => ?_) (fun h => ?_) | refine qIf_split (fun h => ?_) (fun h => ?_)) <;> (try simp only [h]) <;> (try simp only [bitvec_to_nat] at h) <;> (try simp only [h]) <;> (first | (exfalso; omega) | (focus (exfalso; simp_all; done)) | (simp (disch := omega) only [push_cast,seval,hv,hel,hrd,innL_EL]) | skip))
 | ((first | refine callD_of false ?_ | refine qcallD_of false ?_); simp (disch := omega) only [push_cast,seval,hv,hel,hrd,innL_EL])
 | ((first | ((first | refine call0D (BCall.ofP (ivBu_ok _ _ _ _ ?_ ?_ ?_)) ?_ | refine qcall0D (BCall.ofP (ivBu_ok _ _ _ _ ?_ ?_ ?_)) ⟨_,_,rfl,rfl⟩ ?_); (iterate 3 (exact sd)); rintro _ _ ⟨rfl,rfl⟩) | ((first | refine call0D (BCall.ofP (upTo_ok _ _)) ?_ | refine qcall0D (BCall.ofP (upTo_ok _ _)) ⟨_,_,rfl,rfl⟩ ?_); rintro _ _ ⟨rfl,rfl⟩)) <;> (try simp (disch := omega) only [push_cast,seval,hv,hel,hrd,innL_EL]))
 | (refine awp_ret ⟨.inr rfl,_,rfl,?_⟩; (try simp (disch := omega) only [push_cast,seval,hv,hel,hrd,innL_EL]))))
      all_goals (try simp)


theorem iLoadX_ok (mem : List Int) (b : Int) (sh st : List Int) (q n m : Nat) (hq : mem.length = q) (hn : sh.length = n) (hm : st.length = m) (hb : seeB mem b sh st = true ∧ q ≤ 1099511627776 ∧ n ≤ 1099511627776 ∧ m ≤ 1099511627776) : BCall Tryd.prog 39 [.rows false (IL mem) q,.agg [.int .i64 b,.rows false (IL sh) n,.rows false (IL st) m]] [] (OI (takesL mem (offs b sh st))) := by
  subst hq hn hm
  obtain ⟨h1,hb⟩ := hb
  refine bcall_of (pins := []) (pin := 0) l39_eq rfl rfl rfl ?_
  (repeat' (first
 | (first | refine awp_seq ?_ | refine awp_block ?_)
 | ((first | refine awp_reg ?_ | refine awp_condB ?_ | refine awp_skip ?_ | refine awp_exit ?_); simp (disch := omega) only [push_cast,seval,l39r0,l39r1,l39r2,l39r3,h1])
 | ((first | refine condB_split (fun h => ?_) (fun h => ?_) | refine gIf_split (fun h => ?_) (fun h => ?_) | refine qIf_split (fun h => ?_) (fun h => ?_)) <;> (try simp only [h]) <;> (try simp only [bitvec_to_nat] at h) <;> (try simp only [h]) <;> (first | (exfalso; omega) | (focus (exfalso; simp_all; done)) | (simp (disch := omega) only [push_cast,seval,h1]) | skip))
 | ((first | refine callD_of false ?_ | refine qcallD_of false ?_); simp (disch := omega) only [push_cast,seval,h1])
 | ((first | ((first | refine call0D (BCall.ofP (holds_ok _ _ _ _ _ _ _ ?_ ?_ ?_ ?_)) ?_ | refine qcall0D (BCall.ofP (holds_ok _ _ _ _ _ _ _ ?_ ?_ ?_ ?_)) ⟨_,_,rfl,rfl⟩ ?_); (iterate 4 (exact sd)); rintro _ _ ⟨rfl,rfl⟩) | ((first | refine call0D (loaded_ok _ _ _ _ _ _ _ ?_ ?_ ?_ ?_) ?_ | refine qcall0D (loaded_ok _ _ _ _ _ _ _ ?_ ?_ ?_ ?_) ⟨_,_,rfl,rfl⟩ ?_); (iterate 4 (exact sd)); rintro _ _ ⟨rfl,rfl⟩)) <;> (try simp (disch := omega) only [push_cast,seval,h1]))
 | (refine awp_ret ⟨.inr rfl,[112],[],_,by decide,rfl,?_⟩; (try simp (disch := omega) only [push_cast,seval,↓allMem_nil,↓allMem_cons,↓List.map_cons,↓List.map_nil,h1]); (first | done | (show AV.own _ _ _ = _ ∧ _)))
 | (refine awp_ret ⟨.inr rfl,[176],[],_,by decide,rfl,?_⟩; (try simp (disch := omega) only [push_cast,seval,↓allMem_nil,↓allMem_cons,↓List.map_cons,↓List.map_nil,h1]); (first | done | (show AV.own _ _ _ = _ ∧ _)))))
  all_goals simp [OI]


set_option maxHeartbeats 8000000 in
theorem sLE_ok (cs : List Int) (es : List Ex) (m n : Nat) (id : Int) (hm : cs.length = m) (hn : es.length = n) (hb : m ≤ 1099511627776 ∧ n ≤ 1099511627776 ∧ exB 1099511627776 es) :
    BCall Tryd.prog 20 [.agg [.rows false (IL cs) m,.rows false (EL false es) n],.int .i64 id] [] (OI (loadA cs es id)) := by
  subst hm hn
  have hb0 := hb
  obtain ⟨hb1,hb2,hb3⟩ := hb
  have hel := EL_length false es
  refine bcall_of (pins := []) (pin := 0) l20_eq rfl rfl rfl ?_
  unfold loadA
  cases hv : vB cs es with
  | false =>
    (repeat' (first
 | (first | refine awp_seq ?_ | refine awp_block ?_)
 | ((first | refine awp_reg ?_ | refine awp_draw (mid := l20r3a) (post := l20r3b) mixed (by decide) ?_ | refine awp_condB ?_ | refine awp_skip ?_ | refine awp_exit ?_); simp (disch := omega) only [push_cast,seval,l20r0,l20r1,l20r2,l20r3a,l20r3b,l20r3,hv,hel,innL_EL])
 | ((first | refine condB_split (fun h => ?_) (fun h => ?_) | refine gIf_split (fun h => ?_) (fun h => ?_) | refine qIf_split (fun h => ?_) (fun h => ?_)) <;> (try simp only [h]) <;> (try simp only [bitvec_to_nat] at h) <;> (try simp only [h]) <;> (first | (exfalso; omega) | (focus (exfalso; simp_all; done)) | (simp (disch := omega) only [push_cast,seval,hv,hel,innL_EL]) | skip))
 | ((first | refine callD_of false ?_ | refine qcallD_of false ?_); simp (disch := omega) only [push_cast,seval,hv,hel,innL_EL])
 | ((first | ((first | refine call0D (BCall.ofP (svB_ok _ _ _ _ ?_ ?_ ?_)) ?_ | refine qcall0D (BCall.ofP (svB_ok _ _ _ _ ?_ ?_ ?_)) ⟨_,_,rfl,rfl⟩ ?_); (iterate 3 (exact sd)); rintro _ _ ⟨rfl,rfl⟩) | ((first | refine call0D (BCall.ofP (siO_ok _ _ _ _ _ ?_ ?_ ?_)) ?_ | refine qcall0D (BCall.ofP (siO_ok _ _ _ _ _ ?_ ?_ ?_)) ⟨_,_,rfl,rfl⟩ ?_); (iterate 3 (exact sd)); rintro _ _ ⟨rfl,rfl⟩) | ((first | refine call0D (sload_ok _ _ _ _ _ _ _ ?_ ?_ ?_ ?_) ?_ | refine qcall0D (sload_ok _ _ _ _ _ _ _ ?_ ?_ ?_ ?_) ⟨_,_,rfl,rfl⟩ ?_); (iterate 4 (exact sd)); rintro _ _ ⟨rfl,rfl⟩)) <;> (try simp (disch := omega) only [push_cast,seval,hv,hel,innL_EL]))
 | (refine awp_ret ⟨.inr rfl,[16000],[(16000,1)],_,by decide,rfl,?_⟩; (try simp (disch := omega) only [push_cast,seval,↓allMem_nil,↓allMem_cons,↓List.map_cons,↓List.map_nil,hv,hel,innL_EL]))))
    all_goals simp [OI]
  | true =>
    cases hr : opA es id with
    | false =>
      (repeat' (first
 | (first | refine awp_seq ?_ | refine awp_block ?_)
 | ((first | refine awp_reg ?_ | refine awp_draw (mid := l20r3a) (post := l20r3b) mixed (by decide) ?_ | refine awp_condB ?_ | refine awp_skip ?_ | refine awp_exit ?_); simp (disch := omega) only [push_cast,seval,l20r0,l20r1,l20r2,l20r3a,l20r3b,l20r3,hv,hr,hel,innL_EL])
 | ((first | refine condB_split (fun h => ?_) (fun h => ?_) | refine gIf_split (fun h => ?_) (fun h => ?_) | refine qIf_split (fun h => ?_) (fun h => ?_)) <;> (try simp only [h]) <;> (try simp only [bitvec_to_nat] at h) <;> (try simp only [h]) <;> (first | (exfalso; omega) | (focus (exfalso; simp_all; done)) | (simp (disch := omega) only [push_cast,seval,hv,hr,hel,innL_EL]) | skip))
 | ((first | refine callD_of false ?_ | refine qcallD_of false ?_); simp (disch := omega) only [push_cast,seval,hv,hr,hel,innL_EL])
 | ((first | ((first | refine call0D (BCall.ofP (svB_ok _ _ _ _ ?_ ?_ ?_)) ?_ | refine qcall0D (BCall.ofP (svB_ok _ _ _ _ ?_ ?_ ?_)) ⟨_,_,rfl,rfl⟩ ?_); (iterate 3 (exact sd)); rintro _ _ ⟨rfl,rfl⟩) | ((first | refine call0D (BCall.ofP (siO_ok _ _ _ _ _ ?_ ?_ ?_)) ?_ | refine qcall0D (BCall.ofP (siO_ok _ _ _ _ _ ?_ ?_ ?_)) ⟨_,_,rfl,rfl⟩ ?_); (iterate 3 (exact sd)); rintro _ _ ⟨rfl,rfl⟩) | ((first | refine call0D (sload_ok _ _ _ _ _ _ _ ?_ ?_ ?_ ?_) ?_ | refine qcall0D (sload_ok _ _ _ _ _ _ _ ?_ ?_ ?_ ?_) ⟨_,_,rfl,rfl⟩ ?_); (iterate 4 (exact sd)); rintro _ _ ⟨rfl,rfl⟩)) <;> (try simp (disch := omega) only [push_cast,seval,hv,hr,hel,innL_EL]))
 | (refine awp_ret ⟨.inr rfl,[16000],[(16000,1)],_,by decide,rfl,?_⟩; (try simp (disch := omega) only [push_cast,seval,↓allMem_nil,↓allMem_cons,↓List.map_cons,↓List.map_nil,hv,hr,hel,innL_EL]))))
      all_goals simp [OI]
    | true =>
      obtain ⟨q,p,b,x,y,rfl,hq,he,hvw⟩ := opA_at hr
      have hs := vB_see hv he
      rw [hvw]
      have hd := EL_drop false es q he
      simp only at hd
      have hil : q * 5 + 5 ≤ es.length * 5 := by omega
      have h3 : ((EL false es).drop (q * 5 + 1)).take 3 = [.int .i64 b,.rows false (IL x) x.length,.rows false (IL y) y.length] := by
        have := congrArg (fun l => (l.drop 1).take 3) hd
        simpa [List.drop_take,List.drop_drop,List.take_take] using this
      (repeat' (first
 | (first | refine awp_seq ?_ | refine awp_block ?_)
 | ((first | refine awp_reg ?_ | refine awp_draw (mid := l20r3a) (post := l20r3b) mixed (by decide) ?_ | refine awp_condB ?_ | refine awp_skip ?_ | refine awp_exit ?_); simp (disch := omega) only [push_cast,seval,l20r0,l20r1,l20r2,l20r3a,l20r3b,l20r3,hv,hr,h3,hil,hel,innL_EL])
 | ((first | refine condB_split (fun h => ?_) (fun h => ?_) | refine gIf_split (fun h => ?_) (fun h => ?_) | refine qIf_split (fun h => ?_) (fun h => ?_)) <;> (try simp only [h]) <;> (try simp only [bitvec_to_nat] at h) <;> (try simp only [h]) <;> (first | (exfalso; omega) | (focus (exfalso; simp_all; done)) | (simp (disch := omega) only [push_cast,seval,hv,hr,h3,hil,hel,innL_EL]) | skip))
 | ((first | refine callD_of false ?_ | refine qcallD_of false ?_); simp (disch := omega) only [push_cast,seval,hv,hr,h3,hil,hel,innL_EL])
 | ((first | ((first | refine call0D (BCall.ofP (svB_ok _ _ _ _ ?_ ?_ ?_)) ?_ | refine qcall0D (BCall.ofP (svB_ok _ _ _ _ ?_ ?_ ?_)) ⟨_,_,rfl,rfl⟩ ?_); (iterate 3 (exact sd)); rintro _ _ ⟨rfl,rfl⟩) | ((first | refine call0D (BCall.ofP (siO_ok _ _ _ _ _ ?_ ?_ ?_)) ?_ | refine qcall0D (BCall.ofP (siO_ok _ _ _ _ _ ?_ ?_ ?_)) ⟨_,_,rfl,rfl⟩ ?_); (iterate 3 (exact sd)); rintro _ _ ⟨rfl,rfl⟩) | ((first | refine call0D (sload_ok _ _ _ _ _ _ _ ?_ ?_ ?_ ?_) ?_ | refine qcall0D (sload_ok _ _ _ _ _ _ _ ?_ ?_ ?_ ?_) ⟨_,_,rfl,rfl⟩ ?_); (iterate 4 (exact sd)); rintro _ _ ⟨rfl,rfl⟩)) <;> (try simp (disch := omega) only [push_cast,seval,hv,hr,h3,hil,hel,innL_EL]))
 | (refine awp_ret ⟨.inr rfl,[96],[],_,by decide,rfl,?_⟩; (try simp (disch := omega) only [push_cast,seval,↓allMem_nil,↓allMem_cons,↓List.map_cons,↓List.map_nil,hv,hr,h3,hil,hel,innL_EL]); (first | done | (show AV.own _ _ _ = _ ∧ _)))
 | (refine awp_ret ⟨.inr rfl,[176],[],_,by decide,rfl,?_⟩; (try simp (disch := omega) only [push_cast,seval,↓allMem_nil,↓allMem_cons,↓List.map_cons,↓List.map_nil,hv,hr,h3,hil,hel,innL_EL]); (first | done | (show AV.own _ _ _ = _ ∧ _)))
 | (refine awp_ret ⟨.inr rfl,[352],[],_,by decide,rfl,?_⟩; (try simp (disch := omega) only [push_cast,seval,↓allMem_nil,↓allMem_cons,↓List.map_cons,↓List.map_nil,hv,hr,h3,hil,hel,innL_EL]); (first | done | (show AV.own _ _ _ = _ ∧ _)))))
      all_goals simp [OI]


set_option maxHeartbeats 8000000 in
theorem iLE_ok (cs : List Int) (es : List Ex) (m n : Nat) (id : Int) (hm : cs.length = m) (hn : es.length = n) (hb : m ≤ 1099511627776 ∧ n ≤ 1099511627776 ∧ exB 1099511627776 es) :
    BCall Tryd.prog 21 [.agg [.rows false (IL cs) m,.rows false (EL false es) n],.int .i64 id] [] (OI (loadA cs es id)) := by
  subst hm hn
  have hb0 := hb
  obtain ⟨hb1,hb2,hb3⟩ := hb
  have hel := EL_length false es
  refine bcall_of (pins := []) (pin := 0) l21_eq rfl rfl rfl ?_
  unfold loadA
  cases hc : (vB cs es && opA es id) with
  | false =>
    (repeat' (first
 | (first | refine awp_seq ?_ | refine awp_block ?_)
 | ((first | refine awp_reg ?_ | refine awp_draw (mid := l21r3a) (post := l21r3b) mixed (by decide) ?_ | refine awp_condB ?_ | refine awp_skip ?_ | refine awp_exit ?_); simp (disch := omega) only [push_cast,seval,l21r0,l21r1,l21r2,l21r3a,l21r3b,l21r3,hc,hel,innL_EL])
 | ((first | refine condB_split (fun h => ?_) (fun h => ?_) | refine gIf_split (fun h => ?_) (fun h => ?_) | refine qIf_split (fun h => ?_) (fun h => ?_)) <;> (try simp only [h]) <;> (try simp only [bitvec_to_nat] at h) <;> (try simp only [h]) <;> (first | (exfalso; omega) | (focus (exfalso; simp_all; done)) | (simp (disch := omega) only [push_cast,seval,hc,hel,innL_EL]) | skip))
 | ((first | refine callD_of false ?_ | refine qcallD_of false ?_); simp (disch := omega) only [push_cast,seval,hc,hel,innL_EL])
 | ((first | ((first | refine call0D (BCall.ofP (ihO_ok _ _ _ _ _ ?_ ?_ ?_)) ?_ | refine qcall0D (BCall.ofP (ihO_ok _ _ _ _ _ ?_ ?_ ?_)) ⟨_,_,rfl,rfl⟩ ?_); (iterate 3 (exact sd)); rintro _ _ ⟨rfl,rfl⟩) | ((first | refine call0D (iLoadX_ok _ _ _ _ _ _ _ ?_ ?_ ?_ ?_) ?_ | refine qcall0D (iLoadX_ok _ _ _ _ _ _ _ ?_ ?_ ?_ ?_) ⟨_,_,rfl,rfl⟩ ?_); (iterate 4 (exact sd)); rintro _ _ ⟨rfl,rfl⟩)) <;> (try simp (disch := omega) only [push_cast,seval,hc,hel,innL_EL]))
 | (refine awp_ret ⟨.inr rfl,[16000],[(16000,1)],_,by decide,rfl,?_⟩; (try simp (disch := omega) only [push_cast,seval,↓allMem_nil,↓allMem_cons,↓List.map_cons,↓List.map_nil,hc,hel,innL_EL]))))
    all_goals simp [OI]
  | true =>
    have hc2 := hc
    rw [Bool.and_eq_true] at hc2
    obtain ⟨hv,hr⟩ := hc2
    obtain ⟨q,p,b,x,y,rfl,hq,he,hvw⟩ := opA_at hr
    have hs := vB_see hv he
    have hbb := exB_get hb3 he
    have q9 : seeB cs b x y = true ∧ cs.length ≤ 1099511627776 ∧ x.length ≤ 1099511627776 ∧ y.length ≤ 1099511627776 := ⟨hs,hb1,hbb⟩
    rw [hvw]
    have hd := EL_drop false es q he
    simp only at hd
    have hil : q * 5 + 5 ≤ es.length * 5 := by omega
    have h3 : ((EL false es).drop (q * 5 + 1)).take 3 = [.int .i64 b,.rows false (IL x) x.length,.rows false (IL y) y.length] := by
      have := congrArg (fun l => (l.drop 1).take 3) hd
      simpa [List.drop_take,List.drop_drop,List.take_take] using this
    (repeat' (first
 | (first | refine awp_seq ?_ | refine awp_block ?_)
 | ((first | refine awp_reg ?_ | refine awp_draw (mid := l21r3a) (post := l21r3b) mixed (by decide) ?_ | refine awp_condB ?_ | refine awp_skip ?_ | refine awp_exit ?_); simp (disch := omega) only [push_cast,seval,l21r0,l21r1,l21r2,l21r3a,l21r3b,l21r3,hc,h3,hil,hel,innL_EL])
 | ((first | refine condB_split (fun h => ?_) (fun h => ?_) | refine gIf_split (fun h => ?_) (fun h => ?_) | refine qIf_split (fun h => ?_) (fun h => ?_)) <;> (try simp only [h]) <;> (try simp only [bitvec_to_nat] at h) <;> (try simp only [h]) <;> (first | (exfalso; omega) | (focus (exfalso; simp_all; done)) | (simp (disch := omega) only [push_cast,seval,hc,h3,hil,hel,innL_EL]) | skip))
 | ((first | refine callD_of false ?_ | refine qcallD_of false ?_); simp (disch := omega) only [push_cast,seval,hc,h3,hil,hel,innL_EL])
 | ((first | ((first | refine call0D (BCall.ofP (ihO_ok _ _ _ _ _ ?_ ?_ ?_)) ?_ | refine qcall0D (BCall.ofP (ihO_ok _ _ _ _ _ ?_ ?_ ?_)) ⟨_,_,rfl,rfl⟩ ?_); (iterate 3 (exact sd)); rintro _ _ ⟨rfl,rfl⟩) | ((first | refine call0D (iLoadX_ok _ _ _ _ _ _ _ ?_ ?_ ?_ ?_) ?_ | refine qcall0D (iLoadX_ok _ _ _ _ _ _ _ ?_ ?_ ?_ ?_) ⟨_,_,rfl,rfl⟩ ?_); (iterate 4 (exact sd)); rintro _ _ ⟨rfl,rfl⟩)) <;> (try simp (disch := omega) only [push_cast,seval,hc,h3,hil,hel,innL_EL]))
 | (refine awp_ret ⟨.inr rfl,[112],[],_,by decide,rfl,?_⟩; (try simp (disch := omega) only [push_cast,seval,↓allMem_nil,↓allMem_cons,↓List.map_cons,↓List.map_nil,hc,h3,hil,hel,innL_EL]); (first | done | (show AV.own _ _ _ = _ ∧ _)))
 | (refine awp_ret ⟨.inr rfl,[272],[],_,by decide,rfl,?_⟩; (try simp (disch := omega) only [push_cast,seval,↓allMem_nil,↓allMem_cons,↓List.map_cons,↓List.map_nil,hc,h3,hil,hel,innL_EL]); (first | done | (show AV.own _ _ _ = _ ∧ _)))))
    all_goals simp [OI]

end Go.Proofs.YtiknpnnhbhfipaaDoor
