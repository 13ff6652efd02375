import Derived.Test.YtahdlohpncjdbaaDoorCKh16
import Derived.Test.YtahdlohpncjdbaaDoorCM1
import Derived.Test.YtahdlohpncjdbaaDoorCW3
set_option linter.unusedSimpArgs false
set_option linter.unusedVariables false
set_option maxRecDepth 4000
set_option maxHeartbeats 4000000
namespace Go.Proofs.YtahdlohpncjdbaaDoor
open VwM Vw Go
set_option linter.unusedSectionVars false
variable [SentA]

abbrev OBs (ok : Bool) (cs : List Int) (es : List Ex) : AV → List (List AV) → Prop := fun r H' => r = .tup [.agg [.own 0 cs.length 1,.own 1 es.length 5],.bool ok] ∧ H' = [IL cs,EL true es]
abbrev OBf (ok : Bool) (cs : List Int) (es : List Ex) : AV → List (List AV) → Prop := fun r H' => r = .tup [.agg [.own 0 cs.length 1,.own 1 es.length 5],.bool ok] ∧ H' = IL cs :: (esF es).cellsG (· + 2) :: (esF es).conts
theorem mkE_nil : (esF ([] : List Ex)).cellsG (· + 2) = [] ∧ (esF ([] : List Ex)).conts = [] := ⟨rfl,rfl⟩
/-- What comes of it if 'g' holds. -/
def ifB {α : Type} (g : Bool) (l : List α) : List α := if g = true then l else []
theorem ifB_true {α : Type} (l : List α) : ifB true l = l := rfl
theorem ifB_false {α : Type} (l : List α) : ifB false l = [] := rfl
def relG (cs : List Int) (es : List Ex) (id : Int) : Bool := (vB cs es && opA es id) && decide ((kidsT es id es.length).length = 0)


set_option maxHeartbeats 8000000 in
theorem sRel_ok (cs : List Int) (es : List Ex) (m n : Nat) (id : Int) (hm : cs.length = m) (hn : es.length = n) (hb : m ≤ 1099511627776 ∧ n ≤ 1099511627776 ∧ exB 1099511627776 es) :
    BCall Tryd.prog 9 [.agg [.rows false (IL cs) m,.rows false (EL false es) n],.int .i64 id] [] (OBs (relG cs es id) (ifB (relG cs es id) cs) (ifB (relG cs es id) (relE es id.toNat))) := by
  subst hm hn
  have hb0 := hb
  obtain ⟨hb1,hb2,hb3⟩ := hb
  have hel := EL_length false es
  have helt := EL_length true es
  refine bcall_of (pins := []) (pin := 0) l9_eq rfl rfl rfl ?_
  unfold relG
  cases hv : vB cs es with
  | false =>
    simp only [Bool.false_and,ifB_false]
    (repeat' (first
 | (first | refine awp_seq ?_ | refine awp_block ?_)
 | ((first | refine awp_reg ?_ | refine awp_condB ?_ | refine awp_skip ?_ | refine awp_exit ?_); simp (disch := omega) only [push_cast,seval,l9r0,l9r1,l9r2,l9r3,l9r4,l9r5,hv,hel,innL_EL])
 | ((first | refine condB_split (fun h => ?_) (fun h => ?_) | refine gIf_split (fun h => ?_) (fun h => ?_) | refine qIf_split (fun h => ?_) (fun h => ?_)) <;> (try simp only [h]) <;> (try simp only [bitvec_to_nat] at h) <;> (try simp only [h]) <;> (first | (exfalso; omega) | (focus (exfalso; simp_all; done)) | (simp (disch := omega) only [push_cast,seval,hv,hel,innL_EL]) | skip))
 | ((first | refine callD_of false ?_ | refine qcallD_of false ?_); simp (disch := omega) only [push_cast,seval,hv,hel,innL_EL])
 | ((first | ((first | refine call0D (BCall.ofP (svB_ok _ _ _ _ ?_ ?_ ?_)) ?_ | refine qcall0D (BCall.ofP (svB_ok _ _ _ _ ?_ ?_ ?_)) ⟨_,_,rfl,rfl⟩ ?_); (iterate 3 (exact sd)); rintro _ _ ⟨rfl,rfl⟩) | ((first | refine call0D (BCall.ofP (siO_ok _ _ _ _ _ ?_ ?_ ?_)) ?_ | refine qcall0D (BCall.ofP (siO_ok _ _ _ _ _ ?_ ?_ ?_)) ⟨_,_,rfl,rfl⟩ ?_); (iterate 3 (exact sd)); rintro _ _ ⟨rfl,rfl⟩) | ((first | refine call0D (skids_ok _ _ _ _ _ ?_ ?_ ?_) ?_ | refine qcall0D (skids_ok _ _ _ _ _ ?_ ?_ ?_) ⟨_,_,rfl,rfl⟩ ?_); (iterate 3 (exact sd)); rintro _ _ ⟨rfl,rfl⟩) | ((first | refine call0D (scB_ok _ _ _ _ ?_ ?_ ?_) ?_ | refine qcall0D (scB_ok _ _ _ _ ?_ ?_ ?_) ⟨_,_,rfl,rfl⟩ ?_); (iterate 3 (exact sd)); rintro _ _ ⟨rfl,rfl⟩)) <;> (try simp (disch := omega) only [push_cast,seval,hv,hel,innL_EL]))
 | (refine awp_ret ⟨.inr rfl,[16000,16001],[(16000,1),(16001,5)],_,by decide,rfl,?_⟩; (try simp (disch := omega) only [push_cast,seval,↓allMem_nil,↓allMem_cons,↓List.map_cons,↓List.map_nil,hv,hel,innL_EL]))))
    all_goals simp [OBs,EL]
  | true =>
    obtain ⟨v1,v2,v3⟩ := vB_8 hv
    cases hr : opA es id with
    | false =>
      simp only [Bool.true_and,Bool.false_and,ifB_false]
      (repeat' (first
 | (first | refine awp_seq ?_ | refine awp_block ?_)
 | ((first | refine awp_reg ?_ | refine awp_condB ?_ | refine awp_skip ?_ | refine awp_exit ?_); simp (disch := omega) only [push_cast,seval,l9r0,l9r1,l9r2,l9r3,l9r4,l9r5,hv,hr,hel,innL_EL])
 | ((first | refine condB_split (fun h => ?_) (fun h => ?_) | refine gIf_split (fun h => ?_) (fun h => ?_) | refine qIf_split (fun h => ?_) (fun h => ?_)) <;> (try simp only [h]) <;> (try simp only [bitvec_to_nat] at h) <;> (try simp only [h]) <;> (first | (exfalso; omega) | (focus (exfalso; simp_all; done)) | (simp (disch := omega) only [push_cast,seval,hv,hr,hel,innL_EL]) | skip))
 | ((first | refine callD_of false ?_ | refine qcallD_of false ?_); simp (disch := omega) only [push_cast,seval,hv,hr,hel,innL_EL])
 | ((first | ((first | refine call0D (BCall.ofP (svB_ok _ _ _ _ ?_ ?_ ?_)) ?_ | refine qcall0D (BCall.ofP (svB_ok _ _ _ _ ?_ ?_ ?_)) ⟨_,_,rfl,rfl⟩ ?_); (iterate 3 (exact sd)); rintro _ _ ⟨rfl,rfl⟩) | ((first | refine call0D (BCall.ofP (siO_ok _ _ _ _ _ ?_ ?_ ?_)) ?_ | refine qcall0D (BCall.ofP (siO_ok _ _ _ _ _ ?_ ?_ ?_)) ⟨_,_,rfl,rfl⟩ ?_); (iterate 3 (exact sd)); rintro _ _ ⟨rfl,rfl⟩) | ((first | refine call0D (skids_ok _ _ _ _ _ ?_ ?_ ?_) ?_ | refine qcall0D (skids_ok _ _ _ _ _ ?_ ?_ ?_) ⟨_,_,rfl,rfl⟩ ?_); (iterate 3 (exact sd)); rintro _ _ ⟨rfl,rfl⟩) | ((first | refine call0D (scB_ok _ _ _ _ ?_ ?_ ?_) ?_ | refine qcall0D (scB_ok _ _ _ _ ?_ ?_ ?_) ⟨_,_,rfl,rfl⟩ ?_); (iterate 3 (exact sd)); rintro _ _ ⟨rfl,rfl⟩)) <;> (try simp (disch := omega) only [push_cast,seval,hv,hr,hel,innL_EL]))
 | (refine awp_ret ⟨.inr rfl,[16000,16001],[(16000,1),(16001,5)],_,by decide,rfl,?_⟩; (try simp (disch := omega) only [push_cast,seval,↓allMem_nil,↓allMem_cons,↓List.map_cons,↓List.map_nil,hv,hr,hel,innL_EL]))))
      all_goals simp [OBs,EL]
    | true =>
      obtain ⟨q,p,b,x,y,rfl,hq,he,hvw⟩ := opA_at hr
      have hrel := EL_rel (b := true) he
      have hrl := relE_length es q
      have hil : q * 5 + 5 ≤ es.length * 5 := by omega
      simp only [Bool.true_and,Int.toNat_natCast]
      generalize hK : kidsT es (q : Int) es.length = K at *
      by_cases hk0 : K.length = 0
      · have hkd : decide (K.length = 0) = true := decide_eq_true hk0
        rw [hkd,ifB_true,ifB_true]
        (repeat' (first
 | (first | refine awp_seq ?_ | refine awp_block ?_)
 | ((first | refine awp_reg ?_ | refine awp_condB ?_ | refine awp_skip ?_ | refine awp_exit ?_); simp (disch := omega) only [push_cast,seval,l9r0,l9r1,l9r2,l9r3,l9r4,l9r5,hv,hr,hK,hk0,hil,hel,helt,hrel,innL_EL])
 | ((first | refine condB_split (fun h => ?_) (fun h => ?_) | refine gIf_split (fun h => ?_) (fun h => ?_) | refine qIf_split (fun h => ?_) (fun h => ?_)) <;> (try simp only [h]) <;> (try simp only [bitvec_to_nat] at h) <;> (try simp only [h]) <;> (first | (exfalso; omega) | (focus (exfalso; simp_all; done)) | (simp (disch := omega) only [push_cast,seval,hv,hr,hK,hk0,hil,hel,helt,hrel,innL_EL]) | skip))
 | ((first | refine callD_of false ?_ | refine qcallD_of false ?_); simp (disch := omega) only [push_cast,seval,hv,hr,hK,hk0,hil,hel,helt,hrel,innL_EL])
 | ((first | ((first | refine call0D (BCall.ofP (svB_ok _ _ _ _ ?_ ?_ ?_)) ?_ | refine qcall0D (BCall.ofP (svB_ok _ _ _ _ ?_ ?_ ?_)) ⟨_,_,rfl,rfl⟩ ?_); (iterate 3 (exact sd)); rintro _ _ ⟨rfl,rfl⟩) | ((first | refine call0D (BCall.ofP (siO_ok _ _ _ _ _ ?_ ?_ ?_)) ?_ | refine qcall0D (BCall.ofP (siO_ok _ _ _ _ _ ?_ ?_ ?_)) ⟨_,_,rfl,rfl⟩ ?_); (iterate 3 (exact sd)); rintro _ _ ⟨rfl,rfl⟩) | ((first | refine call0D (skids_ok _ _ _ _ _ ?_ ?_ ?_) ?_ | refine qcall0D (skids_ok _ _ _ _ _ ?_ ?_ ?_) ⟨_,_,rfl,rfl⟩ ?_); (iterate 3 (exact sd)); rintro _ _ ⟨rfl,rfl⟩) | ((first | refine call0D (scB_ok _ _ _ _ ?_ ?_ ?_) ?_ | refine qcall0D (scB_ok _ _ _ _ ?_ ?_ ?_) ⟨_,_,rfl,rfl⟩ ?_); (iterate 3 (exact sd)); rintro _ _ ⟨rfl,rfl⟩)) <;> (try simp (disch := omega) only [push_cast,seval,hv,hr,hK,hk0,hil,hel,helt,hrel,innL_EL]))
 | (refine awp_ret ⟨.inr rfl,[400,401],[],_,by decide,rfl,?_⟩; (try simp (disch := omega) only [push_cast,seval,↓allMem_nil,↓allMem_cons,↓List.map_cons,↓List.map_nil,hv,hr,hK,hk0,hil,hel,helt,hrel,innL_EL]))))
        all_goals simp [OBs,hrl]
      · have hkd : decide (K.length = 0) = false := decide_eq_false hk0
        rw [hkd,ifB_false,ifB_false]
        (repeat' (first
 | (first | refine awp_seq ?_ | refine awp_block ?_)
 | ((first | refine awp_reg ?_ | refine awp_condB ?_ | refine awp_skip ?_ | refine awp_exit ?_); simp (disch := omega) only [push_cast,seval,l9r0,l9r1,l9r2,l9r3,l9r4,l9r5,hv,hr,hK,hk0,hil,hel,innL_EL])
 | ((first | refine condB_split (fun h => ?_) (fun h => ?_) | refine gIf_split (fun h => ?_) (fun h => ?_) | refine qIf_split (fun h => ?_) (fun h => ?_)) <;> (try simp only [h]) <;> (try simp only [bitvec_to_nat] at h) <;> (try simp only [h]) <;> (first | (exfalso; omega) | (focus (exfalso; simp_all; done)) | (simp (disch := omega) only [push_cast,seval,hv,hr,hK,hk0,hil,hel,innL_EL]) | skip))
 | ((first | refine callD_of false ?_ | refine qcallD_of false ?_); simp (disch := omega) only [push_cast,seval,hv,hr,hK,hk0,hil,hel,innL_EL])
 | ((first | ((first | refine call0D (BCall.ofP (svB_ok _ _ _ _ ?_ ?_ ?_)) ?_ | refine qcall0D (BCall.ofP (svB_ok _ _ _ _ ?_ ?_ ?_)) ⟨_,_,rfl,rfl⟩ ?_); (iterate 3 (exact sd)); rintro _ _ ⟨rfl,rfl⟩) | ((first | refine call0D (BCall.ofP (siO_ok _ _ _ _ _ ?_ ?_ ?_)) ?_ | refine qcall0D (BCall.ofP (siO_ok _ _ _ _ _ ?_ ?_ ?_)) ⟨_,_,rfl,rfl⟩ ?_); (iterate 3 (exact sd)); rintro _ _ ⟨rfl,rfl⟩) | ((first | refine call0D (skids_ok _ _ _ _ _ ?_ ?_ ?_) ?_ | refine qcall0D (skids_ok _ _ _ _ _ ?_ ?_ ?_) ⟨_,_,rfl,rfl⟩ ?_); (iterate 3 (exact sd)); rintro _ _ ⟨rfl,rfl⟩) | ((first | refine call0D (scB_ok _ _ _ _ ?_ ?_ ?_) ?_ | refine qcall0D (scB_ok _ _ _ _ ?_ ?_ ?_) ⟨_,_,rfl,rfl⟩ ?_); (iterate 3 (exact sd)); rintro _ _ ⟨rfl,rfl⟩)) <;> (try simp (disch := omega) only [push_cast,seval,hv,hr,hK,hk0,hil,hel,innL_EL]))
 | (refine awp_ret ⟨.inr rfl,[16000,16001],[(16000,1),(16001,5)],_,by decide,rfl,?_⟩; (try simp (disch := omega) only [push_cast,seval,↓allMem_nil,↓allMem_cons,↓List.map_cons,↓List.map_nil,hv,hr,hK,hk0,hil,hel,innL_EL]))))
        all_goals simp [OBs,EL]


set_option maxHeartbeats 8000000 in
theorem iRel_ok (cs : List Int) (es : List Ex) (m n : Nat) (id : Int) (hm : cs.length = m) (hn : es.length = n) (hb : m ≤ 1048576 ∧ n ≤ 1048576 ∧ exB 1048576 es) :
    BCall Tryd.prog 11 [.agg [.rows false (IL cs) m,.rows false (EL false es) n],.int .i64 id] [] (OBf (relG cs es id) (ifB (relG cs es id) cs) (ifB (relG cs es id) (relE es id.toNat))) := by
  subst hm hn
  have hb0 := hb
  obtain ⟨hb1,hb2,hb3⟩ := hb
  have hq8 : cs.length ≤ 1099511627776 ∧ es.length ≤ 1099511627776 ∧ exB 1099511627776 es := ⟨by omega,by omega,fun e he => by have := hb3 e he; omega⟩
  have hel := EL_length false es
  refine bcall_of (pins := []) (pin := 0) l11_eq rfl rfl rfl ?_
  unfold relG
  cases hc : (vB cs es && opA es id) with
  | false =>
    simp only [Bool.false_and,ifB_false]
    (repeat' (first
 | (first | refine awp_seq ?_ | refine awp_block ?_)
 | ((first | refine awp_reg ?_ | refine awp_draw (mid := l11r1a) (post := l11r1b) mixed (by decide) ?_ | refine awp_condB ?_ | refine awp_skip ?_ | refine awp_exit ?_); simp (disch := omega) only [push_cast,seval,l11r0,l11r1a,l11r1b,l11r1,l11r2,l11r3,l11r4,l11r5,hc,hel,innL_EL])
 | ((first | refine condB_split (fun h => ?_) (fun h => ?_) | refine gIf_split (fun h => ?_) (fun h => ?_) | refine qIf_split (fun h => ?_) (fun h => ?_)) <;> (try simp only [h]) <;> (try simp only [bitvec_to_nat] at h) <;> (try simp only [h]) <;> (first | (exfalso; omega) | (focus (exfalso; simp_all; done)) | (simp (disch := omega) only [push_cast,seval,hc,hel,innL_EL]) | skip))
 | ((first | ((with_reducible refine callD_of (f := 39) false ?_); simp (disch := omega) only [push_cast,seval,hc,hel,innL_EL]; (refine callFNB (bclone_ok _ _ _ _ ?_ ?_ ?_) (by (simp (disch := omega) only [push_cast,seval,hc,hel,innL_EL]); done) ?_; (iterate 3 (exact sd))))) <;> (try simp (disch := omega) only [push_cast,seval,hc,hel,innL_EL]))
 | ((first | refine callD_of false ?_ | refine qcallD_of false ?_); simp (disch := omega) only [push_cast,seval,hc,hel,innL_EL])
 | ((first | ((first | refine call0D (BCall.ofP (ihO_ok _ _ _ _ _ ?_ ?_ ?_)) ?_ | refine qcall0D (BCall.ofP (ihO_ok _ _ _ _ _ ?_ ?_ ?_)) ⟨_,_,rfl,rfl⟩ ?_); (iterate 3 (exact sd)); rintro _ _ ⟨rfl,rfl⟩) | ((first | refine call0D (BCall.ofP (nodeP_ok _ _ _ _ _ ?_ ?_ ?_ ?_ ?_)) ?_ | refine qcall0D (BCall.ofP (nodeP_ok _ _ _ _ _ ?_ ?_ ?_ ?_ ?_)) ⟨_,_,rfl,rfl⟩ ?_); (iterate 5 (exact sd)); rintro _ _ ⟨rfl,rfl⟩) | ((first | refine call0D (BCall.ofP (held_ok _ _ ?_ ?_)) ?_ | refine qcall0D (BCall.ofP (held_ok _ _ ?_ ?_)) ⟨_,_,rfl,rfl⟩ ?_); (iterate 2 (exact sd)); rintro _ _ ⟨rfl,rfl⟩) | ((first | refine call0D (BCall.ofP (isHeld_ok _)) ?_ | refine qcall0D (BCall.ofP (isHeld_ok _)) ⟨_,_,rfl,rfl⟩ ?_); rintro _ _ ⟨rfl,rfl⟩)) <;> (try simp (disch := omega) only [push_cast,seval,hc,hel,innL_EL]))
 | (refine awp_ret ⟨.inr rfl,[16000,16001],[(16000,1),(16001,5)],_,by decide,rfl,?_⟩; (try simp (disch := omega) only [push_cast,seval,↓allMem_nil,↓allMem_cons,↓List.map_cons,↓List.map_nil,hc,hel,innL_EL]))))
    all_goals simp [OBf,mkE_nil]
  | true =>
    have hc2 := hc
    rw [Bool.and_eq_true] at hc2
    obtain ⟨hv,hr⟩ := hc2
    obtain ⟨v1,v2,v3⟩ := vB_8 hv
    obtain ⟨q,p,b,x,y,rfl,hq,he,hvw⟩ := opA_at hr
    have hrl := relE_length es q
    have hil : q * 5 + 5 ≤ es.length * 5 := by omega
    have hrF := relE_F he
    simp only [Bool.true_and,Int.toNat_natCast]
    have hid : -1 ≤ (q : Int) ∧ (q : Int) < es.length := by omega
    have hkl := kidsT_len es (q : Int) es.length
    generalize hK : kidsT es (q : Int) es.length = K at *
    by_cases hk0 : K.length = 0
    · have hkd : decide (K.length = 0) = true := decide_eq_true hk0
      rw [hkd,ifB_true,ifB_true]
      have hset : ((esF es).cellsG (fim 21)).set (q * 5 + 4) (.bool false) = (esF (relE es q)).cellsG (fim 21) := by rw [hrF]; exact eF_set4 ..
      (repeat' (first
 | (first | refine awp_seq ?_ | refine awp_block ?_)
 | ((first | refine awp_reg ?_ | refine awp_draw (mid := l11r1a) (post := l11r1b) mixed (by decide) ?_ | refine awp_condB ?_ | refine awp_skip ?_ | refine awp_exit ?_); simp (disch := omega) only [push_cast,seval,l11r0,l11r1a,l11r1b,l11r1,l11r2,l11r3,l11r4,l11r5,hc,hK,hk0,hil,hel,hset,innL_EL,globE,renHeld,Nat.lt_irrefl,decide_false])
 | ((first | refine condB_split (fun h => ?_) (fun h => ?_) | refine gIf_split (fun h => ?_) (fun h => ?_) | refine qIf_split (fun h => ?_) (fun h => ?_)) <;> (try simp only [h]) <;> (try simp only [bitvec_to_nat] at h) <;> (try simp only [h]) <;> (first | (exfalso; omega) | (focus (exfalso; simp_all; done)) | (simp (disch := omega) only [push_cast,seval,hc,hK,hk0,hil,hel,hset,innL_EL,globE,renHeld,Nat.lt_irrefl,decide_false]) | skip))
 | ((first | ((with_reducible refine callD_of (f := 39) false ?_); simp (disch := omega) only [push_cast,seval,hc,hK,hk0,hil,hel,hset,innL_EL,globE,renHeld,Nat.lt_irrefl,decide_false]; (refine callFNB (bclone_ok _ _ _ _ ?_ ?_ ?_) (by (simp (disch := omega) only [push_cast,seval,hc,hK,hk0,hil,hel,hset,innL_EL,globE,renHeld,Nat.lt_irrefl,decide_false]); done) ?_; (iterate 3 (exact sd))))) <;> (try simp (disch := omega) only [push_cast,seval,hc,hK,hk0,hil,hel,hset,innL_EL,globE,renHeld,Nat.lt_irrefl,decide_false]))
 | ((first | refine callD_of false ?_ | refine qcallD_of false ?_); simp (disch := omega) only [push_cast,seval,hc,hK,hk0,hil,hel,hset,innL_EL,globE,renHeld,Nat.lt_irrefl,decide_false])
 | ((first | ((first | refine call0D (BCall.ofP (ihO_ok _ _ _ _ _ ?_ ?_ ?_)) ?_ | refine qcall0D (BCall.ofP (ihO_ok _ _ _ _ _ ?_ ?_ ?_)) ⟨_,_,rfl,rfl⟩ ?_); (iterate 3 (exact sd)); rintro _ _ ⟨rfl,rfl⟩) | ((first | refine call0D (BCall.ofP (nodeP_ok _ _ _ _ _ ?_ ?_ ?_ ?_ ?_)) ?_ | refine qcall0D (BCall.ofP (nodeP_ok _ _ _ _ _ ?_ ?_ ?_ ?_ ?_)) ⟨_,_,rfl,rfl⟩ ?_); (iterate 5 (exact sd)); rintro _ _ ⟨rfl,rfl⟩) | ((first | refine call0D (BCall.ofP (held_ok _ _ ?_ ?_)) ?_ | refine qcall0D (BCall.ofP (held_ok _ _ ?_ ?_)) ⟨_,_,rfl,rfl⟩ ?_); (iterate 2 (exact sd)); rintro _ _ ⟨rfl,rfl⟩) | ((first | refine call0D (BCall.ofP (isHeld_ok _)) ?_ | refine qcall0D (BCall.ofP (isHeld_ok _)) ⟨_,_,rfl,rfl⟩ ?_); rintro _ _ ⟨rfl,rfl⟩)) <;> (try simp (disch := omega) only [push_cast,seval,hc,hK,hk0,hil,hel,hset,innL_EL,globE,renHeld,Nat.lt_irrefl,decide_false]))))
      refine awp_ret ⟨.inr rfl,?_⟩
      have hRw : (esF (relE es q)).rows = exR es := by rw [hrF]; rfl
      have hRR : (esF (relE es q)).R = es.length * 2 := by rw [hrF]; rfl
      simp only [OBf,hrl]
      refine ret_famW (id0 := 336) (id1 := 337) (d := 21) (F := esF (relE es q)) (cs := cs) (bufT cs.length es.length true) rfl rfl (fun _ _ _ _ e0 e1 => ren_bufT e0 e1) ?_ rfl ?_ (by omega)
      · simp only [hk,if_false]; rfl
      · intro j hj
        rw [hRR] at hj
        rw [hRw]
        simp only [hk,fim_ne _ _ 64 (by omega),fim_ne _ _ 96 (by omega),fim_ne _ _ 336 (by omega),fim_ne _ _ 337 (by omega),if_false]
        exact hk_famD_same 21 (esF es) _ j hj
    · have hkd : decide (K.length = 0) = false := decide_eq_false hk0
      have hk1 : 0 < K.length := by omega
      rw [hkd,ifB_false,ifB_false]
      (repeat' (first
 | (first | refine awp_seq ?_ | refine awp_block ?_)
 | ((first | refine awp_reg ?_ | refine awp_draw (mid := l11r1a) (post := l11r1b) mixed (by decide) ?_ | refine awp_condB ?_ | refine awp_skip ?_ | refine awp_exit ?_); simp (disch := omega) only [push_cast,seval,l11r0,l11r1a,l11r1b,l11r1,l11r2,l11r3,l11r4,l11r5,hc,hK,hk1,hil,hel,innL_EL,globE,renHeld,decide_true])
 | ((first | refine condB_split (fun h => ?_) (fun h => ?_) | refine gIf_split (fun h => ?_) (fun h => ?_) | refine qIf_split (fun h => ?_) (fun h => ?_)) <;> (try simp only [h]) <;> (try simp only [bitvec_to_nat] at h) <;> (try simp only [h]) <;> (first | (exfalso; omega) | (focus (exfalso; simp_all; done)) | (simp (disch := omega) only [push_cast,seval,hc,hK,hk1,hil,hel,innL_EL,globE,renHeld,decide_true]) | skip))
 | ((first | ((with_reducible refine callD_of (f := 39) false ?_); simp (disch := omega) only [push_cast,seval,hc,hK,hk1,hil,hel,innL_EL,globE,renHeld,decide_true]; (refine callFNB (bclone_ok _ _ _ _ ?_ ?_ ?_) (by (simp (disch := omega) only [push_cast,seval,hc,hK,hk1,hil,hel,innL_EL,globE,renHeld,decide_true]); done) ?_; (iterate 3 (exact sd))))) <;> (try simp (disch := omega) only [push_cast,seval,hc,hK,hk1,hil,hel,innL_EL,globE,renHeld,decide_true]))
 | ((first | refine callD_of false ?_ | refine qcallD_of false ?_); simp (disch := omega) only [push_cast,seval,hc,hK,hk1,hil,hel,innL_EL,globE,renHeld,decide_true])
 | ((first | ((first | refine call0D (BCall.ofP (ihO_ok _ _ _ _ _ ?_ ?_ ?_)) ?_ | refine qcall0D (BCall.ofP (ihO_ok _ _ _ _ _ ?_ ?_ ?_)) ⟨_,_,rfl,rfl⟩ ?_); (iterate 3 (exact sd)); rintro _ _ ⟨rfl,rfl⟩) | ((first | refine call0D (BCall.ofP (nodeP_ok _ _ _ _ _ ?_ ?_ ?_ ?_ ?_)) ?_ | refine qcall0D (BCall.ofP (nodeP_ok _ _ _ _ _ ?_ ?_ ?_ ?_ ?_)) ⟨_,_,rfl,rfl⟩ ?_); (iterate 5 (exact sd)); rintro _ _ ⟨rfl,rfl⟩) | ((first | refine call0D (BCall.ofP (held_ok _ _ ?_ ?_)) ?_ | refine qcall0D (BCall.ofP (held_ok _ _ ?_ ?_)) ⟨_,_,rfl,rfl⟩ ?_); (iterate 2 (exact sd)); rintro _ _ ⟨rfl,rfl⟩) | ((first | refine call0D (BCall.ofP (isHeld_ok _)) ?_ | refine qcall0D (BCall.ofP (isHeld_ok _)) ⟨_,_,rfl,rfl⟩ ?_); rintro _ _ ⟨rfl,rfl⟩)) <;> (try simp (disch := omega) only [push_cast,seval,hc,hK,hk1,hil,hel,innL_EL,globE,renHeld,decide_true]))
 | (refine awp_ret ⟨.inr rfl,[16000,16001],[(16000,1),(16001,5)],_,by decide,rfl,?_⟩; (try simp (disch := omega) only [push_cast,seval,↓allMem_nil,↓allMem_cons,↓List.map_cons,↓List.map_nil,hc,hK,hk1,hil,hel,innL_EL,globE,renHeld,decide_true]))))
      all_goals simp [OBf,mkE_nil]

end Go.Proofs.YtahdlohpncjdbaaDoor
