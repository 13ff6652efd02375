import Derived.Test.YtahdlohpncjdbaaDoorCKh20
import Derived.Test.YtahdlohpncjdbaaDoorCM1
import Derived.Test.YtahdlohpncjdbaaDoorCW3
set_option linter.unusedSimpArgs false
set_option linter.unusedVariables false
set_option maxRecDepth 4000
set_option maxHeartbeats 4000000
namespace Go.Proofs.YtahdlohpncjdbaaDoor
open VwM Vw Go
set_option linter.unusedSectionVars false
variable [SentA]

def xfG (cs : List Int) (es : List Ex) (id v : Int) : Bool := (vB cs es && opA es id) && (decide (0 ≤ v) && decide (v ≤ 255))
def xfC (cs : List Int) (es : List Ex) (id v : Int) : List Int := filL cs (vwA es id).1 (vwA es id).2.1 (vwA es id).2.2 v
theorem filL_length (cs : List Int) (b : Int) (x y : List Int) (v : Int) : (filL cs b x y v).length = cs.length := putL_length ..


set_option maxHeartbeats 8000000 in
theorem sFE_ok (cs : List Int) (es : List Ex) (m n : Nat) (id v : Int) (hm : cs.length = m) (hn : es.length = n) (hb : m ≤ 1099511627776 ∧ n ≤ 1099511627776 ∧ exB 1099511627776 es) :
    BCall Tryd.prog 15 [.agg [.rows false (IL cs) m,.rows false (EL false es) n],.int .i64 id,.int .i64 v] [] (OBs (xfG cs es id v) (ifB (xfG cs es id v) (xfC cs es id v)) (ifB (xfG cs es id v) es)) := by
  subst hm hn
  have hb0 := hb
  obtain ⟨hb1,hb2,hb3⟩ := hb
  have hel := EL_length false es
  refine bcall_of (pins := []) (pin := 0) l15_eq rfl rfl rfl ?_
  unfold xfG
  cases hv : vB cs es with
  | false =>
    simp only [Bool.false_and,ifB_false]
    (repeat' (first
 | (first | refine awp_seq ?_ | refine awp_block ?_)
 | ((first | refine awp_reg ?_ | refine awp_drawX (mid := l15r4a) (post := l15r4b) [128,1000000039] mixed (by decide) ?_ | refine awp_condB ?_ | refine awp_skip ?_ | refine awp_exit ?_); simp (disch := omega) only [push_cast,seval,l15r0,l15r1,l15r2,l15r3,l15r4a,l15r4b,l15r4,l15r5,hv,hel,innL_EL])
 | ((first | refine condB_split (fun h => ?_) (fun h => ?_) | refine gIf_split (fun h => ?_) (fun h => ?_) | refine qIf_split (fun h => ?_) (fun h => ?_)) <;> (try simp only [h]) <;> (try simp only [bitvec_to_nat] at h) <;> (try simp only [h]) <;> (first | (exfalso; omega) | (focus (exfalso; simp_all; done)) | (simp (disch := omega) only [push_cast,seval,hv,hel,innL_EL]) | skip))
 | ((first | refine callD_of false ?_ | refine qcallD_of false ?_); simp (disch := omega) only [push_cast,seval,hv,hel,innL_EL])
 | ((first | ((first | refine call0D (BCall.ofP (svB_ok _ _ _ _ ?_ ?_ ?_)) ?_ | refine qcall0D (BCall.ofP (svB_ok _ _ _ _ ?_ ?_ ?_)) ⟨_,_,rfl,rfl⟩ ?_); (iterate 3 (exact sd)); rintro _ _ ⟨rfl,rfl⟩) | ((first | refine call0D (BCall.ofP (siO_ok _ _ _ _ _ ?_ ?_ ?_)) ?_ | refine qcall0D (BCall.ofP (siO_ok _ _ _ _ _ ?_ ?_ ?_)) ⟨_,_,rfl,rfl⟩ ?_); (iterate 3 (exact sd)); rintro _ _ ⟨rfl,rfl⟩) | ((first | refine call0D (BCall.ofP (inRange_ok _ _ _)) ?_ | refine qcall0D (BCall.ofP (inRange_ok _ _ _)) ⟨_,_,rfl,rfl⟩ ?_); rintro _ _ ⟨rfl,rfl⟩) | ((first | refine call0D (scB_ok _ _ _ _ ?_ ?_ ?_) ?_ | refine qcall0D (scB_ok _ _ _ _ ?_ ?_ ?_) ⟨_,_,rfl,rfl⟩ ?_); (iterate 3 (exact sd)); rintro _ _ ⟨rfl,rfl⟩) | ((first | refine call0D (sFill_ok _ _ _ _ _ _ _ _ ?_ ?_ ?_ ?_) ?_ | refine qcall0D (sFill_ok _ _ _ _ _ _ _ _ ?_ ?_ ?_ ?_) ⟨_,_,rfl,rfl⟩ ?_); (iterate 4 (exact sd)); rintro _ _ ⟨rfl,rfl⟩)) <;> (try simp (disch := omega) only [push_cast,seval,hv,hel,innL_EL]))
 | (refine awp_ret ⟨.inr rfl,[16000,16001],[(16000,1),(16001,5)],_,by decide,rfl,?_⟩; (try simp (disch := omega) only [push_cast,seval,↓allMem_nil,↓allMem_cons,↓List.map_cons,↓List.map_nil,hv,hel,innL_EL]))))
    all_goals simp [OBs,EL]
  | true =>
    obtain ⟨v1,v2,v3⟩ := vB_8 hv
    cases hr : opA es id with
    | false =>
      simp only [Bool.true_and,Bool.false_and,ifB_false]
      (repeat' (first
 | (first | refine awp_seq ?_ | refine awp_block ?_)
 | ((first | refine awp_reg ?_ | refine awp_drawX (mid := l15r4a) (post := l15r4b) [128,1000000039] mixed (by decide) ?_ | refine awp_condB ?_ | refine awp_skip ?_ | refine awp_exit ?_); simp (disch := omega) only [push_cast,seval,l15r0,l15r1,l15r2,l15r3,l15r4a,l15r4b,l15r4,l15r5,hv,hr,hel,innL_EL])
 | ((first | refine condB_split (fun h => ?_) (fun h => ?_) | refine gIf_split (fun h => ?_) (fun h => ?_) | refine qIf_split (fun h => ?_) (fun h => ?_)) <;> (try simp only [h]) <;> (try simp only [bitvec_to_nat] at h) <;> (try simp only [h]) <;> (first | (exfalso; omega) | (focus (exfalso; simp_all; done)) | (simp (disch := omega) only [push_cast,seval,hv,hr,hel,innL_EL]) | skip))
 | ((first | refine callD_of false ?_ | refine qcallD_of false ?_); simp (disch := omega) only [push_cast,seval,hv,hr,hel,innL_EL])
 | ((first | ((first | refine call0D (BCall.ofP (svB_ok _ _ _ _ ?_ ?_ ?_)) ?_ | refine qcall0D (BCall.ofP (svB_ok _ _ _ _ ?_ ?_ ?_)) ⟨_,_,rfl,rfl⟩ ?_); (iterate 3 (exact sd)); rintro _ _ ⟨rfl,rfl⟩) | ((first | refine call0D (BCall.ofP (siO_ok _ _ _ _ _ ?_ ?_ ?_)) ?_ | refine qcall0D (BCall.ofP (siO_ok _ _ _ _ _ ?_ ?_ ?_)) ⟨_,_,rfl,rfl⟩ ?_); (iterate 3 (exact sd)); rintro _ _ ⟨rfl,rfl⟩) | ((first | refine call0D (BCall.ofP (inRange_ok _ _ _)) ?_ | refine qcall0D (BCall.ofP (inRange_ok _ _ _)) ⟨_,_,rfl,rfl⟩ ?_); rintro _ _ ⟨rfl,rfl⟩) | ((first | refine call0D (scB_ok _ _ _ _ ?_ ?_ ?_) ?_ | refine qcall0D (scB_ok _ _ _ _ ?_ ?_ ?_) ⟨_,_,rfl,rfl⟩ ?_); (iterate 3 (exact sd)); rintro _ _ ⟨rfl,rfl⟩) | ((first | refine call0D (sFill_ok _ _ _ _ _ _ _ _ ?_ ?_ ?_ ?_) ?_ | refine qcall0D (sFill_ok _ _ _ _ _ _ _ _ ?_ ?_ ?_ ?_) ⟨_,_,rfl,rfl⟩ ?_); (iterate 4 (exact sd)); rintro _ _ ⟨rfl,rfl⟩)) <;> (try simp (disch := omega) only [push_cast,seval,hv,hr,hel,innL_EL]))
 | (refine awp_ret ⟨.inr rfl,[16000,16001],[(16000,1),(16001,5)],_,by decide,rfl,?_⟩; (try simp (disch := omega) only [push_cast,seval,↓allMem_nil,↓allMem_cons,↓List.map_cons,↓List.map_nil,hv,hr,hel,innL_EL]))))
      all_goals simp [OBs,EL]
    | true =>
      simp only [Bool.true_and]
      cases hx : (decide (0 ≤ v) && decide (v ≤ 255)) with
 | false =>
        simp only [ifB_false]
        (repeat' (first
 | (first | refine awp_seq ?_ | refine awp_block ?_)
 | ((first | refine awp_reg ?_ | refine awp_drawX (mid := l15r4a) (post := l15r4b) [128,1000000039] mixed (by decide) ?_ | refine awp_condB ?_ | refine awp_skip ?_ | refine awp_exit ?_); simp (disch := omega) only [push_cast,seval,l15r0,l15r1,l15r2,l15r3,l15r4a,l15r4b,l15r4,l15r5,hv,hr,hx,hel,innL_EL])
 | ((first | refine condB_split (fun h => ?_) (fun h => ?_) | refine gIf_split (fun h => ?_) (fun h => ?_) | refine qIf_split (fun h => ?_) (fun h => ?_)) <;> (try simp only [h]) <;> (try simp only [bitvec_to_nat] at h) <;> (try simp only [h]) <;> (first | (exfalso; omega) | (focus (exfalso; simp_all; done)) | (simp (disch := omega) only [push_cast,seval,hv,hr,hx,hel,innL_EL]) | skip))
 | ((first | refine callD_of false ?_ | refine qcallD_of false ?_); simp (disch := omega) only [push_cast,seval,hv,hr,hx,hel,innL_EL])
 | ((first | ((first | refine call0D (BCall.ofP (svB_ok _ _ _ _ ?_ ?_ ?_)) ?_ | refine qcall0D (BCall.ofP (svB_ok _ _ _ _ ?_ ?_ ?_)) ⟨_,_,rfl,rfl⟩ ?_); (iterate 3 (exact sd)); rintro _ _ ⟨rfl,rfl⟩) | ((first | refine call0D (BCall.ofP (siO_ok _ _ _ _ _ ?_ ?_ ?_)) ?_ | refine qcall0D (BCall.ofP (siO_ok _ _ _ _ _ ?_ ?_ ?_)) ⟨_,_,rfl,rfl⟩ ?_); (iterate 3 (exact sd)); rintro _ _ ⟨rfl,rfl⟩) | ((first | refine call0D (BCall.ofP (inRange_ok _ _ _)) ?_ | refine qcall0D (BCall.ofP (inRange_ok _ _ _)) ⟨_,_,rfl,rfl⟩ ?_); rintro _ _ ⟨rfl,rfl⟩) | ((first | refine call0D (scB_ok _ _ _ _ ?_ ?_ ?_) ?_ | refine qcall0D (scB_ok _ _ _ _ ?_ ?_ ?_) ⟨_,_,rfl,rfl⟩ ?_); (iterate 3 (exact sd)); rintro _ _ ⟨rfl,rfl⟩) | ((first | refine call0D (sFill_ok _ _ _ _ _ _ _ _ ?_ ?_ ?_ ?_) ?_ | refine qcall0D (sFill_ok _ _ _ _ _ _ _ _ ?_ ?_ ?_ ?_) ⟨_,_,rfl,rfl⟩ ?_); (iterate 4 (exact sd)); rintro _ _ ⟨rfl,rfl⟩)) <;> (try simp (disch := omega) only [push_cast,seval,hv,hr,hx,hel,innL_EL]))
 | (refine awp_ret ⟨.inr rfl,[16000,16001],[(16000,1),(16001,5)],_,by decide,rfl,?_⟩; (try simp (disch := omega) only [push_cast,seval,↓allMem_nil,↓allMem_cons,↓List.map_cons,↓List.map_nil,hv,hr,hx,hel,innL_EL]))))
        all_goals simp [OBs,EL]
 | true =>
        obtain ⟨q,p,b,x,y,rfl,hq,he,hvw⟩ := opA_at hr
        have hs := vB_see hv he
        have hbb := exB_get hb3 he
        have hd := EL_drop false es q he
        simp only at hd
        have hil : q * 5 + 5 ≤ es.length * 5 := by omega
        have h3 : ((EL false es).drop (q * 5 + 1)).take 3 = [.int .i64 b,.rows false (IL x) x.length,.rows false (IL y) y.length] := by
          have := congrArg (fun l => (l.drop 1).take 3) hd
          simpa [List.drop_take,List.drop_drop,List.take_take] using this
        have hfb : filB cs b x y v = true := by unfold filB; rw [hs,hx]; rfl
        have hlen := filL_length cs b x y v
        unfold xfC
        simp only [ifB_true,hvw]
        generalize hZ : filL cs b x y v = Z at *
        (repeat' (first
 | (first | refine awp_seq ?_ | refine awp_block ?_)
 | ((first | refine awp_reg ?_ | refine awp_drawX (mid := l15r4a) (post := l15r4b) [128,1000000039] mixed (by decide) ?_ | refine awp_condB ?_ | refine awp_skip ?_ | refine awp_exit ?_); simp (disch := omega) only [push_cast,seval,l15r0,l15r1,l15r2,l15r3,l15r4a,l15r4b,l15r4,l15r5,hv,hr,hx,h3,hfb,hZ,hil,hel,innL_EL,MVL_true])
 | ((first | refine condB_split (fun h => ?_) (fun h => ?_) | refine gIf_split (fun h => ?_) (fun h => ?_) | refine qIf_split (fun h => ?_) (fun h => ?_)) <;> (try simp only [h]) <;> (try simp only [bitvec_to_nat] at h) <;> (try simp only [h]) <;> (first | (exfalso; omega) | (focus (exfalso; simp_all; done)) | (simp (disch := omega) only [push_cast,seval,hv,hr,hx,h3,hfb,hZ,hil,hel,innL_EL,MVL_true]) | skip))
 | ((first | refine callD_of false ?_ | refine qcallD_of false ?_); simp (disch := omega) only [push_cast,seval,hv,hr,hx,h3,hfb,hZ,hil,hel,innL_EL,MVL_true])
 | ((first | ((first | refine call0D (BCall.ofP (svB_ok _ _ _ _ ?_ ?_ ?_)) ?_ | refine qcall0D (BCall.ofP (svB_ok _ _ _ _ ?_ ?_ ?_)) ⟨_,_,rfl,rfl⟩ ?_); (iterate 3 (exact sd)); rintro _ _ ⟨rfl,rfl⟩) | ((first | refine call0D (BCall.ofP (siO_ok _ _ _ _ _ ?_ ?_ ?_)) ?_ | refine qcall0D (BCall.ofP (siO_ok _ _ _ _ _ ?_ ?_ ?_)) ⟨_,_,rfl,rfl⟩ ?_); (iterate 3 (exact sd)); rintro _ _ ⟨rfl,rfl⟩) | ((first | refine call0D (BCall.ofP (inRange_ok _ _ _)) ?_ | refine qcall0D (BCall.ofP (inRange_ok _ _ _)) ⟨_,_,rfl,rfl⟩ ?_); rintro _ _ ⟨rfl,rfl⟩) | ((first | refine call0D (scB_ok _ _ _ _ ?_ ?_ ?_) ?_ | refine qcall0D (scB_ok _ _ _ _ ?_ ?_ ?_) ⟨_,_,rfl,rfl⟩ ?_); (iterate 3 (exact sd)); rintro _ _ ⟨rfl,rfl⟩) | ((first | refine call0D (sFill_ok _ _ _ _ _ _ _ _ ?_ ?_ ?_ ?_) ?_ | refine qcall0D (sFill_ok _ _ _ _ _ _ _ _ ?_ ?_ ?_ ?_) ⟨_,_,rfl,rfl⟩ ?_); (iterate 4 (exact sd)); rintro _ _ ⟨rfl,rfl⟩)) <;> (try simp (disch := omega) only [push_cast,seval,hv,hr,hx,h3,hfb,hZ,hil,hel,innL_EL,MVL_true]))
 | (refine awp_ret ⟨.inr rfl,[576,401],[],_,by decide,rfl,?_⟩; (try simp (disch := omega) only [push_cast,seval,↓allMem_nil,↓allMem_cons,↓List.map_cons,↓List.map_nil,hv,hr,hx,h3,hfb,hZ,hil,hel,innL_EL,MVL_true]))))
        all_goals simp [OBs]


theorem iWithNo_ok (cs : List Int) (es : List Ex) (m n : Nat) (hm : cs.length = m) (hn : es.length = n) :
    BCall Tryd.prog 48 [.agg [.rows false (IL cs) m,.rows false (EL false es) n],.rows false [] 0,.bool false] [] (OBs false [] []) := by
  subst hm hn
  have hel := EL_length false es
  refine bcall_of (pins := []) (pin := 0) l48_eq rfl rfl rfl ?_
  (repeat' (first
 | (first | refine awp_seq ?_ | refine awp_block ?_)
 | ((first | refine awp_reg ?_ | refine awp_condB ?_ | refine awp_skip ?_ | refine awp_exit ?_); simp (disch := omega) only [push_cast,seval,l48r0,l48r1,l48r2,l48r3,l48r4,l48r5,hel,innL_EL])
 | ((first | refine condB_split (fun h => ?_) (fun h => ?_) | refine gIf_split (fun h => ?_) (fun h => ?_) | refine qIf_split (fun h => ?_) (fun h => ?_)) <;> (try simp only [h]) <;> (try simp only [bitvec_to_nat] at h) <;> (try simp only [h]) <;> (first | (exfalso; omega) | (focus (exfalso; simp_all; done)) | (simp (disch := omega) only [push_cast,seval,hel,innL_EL]) | skip))
 | ((first | ((with_reducible refine callD_of (f := 39) false ?_); simp (disch := omega) only [push_cast,seval,hel,innL_EL]; (refine callFNB (bclone_ok _ _ _ _ ?_ ?_ ?_) (by (simp (disch := omega) only [push_cast,seval,hel,innL_EL]); done) ?_; (iterate 3 (exact sd))))) <;> (try simp (disch := omega) only [push_cast,seval,hel,innL_EL]))
 | (refine awp_ret ⟨.inr rfl,[16000,16001],[(16000,1),(16001,5)],_,by decide,rfl,?_⟩; (try simp (disch := omega) only [push_cast,seval,↓allMem_nil,↓allMem_cons,↓List.map_cons,↓List.map_nil,hel,innL_EL]))))
  all_goals simp [OBs,EL]


theorem iFillP_ok (mem : List Int) (b : Int) (sh st : List Int) (x : Int) (q n m : Nat) (hq : mem.length = q) (hn : sh.length = n) (hm : st.length = m) (hb : q ≤ 1099511627776 ∧ n ≤ 1099511627776 ∧ m ≤ 1099511627776) : PCall Tryd.prog 49 [.rows false (IL mem) q,.agg [.int .i64 b,.rows false (IL sh) n,.rows false (IL st) m],.int .i64 x] (fun r => r = .tup [.rows true (IL (MVL (filB mem b sh st x) (filL mem b sh st x))) (MVL (filB mem b sh st x) (filL mem b sh st x)).length,.bool (filB mem b sh st x)]) := by
  refine (BCall.plain (iFill_ok mem b sh st x q n m hq hn hm hb)).mono ?_
  rintro r ⟨r0,H',⟨rfl,rfl⟩,rfl⟩
  simp [AV.ren,nthH,ren_IL]


set_option maxHeartbeats 8000000 in
theorem iFEno_ok (cs : List Int) (es : List Ex) (m n : Nat) (id v : Int) (hm : cs.length = m) (hn : es.length = n) (hb : m ≤ 1048576 ∧ n ≤ 1048576 ∧ exB 1048576 es) (hg : xfG cs es id v = false) :
    BCall Tryd.prog 16 [.agg [.rows false (IL cs) m,.rows false (EL false es) n],.int .i64 id,.int .i64 v] [] (OBf false [] []) := by
  subst hm hn
  have hb0 := hb
  obtain ⟨hb1,hb2,hb3⟩ := hb
  have hq8 : cs.length ≤ 1099511627776 ∧ es.length ≤ 1099511627776 ∧ exB 1099511627776 es := ⟨by omega,by omega,fun e he => by have := hb3 e he; omega⟩
  have hel := EL_length false es
  refine bcall_of (pins := []) (pin := 0) l16_eq rfl rfl rfl ?_
  unfold xfG at hg
  cases hc : (vB cs es && opA es id) with
  | false =>
    (repeat' (first
 | (first | refine awp_seq ?_ | refine awp_block ?_)
 | ((first | refine awp_reg ?_ | refine awp_draw (mid := l16r3a) (post := l16r3b) mixed (by decide) ?_ | refine awp_condB ?_ | refine awp_skip ?_ | refine awp_exit ?_); simp (disch := omega) only [push_cast,seval,l16r0,l16r1,l16r2,l16r3a,l16r3b,l16r3,hc,hel,innL_EL])
 | ((first | refine condB_split (fun h => ?_) (fun h => ?_) | refine gIf_split (fun h => ?_) (fun h => ?_) | refine qIf_split (fun h => ?_) (fun h => ?_)) <;> (try simp only [h]) <;> (try simp only [bitvec_to_nat] at h) <;> (try simp only [h]) <;> (first | (exfalso; omega) | (focus (exfalso; simp_all; done)) | (simp (disch := omega) only [push_cast,seval,hc,hel,innL_EL]) | skip))
 | ((first | ((with_reducible refine callE_of (f := 48) ?_); simp (disch := omega) only [push_cast,seval,hc,hel,innL_EL]; (refine callFNH (by intro _ _; first | rfl | ((simp (disch := omega) only [push_cast,seval,hc,hel,innL_EL]); done) | ((simp (disch := omega) only [push_cast,seval,hc,hel,innL_EL]); rfl)) (iWith_ok _ _ _ _ _ _ ?_ ?_ ?_ ?_) rfl (by first | ((simp (disch := omega) only [push_cast,seval,hc,hel,innL_EL]); done) | ((simp (disch := omega) only [push_cast,seval,hc,hel,innL_EL]); rfl)) (by (simp (disch := omega) only [push_cast,seval,hc,hel,innL_EL]); done) (by omega) ?_; (iterate 4 (exact sd))))) <;> (try simp (disch := omega) only [push_cast,seval,hc,hel,innL_EL]))
 | ((first | refine callD_of false ?_ | refine qcallD_of false ?_); simp (disch := omega) only [push_cast,seval,hc,hel,innL_EL])
 | ((first | ((first | refine call0D (BCall.ofP (ihO_ok _ _ _ _ _ ?_ ?_ ?_)) ?_ | refine qcall0D (BCall.ofP (ihO_ok _ _ _ _ _ ?_ ?_ ?_)) ⟨_,_,rfl,rfl⟩ ?_); (iterate 3 (exact sd)); rintro _ _ ⟨rfl,rfl⟩) | ((first | refine call0D (BCall.ofP (iFillP_ok _ _ _ _ _ _ _ _ ?_ ?_ ?_ ?_)) ?_ | refine qcall0D (BCall.ofP (iFillP_ok _ _ _ _ _ _ _ _ ?_ ?_ ?_ ?_)) ⟨_,_,rfl,rfl⟩ ?_); (iterate 4 (exact sd)); rintro _ _ ⟨rfl,rfl⟩) | ((first | refine call0D (iWithNo_ok _ _ _ _ ?_ ?_) ?_ | refine qcall0D (iWithNo_ok _ _ _ _ ?_ ?_) ⟨_,_,rfl,rfl⟩ ?_); (iterate 2 (exact sd)); rintro _ _ ⟨rfl,rfl⟩)) <;> (try simp (disch := omega) only [push_cast,seval,hc,hel,innL_EL]))
 | (refine awp_ret ⟨.inr rfl,[16000,16001],[(16000,1),(16001,5)],_,by decide,rfl,?_⟩; (try simp (disch := omega) only [push_cast,seval,↓allMem_nil,↓allMem_cons,↓List.map_cons,↓List.map_nil,hc,hel,innL_EL]))))
    all_goals simp [OBf,mkE_nil]
  | true =>
    rw [hc,Bool.true_and] at hg
    have hc2 := hc
    rw [Bool.and_eq_true] at hc2
    obtain ⟨hv,hr⟩ := hc2
    obtain ⟨v1,v2,v3⟩ := vB_8 hv
    obtain ⟨q,p,b,x,y,rfl,hq,he,hvw⟩ := opA_at hr
    have hs := vB_see hv he
    have hbb := exB_get hb3 he
    have hd := EL_drop false es q he
    simp only at hd
    have hil : q * 5 + 5 ≤ es.length * 5 := by omega
    have h3 : ((EL false es).drop (q * 5 + 1)).take 3 = [.int .i64 b,.rows false (IL x) x.length,.rows false (IL y) y.length] := by
      have := congrArg (fun l => (l.drop 1).take 3) hd
      simpa [List.drop_take,List.drop_drop,List.take_take] using this
    have hfb : filB cs b x y v = false := by unfold filB; rw [hs,hg]; rfl
    (repeat' (first
 | (first | refine awp_seq ?_ | refine awp_block ?_)
 | ((first | refine awp_reg ?_ | refine awp_draw (mid := l16r3a) (post := l16r3b) mixed (by decide) ?_ | refine awp_condB ?_ | refine awp_skip ?_ | refine awp_exit ?_); simp (disch := omega) only [push_cast,seval,l16r0,l16r1,l16r2,l16r3a,l16r3b,l16r3,hc,h3,hfb,hil,hel,innL_EL,MVL_false,IL,List.map_nil,List.length_nil])
 | ((first | refine condB_split (fun h => ?_) (fun h => ?_) | refine gIf_split (fun h => ?_) (fun h => ?_) | refine qIf_split (fun h => ?_) (fun h => ?_)) <;> (try simp only [h]) <;> (try simp only [bitvec_to_nat] at h) <;> (try simp only [h]) <;> (first | (exfalso; omega) | (focus (exfalso; simp_all; done)) | (simp (disch := omega) only [push_cast,seval,hc,h3,hfb,hil,hel,innL_EL,MVL_false,IL,List.map_nil,List.length_nil]) | skip))
 | ((first | ((with_reducible refine callE_of (f := 48) ?_); simp (disch := omega) only [push_cast,seval,hc,h3,hfb,hil,hel,innL_EL,MVL_false,IL,List.map_nil,List.length_nil]; (refine callFNH (by intro _ _; first | rfl | ((simp (disch := omega) only [push_cast,seval,hc,h3,hfb,hil,hel,innL_EL,MVL_false,IL,List.map_nil,List.length_nil]); done) | ((simp (disch := omega) only [push_cast,seval,hc,h3,hfb,hil,hel,innL_EL,MVL_false,IL,List.map_nil,List.length_nil]); rfl)) (iWith_ok _ _ _ _ _ _ ?_ ?_ ?_ ?_) rfl (by first | ((simp (disch := omega) only [push_cast,seval,hc,h3,hfb,hil,hel,innL_EL,MVL_false,IL,List.map_nil,List.length_nil]); done) | ((simp (disch := omega) only [push_cast,seval,hc,h3,hfb,hil,hel,innL_EL,MVL_false,IL,List.map_nil,List.length_nil]); rfl)) (by (simp (disch := omega) only [push_cast,seval,hc,h3,hfb,hil,hel,innL_EL,MVL_false,IL,List.map_nil,List.length_nil]); done) (by omega) ?_; (iterate 4 (exact sd))))) <;> (try simp (disch := omega) only [push_cast,seval,hc,h3,hfb,hil,hel,innL_EL,MVL_false,IL,List.map_nil,List.length_nil]))
 | ((first | refine callD_of false ?_ | refine qcallD_of false ?_); simp (disch := omega) only [push_cast,seval,hc,h3,hfb,hil,hel,innL_EL,MVL_false,IL,List.map_nil,List.length_nil])
 | ((first | ((first | refine call0D (BCall.ofP (ihO_ok _ _ _ _ _ ?_ ?_ ?_)) ?_ | refine qcall0D (BCall.ofP (ihO_ok _ _ _ _ _ ?_ ?_ ?_)) ⟨_,_,rfl,rfl⟩ ?_); (iterate 3 (exact sd)); rintro _ _ ⟨rfl,rfl⟩) | ((first | refine call0D (BCall.ofP (iFillP_ok _ _ _ _ _ _ _ _ ?_ ?_ ?_ ?_)) ?_ | refine qcall0D (BCall.ofP (iFillP_ok _ _ _ _ _ _ _ _ ?_ ?_ ?_ ?_)) ⟨_,_,rfl,rfl⟩ ?_); (iterate 4 (exact sd)); rintro _ _ ⟨rfl,rfl⟩) | ((first | refine call0D (iWithNo_ok _ _ _ _ ?_ ?_) ?_ | refine qcall0D (iWithNo_ok _ _ _ _ ?_ ?_) ⟨_,_,rfl,rfl⟩ ?_); (iterate 2 (exact sd)); rintro _ _ ⟨rfl,rfl⟩)) <;> (try simp (disch := omega) only [push_cast,seval,hc,h3,hfb,hil,hel,innL_EL,MVL_false,IL,List.map_nil,List.length_nil]))
 | (refine awp_ret ⟨.inr rfl,[416,417],[],_,by decide,rfl,?_⟩; (try simp (disch := omega) only [push_cast,seval,↓allMem_nil,↓allMem_cons,↓List.map_cons,↓List.map_nil,hc,h3,hfb,hil,hel,innL_EL,MVL_false,IL,List.map_nil,List.length_nil]))))
    all_goals simp [OBf,mkE_nil,EL]




set_option maxHeartbeats 8000000 in
theorem iFE_ok (cs : List Int) (es : List Ex) (m n : Nat) (id v : Int) (hm : cs.length = m) (hn : es.length = n) (hb : m ≤ 1048576 ∧ n ≤ 1048576 ∧ exB 1048576 es) :
    BCall Tryd.prog 16 [.agg [.rows false (IL cs) m,.rows false (EL false es) n],.int .i64 id,.int .i64 v] [] (OBf (xfG cs es id v) (ifB (xfG cs es id v) (xfC cs es id v)) (ifB (xfG cs es id v) es)) := by
  subst hm hn
  have hb0 := hb
  obtain ⟨hb1,hb2,hb3⟩ := hb
  have hq8 : cs.length ≤ 1099511627776 ∧ es.length ≤ 1099511627776 ∧ exB 1099511627776 es := ⟨by omega,by omega,fun e he => by have := hb3 e he; omega⟩
  have hel := EL_length false es
  cases hg : xfG cs es id v with
  | false =>
    exact iFEno_ok cs es _ _ id v rfl rfl hb0 hg
  | true =>
    refine bcall_of (pins := []) (pin := 0) l16_eq rfl rfl rfl ?_
    have hg2 := hg
    unfold xfG at hg2
    rw [Bool.and_eq_true] at hg2
    obtain ⟨hc,hx⟩ := hg2
    have hc2 := hc
    rw [Bool.and_eq_true] at hc2
    obtain ⟨hv,hr⟩ := hc2
    obtain ⟨v1,v2,v3⟩ := vB_8 hv
    obtain ⟨q,p,b,x,y,rfl,hq,he,hvw⟩ := opA_at hr
    have hs := vB_see hv he
    have hbb := exB_get hb3 he
    have hd := EL_drop false es q he
    simp only at hd
    have hil : q * 5 + 5 ≤ es.length * 5 := by omega
    have h3 : ((EL false es).drop (q * 5 + 1)).take 3 = [.int .i64 b,.rows false (IL x) x.length,.rows false (IL y) y.length] := by
      have := congrArg (fun l => (l.drop 1).take 3) hd
      simpa [List.drop_take,List.drop_drop,List.take_take] using this
    have hlen := filL_length cs b x y v
    have hfb : filB cs b x y v = true := by unfold filB; rw [hs,hx]; rfl
    unfold xfC
    simp only [ifB_true,hvw]
    generalize hZ : filL cs b x y v = Z at *
    (repeat' (first
 | (first | refine awp_seq ?_ | refine awp_block ?_)
 | ((first | refine awp_reg ?_ | refine awp_condB ?_ | refine awp_skip ?_ | refine awp_exit ?_); simp (disch := omega) only [push_cast,seval,l16r0,l16r1,l16r2,l16r3a,l16r3b,l16r3,hc,h3,hfb,hZ,hil,hel,innL_EL,MVL_true])
 | ((first | refine condB_split (fun h => ?_) (fun h => ?_) | refine gIf_split (fun h => ?_) (fun h => ?_) | refine qIf_split (fun h => ?_) (fun h => ?_)) <;> (try simp only [h]) <;> (try simp only [bitvec_to_nat] at h) <;> (try simp only [h]) <;> (first | (exfalso; omega) | (focus (exfalso; simp_all; done)) | (simp (disch := omega) only [push_cast,seval,hc,h3,hfb,hZ,hil,hel,innL_EL,MVL_true]) | skip))
 | ((first | ((with_reducible refine callE_of (f := 48) ?_); simp (disch := omega) only [push_cast,seval,hc,h3,hfb,hZ,hil,hel,innL_EL,MVL_true]; (refine callFNH (by intro _ _; first | rfl | ((simp (disch := omega) only [push_cast,seval,hc,h3,hfb,hZ,hil,hel,innL_EL,MVL_true]); done) | ((simp (disch := omega) only [push_cast,seval,hc,h3,hfb,hZ,hil,hel,innL_EL,MVL_true]); rfl)) (iWith_ok _ _ _ _ _ _ ?_ ?_ ?_ ?_) rfl (by first | ((simp (disch := omega) only [push_cast,seval,hc,h3,hfb,hZ,hil,hel,innL_EL,MVL_true]); done) | ((simp (disch := omega) only [push_cast,seval,hc,h3,hfb,hZ,hil,hel,innL_EL,MVL_true]); rfl)) (by (simp (disch := omega) only [push_cast,seval,hc,h3,hfb,hZ,hil,hel,innL_EL,MVL_true]); done) (by omega) ?_; (iterate 4 (exact sd))))) <;> (try simp (disch := omega) only [push_cast,seval,hc,h3,hfb,hZ,hil,hel,innL_EL,MVL_true]))
 | ((first | refine callD_of false ?_ | refine qcallD_of false ?_); simp (disch := omega) only [push_cast,seval,hc,h3,hfb,hZ,hil,hel,innL_EL,MVL_true])
 | ((first | ((first | refine call0D (BCall.ofP (ihO_ok _ _ _ _ _ ?_ ?_ ?_)) ?_ | refine qcall0D (BCall.ofP (ihO_ok _ _ _ _ _ ?_ ?_ ?_)) ⟨_,_,rfl,rfl⟩ ?_); (iterate 3 (exact sd)); rintro _ _ ⟨rfl,rfl⟩) | ((first | refine call0D (iFill_ok _ _ _ _ _ _ _ _ ?_ ?_ ?_ ?_) ?_ | refine qcall0D (iFill_ok _ _ _ _ _ _ _ _ ?_ ?_ ?_ ?_) ⟨_,_,rfl,rfl⟩ ?_); (iterate 4 (exact sd)); rintro _ _ ⟨rfl,rfl⟩) | ((first | refine call0D (iWithNo_ok _ _ _ _ ?_ ?_) ?_ | refine qcall0D (iWithNo_ok _ _ _ _ ?_ ?_) ⟨_,_,rfl,rfl⟩ ?_); (iterate 2 (exact sd)); rintro _ _ ⟨rfl,rfl⟩)) <;> (try simp (disch := omega) only [push_cast,seval,hc,h3,hfb,hZ,hil,hel,innL_EL,MVL_true]))))
    refine awp_drawQ (a := l16r3a.take 13) (nth l16r3a 13) (b := l16r3a.drop 14) (post := l16r3b) _ [] rfl mixed (by decide) (fun _ _ h => h) (fun _ h => by cases h) ?_
    simp (disch := omega) only [push_cast,seval,l16r0,l16r1,l16r2,l16r3a,l16r3b,l16r3,List.take_succ_cons,List.take_zero,List.drop_succ_cons,List.drop_zero,nth]
    (repeat' (first
 | (first | refine awp_seq ?_ | refine awp_block ?_)
 | ((first | refine awp_reg ?_ | refine awp_condB ?_ | refine awp_skip ?_ | refine awp_exit ?_); simp (disch := omega) only [push_cast,seval,l16r0,l16r1,l16r2,l16r3a,l16r3b,l16r3,hc,h3,hfb,hZ,hil,hel,innL_EL,MVL_true])
 | ((first | refine condB_split (fun h => ?_) (fun h => ?_) | refine gIf_split (fun h => ?_) (fun h => ?_) | refine qIf_split (fun h => ?_) (fun h => ?_)) <;> (try simp only [h]) <;> (try simp only [bitvec_to_nat] at h) <;> (try simp only [h]) <;> (first | (exfalso; omega) | (focus (exfalso; simp_all; done)) | (simp (disch := omega) only [push_cast,seval,hc,h3,hfb,hZ,hil,hel,innL_EL,MVL_true]) | skip))
 | ((first | ((with_reducible refine callE_of (f := 48) ?_); simp (disch := omega) only [push_cast,seval,hc,h3,hfb,hZ,hil,hel,innL_EL,MVL_true]; (refine callFNH (by intro _ _; first | rfl | ((simp (disch := omega) only [push_cast,seval,hc,h3,hfb,hZ,hil,hel,innL_EL,MVL_true]); done) | ((simp (disch := omega) only [push_cast,seval,hc,h3,hfb,hZ,hil,hel,innL_EL,MVL_true]); rfl)) (iWith_ok _ _ _ _ _ _ ?_ ?_ ?_ ?_) rfl (by first | ((simp (disch := omega) only [push_cast,seval,hc,h3,hfb,hZ,hil,hel,innL_EL,MVL_true]); done) | ((simp (disch := omega) only [push_cast,seval,hc,h3,hfb,hZ,hil,hel,innL_EL,MVL_true]); rfl)) (by (simp (disch := omega) only [push_cast,seval,hc,h3,hfb,hZ,hil,hel,innL_EL,MVL_true]); done) (by omega) ?_; (iterate 4 (exact sd))))) <;> (try simp (disch := omega) only [push_cast,seval,hc,h3,hfb,hZ,hil,hel,innL_EL,MVL_true]))
 | ((first | refine callD_of false ?_ | refine qcallD_of false ?_); simp (disch := omega) only [push_cast,seval,hc,h3,hfb,hZ,hil,hel,innL_EL,MVL_true])
 | ((first | ((first | refine call0D (BCall.ofP (ihO_ok _ _ _ _ _ ?_ ?_ ?_)) ?_ | refine qcall0D (BCall.ofP (ihO_ok _ _ _ _ _ ?_ ?_ ?_)) ⟨_,_,rfl,rfl⟩ ?_); (iterate 3 (exact sd)); rintro _ _ ⟨rfl,rfl⟩) | ((first | refine call0D (iFill_ok _ _ _ _ _ _ _ _ ?_ ?_ ?_ ?_) ?_ | refine qcall0D (iFill_ok _ _ _ _ _ _ _ _ ?_ ?_ ?_ ?_) ⟨_,_,rfl,rfl⟩ ?_); (iterate 4 (exact sd)); rintro _ _ ⟨rfl,rfl⟩) | ((first | refine call0D (iWithNo_ok _ _ _ _ ?_ ?_) ?_ | refine qcall0D (iWithNo_ok _ _ _ _ ?_ ?_) ⟨_,_,rfl,rfl⟩ ?_); (iterate 2 (exact sd)); rintro _ _ ⟨rfl,rfl⟩)) <;> (try simp (disch := omega) only [push_cast,seval,hc,h3,hfb,hZ,hil,hel,innL_EL,MVL_true]))))
    refine ⟨Sees_of fun p hp => ?_,awp_ret ⟨.inr rfl,ret_famW (id0 := 368) (id1 := 416) (d := 26) (F := esF es) (cs := Z) (bufT Z.length es.length true) rfl rfl (fun _ _ _ _ e0 e1 => ren_bufT e0 e1) rfl rfl (fun j hj => ?_) (by omega)⟩⟩
    · simp only [List.mem_cons,List.not_mem_nil,or_false] at hp
      rcases hp with rfl | rfl
      · show hk (_ :: _ :: (famD 26 (esF es) ++ _)) 96 = _
        simp only [hk,if_false]
        rw [hk_famD_low _ _ _ 96 (by omega)]
        rfl
      · show hk (_ :: _ :: (famD 26 (esF es) ++ _)) 48 = _
        simp only [hk,if_false]
        rw [hk_famD_low _ _ _ 48 (by omega)]
        rfl
    · simp only [hk,fim_ne _ _ 96 (by omega),fim_ne _ _ 368 (by omega),fim_ne _ _ 416 (by omega),if_false]
      exact hk_famD_same 26 (esF es) _ j hj

end Go.Proofs.YtahdlohpncjdbaaDoor
