import Derived.Test.YtahdlohpncjdbaaDoorCKh9
import Derived.Test.YtahdlohpncjdbaaDoorCM1
import Derived.Test.YtahdlohpncjdbaaDoorCW3
set_option linter.unusedSimpArgs false
set_option linter.unusedVariables false
set_option maxRecDepth 4000
set_option maxHeartbeats 4000000
namespace Go.Proofs.YtahdlohpncjdbaaDoor
open VwM Vw Go
set_option linter.unusedSectionVars false
variable [SentA]

def kidB (cs : List Int) (es : List Ex) (id : Int) : Bool := vB cs es && (decide (-1 ≤ id) && decide (id ≤ (es.length : Int) - 1))
def kidsA (cs : List Int) (es : List Ex) (id : Int) : List Int := if kidB cs es id = true then kidsT es id es.length else []
def opensT (es : List Ex) : Nat → List Int
  | 0 => []
  | k + 1 => match es[k]? with
    | some e => if e.2.2 = true then opensT es k ++ [(k : Int)] else opensT es k
    | none => opensT es k
def opensA (cs : List Int) (es : List Ex) : List Int := if vB cs es = true then opensT es es.length else []
theorem vB_8 {cs : List Int} {es : List Ex} (h : vB cs es = true) : es.length ≤ 8 ∧ cs.length ≤ 60 ∧ parOk es := by
  unfold vB at h
  simp only [Bool.and_eq_true,decide_eq_true_eq] at h
  obtain ⟨⟨h1,h2⟩,h3⟩ := h
  refine ⟨h2,by unfold vMem at h1; simp at h1; omega,fun i e he => ?_⟩
  have hi : i < es.length := (List.getElem?_eq_some_iff.1 he).1
  have := (allX_iff (f := sxV cs.length es)).1 h3 i e hi he
  unfold sxV exV at this
  simp only [Bool.and_eq_true,decide_eq_true_eq] at this
  omega




set_option maxHeartbeats 8000000 in
theorem toBufferF_ok (cs : List Int) (es : List Ex) (m n : Nat) (hm : cs.length = m) (hn : es.length = n) (hb : m ≤ 1048576 ∧ n ≤ 1048576 ∧ exB 1048576 es) : BCall Tryd.prog 10 [.agg [.rows false (IL cs) m,.rows false (EL false es) n]] [] (fun r H' => r = .agg [.own 0 m 1,.own 1 n 5] ∧ H' = IL cs :: (esF es).cellsG (· + 2) :: (esF es).conts) := by
  subst hm hn
  obtain ⟨hb1,hb2,hb3⟩ := hb
  have hq : es.length ≤ 1048576 ∧ exB 1099511627776 es := ⟨hb2,fun e he => by have := hb3 e he; omega⟩
  refine bcall_of (pins := []) (pin := 0) l10_eq rfl rfl rfl ?_
  have hel := EL_length false es
  (repeat' (first
 | (first | refine awp_seq ?_ | refine awp_block ?_)
 | ((first | refine awp_reg ?_ | refine awp_condB ?_ | refine awp_skip ?_ | refine awp_exit ?_); simp (disch := omega) only [push_cast,seval,l10r0,l10r1,l10r2,l10r3,l10r4,innL_EL,hel])
 | ((first | refine condB_split (fun h => ?_) (fun h => ?_) | refine gIf_split (fun h => ?_) (fun h => ?_) | refine qIf_split (fun h => ?_) (fun h => ?_)) <;> (try simp only [h]) <;> (try simp only [bitvec_to_nat] at h) <;> (try simp only [h]) <;> (first | (exfalso; omega) | (focus (exfalso; simp_all; done)) | (simp (disch := omega) only [push_cast,seval,innL_EL,hel]) | skip))
 | ((first | ((with_reducible refine callD_of (f := 34) false ?_); simp (disch := omega) only [push_cast,seval,innL_EL,hel]; (refine callFN (toExportSF_ok _ _ ?_ ?_) (by (simp (disch := omega) only [push_cast,seval,innL_EL,hel]); done) ?_; (iterate 2 (exact sd))))) <;> (try simp (disch := omega) only [push_cast,seval,innL_EL,hel]))
 | ((first | refine callD_of false ?_ | refine qcallD_of false ?_); simp (disch := omega) only [push_cast,seval,innL_EL,hel])
 | ((first | ((first | refine call0D (toIntS_ok _ _ ?_ ?_) ?_ | refine qcall0D (toIntS_ok _ _ ?_ ?_) ⟨_,_,rfl,rfl⟩ ?_); (iterate 2 (exact sd)); rintro _ _ ⟨rfl,rfl⟩)) <;> (try simp (disch := omega) only [push_cast,seval,innL_EL,hel]))))
  refine awp_ret ⟨.inr rfl,ret_famB (id0 := 96) (id1 := 160) (d := 10) (F := esF es) (cs := cs) rfl ?_ ?_ ?_ (by omega)⟩
  · simp only [hk,if_false,hk_famD_low _ _ _ 96 (by omega)]
    rfl
  · rfl
  · intro j hj
    simp only [hk,fim_ne 10 j 32 (by omega),fim_ne 10 j 48 (by omega),fim_ne 10 j 160 (by omega),if_false]
    exact hk_famD_same _ _ _ _ hj




set_option maxHeartbeats 8000000 in
theorem skids_ok (cs : List Int) (es : List Ex) (m n : Nat) (id : Int) (hm : cs.length = m) (hn : es.length = n) (hb : m ≤ 1000 ∧ n ≤ 1000) :
    BCall Tryd.prog 31 [.agg [.rows false (IL cs) m,.rows false (EL false es) n],.int .i64 id] [] (OI (kidsT es id n)) := by
  subst hm hn
  obtain ⟨hb1,hb2⟩ := hb
  refine bcall_of (pins := []) (pin := 0) l31_eq rfl rfl rfl ?_
  have hel := EL_length false es
  (repeat' (first
 | (first | refine awp_seq ?_ | refine awp_block ?_)
 | ((first | refine awp_reg ?_ | refine awp_condB ?_ | refine awp_skip ?_ | refine awp_exit ?_); simp (disch := omega) only [push_cast,seval,l31r0,l31r1,l31r2,l31r3,l31r4,l31r5,l31r6,l31r7,innL_EL])
 | ((first | refine condB_split (fun h => ?_) (fun h => ?_) | refine gIf_split (fun h => ?_) (fun h => ?_) | refine qIf_split (fun h => ?_) (fun h => ?_)) <;> (try simp only [h]) <;> (try simp only [bitvec_to_nat] at h) <;> (try simp only [h]) <;> (first | (exfalso; omega) | (focus (exfalso; simp_all; done)) | (simp (disch := omega) only [push_cast,seval,innL_EL]) | skip))
 | (refine awp_ret ⟨.inr rfl,[112],[],_,by decide,rfl,?_⟩; (try simp (disch := omega) only [push_cast,seval,↓allMem_nil,↓allMem_cons,↓List.map_cons,↓List.map_nil,innL_EL]))))
  refine awp_loop (fun i : Nat => mkS [(1,.int .i64 id),(2,.ref 32 2 0),(5,.own 112 (kidsT es id i).length 1),(6,.int .i64 i)] [(32,[.rows false (IL cs) cs.length,.rows false (EL false es) es.length]),(112,IL (kidsT es id i))]) (fun i => i ≤ es.length) (fun i => es.length - i) 0 (Nat.zero_le _) ?_ ?_
  · have e0 : kidsT es id 0 = [] := rfl
    (refine Sub.of_lists ?_ ?_ ?_ ?_ ?_ <;> simp [Vw.mkS,Vw.lk,Vw.hk,AV.inn,innL,innL_ints,innL_append,innL_rep,-List.map_set,-List.getD_eq_getElem?_getD,innL_EL,e0])
  · intro i hi
    by_cases hlt : i < es.length
    · obtain ⟨p,b,x,y,o,he⟩ := mem_ltH hlt
      have hd := EL_drop false es i he
      simp only at hd
      have hd0 : ((EL false es).drop (i * 5)).take 1 = [.int .i64 p] := by have := congrArg (fun l => l.take 1) hd; simpa [List.take_take] using this
      have hd4 : ((EL false es).drop (i * 5 + 4)).take 1 = [.bool o] := by have := congrArg (fun l => (l.drop 4).take 1) hd; simpa [List.drop_take,List.take_take] using this
      have hil : i * 5 + 5 ≤ es.length * 5 := by omega
      have hkl := kidsT_len es id i
      cases o with
 | false =>
        have e1 := kidsT_no (p := id) he (by simp)
        (repeat' (first
 | (first | refine awp_seq ?_ | refine awp_block ?_)
 | ((first | refine awp_reg ?_ | refine awp_condB ?_ | refine awp_skip ?_ | refine awp_exit ?_); simp (disch := omega) only [push_cast,seval,l31r0,l31r1,l31r2,l31r3,l31r4,l31r5,l31r6,l31r7,hd0,hd4,hel,hil,innL_EL])
 | ((first | refine condB_split (fun h => ?_) (fun h => ?_) | refine gIf_split (fun h => ?_) (fun h => ?_) | refine qIf_split (fun h => ?_) (fun h => ?_)) <;> (try simp only [h]) <;> (try simp only [bitvec_to_nat] at h) <;> (try simp only [h]) <;> (first | (exfalso; omega) | (focus (exfalso; simp_all; done)) | (simp (disch := omega) only [push_cast,seval,hd0,hd4,hel,hil,innL_EL]) | skip))
 | (refine awp_ret ⟨.inr rfl,[112],[],_,by decide,rfl,?_⟩; (try simp (disch := omega) only [push_cast,seval,↓allMem_nil,↓allMem_cons,↓List.map_cons,↓List.map_nil,hd0,hd4,hel,hil,innL_EL]))))
        all_goals (refine ⟨i + 1,by omega,by omega,?_⟩; (refine Sub.of_lists ?_ ?_ ?_ ?_ ?_ <;> simp [Vw.mkS,Vw.lk,Vw.hk,AV.inn,innL,innL_ints,innL_append,innL_rep,-List.map_set,-List.getD_eq_getElem?_getD,innL_EL,e1]))
 | true =>
        by_cases hpe : p = id
        · have e1 := kidsT_yes (p := id) he ⟨rfl,hpe⟩
          (repeat' (first
 | (first | refine awp_seq ?_ | refine awp_block ?_)
 | ((first | refine awp_reg ?_ | refine awp_condB ?_ | refine awp_skip ?_ | refine awp_exit ?_); simp (disch := omega) only [push_cast,seval,l31r0,l31r1,l31r2,l31r3,l31r4,l31r5,l31r6,l31r7,hd0,hd4,hel,hil,hpe,hkl,innL_EL])
 | ((first | refine condB_split (fun h => ?_) (fun h => ?_) | refine gIf_split (fun h => ?_) (fun h => ?_) | refine qIf_split (fun h => ?_) (fun h => ?_)) <;> (try simp only [h]) <;> (try simp only [bitvec_to_nat] at h) <;> (try simp only [h]) <;> (first | (exfalso; omega) | (focus (exfalso; simp_all; done)) | (simp (disch := omega) only [push_cast,seval,hd0,hd4,hel,hil,hpe,hkl,innL_EL]) | skip))
 | (refine awp_ret ⟨.inr rfl,[112],[],_,by decide,rfl,?_⟩; (try simp (disch := omega) only [push_cast,seval,↓allMem_nil,↓allMem_cons,↓List.map_cons,↓List.map_nil,hd0,hd4,hel,hil,hpe,hkl,innL_EL]))))
          all_goals (refine ⟨i + 1,by omega,by omega,?_⟩; (refine Sub.of_lists ?_ ?_ ?_ ?_ ?_ <;> simp [Vw.mkS,Vw.lk,Vw.hk,AV.inn,innL,innL_ints,innL_append,innL_rep,-List.map_set,-List.getD_eq_getElem?_getD,innL_EL,e1,List.length_append]))
        · have e1 := kidsT_no (p := id) he (by simp [hpe])
          (repeat' (first
 | (first | refine awp_seq ?_ | refine awp_block ?_)
 | ((first | refine awp_reg ?_ | refine awp_condB ?_ | refine awp_skip ?_ | refine awp_exit ?_); simp (disch := omega) only [push_cast,seval,l31r0,l31r1,l31r2,l31r3,l31r4,l31r5,l31r6,l31r7,hd0,hd4,hel,hil,hpe,hkl,innL_EL])
 | ((first | refine condB_split (fun h => ?_) (fun h => ?_) | refine gIf_split (fun h => ?_) (fun h => ?_) | refine qIf_split (fun h => ?_) (fun h => ?_)) <;> (try simp only [h]) <;> (try simp only [bitvec_to_nat] at h) <;> (try simp only [h]) <;> (first | (exfalso; omega) | (focus (exfalso; simp_all; done)) | (simp (disch := omega) only [push_cast,seval,hd0,hd4,hel,hil,hpe,hkl,innL_EL]) | skip))
 | (refine awp_ret ⟨.inr rfl,[112],[],_,by decide,rfl,?_⟩; (try simp (disch := omega) only [push_cast,seval,↓allMem_nil,↓allMem_cons,↓List.map_cons,↓List.map_nil,hd0,hd4,hel,hil,hpe,hkl,innL_EL]))))
          all_goals (refine ⟨i + 1,by omega,by omega,?_⟩; (refine Sub.of_lists ?_ ?_ ?_ ?_ ?_ <;> simp [Vw.mkS,Vw.lk,Vw.hk,AV.inn,innL,innL_ints,innL_append,innL_rep,-List.map_set,-List.getD_eq_getElem?_getD,innL_EL,e1]))
    · have e : i = es.length := by omega
      subst e
      (repeat' (first
 | (first | refine awp_seq ?_ | refine awp_block ?_)
 | ((first | refine awp_reg ?_ | refine awp_condB ?_ | refine awp_skip ?_ | refine awp_exit ?_); simp (disch := omega) only [push_cast,seval,l31r0,l31r1,l31r2,l31r3,l31r4,l31r5,l31r6,l31r7,hel,innL_EL])
 | ((first | refine condB_split (fun h => ?_) (fun h => ?_) | refine gIf_split (fun h => ?_) (fun h => ?_) | refine qIf_split (fun h => ?_) (fun h => ?_)) <;> (try simp only [h]) <;> (try simp only [bitvec_to_nat] at h) <;> (try simp only [h]) <;> (first | (exfalso; omega) | (focus (exfalso; simp_all; done)) | (simp (disch := omega) only [push_cast,seval,hel,innL_EL]) | skip))
 | (refine awp_ret ⟨.inr rfl,[112],[],_,by decide,rfl,?_⟩; (try simp (disch := omega) only [push_cast,seval,↓allMem_nil,↓allMem_cons,↓List.map_cons,↓List.map_nil,hel,innL_EL]))))
      all_goals simp [OI]

end Go.Proofs.YtahdlohpncjdbaaDoor
