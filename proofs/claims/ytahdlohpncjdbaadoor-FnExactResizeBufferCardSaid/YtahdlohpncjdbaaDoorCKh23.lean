import Derived.Test.YtahdlohpncjdbaaDoorCKh22
import Derived.Test.YtahdlohpncjdbaaDoorCM1
import Derived.Test.YtahdlohpncjdbaaDoorCW3
set_option linter.unusedSimpArgs false
set_option linter.unusedVariables false
set_option maxRecDepth 4000
set_option maxHeartbeats 4000000
namespace Go.Proofs.YtahdlohpncjdbaaDoor
open VwM Vw Go
set_option linter.unusedSectionVars false
variable [SentA]

/-- The first cells,and zeros. -/
def rz (cs : List Int) (N i : Nat) : List Int := (List.range N).map fun j => if j < i then cs.getD j 0 else 0
def zz (cs : List Int) (N : Nat) : List Int := (List.range N).map fun j => cs.getD j 0
theorem rz_length (cs : List Int) (N i : Nat) : (rz cs N i).length = N := by simp [rz]
theorem zz_length (cs : List Int) (N : Nat) : (zz cs N).length = N := by simp [zz]
theorem rz_zero (cs : List Int) (N : Nat) : rz cs N 0 = List.replicate N 0 := by
  unfold rz
  apply List.ext_getElem?
  intro j
  rw [List.getElem?_map]
  by_cases h : j < N
  · rw [List.getElem?_range h,List.getElem?_replicate]; simp [h]
  · rw [List.getElem?_eq_none (by simp; omega),List.getElem?_eq_none (by simp; omega)]; rfl
theorem rz_set (cs : List Int) (N i : Nat) : (rz cs N i).set i (cs.getD i 0) = rz cs N (i + 1) := by
  unfold rz
  apply List.ext_getElem?
  intro j
  rw [List.getElem?_set,List.getElem?_map,List.getElem?_map]
  by_cases h : j < N
  · rw [List.getElem?_range h]
    by_cases e : i = j
    · subst e; simp [h]
    · rw [if_neg e]
      simp only [Option.map_some]
      by_cases h2 : j < i
      · rw [if_pos h2,if_pos (by omega)]
      · rw [if_neg h2,if_neg (by omega)]
  · rw [List.getElem?_eq_none (by simp; omega)]
    split
    · rename_i e; simp only [List.length_map,List.length_range]; rw [if_neg (by omega)]; first | done | rfl
    · rfl
theorem rz_done {cs : List Int} {N i : Nat} (h : N ≤ i ∨ cs.length ≤ i) : rz cs N i = zz cs N := by
  unfold rz zz
  refine List.map_congr_left fun j hj => ?_
  have hj := List.mem_range.1 hj
  by_cases h2 : j < i
  · rw [if_pos h2]
  · rw [if_neg h2,List.getD_eq_getElem?_getD,List.getElem?_eq_none (by omega)]; rfl
theorem cpy_zz (cs : List Int) (N : Nat) : setRange (IL (List.replicate N 0)) 0 ((IL cs).take (min cs.length N * 1)) = IL (zz cs N) := by
  have e : IL (List.replicate N 0) = [] ++ (IL (List.replicate (min cs.length N) 0) ++ IL (List.replicate (N - min cs.length N) 0)) := by
    unfold IL
    rw [List.nil_append,← List.map_append,List.replicate_append_replicate]
    congr 2; omega
  have h := setRange_app ((IL cs).take (min cs.length N * 1)) [] (IL (List.replicate (min cs.length N) 0)) (IL (List.replicate (N - min cs.length N) 0)) (by unfold IL; simp)
  rw [e]
  refine h.trans ?_
  rw [List.nil_append]
  unfold IL
  rw [← List.map_take,← List.map_append]
  congr 1
  apply List.ext_getElem?
  intro j
  unfold zz
  by_cases hj : j < min cs.length N
  · rw [List.getElem?_append_left (by simp; omega),List.getElem?_take,if_pos (by omega),List.getElem?_map,List.getElem?_range (by omega),List.getElem?_eq_getElem (by omega)]
    simp only [Option.map_some,List.getD_eq_getElem?_getD]
    rw [List.getElem?_eq_getElem (by omega)]; rfl
  · rw [List.getElem?_append_right (by simp; omega),List.getElem?_map,List.getElem?_replicate]
    have hl : (List.take (min cs.length N * 1) cs).length = min cs.length N := by simp
    rw [hl]
    by_cases h2 : j < N
    · rw [if_pos (by omega),List.getElem?_range h2]
      simp only [Option.map_some,List.getD_eq_getElem?_getD]
      rw [List.getElem?_eq_none (by omega)]; rfl
    · rw [if_neg (by omega),List.getElem?_eq_none (by simp; omega),Option.map_none]
theorem opens_none {es : List Ex} : ∀ {k : Nat},opensT es k = [] ↔ ∀ i e,i < k → es[i]? = some e → ¬ e.2.2 = true
  | 0 => by simp [opensT]
  | k + 1 => by
    constructor
    · intro h i e hi he
      cases hk : es[k]? with
 | none =>
        by_cases hik : i = k
        · subst hik; rw [hk] at he; cases he
        · simp only [opensT,hk] at h
          exact opens_none.1 h i e (by omega) he
 | some f =>
        by_cases hf : f.2.2 = true
        · rw [opensT_yes hk hf] at h; simp at h
        · rw [opensT_no hk hf] at h
          by_cases hik : i = k
          · subst hik; rw [hk] at he; injection he with he; subst he; exact hf
          · exact opens_none.1 h i e (by omega) he
    · intro h
      have ih : opensT es k = [] := opens_none.2 fun i e hi he => h i e (by omega) he
      cases hk : es[k]? with
 | none => simp only [opensT,hk]; exact ih
 | some f => rw [opensT_no hk (h k f (by omega) hk)]; exact ih
/-- With an open export one of them hangs on the buffer itself. -/
theorem open_root {cs : List Int} {es : List Ex} (h : vB cs es = true) : (opensT es es.length).length = 0 ↔ (kidsT es (-1) es.length).length = 0 := by
  rw [List.length_eq_zero_iff,List.length_eq_zero_iff,opens_none,kid_none]
  constructor
  · intro h1 i e hi he hh
    exact h1 i e hi he hh.1
  · intro h1
    have hp := (vB_8 h).2.2
    unfold vB at h
    simp only [Bool.and_eq_true,decide_eq_true_eq] at h
    have ha := (allX_iff (f := sxV cs.length es)).1 h.2
    intro i
    induction i using Nat.strongRecOn with
    | ind i ih =>
      intro e hi he ho
      have h2 := ha i e hi he
      unfold sxV at h2
      rw [ho] at h2
      simp only [Bool.and_eq_true,Bool.not_true,Bool.false_or,Bool.or_eq_true,decide_eq_true_eq] at h2
      have hpe := hp i e he
      rcases h2.2 with hx | hx
      · exact h1 i e hi he ⟨ho,by omega⟩
      · obtain ⟨q,hq⟩ : ∃ q : Nat,e.1 = q ∨ e.1 = -1 := ⟨e.1.toNat,by omega⟩
        rcases hq with hq | hq
        · unfold opE at hx
          rw [hq,Int.toNat_natCast] at hx
          have hql : q < i := by omega
          cases hf : es[q]? with
          | none => rw [hf] at hx; cases hx
          | some f =>
            rw [hf] at hx
            exact ih q hql f (by omega) hf hx
        · exact h1 i e hi he ⟨ho,hq⟩
def rzG (cs : List Int) (es : List Ex) (s : Int) : Bool := (vB cs es && (decide (0 ≤ s) && decide (s ≤ 60))) && decide ((opensT es es.length).length = 0)


set_option maxHeartbeats 8000000 in
theorem sRz_ok (cs : List Int) (es : List Ex) (m n : Nat) (s : Int) (hm : cs.length = m) (hn : es.length = n) (hb : m ≤ 1099511627776 ∧ n ≤ 1099511627776 ∧ exB 1099511627776 es) :
    BCall Tryd.prog 19 [.agg [.rows false (IL cs) m,.rows false (EL false es) n],.int .i64 s] [] (OBs (rzG cs es s) (ifB (rzG cs es s) (zz cs s.toNat)) (ifB (rzG cs es s) es)) := by
  subst hm hn
  have hb0 := hb
  obtain ⟨hb1,hb2,hb3⟩ := hb
  have hel := EL_length false es
  refine bcall_of (pins := []) (pin := 0) l19_eq rfl rfl rfl ?_
  unfold rzG
  cases hv : vB cs es with
  | false =>
    simp only [Bool.false_and,ifB_false]
    (repeat' (first
 | (first | refine awp_seq ?_ | refine awp_block ?_)
 | ((first | refine awp_reg ?_ | refine awp_draw (mid := l19r7a) (post := l19r7b) mixed (by decide) ?_ | refine awp_condB ?_ | refine awp_skip ?_ | refine awp_exit ?_); simp (disch := omega) only [push_cast,seval,l19r0,l19r1,l19r2,l19r3,l19r4,l19r5,l19r6,l19r7a,l19r7b,l19r7,l19r8,l19r9,hv,hel,innL_EL])
 | ((first | refine condB_split (fun h => ?_) (fun h => ?_) | refine gIf_split (fun h => ?_) (fun h => ?_) | refine qIf_split (fun h => ?_) (fun h => ?_)) <;> (try simp only [h]) <;> (try simp only [bitvec_to_nat] at h) <;> (try simp only [h]) <;> (first | (exfalso; omega) | (focus (exfalso; simp_all; done)) | (simp (disch := omega) only [push_cast,seval,hv,hel,innL_EL]) | skip))
 | ((first | refine callD_of false ?_ | refine qcallD_of false ?_); simp (disch := omega) only [push_cast,seval,hv,hel,innL_EL])
 | ((first | ((first | refine call0D (BCall.ofP (svB_ok _ _ _ _ ?_ ?_ ?_)) ?_ | refine qcall0D (BCall.ofP (svB_ok _ _ _ _ ?_ ?_ ?_)) ⟨_,_,rfl,rfl⟩ ?_); (iterate 3 (exact sd)); rintro _ _ ⟨rfl,rfl⟩) | ((first | refine call0D (BCall.ofP (inRange_ok _ _ _)) ?_ | refine qcall0D (BCall.ofP (inRange_ok _ _ _)) ⟨_,_,rfl,rfl⟩ ?_); rintro _ _ ⟨rfl,rfl⟩) | ((first | refine call0D (sOpen_ok _ _ _ _ ?_ ?_ ?_) ?_ | refine qcall0D (sOpen_ok _ _ _ _ ?_ ?_ ?_) ⟨_,_,rfl,rfl⟩ ?_); (iterate 3 (exact sd)); rintro _ _ ⟨rfl,rfl⟩) | ((first | refine call0D (scB_ok _ _ _ _ ?_ ?_ ?_) ?_ | refine qcall0D (scB_ok _ _ _ _ ?_ ?_ ?_) ⟨_,_,rfl,rfl⟩ ?_); (iterate 3 (exact sd)); rintro _ _ ⟨rfl,rfl⟩)) <;> (try simp (disch := omega) only [push_cast,seval,hv,hel,innL_EL]))
 | (refine awp_ret ⟨.inr rfl,[16000,16001],[(16000,1),(16001,5)],_,by decide,rfl,?_⟩; (try simp (disch := omega) only [push_cast,seval,↓allMem_nil,↓allMem_cons,↓List.map_cons,↓List.map_nil,hv,hel,innL_EL]))))
    all_goals simp [OBs,EL]
  | true =>
    obtain ⟨v1,v2,v3⟩ := vB_8 hv
    simp only [Bool.true_and]
    cases hr : (decide (0 ≤ s) && decide (s ≤ 60)) with
    | false =>
      simp only [Bool.false_and,ifB_false]
      (repeat' (first
 | (first | refine awp_seq ?_ | refine awp_block ?_)
 | ((first | refine awp_reg ?_ | refine awp_draw (mid := l19r7a) (post := l19r7b) mixed (by decide) ?_ | refine awp_condB ?_ | refine awp_skip ?_ | refine awp_exit ?_); simp (disch := omega) only [push_cast,seval,l19r0,l19r1,l19r2,l19r3,l19r4,l19r5,l19r6,l19r7a,l19r7b,l19r7,l19r8,l19r9,hv,hr,hel,innL_EL])
 | ((first | refine condB_split (fun h => ?_) (fun h => ?_) | refine gIf_split (fun h => ?_) (fun h => ?_) | refine qIf_split (fun h => ?_) (fun h => ?_)) <;> (try simp only [h]) <;> (try simp only [bitvec_to_nat] at h) <;> (try simp only [h]) <;> (first | (exfalso; omega) | (focus (exfalso; simp_all; done)) | (simp (disch := omega) only [push_cast,seval,hv,hr,hel,innL_EL]) | skip))
 | ((first | refine callD_of false ?_ | refine qcallD_of false ?_); simp (disch := omega) only [push_cast,seval,hv,hr,hel,innL_EL])
 | ((first | ((first | refine call0D (BCall.ofP (svB_ok _ _ _ _ ?_ ?_ ?_)) ?_ | refine qcall0D (BCall.ofP (svB_ok _ _ _ _ ?_ ?_ ?_)) ⟨_,_,rfl,rfl⟩ ?_); (iterate 3 (exact sd)); rintro _ _ ⟨rfl,rfl⟩) | ((first | refine call0D (BCall.ofP (inRange_ok _ _ _)) ?_ | refine qcall0D (BCall.ofP (inRange_ok _ _ _)) ⟨_,_,rfl,rfl⟩ ?_); rintro _ _ ⟨rfl,rfl⟩) | ((first | refine call0D (sOpen_ok _ _ _ _ ?_ ?_ ?_) ?_ | refine qcall0D (sOpen_ok _ _ _ _ ?_ ?_ ?_) ⟨_,_,rfl,rfl⟩ ?_); (iterate 3 (exact sd)); rintro _ _ ⟨rfl,rfl⟩) | ((first | refine call0D (scB_ok _ _ _ _ ?_ ?_ ?_) ?_ | refine qcall0D (scB_ok _ _ _ _ ?_ ?_ ?_) ⟨_,_,rfl,rfl⟩ ?_); (iterate 3 (exact sd)); rintro _ _ ⟨rfl,rfl⟩)) <;> (try simp (disch := omega) only [push_cast,seval,hv,hr,hel,innL_EL]))
 | (refine awp_ret ⟨.inr rfl,[16000,16001],[(16000,1),(16001,5)],_,by decide,rfl,?_⟩; (try simp (disch := omega) only [push_cast,seval,↓allMem_nil,↓allMem_cons,↓List.map_cons,↓List.map_nil,hv,hr,hel,innL_EL]))))
      all_goals simp [OBs,EL]
    | true =>
      simp only [Bool.true_and]
      have hr2 := hr
      rw [Bool.and_eq_true,decide_eq_true_eq,decide_eq_true_eq] at hr2
      have hop : opensA cs es = opensT es es.length := by unfold opensA; rw [if_pos hv]
      generalize hK : opensT es es.length = K at *
      by_cases hk0 : K.length = 0
      · rw [decide_eq_true hk0]
        obtain ⟨N,rfl⟩ : ∃ N : Nat,s = N := ⟨s.toNat,by omega⟩
        simp only [ifB_true,Int.toNat_natCast]
        (repeat' (first
 | (first | refine awp_seq ?_ | refine awp_block ?_)
 | ((first | refine awp_reg ?_ | refine awp_draw (mid := l19r7a) (post := l19r7b) mixed (by decide) ?_ | refine awp_condB ?_ | refine awp_skip ?_ | refine awp_exit ?_); simp (disch := omega) only [push_cast,seval,l19r0,l19r1,l19r2,l19r3,l19r4,l19r5,l19r6,l19r7a,l19r7b,l19r7,l19r8,l19r9,hv,hr,hop,hk0,hel,innL_EL])
 | ((first | refine condB_split (fun h => ?_) (fun h => ?_) | refine gIf_split (fun h => ?_) (fun h => ?_) | refine qIf_split (fun h => ?_) (fun h => ?_)) <;> (try simp only [h]) <;> (try simp only [bitvec_to_nat] at h) <;> (try simp only [h]) <;> (first | (exfalso; omega) | (focus (exfalso; simp_all; done)) | (simp (disch := omega) only [push_cast,seval,hv,hr,hop,hk0,hel,innL_EL]) | skip))
 | ((first | refine callD_of false ?_ | refine qcallD_of false ?_); simp (disch := omega) only [push_cast,seval,hv,hr,hop,hk0,hel,innL_EL])
 | ((first | ((first | refine call0D (BCall.ofP (svB_ok _ _ _ _ ?_ ?_ ?_)) ?_ | refine qcall0D (BCall.ofP (svB_ok _ _ _ _ ?_ ?_ ?_)) ⟨_,_,rfl,rfl⟩ ?_); (iterate 3 (exact sd)); rintro _ _ ⟨rfl,rfl⟩) | ((first | refine call0D (BCall.ofP (inRange_ok _ _ _)) ?_ | refine qcall0D (BCall.ofP (inRange_ok _ _ _)) ⟨_,_,rfl,rfl⟩ ?_); rintro _ _ ⟨rfl,rfl⟩) | ((first | refine call0D (sOpen_ok _ _ _ _ ?_ ?_ ?_) ?_ | refine qcall0D (sOpen_ok _ _ _ _ ?_ ?_ ?_) ⟨_,_,rfl,rfl⟩ ?_); (iterate 3 (exact sd)); rintro _ _ ⟨rfl,rfl⟩) | ((first | refine call0D (scB_ok _ _ _ _ ?_ ?_ ?_) ?_ | refine qcall0D (scB_ok _ _ _ _ ?_ ?_ ?_) ⟨_,_,rfl,rfl⟩ ?_); (iterate 3 (exact sd)); rintro _ _ ⟨rfl,rfl⟩)) <;> (try simp (disch := omega) only [push_cast,seval,hv,hr,hop,hk0,hel,innL_EL]))))
        refine awp_loopW (fun i : Nat => mkS [(1,.int .i64 N),(2,.ref 32 2 0),(4,.ref 64 2 0),(6,.ref 96 2 0),(7,.int .i64 i)] [(32,[.rows false (IL cs) cs.length,.rows false (EL false es) es.length]),(64,[.val (.slice none 0 0),.val (.slice none 0 0)]),(96,[.own 416 N 1,.own 385 es.length 5]),(385,EL true es),(416,IL (rz cs N i))]) (fun i => i ≤ N ∧ i ≤ cs.length) (fun i => N - i) 0 ⟨Nat.zero_le _,Nat.zero_le _⟩ ?_ ?_
        · refine SubW.of ?_
          rw [rz_zero]
          (refine Sub.of_lists ?_ ?_ ?_ ?_ ?_ <;> simp [Vw.mkS,Vw.lk,Vw.hk,AV.inn,innL,innL_ints,innL_append,innL_rep,-List.map_set,-List.getD_eq_getElem?_getD,innL_EL])
        · rintro i ⟨hi,hi2⟩
          have hrl := rz_length cs N i
          by_cases hlt : i < N ∧ i < cs.length
          · have hrs := rz_set cs N i
            have hrs2 : (IL (rz cs N i)).set i (.int .i64 (cs.getD i 0)) = IL (rz cs N (i + 1)) := by rw [← hrs]; unfold IL; rw [List.map_set]
            obtain ⟨l1,l2⟩ := hlt
            (repeat' (first
 | (first | refine awp_seq ?_ | refine awp_block ?_)
 | ((first | refine awp_reg ?_ | refine awp_draw (mid := l19r7a) (post := l19r7b) mixed (by decide) ?_ | refine awp_condB ?_ | refine awp_skip ?_ | refine awp_exit ?_); simp (disch := omega) only [push_cast,seval,l19r0,l19r1,l19r2,l19r3,l19r4,l19r5,l19r6,l19r7a,l19r7b,l19r7,l19r8,l19r9,hel,hrl,hrs2,innL_EL])
 | ((first | refine condB_split (fun h => ?_) (fun h => ?_) | refine gIf_split (fun h => ?_) (fun h => ?_) | refine qIf_split (fun h => ?_) (fun h => ?_)) <;> (try simp only [h]) <;> (try simp only [bitvec_to_nat] at h) <;> (try simp only [h]) <;> (first | (exfalso; omega) | (focus (exfalso; simp_all; done)) | (simp (disch := omega) only [push_cast,seval,hel,hrl,hrs2,innL_EL]) | skip))
 | ((first | refine callD_of false ?_ | refine qcallD_of false ?_); simp (disch := omega) only [push_cast,seval,hel,hrl,hrs2,innL_EL])
 | ((first | ((first | refine call0D (BCall.ofP (svB_ok _ _ _ _ ?_ ?_ ?_)) ?_ | refine qcall0D (BCall.ofP (svB_ok _ _ _ _ ?_ ?_ ?_)) ⟨_,_,rfl,rfl⟩ ?_); (iterate 3 (exact sd)); rintro _ _ ⟨rfl,rfl⟩) | ((first | refine call0D (BCall.ofP (inRange_ok _ _ _)) ?_ | refine qcall0D (BCall.ofP (inRange_ok _ _ _)) ⟨_,_,rfl,rfl⟩ ?_); rintro _ _ ⟨rfl,rfl⟩) | ((first | refine call0D (sOpen_ok _ _ _ _ ?_ ?_ ?_) ?_ | refine qcall0D (sOpen_ok _ _ _ _ ?_ ?_ ?_) ⟨_,_,rfl,rfl⟩ ?_); (iterate 3 (exact sd)); rintro _ _ ⟨rfl,rfl⟩) | ((first | refine call0D (scB_ok _ _ _ _ ?_ ?_ ?_) ?_ | refine qcall0D (scB_ok _ _ _ _ ?_ ?_ ?_) ⟨_,_,rfl,rfl⟩ ?_); (iterate 3 (exact sd)); rintro _ _ ⟨rfl,rfl⟩)) <;> (try simp (disch := omega) only [push_cast,seval,hel,hrl,hrs2,innL_EL]))))
            refine ⟨i + 1,⟨by omega,by omega⟩,by omega,SubW.of ?_⟩
            (refine Sub.of_lists ?_ ?_ ?_ ?_ ?_ <;> simp [Vw.mkS,Vw.lk,Vw.hk,AV.inn,innL,innL_ints,innL_append,innL_rep,-List.map_set,-List.getD_eq_getElem?_getD,innL_EL])
          · have hd : rz cs N i = zz cs N := rz_done (by omega)
            (repeat' (first
 | (first | refine awp_seq ?_ | refine awp_block ?_)
 | ((first | refine awp_reg ?_ | refine awp_draw (mid := l19r7a) (post := l19r7b) mixed (by decide) ?_ | refine awp_condB ?_ | refine awp_skip ?_ | refine awp_exit ?_); simp (disch := omega) only [push_cast,seval,l19r0,l19r1,l19r2,l19r3,l19r4,l19r5,l19r6,l19r7a,l19r7b,l19r7,l19r8,l19r9,hel,hd,innL_EL])
 | ((first | refine condB_split (fun h => ?_) (fun h => ?_) | refine gIf_split (fun h => ?_) (fun h => ?_) | refine qIf_split (fun h => ?_) (fun h => ?_)) <;> (try simp only [h]) <;> (try simp only [bitvec_to_nat] at h) <;> (try simp only [h]) <;> (first | (exfalso; omega) | (focus (exfalso; simp_all; done)) | (simp (disch := omega) only [push_cast,seval,hel,hd,innL_EL]) | skip))
 | ((first | refine callD_of false ?_ | refine qcallD_of false ?_); simp (disch := omega) only [push_cast,seval,hel,hd,innL_EL])
 | ((first | ((first | refine call0D (BCall.ofP (svB_ok _ _ _ _ ?_ ?_ ?_)) ?_ | refine qcall0D (BCall.ofP (svB_ok _ _ _ _ ?_ ?_ ?_)) ⟨_,_,rfl,rfl⟩ ?_); (iterate 3 (exact sd)); rintro _ _ ⟨rfl,rfl⟩) | ((first | refine call0D (BCall.ofP (inRange_ok _ _ _)) ?_ | refine qcall0D (BCall.ofP (inRange_ok _ _ _)) ⟨_,_,rfl,rfl⟩ ?_); rintro _ _ ⟨rfl,rfl⟩) | ((first | refine call0D (sOpen_ok _ _ _ _ ?_ ?_ ?_) ?_ | refine qcall0D (sOpen_ok _ _ _ _ ?_ ?_ ?_) ⟨_,_,rfl,rfl⟩ ?_); (iterate 3 (exact sd)); rintro _ _ ⟨rfl,rfl⟩) | ((first | refine call0D (scB_ok _ _ _ _ ?_ ?_ ?_) ?_ | refine qcall0D (scB_ok _ _ _ _ ?_ ?_ ?_) ⟨_,_,rfl,rfl⟩ ?_); (iterate 3 (exact sd)); rintro _ _ ⟨rfl,rfl⟩)) <;> (try simp (disch := omega) only [push_cast,seval,hel,hd,innL_EL]))
 | (refine awp_ret ⟨.inr rfl,[416,385],[],_,by decide,rfl,?_⟩; (try simp (disch := omega) only [push_cast,seval,↓allMem_nil,↓allMem_cons,↓List.map_cons,↓List.map_nil,hel,hd,innL_EL]))))
            all_goals simp [OBs,zz_length]
      · rw [decide_eq_false hk0]
        simp only [ifB_false]
        (repeat' (first
 | (first | refine awp_seq ?_ | refine awp_block ?_)
 | ((first | refine awp_reg ?_ | refine awp_draw (mid := l19r7a) (post := l19r7b) mixed (by decide) ?_ | refine awp_condB ?_ | refine awp_skip ?_ | refine awp_exit ?_); simp (disch := omega) only [push_cast,seval,l19r0,l19r1,l19r2,l19r3,l19r4,l19r5,l19r6,l19r7a,l19r7b,l19r7,l19r8,l19r9,hv,hr,hop,hk0,hel,innL_EL])
 | ((first | refine condB_split (fun h => ?_) (fun h => ?_) | refine gIf_split (fun h => ?_) (fun h => ?_) | refine qIf_split (fun h => ?_) (fun h => ?_)) <;> (try simp only [h]) <;> (try simp only [bitvec_to_nat] at h) <;> (try simp only [h]) <;> (first | (exfalso; omega) | (focus (exfalso; simp_all; done)) | (simp (disch := omega) only [push_cast,seval,hv,hr,hop,hk0,hel,innL_EL]) | skip))
 | ((first | refine callD_of false ?_ | refine qcallD_of false ?_); simp (disch := omega) only [push_cast,seval,hv,hr,hop,hk0,hel,innL_EL])
 | ((first | ((first | refine call0D (BCall.ofP (svB_ok _ _ _ _ ?_ ?_ ?_)) ?_ | refine qcall0D (BCall.ofP (svB_ok _ _ _ _ ?_ ?_ ?_)) ⟨_,_,rfl,rfl⟩ ?_); (iterate 3 (exact sd)); rintro _ _ ⟨rfl,rfl⟩) | ((first | refine call0D (BCall.ofP (inRange_ok _ _ _)) ?_ | refine qcall0D (BCall.ofP (inRange_ok _ _ _)) ⟨_,_,rfl,rfl⟩ ?_); rintro _ _ ⟨rfl,rfl⟩) | ((first | refine call0D (sOpen_ok _ _ _ _ ?_ ?_ ?_) ?_ | refine qcall0D (sOpen_ok _ _ _ _ ?_ ?_ ?_) ⟨_,_,rfl,rfl⟩ ?_); (iterate 3 (exact sd)); rintro _ _ ⟨rfl,rfl⟩) | ((first | refine call0D (scB_ok _ _ _ _ ?_ ?_ ?_) ?_ | refine qcall0D (scB_ok _ _ _ _ ?_ ?_ ?_) ⟨_,_,rfl,rfl⟩ ?_); (iterate 3 (exact sd)); rintro _ _ ⟨rfl,rfl⟩)) <;> (try simp (disch := omega) only [push_cast,seval,hv,hr,hop,hk0,hel,innL_EL]))
 | (refine awp_ret ⟨.inr rfl,[16000,16001],[(16000,1),(16001,5)],_,by decide,rfl,?_⟩; (try simp (disch := omega) only [push_cast,seval,↓allMem_nil,↓allMem_cons,↓List.map_cons,↓List.map_nil,hv,hr,hop,hk0,hel,innL_EL]))))
        all_goals simp [OBs,EL]


set_option maxHeartbeats 8000000 in
theorem iRz_ok (cs : List Int) (es : List Ex) (m n : Nat) (s : Int) (hm : cs.length = m) (hn : es.length = n) (hb : m ≤ 1048576 ∧ n ≤ 1048576 ∧ exB 1048576 es) :
    BCall Tryd.prog 20 [.agg [.rows false (IL cs) m,.rows false (EL false es) n],.int .i64 s] [] (OBf (rzG cs es s) (ifB (rzG cs es s) (zz cs s.toNat)) (ifB (rzG cs es s) es)) := by
  subst hm hn
  have hb0 := hb
  obtain ⟨hb1,hb2,hb3⟩ := hb
  have hq8 : cs.length ≤ 1099511627776 ∧ es.length ≤ 1099511627776 ∧ exB 1099511627776 es := ⟨by omega,by omega,fun e he => by have := hb3 e he; omega⟩
  have hel := EL_length false es
  refine bcall_of (pins := []) (pin := 0) l20_eq rfl rfl rfl ?_
  unfold rzG
  cases hv : vB cs es with
  | false =>
    simp only [Bool.false_and,ifB_false]
    (repeat' (first
 | (first | refine awp_seq ?_ | refine awp_block ?_)
 | ((first | refine awp_reg ?_ | refine awp_draw (mid := l20r1a) (post := l20r1b) mixed (by decide) ?_ | refine awp_condB ?_ | refine awp_skip ?_ | refine awp_exit ?_); simp (disch := omega) only [push_cast,seval,l20r0,l20r1a,l20r1b,l20r1,l20r2,l20r3,l20r4,l20r5,hv,hel,innL_EL])
 | ((first | refine condB_split (fun h => ?_) (fun h => ?_) | refine gIf_split (fun h => ?_) (fun h => ?_) | refine qIf_split (fun h => ?_) (fun h => ?_)) <;> (try simp only [h]) <;> (try simp only [bitvec_to_nat] at h) <;> (try simp only [h]) <;> (first | (exfalso; omega) | (focus (exfalso; simp_all; done)) | (simp (disch := omega) only [push_cast,seval,hv,hel,innL_EL]) | skip))
 | ((first | ((with_reducible refine callE_of (f := 48) ?_); simp (disch := omega) only [push_cast,seval,hv,hel,innL_EL]; (refine callFNH (by intro _ _; first | rfl | ((simp (disch := omega) only [push_cast,seval,hv,hel,innL_EL]); done) | ((simp (disch := omega) only [push_cast,seval,hv,hel,innL_EL]); rfl)) (iWith_ok _ _ _ _ _ _ ?_ ?_ ?_ ?_) rfl (by first | ((simp (disch := omega) only [push_cast,seval,hv,hel,innL_EL]); done) | ((simp (disch := omega) only [push_cast,seval,hv,hel,innL_EL]); rfl)) (by (simp (disch := omega) only [push_cast,seval,hv,hel,innL_EL]); done) (by omega) ?_; (iterate 4 (exact sd))))) <;> (try simp (disch := omega) only [push_cast,seval,hv,hel,innL_EL]))
 | ((first | refine callD_of false ?_ | refine qcallD_of false ?_); simp (disch := omega) only [push_cast,seval,hv,hel,innL_EL])
 | ((first | ((first | refine call0D (BCall.ofP (ivBu_ok _ _ _ _ ?_ ?_ ?_)) ?_ | refine qcall0D (BCall.ofP (ivBu_ok _ _ _ _ ?_ ?_ ?_)) ⟨_,_,rfl,rfl⟩ ?_); (iterate 3 (exact sd)); rintro _ _ ⟨rfl,rfl⟩) | ((first | refine call0D (BCall.ofP (validCount_ok _)) ?_ | refine qcall0D (BCall.ofP (validCount_ok _)) ⟨_,_,rfl,rfl⟩ ?_); rintro _ _ ⟨rfl,rfl⟩) | ((first | refine call0D (BCall.ofP (nodeP_ok _ _ _ _ _ ?_ ?_ ?_ ?_ ?_)) ?_ | refine qcall0D (BCall.ofP (nodeP_ok _ _ _ _ _ ?_ ?_ ?_ ?_ ?_)) ⟨_,_,rfl,rfl⟩ ?_); (iterate 5 (exact sd)); rintro _ _ ⟨rfl,rfl⟩) | ((first | refine call0D (BCall.ofP (held_ok _ _ ?_ ?_)) ?_ | refine qcall0D (BCall.ofP (held_ok _ _ ?_ ?_)) ⟨_,_,rfl,rfl⟩ ?_); (iterate 2 (exact sd)); rintro _ _ ⟨rfl,rfl⟩) | ((first | refine call0D (BCall.ofP (isHeld_ok _)) ?_ | refine qcall0D (BCall.ofP (isHeld_ok _)) ⟨_,_,rfl,rfl⟩ ?_); rintro _ _ ⟨rfl,rfl⟩) | ((first | refine call0D (iWithNo_ok _ _ _ _ ?_ ?_) ?_ | refine qcall0D (iWithNo_ok _ _ _ _ ?_ ?_) ⟨_,_,rfl,rfl⟩ ?_); (iterate 2 (exact sd)); rintro _ _ ⟨rfl,rfl⟩)) <;> (try simp (disch := omega) only [push_cast,seval,hv,hel,innL_EL]))
 | (refine awp_ret ⟨.inr rfl,[16000,16001],[(16000,1),(16001,5)],_,by decide,rfl,?_⟩; (try simp (disch := omega) only [push_cast,seval,↓allMem_nil,↓allMem_cons,↓List.map_cons,↓List.map_nil,hv,hel,innL_EL]))))
    all_goals simp [OBf,mkE_nil]
  | true =>
    obtain ⟨v1,v2,v3⟩ := vB_8 hv
    simp only [Bool.true_and]
    cases hr : (decide (0 ≤ s) && decide (s ≤ 60)) with
    | false =>
      simp only [Bool.false_and,ifB_false]
      (repeat' (first
 | (first | refine awp_seq ?_ | refine awp_block ?_)
 | ((first | refine awp_reg ?_ | refine awp_draw (mid := l20r1a) (post := l20r1b) mixed (by decide) ?_ | refine awp_condB ?_ | refine awp_skip ?_ | refine awp_exit ?_); simp (disch := omega) only [push_cast,seval,l20r0,l20r1a,l20r1b,l20r1,l20r2,l20r3,l20r4,l20r5,hv,hr,hel,innL_EL])
 | ((first | refine condB_split (fun h => ?_) (fun h => ?_) | refine gIf_split (fun h => ?_) (fun h => ?_) | refine qIf_split (fun h => ?_) (fun h => ?_)) <;> (try simp only [h]) <;> (try simp only [bitvec_to_nat] at h) <;> (try simp only [h]) <;> (first | (exfalso; omega) | (focus (exfalso; simp_all; done)) | (simp (disch := omega) only [push_cast,seval,hv,hr,hel,innL_EL]) | skip))
 | ((first | ((with_reducible refine callE_of (f := 48) ?_); simp (disch := omega) only [push_cast,seval,hv,hr,hel,innL_EL]; (refine callFNH (by intro _ _; first | rfl | ((simp (disch := omega) only [push_cast,seval,hv,hr,hel,innL_EL]); done) | ((simp (disch := omega) only [push_cast,seval,hv,hr,hel,innL_EL]); rfl)) (iWith_ok _ _ _ _ _ _ ?_ ?_ ?_ ?_) rfl (by first | ((simp (disch := omega) only [push_cast,seval,hv,hr,hel,innL_EL]); done) | ((simp (disch := omega) only [push_cast,seval,hv,hr,hel,innL_EL]); rfl)) (by (simp (disch := omega) only [push_cast,seval,hv,hr,hel,innL_EL]); done) (by omega) ?_; (iterate 4 (exact sd))))) <;> (try simp (disch := omega) only [push_cast,seval,hv,hr,hel,innL_EL]))
 | ((first | refine callD_of false ?_ | refine qcallD_of false ?_); simp (disch := omega) only [push_cast,seval,hv,hr,hel,innL_EL])
 | ((first | ((first | refine call0D (BCall.ofP (ivBu_ok _ _ _ _ ?_ ?_ ?_)) ?_ | refine qcall0D (BCall.ofP (ivBu_ok _ _ _ _ ?_ ?_ ?_)) ⟨_,_,rfl,rfl⟩ ?_); (iterate 3 (exact sd)); rintro _ _ ⟨rfl,rfl⟩) | ((first | refine call0D (BCall.ofP (validCount_ok _)) ?_ | refine qcall0D (BCall.ofP (validCount_ok _)) ⟨_,_,rfl,rfl⟩ ?_); rintro _ _ ⟨rfl,rfl⟩) | ((first | refine call0D (BCall.ofP (nodeP_ok _ _ _ _ _ ?_ ?_ ?_ ?_ ?_)) ?_ | refine qcall0D (BCall.ofP (nodeP_ok _ _ _ _ _ ?_ ?_ ?_ ?_ ?_)) ⟨_,_,rfl,rfl⟩ ?_); (iterate 5 (exact sd)); rintro _ _ ⟨rfl,rfl⟩) | ((first | refine call0D (BCall.ofP (held_ok _ _ ?_ ?_)) ?_ | refine qcall0D (BCall.ofP (held_ok _ _ ?_ ?_)) ⟨_,_,rfl,rfl⟩ ?_); (iterate 2 (exact sd)); rintro _ _ ⟨rfl,rfl⟩) | ((first | refine call0D (BCall.ofP (isHeld_ok _)) ?_ | refine qcall0D (BCall.ofP (isHeld_ok _)) ⟨_,_,rfl,rfl⟩ ?_); rintro _ _ ⟨rfl,rfl⟩) | ((first | refine call0D (iWithNo_ok _ _ _ _ ?_ ?_) ?_ | refine qcall0D (iWithNo_ok _ _ _ _ ?_ ?_) ⟨_,_,rfl,rfl⟩ ?_); (iterate 2 (exact sd)); rintro _ _ ⟨rfl,rfl⟩)) <;> (try simp (disch := omega) only [push_cast,seval,hv,hr,hel,innL_EL]))
 | (refine awp_ret ⟨.inr rfl,[16000,16001],[(16000,1),(16001,5)],_,by decide,rfl,?_⟩; (try simp (disch := omega) only [push_cast,seval,↓allMem_nil,↓allMem_cons,↓List.map_cons,↓List.map_nil,hv,hr,hel,innL_EL]))))
      all_goals simp [OBf,mkE_nil]
    | true =>
      simp only [Bool.true_and]
      have hr2 := hr
      rw [Bool.and_eq_true,decide_eq_true_eq,decide_eq_true_eq] at hr2
      have hroot := open_root hv
      have hid : -1 ≤ (-1 : Int) ∧ (-1 : Int) < es.length := by omega
      have hkl := kidsT_len es (-1) es.length
      generalize opensT es es.length = K at *
      generalize hK : kidsT es (-1) es.length = L at *
      by_cases hk0 : K.length = 0
      · have hl0 := hroot.1 hk0
        rw [decide_eq_true hk0]
        obtain ⟨N,rfl⟩ : ∃ N : Nat,s = N := ⟨s.toNat,by omega⟩
        simp only [ifB_true,Int.toNat_natCast]
        have hcz := cpy_zz cs N
        rw [Nat.mul_one,show IL (List.replicate N 0) = List.replicate N (AV.int .i64 0) by unfold IL; simp] at hcz
        have hzl := zz_length cs N
        (repeat' (first
 | (first | refine awp_seq ?_ | refine awp_block ?_)
 | ((first | refine awp_reg ?_ | refine awp_draw (mid := l20r1a) (post := l20r1b) mixed (by decide) ?_ | refine awp_condB ?_ | refine awp_skip ?_ | refine awp_exit ?_); simp (disch := omega) only [push_cast,seval,l20r0,l20r1a,l20r1b,l20r1,l20r2,l20r3,l20r4,l20r5,hv,hr,hK,hl0,hel,hcz,innL_EL,globE,renHeld,Nat.lt_irrefl,decide_false])
 | ((first | refine condB_split (fun h => ?_) (fun h => ?_) | refine gIf_split (fun h => ?_) (fun h => ?_) | refine qIf_split (fun h => ?_) (fun h => ?_)) <;> (try simp only [h]) <;> (try simp only [bitvec_to_nat] at h) <;> (try simp only [h]) <;> (first | (exfalso; omega) | (focus (exfalso; simp_all; done)) | (simp (disch := omega) only [push_cast,seval,hv,hr,hK,hl0,hel,hcz,innL_EL,globE,renHeld,Nat.lt_irrefl,decide_false]) | skip))
 | ((first | ((with_reducible refine callE_of (f := 48) ?_); simp (disch := omega) only [push_cast,seval,hv,hr,hK,hl0,hel,hcz,innL_EL,globE,renHeld,Nat.lt_irrefl,decide_false]; (refine callFNH (by intro _ _; first | rfl | ((simp (disch := omega) only [push_cast,seval,hv,hr,hK,hl0,hel,hcz,innL_EL,globE,renHeld,Nat.lt_irrefl,decide_false]); done) | ((simp (disch := omega) only [push_cast,seval,hv,hr,hK,hl0,hel,hcz,innL_EL,globE,renHeld,Nat.lt_irrefl,decide_false]); rfl)) (iWith_ok _ _ _ _ _ _ ?_ ?_ ?_ ?_) rfl (by first | ((simp (disch := omega) only [push_cast,seval,hv,hr,hK,hl0,hel,hcz,innL_EL,globE,renHeld,Nat.lt_irrefl,decide_false]); done) | ((simp (disch := omega) only [push_cast,seval,hv,hr,hK,hl0,hel,hcz,innL_EL,globE,renHeld,Nat.lt_irrefl,decide_false]); rfl)) (by (simp (disch := omega) only [push_cast,seval,hv,hr,hK,hl0,hel,hcz,innL_EL,globE,renHeld,Nat.lt_irrefl,decide_false]); done) (by omega) ?_; (iterate 4 (exact sd))))) <;> (try simp (disch := omega) only [push_cast,seval,hv,hr,hK,hl0,hel,hcz,innL_EL,globE,renHeld,Nat.lt_irrefl,decide_false]))
 | ((first | refine callD_of false ?_ | refine qcallD_of false ?_); simp (disch := omega) only [push_cast,seval,hv,hr,hK,hl0,hel,hcz,innL_EL,globE,renHeld,Nat.lt_irrefl,decide_false])
 | ((first | ((first | refine call0D (BCall.ofP (ivBu_ok _ _ _ _ ?_ ?_ ?_)) ?_ | refine qcall0D (BCall.ofP (ivBu_ok _ _ _ _ ?_ ?_ ?_)) ⟨_,_,rfl,rfl⟩ ?_); (iterate 3 (exact sd)); rintro _ _ ⟨rfl,rfl⟩) | ((first | refine call0D (BCall.ofP (validCount_ok _)) ?_ | refine qcall0D (BCall.ofP (validCount_ok _)) ⟨_,_,rfl,rfl⟩ ?_); rintro _ _ ⟨rfl,rfl⟩) | ((first | refine call0D (BCall.ofP (nodeP_ok _ _ _ _ _ ?_ ?_ ?_ ?_ ?_)) ?_ | refine qcall0D (BCall.ofP (nodeP_ok _ _ _ _ _ ?_ ?_ ?_ ?_ ?_)) ⟨_,_,rfl,rfl⟩ ?_); (iterate 5 (exact sd)); rintro _ _ ⟨rfl,rfl⟩) | ((first | refine call0D (BCall.ofP (held_ok _ _ ?_ ?_)) ?_ | refine qcall0D (BCall.ofP (held_ok _ _ ?_ ?_)) ⟨_,_,rfl,rfl⟩ ?_); (iterate 2 (exact sd)); rintro _ _ ⟨rfl,rfl⟩) | ((first | refine call0D (BCall.ofP (isHeld_ok _)) ?_ | refine qcall0D (BCall.ofP (isHeld_ok _)) ⟨_,_,rfl,rfl⟩ ?_); rintro _ _ ⟨rfl,rfl⟩) | ((first | refine call0D (iWithNo_ok _ _ _ _ ?_ ?_) ?_ | refine qcall0D (iWithNo_ok _ _ _ _ ?_ ?_) ⟨_,_,rfl,rfl⟩ ?_); (iterate 2 (exact sd)); rintro _ _ ⟨rfl,rfl⟩)) <;> (try simp (disch := omega) only [push_cast,seval,hv,hr,hK,hl0,hel,hcz,innL_EL,globE,renHeld,Nat.lt_irrefl,decide_false]))))
        refine awp_ret ⟨.inr rfl,?_⟩
        simp only [OBf,hzl]
        refine ret_famW (id0 := 384) (id1 := 496) (d := 31) (F := esF es) (cs := zz cs N) (bufT N es.length true) rfl rfl (fun _ _ _ _ e0 e1 => ren_bufT e0 e1) rfl rfl (fun j hj => ?_) (by omega)
        simp only [hk,fim_ne _ _ 64 (by omega),fim_ne _ _ 384 (by omega),fim_ne _ _ 496 (by omega),if_false]
        exact hk_famD_same 31 (esF es) _ j hj
      · have hl0 : 0 < L.length := by have := mt hroot.2 hk0; omega
        rw [decide_eq_false hk0]
        simp only [ifB_false]
        (repeat' (first
 | (first | refine awp_seq ?_ | refine awp_block ?_)
 | ((first | refine awp_reg ?_ | refine awp_draw (mid := l20r1a) (post := l20r1b) mixed (by decide) ?_ | refine awp_condB ?_ | refine awp_skip ?_ | refine awp_exit ?_); simp (disch := omega) only [push_cast,seval,l20r0,l20r1a,l20r1b,l20r1,l20r2,l20r3,l20r4,l20r5,hv,hr,hK,hl0,hel,innL_EL,globE,renHeld,decide_true])
 | ((first | refine condB_split (fun h => ?_) (fun h => ?_) | refine gIf_split (fun h => ?_) (fun h => ?_) | refine qIf_split (fun h => ?_) (fun h => ?_)) <;> (try simp only [h]) <;> (try simp only [bitvec_to_nat] at h) <;> (try simp only [h]) <;> (first | (exfalso; omega) | (focus (exfalso; simp_all; done)) | (simp (disch := omega) only [push_cast,seval,hv,hr,hK,hl0,hel,innL_EL,globE,renHeld,decide_true]) | skip))
 | ((first | ((with_reducible refine callE_of (f := 48) ?_); simp (disch := omega) only [push_cast,seval,hv,hr,hK,hl0,hel,innL_EL,globE,renHeld,decide_true]; (refine callFNH (by intro _ _; first | rfl | ((simp (disch := omega) only [push_cast,seval,hv,hr,hK,hl0,hel,innL_EL,globE,renHeld,decide_true]); done) | ((simp (disch := omega) only [push_cast,seval,hv,hr,hK,hl0,hel,innL_EL,globE,renHeld,decide_true]); rfl)) (iWith_ok _ _ _ _ _ _ ?_ ?_ ?_ ?_) rfl (by first | ((simp (disch := omega) only [push_cast,seval,hv,hr,hK,hl0,hel,innL_EL,globE,renHeld,decide_true]); done) | ((simp (disch := omega) only [push_cast,seval,hv,hr,hK,hl0,hel,innL_EL,globE,renHeld,decide_true]); rfl)) (by (simp (disch := omega) only [push_cast,seval,hv,hr,hK,hl0,hel,innL_EL,globE,renHeld,decide_true]); done) (by omega) ?_; (iterate 4 (exact sd))))) <;> (try simp (disch := omega) only [push_cast,seval,hv,hr,hK,hl0,hel,innL_EL,globE,renHeld,decide_true]))
 | ((first | refine callD_of false ?_ | refine qcallD_of false ?_); simp (disch := omega) only [push_cast,seval,hv,hr,hK,hl0,hel,innL_EL,globE,renHeld,decide_true])
 | ((first | ((first | refine call0D (BCall.ofP (ivBu_ok _ _ _ _ ?_ ?_ ?_)) ?_ | refine qcall0D (BCall.ofP (ivBu_ok _ _ _ _ ?_ ?_ ?_)) ⟨_,_,rfl,rfl⟩ ?_); (iterate 3 (exact sd)); rintro _ _ ⟨rfl,rfl⟩) | ((first | refine call0D (BCall.ofP (validCount_ok _)) ?_ | refine qcall0D (BCall.ofP (validCount_ok _)) ⟨_,_,rfl,rfl⟩ ?_); rintro _ _ ⟨rfl,rfl⟩) | ((first | refine call0D (BCall.ofP (nodeP_ok _ _ _ _ _ ?_ ?_ ?_ ?_ ?_)) ?_ | refine qcall0D (BCall.ofP (nodeP_ok _ _ _ _ _ ?_ ?_ ?_ ?_ ?_)) ⟨_,_,rfl,rfl⟩ ?_); (iterate 5 (exact sd)); rintro _ _ ⟨rfl,rfl⟩) | ((first | refine call0D (BCall.ofP (held_ok _ _ ?_ ?_)) ?_ | refine qcall0D (BCall.ofP (held_ok _ _ ?_ ?_)) ⟨_,_,rfl,rfl⟩ ?_); (iterate 2 (exact sd)); rintro _ _ ⟨rfl,rfl⟩) | ((first | refine call0D (BCall.ofP (isHeld_ok _)) ?_ | refine qcall0D (BCall.ofP (isHeld_ok _)) ⟨_,_,rfl,rfl⟩ ?_); rintro _ _ ⟨rfl,rfl⟩) | ((first | refine call0D (iWithNo_ok _ _ _ _ ?_ ?_) ?_ | refine qcall0D (iWithNo_ok _ _ _ _ ?_ ?_) ⟨_,_,rfl,rfl⟩ ?_); (iterate 2 (exact sd)); rintro _ _ ⟨rfl,rfl⟩)) <;> (try simp (disch := omega) only [push_cast,seval,hv,hr,hK,hl0,hel,innL_EL,globE,renHeld,decide_true]))
 | (refine awp_ret ⟨.inr rfl,[16000,16001],[(16000,1),(16001,5)],_,by decide,rfl,?_⟩; (try simp (disch := omega) only [push_cast,seval,↓allMem_nil,↓allMem_cons,↓List.map_cons,↓List.map_nil,hv,hr,hK,hl0,hel,innL_EL,globE,renHeld,decide_true]))))
        all_goals simp [OBf,mkE_nil]

end Go.Proofs.YtahdlohpncjdbaaDoor
