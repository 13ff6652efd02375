import Derived.Test.YtahdlohpncjdbaaDoorCKh15
import Derived.Test.YtahdlohpncjdbaaDoorCM1
import Derived.Test.YtahdlohpncjdbaaDoorCW3
set_option linter.unusedSimpArgs false
set_option linter.unusedVariables false
set_option maxRecDepth 4000
set_option maxHeartbeats 4000000
namespace Go.Proofs.YtahdlohpncjdbaaDoor
open VwM Vw Go
set_option linter.unusedSectionVars false
variable [SentA]



theorem vclone_ok (b : Int) (sh st : List Int) (n m : Nat) (hn : sh.length = n) (hm : st.length = m) (hb : n ≤ 1099511627776 ∧ m ≤ 1099511627776) : BCall Tryd.prog 71 [.agg [.int .i64 b,.rows false (IL sh) n,.rows false (IL st) m]] [] (OV b sh st) := by
  subst hn hm
  obtain ⟨hb1,hb2⟩ := hb
  refine bcall_of (pins := []) (pin := 0) l71_eq rfl rfl rfl ?_
  (repeat' (first
 | (first | refine awp_seq ?_ | refine awp_block ?_)
 | ((first | refine awp_reg ?_ | refine awp_draw (mid := l71r1a) (post := l71r1b) mixed (by decide) ?_ | refine awp_condB ?_ | refine awp_skip ?_ | refine awp_exit ?_); simp (disch := omega) only [push_cast,seval,l71r0,l71r1a,l71r1b,l71r1])
 | ((first | refine condB_split (fun h => ?_) (fun h => ?_) | refine gIf_split (fun h => ?_) (fun h => ?_) | refine qIf_split (fun h => ?_) (fun h => ?_)) <;> (try simp only [h]) <;> (try simp only [bitvec_to_nat] at h) <;> (try simp only [h]) <;> (first | (exfalso; omega) | (focus (exfalso; simp_all; done)) | (simp (disch := omega) only [push_cast,seval]) | skip))
 | ((first | refine callD_of false ?_ | refine qcallD_of false ?_); simp (disch := omega) only [push_cast,seval])
 | ((first | ((first | refine call0D (clone_ok _ _ ?_ ?_) ?_ | refine qcall0D (clone_ok _ _ ?_ ?_) ⟨_,_,rfl,rfl⟩ ?_); (iterate 2 (exact sd)); rintro _ _ ⟨rfl,rfl⟩)) <;> (try simp (disch := omega) only [push_cast,seval]))
 | (refine awp_ret ⟨.inr rfl,[112,160],[],_,by decide,rfl,?_⟩; (try simp (disch := omega) only [push_cast,seval,↓allMem_nil,↓allMem_cons,↓List.map_cons,↓List.map_nil]))))
  all_goals simp [OV]


set_option maxHeartbeats 16000000 in
theorem bclone_ok (cs : List Int) (es : List Ex) (m n : Nat) (hm : cs.length = m) (hn : es.length = n) (hb : m ≤ 1048576 ∧ n ≤ 1048576 ∧ exB 1048576 es) : BCall Tryd.prog 39 [.agg [.rows false (IL cs) m,.rows false (EL false es) n]] [] (fun r H' => r = .agg [.own 0 m 1,.own 1 n 5] ∧ H' = IL cs :: (esF es).cellsG (· + 2) :: (esF es).conts) := by
  subst hm hn
  obtain ⟨hb1,hb2,hb3⟩ := hb
  refine bcall_of (pins := []) (pin := 0) l39_eq rfl rfl rfl ?_
  have hel := EL_length false es
  (repeat' (first
 | (first | refine awp_seq ?_ | refine awp_block ?_)
 | ((first | refine awp_reg ?_ | refine awp_draw (mid := l39r5a) (post := l39r5b) mixed (by decide) ?_ | refine awp_condB ?_ | refine awp_skip ?_ | refine awp_exit ?_); simp (disch := omega) only [push_cast,seval,l39r0,l39r1,l39r2,l39r3,l39r4,l39r5a,l39r5b,l39r5,l39r6,l39r7,innL_EL,hel])
 | ((first | refine condB_split (fun h => ?_) (fun h => ?_) | refine gIf_split (fun h => ?_) (fun h => ?_) | refine qIf_split (fun h => ?_) (fun h => ?_)) <;> (try simp only [h]) <;> (try simp only [bitvec_to_nat] at h) <;> (try simp only [h]) <;> (first | (exfalso; omega) | (focus (exfalso; simp_all; done)) | (simp (disch := omega) only [push_cast,seval,innL_EL,hel]) | skip))
 | ((first | refine callD_of false ?_ | refine qcallD_of false ?_); simp (disch := omega) only [push_cast,seval,innL_EL,hel])
 | ((first | ((first | refine call0D (clone_ok _ _ ?_ ?_) ?_ | refine qcall0D (clone_ok _ _ ?_ ?_) ⟨_,_,rfl,rfl⟩ ?_); (iterate 2 (exact sd)); rintro _ _ ⟨rfl,rfl⟩) | ((first | refine call0D (vclone_ok _ _ _ _ _ ?_ ?_ ?_) ?_ | refine qcall0D (vclone_ok _ _ _ _ _ ?_ ?_ ?_) ⟨_,_,rfl,rfl⟩ ?_); (iterate 3 (exact sd)); rintro _ _ ⟨rfl,rfl⟩)) <;> (try simp (disch := omega) only [push_cast,seval,innL_EL,hel]))))
  refine awp_loopW (fun i : Nat => mkS [(2,.ref 32 2 0),(3,.ref 48 2 0),(11,.rows false (EL false es) es.length),(12,.int .i64 es.length),(13,.int .i64 i)] ([(32,[.val (.slice none 0 0),.val (.slice none 0 0)]),(48,[.own 128 cs.length 1,.own 448 i 5]),(128,IL cs),(448,cellN 7 es i)] ++ famR 7 (exR es) (i * 2))) (fun i => i ≤ es.length) (fun i => es.length - i) 0 (Nat.zero_le _) ?_ ?_
  · refine SubW.adoptH [48] 448 5 (by simp [Vw.hk]) (SubW.of ?_)
    have e0 : cellN 7 es 0 = [] := rfl
    have e1 : famR 7 (exR es) (0 * 2) = [] := rfl
    rw [e0,e1]
    simp only [adHL,List.map_cons,List.map_nil,adA,List.contains_cons,List.contains_nil]
    (refine Sub.of_lists ?_ ?_ ?_ ?_ ?_ <;> simp [Vw.mkS,Vw.lk,Vw.hk,AV.inn,innL,innL_ints,innL_append,innL_rep,-List.map_set,-List.getD_eq_getElem?_getD,innL_EL])
  · intro i hi
    by_cases hlt : i < es.length
    · obtain ⟨p,b,x,y,o,he⟩ := mem_ltH hlt
      have hbb := exB_get hb3 he
      have hd := EL_drop false es i he
      simp only at hd
      have hil : i * 5 + 5 ≤ es.length * 5 := by omega
      have hcl := cellN_length 7 es i
      obtain ⟨h0,h1,h2,hr0,hr1⟩ := ex_at he
      (repeat' (first
 | (first | refine awp_seq ?_ | refine awp_block ?_)
 | ((first | refine awp_reg ?_ | refine awp_draw (mid := l39r5a) (post := l39r5b) mixed (by decide) ?_ | refine awp_condB ?_ | refine awp_skip ?_ | refine awp_exit ?_); simp (disch := omega) only [push_cast,seval,l39r0,l39r1,l39r2,l39r3,l39r4,l39r5a,l39r5b,l39r5,l39r6,l39r7,hd,hel,hil,hcl,innL_EL,zcX])
 | ((first | refine condB_split (fun h => ?_) (fun h => ?_) | refine gIf_split (fun h => ?_) (fun h => ?_) | refine qIf_split (fun h => ?_) (fun h => ?_)) <;> (try simp only [h]) <;> (try simp only [bitvec_to_nat] at h) <;> (try simp only [h]) <;> (first | (exfalso; omega) | (focus (exfalso; simp_all; done)) | (simp (disch := omega) only [push_cast,seval,hd,hel,hil,hcl,innL_EL,zcX]) | skip))
 | ((first | refine callD_of false ?_ | refine qcallD_of false ?_); simp (disch := omega) only [push_cast,seval,hd,hel,hil,hcl,innL_EL,zcX])
 | ((first | ((first | refine call0D (clone_ok _ _ ?_ ?_) ?_ | refine qcall0D (clone_ok _ _ ?_ ?_) ⟨_,_,rfl,rfl⟩ ?_); (iterate 2 (exact sd)); rintro _ _ ⟨rfl,rfl⟩) | ((first | refine call0D (vclone_ok _ _ _ _ _ ?_ ?_ ?_) ?_ | refine qcall0D (vclone_ok _ _ _ _ _ ?_ ?_ ?_) ⟨_,_,rfl,rfl⟩ ?_); (iterate 3 (exact sd)); rintro _ _ ⟨rfl,rfl⟩)) <;> (try simp (disch := omega) only [push_cast,seval,hd,hel,hil,hcl,innL_EL,zcX]))))
      refine ⟨i + 1,by omega,by omega,?_⟩
      rw [show (i + 1) * 2 = i * 2 + 2 by omega]
      refine SubW.fam2L (a := 368) (b := 369) (d := 7) (i := i * 2) (rows := exR es) (L := [(32,[.val (.slice none 0 0),.val (.slice none 0 0)]),(48,[.own 128 cs.length 1,.own 448 (i + 1) 5]),(128,IL cs),(448,cellN 7 es (i + 1))]) ?_ ?_ ⟨by omega,by omega,by omega⟩ ?_ ?_ ?_ ?_ ?_
      · rw [hr0]; rfl
      · rw [hr1]; rfl
      · intro j hj
        simp only [hk,fim_ne _ _ 448 (by omega),fim_ne _ _ 368 (by omega),fim_ne _ _ 369 (by omega),fim_ne _ _ 432 (by omega),fim_ne _ _ 80 (by omega),fim_ne _ _ 32 (by omega),fim_ne _ _ 48 (by omega),fim_ne _ _ 128 (by omega),if_false]
        exact hk_famR_in _ _ _ _ hj
      · intro q hq
        simp only [List.mem_cons,List.not_mem_nil,or_false] at hq
        rcases hq with rfl | rfl | rfl | rfl
        · exact ⟨⟨by simp,by simp,by simp⟩,rfl⟩
        · refine ⟨⟨by simp,by simp,by simp⟩,?_⟩
          show some [AV.own (swp 369 (fim 7 (i * 2 + 1)) (swp 368 (fim 7 (i * 2)) 128)) cs.length 1,AV.own (swp 369 (fim 7 (i * 2 + 1)) (swp 368 (fim 7 (i * 2)) 448)) (i + 1) 5] = _
          rw [swpLow 368 7 _ 128 (by omega) (by omega),swpLow 368 7 _ 448 (by omega) (by omega),swpLow 369 7 _ 128 (by omega) (by omega),swpLow 369 7 _ 448 (by omega) (by omega)]
        · refine ⟨⟨by simp,by simp,by simp⟩,?_⟩
          show some (swL _ _ (swL _ _ (IL cs))) = _
          rw [swL_IL,swL_IL]
        · refine ⟨⟨by simp,by simp,by simp⟩,?_⟩
          exact congrArg some (cellN_succ (by omega) (by omega) (by omega) he)
      · simp [lk,AV.sw,swL_EL,swpLow]
      · simp [AV.inn,innL_EL,hk]
      · intro q hq
        simp only [List.mem_cons,List.not_mem_nil,or_false] at hq
        rcases hq with rfl | rfl | rfl | rfl
        · rfl
        · simp [innL,AV.inn,hk]
        · exact innL_IL _ _
        · exact cellN_inn fun j hj => by
            show (hk ((32,_) :: (48,_) :: (128,_) :: (448,_) :: famR 7 (exR es) (i * 2 + 2)) (fim 7 j)).isSome = true
            simp only [hk,fim_ne _ _ 448 (by omega),fim_ne _ _ 32 (by omega),fim_ne _ _ 48 (by omega),fim_ne _ _ 128 (by omega),if_false]
            rw [hk_famR_in _ _ _ _ (by omega)]; rfl
    · have e : i = es.length := by omega
      subst e
      (repeat' (first
 | (first | refine awp_seq ?_ | refine awp_block ?_)
 | ((first | refine awp_reg ?_ | refine awp_draw (mid := l39r5a) (post := l39r5b) mixed (by decide) ?_ | refine awp_condB ?_ | refine awp_skip ?_ | refine awp_exit ?_); simp (disch := omega) only [push_cast,seval,l39r0,l39r1,l39r2,l39r3,l39r4,l39r5a,l39r5b,l39r5,l39r6,l39r7,innL_EL])
 | ((first | refine condB_split (fun h => ?_) (fun h => ?_) | refine gIf_split (fun h => ?_) (fun h => ?_) | refine qIf_split (fun h => ?_) (fun h => ?_)) <;> (try simp only [h]) <;> (try simp only [bitvec_to_nat] at h) <;> (try simp only [h]) <;> (first | (exfalso; omega) | (focus (exfalso; simp_all; done)) | (simp (disch := omega) only [push_cast,seval,innL_EL]) | skip))
 | ((first | refine callD_of false ?_ | refine qcallD_of false ?_); simp (disch := omega) only [push_cast,seval,innL_EL])
 | ((first | ((first | refine call0D (clone_ok _ _ ?_ ?_) ?_ | refine qcall0D (clone_ok _ _ ?_ ?_) ⟨_,_,rfl,rfl⟩ ?_); (iterate 2 (exact sd)); rintro _ _ ⟨rfl,rfl⟩) | ((first | refine call0D (vclone_ok _ _ _ _ _ ?_ ?_ ?_) ?_ | refine qcall0D (vclone_ok _ _ _ _ _ ?_ ?_ ?_) ⟨_,_,rfl,rfl⟩ ?_); (iterate 3 (exact sd)); rintro _ _ ⟨rfl,rfl⟩)) <;> (try simp (disch := omega) only [push_cast,seval,innL_EL]))))
      refine awp_ret ⟨.inr rfl,ret_famB (id0 := 128) (id1 := 448) (d := 7) (F := esF es) (cs := cs) rfl rfl rfl ?_ (by omega)⟩
      intro j hj
      simp only [hk,fim_ne _ _ 448 (by omega),fim_ne _ _ 32 (by omega),fim_ne _ _ 48 (by omega),fim_ne _ _ 128 (by omega),if_false]
      exact hk_famR_in _ _ _ _ hj


set_option maxHeartbeats 16000000 in
theorem scB_ok (cs : List Int) (es : List Ex) (m n : Nat) (hm : cs.length = m) (hn : es.length = n) (hb : m ≤ 1099511627776 ∧ n ≤ 1099511627776 ∧ exB 1099511627776 es) : BCall Tryd.prog 32 [.agg [.rows false (IL cs) m,.rows false (EL false es) n]] [] (fun r H' => r = .agg [.own 0 m 1,.own 1 n 5] ∧ H' = [IL cs,EL true es]) := by
  subst hm hn
  obtain ⟨hb1,hb2,hb3⟩ := hb
  refine bcall_of (pins := []) (pin := 0) l32_eq rfl rfl rfl ?_
  have hel := EL_length false es
  (repeat' (first
 | (first | refine awp_seq ?_ | refine awp_block ?_)
 | ((first | refine awp_reg ?_ | refine awp_condB ?_ | refine awp_skip ?_ | refine awp_exit ?_); simp (disch := omega) only [push_cast,seval,l32r0,l32r1,l32r2,l32r3,l32r4,l32r5,l32r6,l32r7,l32r8,innL_EL,hel])
 | ((first | refine condB_split (fun h => ?_) (fun h => ?_) | refine gIf_split (fun h => ?_) (fun h => ?_) | refine qIf_split (fun h => ?_) (fun h => ?_)) <;> (try simp only [h]) <;> (try simp only [bitvec_to_nat] at h) <;> (try simp only [h]) <;> (first | (exfalso; omega) | (focus (exfalso; simp_all; done)) | (simp (disch := omega) only [push_cast,seval,innL_EL,hel]) | skip))
 | ((first | refine callD_of false ?_ | refine qcallD_of false ?_); simp (disch := omega) only [push_cast,seval,innL_EL,hel])
 | ((first | ((first | refine call0D (copyInts_ok _ _ ?_ ?_) ?_ | refine qcall0D (copyInts_ok _ _ ?_ ?_) ⟨_,_,rfl,rfl⟩ ?_); (iterate 2 (exact sd)); rintro _ _ ⟨rfl,rfl⟩) | ((first | refine call0D (scopyView_ok _ _ _ _ _ ?_ ?_ ?_) ?_ | refine qcall0D (scopyView_ok _ _ _ _ _ ?_ ?_ ?_) ⟨_,_,rfl,rfl⟩ ?_); (iterate 3 (exact sd)); rintro _ _ ⟨rfl,rfl⟩)) <;> (try simp (disch := omega) only [push_cast,seval,innL_EL,hel]))))
  refine awp_loopW (fun i : Nat => mkS [(1,.ref 16 2 0),(2,.ref 32 2 0),(3,.ref 48 2 0),(4,.int .i64 i)] [(16,[.rows false (IL cs) cs.length,.rows false (EL false es) es.length]),(32,[.rows true [] 0,.rows true [] 0]),(48,[.own 128 cs.length 1,.own 480 i 5]),(128,IL cs),(480,EL true (es.take i))]) (fun i => i ≤ es.length) (fun i => es.length - i) 0 (Nat.zero_le _) ?_ ?_
  · refine SubW.adoptH [48] 480 5 (by simp [Vw.hk]) ?_
    have e0 : EL true (es.take 0) = [] := rfl
    rw [e0]
    simp only [adHL,List.map_cons,List.map_nil,adA,List.contains_cons,List.contains_nil]
    refine SubW.freeze [] (fun _ h => by cases h) (SubW.of ?_)
    simp (disch := omega) only [push_cast,seval,frzA,frzH,rhoF,List.contains_cons,List.contains_nil,Bool.or_false,Bool.false_eq_true,List.map_append,List.map_cons,List.map_nil,List.length_map]
    (refine Sub.of_lists ?_ ?_ ?_ ?_ ?_ <;> simp [Vw.mkS,Vw.lk,Vw.hk,AV.inn,innL,innL_ints,innL_append,innL_rep,-List.map_set,-List.getD_eq_getElem?_getD,innL_EL])
  · intro i hi
    by_cases hlt : i < es.length
    · obtain ⟨p,b,x,y,o,he⟩ := mem_ltH hlt
      have hbb := exB_get hb3 he
      have hd := EL_drop false es i he
      simp only at hd
      have hil : i * 5 + 5 ≤ es.length * 5 := by omega
      have htl : (EL true (es.take i)).length = i * 5 := by rw [EL_length,List.length_take]; omega
      have hsu := EL_take true he
      simp only at hsu
      (repeat' (first
 | (first | refine awp_seq ?_ | refine awp_block ?_)
 | ((first | refine awp_reg ?_ | refine awp_condB ?_ | refine awp_skip ?_ | refine awp_exit ?_); simp (disch := omega) only [push_cast,seval,l32r0,l32r1,l32r2,l32r3,l32r4,l32r5,l32r6,l32r7,l32r8,hd,hel,hil,htl,innL_EL,zcX])
 | ((first | refine condB_split (fun h => ?_) (fun h => ?_) | refine gIf_split (fun h => ?_) (fun h => ?_) | refine qIf_split (fun h => ?_) (fun h => ?_)) <;> (try simp only [h]) <;> (try simp only [bitvec_to_nat] at h) <;> (try simp only [h]) <;> (first | (exfalso; omega) | (focus (exfalso; simp_all; done)) | (simp (disch := omega) only [push_cast,seval,hd,hel,hil,htl,innL_EL,zcX]) | skip))
 | ((first | refine callD_of false ?_ | refine qcallD_of false ?_); simp (disch := omega) only [push_cast,seval,hd,hel,hil,htl,innL_EL,zcX])
 | ((first | ((first | refine call0D (copyInts_ok _ _ ?_ ?_) ?_ | refine qcall0D (copyInts_ok _ _ ?_ ?_) ⟨_,_,rfl,rfl⟩ ?_); (iterate 2 (exact sd)); rintro _ _ ⟨rfl,rfl⟩) | ((first | refine call0D (scopyView_ok _ _ _ _ _ ?_ ?_ ?_) ?_ | refine qcall0D (scopyView_ok _ _ _ _ _ ?_ ?_ ?_) ⟨_,_,rfl,rfl⟩ ?_); (iterate 3 (exact sd)); rintro _ _ ⟨rfl,rfl⟩)) <;> (try simp (disch := omega) only [push_cast,seval,hd,hel,hil,htl,innL_EL,zcX]))))
      refine ⟨i + 1,by omega,by omega,?_⟩
      refine SubW.trans (s1 := mkS [(1,.ref 16 2 0),(2,.ref 32 2 0),(3,.ref 48 2 0),(4,.int .i64 ((i : Int) + 1))] [(16,[.rows false (IL cs) cs.length,.rows false (EL false es) es.length]),(32,[.rows true [] 0,.rows true [] 0]),(48,[.own 128 cs.length 1,.own 480 (i + 1) 5]),(128,IL cs),(480,EL true (es.take i) ++ [.int .i64 p,.int .i64 b,.own 384 x.length 1,.own 385 y.length 1,.bool o]),(384,IL x),(385,IL y)]) (SubW.of (by (refine Sub.of_lists ?_ ?_ ?_ ?_ ?_ <;> simp [Vw.mkS,Vw.lk,Vw.hk,AV.inn,innL,innL_ints,innL_append,innL_rep,-List.map_set,-List.getD_eq_getElem?_getD,innL_EL]))) ?_
      refine SubW.freeze [384,385] (by decide) (SubW.of ?_)
      simp (disch := omega) only [push_cast,seval,frzA,frzH,rhoF,List.contains_cons,List.contains_nil,Bool.or_false,Bool.false_eq_true,List.map_append,List.map_cons,List.map_nil,List.length_map]
      (refine Sub.of_lists ?_ ?_ ?_ ?_ ?_ <;> simp [Vw.mkS,Vw.lk,Vw.hk,AV.inn,innL,innL_ints,innL_append,innL_rep,-List.map_set,-List.getD_eq_getElem?_getD,innL_EL,hsu])
    · have e : i = es.length := by omega
      subst e
      (repeat' (first
 | (first | refine awp_seq ?_ | refine awp_block ?_)
 | ((first | refine awp_reg ?_ | refine awp_condB ?_ | refine awp_skip ?_ | refine awp_exit ?_); simp (disch := omega) only [push_cast,seval,l32r0,l32r1,l32r2,l32r3,l32r4,l32r5,l32r6,l32r7,l32r8,innL_EL,List.take_length])
 | ((first | refine condB_split (fun h => ?_) (fun h => ?_) | refine gIf_split (fun h => ?_) (fun h => ?_) | refine qIf_split (fun h => ?_) (fun h => ?_)) <;> (try simp only [h]) <;> (try simp only [bitvec_to_nat] at h) <;> (try simp only [h]) <;> (first | (exfalso; omega) | (focus (exfalso; simp_all; done)) | (simp (disch := omega) only [push_cast,seval,innL_EL,List.take_length]) | skip))
 | ((first | refine callD_of false ?_ | refine qcallD_of false ?_); simp (disch := omega) only [push_cast,seval,innL_EL,List.take_length])
 | ((first | ((first | refine call0D (copyInts_ok _ _ ?_ ?_) ?_ | refine qcall0D (copyInts_ok _ _ ?_ ?_) ⟨_,_,rfl,rfl⟩ ?_); (iterate 2 (exact sd)); rintro _ _ ⟨rfl,rfl⟩) | ((first | refine call0D (scopyView_ok _ _ _ _ _ ?_ ?_ ?_) ?_ | refine qcall0D (scopyView_ok _ _ _ _ _ ?_ ?_ ?_) ⟨_,_,rfl,rfl⟩ ?_); (iterate 3 (exact sd)); rintro _ _ ⟨rfl,rfl⟩)) <;> (try simp (disch := omega) only [push_cast,seval,innL_EL,List.take_length]))
 | (refine awp_ret ⟨.inr rfl,[128,480],[],_,by decide,rfl,?_⟩; (try simp (disch := omega) only [push_cast,seval,↓allMem_nil,↓allMem_cons,↓List.map_cons,↓List.map_nil,innL_EL,List.take_length]))))
      all_goals skip

end Go.Proofs.YtahdlohpncjdbaaDoor
