import Derived.Test.YtielfbmofoolbaaCKd2
import Derived.Test.YtielfbmofoolbaaCM1
import Derived.Test.YtielfbmofoolbaaCW3
set_option linter.unusedSimpArgs false
set_option linter.unusedVariables false
set_option maxRecDepth 4000
set_option maxHeartbeats 4000000
namespace Go.Proofs.Ytielfbmofoolbaa
open VwM Vw Go

theorem woJ_set {xs : List Int} {j : Nat} (x : Int) (h : j < xs.length) : wo (xs.set j x) j = wo xs j := by
  have hl : (xs.take j).length = j := by simp; omega
  rw [set_mid x h,wo,wo,List.take_left' hl,show xs.take j ++ x :: xs.drop (j + 1) = (xs.take j ++ [x]) ++ xs.drop (j + 1) by simp,List.drop_left' (by simp; omega)]
theorem wo_snoc {xs : List Int} {j : Nat} (y : Int) (h : j < xs.length) : wo (xs ++ [y]) j = wo xs j ++ [y] := by
  rw [wo,wo,List.take_append_of_le_length (by omega),List.drop_append_of_le_length (by omega),List.append_assoc]
theorem permL_last {xs : List Int} {j : Nat} (h : j < xs.length) : permL xs (wo (nums 0 1 xs.length) j ++ [(j : Int)]) = wo xs j ++ [xs.getD j 0] := by
  have e : permL xs (wo (nums 0 1 xs.length) j) = wo (permL xs (nums 0 1 xs.length)) j := by simp [permL,wo,List.map_take,List.map_drop]
  rw [permL_nums] at e
  rw [← e]
  unfold permL
  rw [List.map_append]
  rfl
theorem lastO_ord {n j : Nat} (h : j < n) : isOrd (wo (nums 0 1 n) j ++ [(j : Int)]) n := by
  have hl : j < (nums 0 1 n).length := by simpa using h
  have hg : (nums 0 1 n)[j] = (j : Int) := by
    have e := nums_getD 0 1 n j h
    rw [List.getD,List.getElem?_eq_getElem hl,Option.getD_some] at e
    rw [e]; omega
  have hp : (wo (nums 0 1 n) j ++ [(j : Int)]).Perm (nums 0 1 n) := by
    have e : nums 0 1 n = (nums 0 1 n).take j ++ (j : Int) :: (nums 0 1 n).drop (j + 1) := by
      rw [← hg,← List.drop_eq_getElem_cons hl,List.take_append_drop]
    rw [wo,List.append_assoc]
    refine List.Perm.trans ?_ (List.Perm.of_eq e.symm)
    exact (List.perm_append_singleton _ _).append_left _
  exact ⟨by rw [hp.length_eq]; simp,fun x hx => mem_nums01.1 ((hp.mem_iff).1 hx),(hp.nodup_iff).2 (nums_nodup n)⟩
theorem cutK_win {N i s : Int} (h : 0 ≤ i ∧ 1 ≤ s ∧ i + s ≤ N) : cutK N i (i + s) 1 true true = s.toNat ∧ sFrom i N 1 true = i := by
  have h1 : sFrom i N 1 true = i := by
    simp only [sFrom,endI,if_true]
    rw [if_neg (by decide),if_neg (by omega),if_neg (by decide)]
    omega
  have h2 : sTo (i + s) N 1 true = i + s := by
    simp only [sTo,endI,if_true]
    rw [if_neg (by decide),if_neg (by omega),if_neg (by decide)]
    omega
  refine ⟨?_,h1⟩
  unfold cutK
  rw [h1,h2,cntN_byOne]
  omega
theorem winSh_at {sh : List Int} {j : Nat} {s : Int} (hj : j < sh.length) : (winSh sh j s).getD j 0 = sh.getD j 0 - s + 1 := by
  have h : j < (sh.set j (sh.getD j 0 - s + 1)).length := by simpa using hj
  rw [winSh,List.getD,List.getElem?_append_left h,List.getElem?_set,if_pos rfl,if_pos hj]
  rfl
theorem winSt_at {st : List Int} {j : Nat} (hj : j < st.length) : (winSt st j).getD j 0 = st.getD j 0 := by
  rw [winSt,List.getD,List.getElem?_append_left hj]
  rfl
theorem win_same {b : Int} {sh st : List Int} {j : Nat} {s i : Int} (hv : vV b sh st = true) (hl : st.length = sh.length) (hj : j < sh.length) (hs : 1 ≤ s ∧ s ≤ sh.getD j 0) (hi : 0 ≤ i ∧ i ≤ sh.getD j 0 - s) (hw : vV b (winSh sh j s) (winSt st j) = true) :
    pkOk b (winSh sh j s) (winSt st j) j i = true ∧ sdOk b sh st j i (i + s) 1 true true = true ∧
    pmOk (cutB b sh st j i (i + s) 1 true true) (cutSh sh j i (i + s) 1 true true) (cutSt sh st j i (i + s) 1 true true) (wo (nums 0 1 sh.length) j ++ [(j : Int)]) = true ∧
    sameB (pkB b (winSh sh j s) (winSt st j) j i) (wo (winSh sh j s) j) (pkSt (winSh sh j s) (winSt st j) j) (cutB b sh st j i (i + s) 1 true true) (permL (cutSh sh j i (i + s) 1 true true) (wo (nums 0 1 sh.length) j ++ [(j : Int)])) (permL (cutSt sh st j i (i + s) 1 true true) (wo (nums 0 1 sh.length) j ++ [(j : Int)])) = true := by
  have hs0 := vSh_good (vV_spec.1 hv).1
  have hx60 := good4_at hs0.1 hj
  have hst := vSt_at (vV_spec.1 hv).2.1 hj
  obtain ⟨hK,hF⟩ := cutK_win (N := sh.getD j 0) (i := i) (s := s) (by omega)
  have hsn : ((s.toNat : Nat) : Int) = s := by omega
  have eA : wo (winSh sh j s) j = wo sh j ++ [s] := by rw [winSh,wo_snoc _ (by simpa using hj),woJ_set _ hj]
  have eB : wo (winSt st j) j = wo st j ++ [st.getD j 0] := by rw [winSt,wo_snoc _ (by omega)]
  have eg := winSh_at (s := s) hj
  have et := winSt_at (st := st) (j := j) (by omega)
  have hwl : (winSh sh j s).length = sh.length + 1 := by simp [winSh]
  have hjw : j < (winSh sh j s).length := by omega
  have hir : -((winSh sh j s).getD j 0) ≤ i ∧ i ≤ (winSh sh j s).getD j 0 - 1 := by rw [eg]; omega
  have hvp := vV_pick hw hjw hir
  have hss : vS i (i + s) 1 true true = true := vS_spec.2 ⟨by omega,by omega,by omega,by omega,.inl rfl,.inl rfl⟩
  have hvc := vV_cut (f := i) (t := i + s) (w := 1) (hf := true) (ht := true) hv hj hss
  have hcl := cutSh_length sh j i (i + s) 1 true true
  have hord := lastO_ord hj
  have hvt := vV_perm hvc (by rw [hcl]; exact hord)
  have eS : cutSh sh j i (i + s) 1 true true = sh.set j s := by unfold cutSh; rw [hK,hsn]
  have eSg : (sh.set j s).getD j 0 = s := by simp [List.getD,hj]
  have hpp : pr (sh.set j s) = pr (wo sh j) * s := by
    rw [pr_wo (xs := sh.set j s) (k := j) (by simpa using hj),woJ_set _ hj,eSg]
  have hpw : pr (wo sh j ++ [s]) = pr (wo sh j) * s := by rw [pr_app,pr_cons,pr_nil,Int.mul_one]
  have eP : permL (cutSh sh j i (i + s) 1 true true) (wo (nums 0 1 sh.length) j ++ [(j : Int)]) = wo sh j ++ [s] := by
    have := permL_last (xs := sh.set j s) (j := j) (by simpa using hj)
    rw [List.length_set,woJ_set _ hj,eSg] at this
    rw [eS,this]
  refine ⟨?_,?_,?_,?_⟩
  · simp only [pkOk,hw,Int.toNat_natCast,Bool.true_and]
    rw [decide_eq_true (by omega : (0 : Int) ≤ (j : Int)),decide_eq_true (by omega : (j : Int) ≤ ((winSh sh j s).length : Int) - 1),decide_eq_true hir.1,decide_eq_true hir.2]
    rfl
  · simp only [sdOk,hv,hss,hvc,Int.toNat_natCast,Bool.and_true,Bool.true_and]
    rw [decide_eq_true (by omega : (0 : Int) ≤ (j : Int)),decide_eq_true (by omega : (j : Int) ≤ (sh.length : Int) - 1)]
    rfl
  · have hm : (decide ((wo (nums 0 1 sh.length) j ++ [(j : Int)]).length = (cutSh sh j i (i + s) 1 true true).length) && allI (wo (nums 0 1 sh.length) j ++ [(j : Int)]) 0 (((cutSh sh j i (i + s) 1 true true).length : Int) - 1) && decide (wo (nums 0 1 sh.length) j ++ [(j : Int)]).Nodup) = true := by
      rw [hcl]
      simp only [Bool.and_eq_true,decide_eq_true_eq,allI_iff]
      exact ⟨⟨hord.1,hord.2.1⟩,hord.2.2⟩
    simp only [pmOk,hvc,hm,hvt,Bool.and_self]
  · have hoffs : offs (pkB b (winSh sh j s) (winSt st j) j i) (wo (winSh sh j s) j) (pkSt (winSh sh j s) (winSt st j) j) = offs (cutB b sh st j i (i + s) 1 true true) (permL (cutSh sh j i (i + s) 1 true true) (wo (nums 0 1 sh.length) j ++ [(j : Int)])) (permL (cutSt sh st j i (i + s) 1 true true) (wo (nums 0 1 sh.length) j ++ [(j : Int)])) := by
      rw [eP,eA]
      by_cases h0 : pr (wo sh j) = 0
      · rw [offs_none (by rw [hpw,h0,Int.zero_mul]),offs_none (by rw [hpw,h0,Int.zero_mul])]
      · have hne : ¬ pr (wo sh j) * s = 0 := Int.mul_ne_zero h0 (by omega)
        have eb1 : pkB b (winSh sh j s) (winSt st j) j i = b + i * st.getD j 0 := by
          unfold pkB
          rw [eA,et,stB,hpw,if_neg hne,pkQ,if_neg (by omega)]
        have et1 : pkSt (winSh sh j s) (winSt st j) j = wo st j ++ [st.getD j 0] := by
          unfold pkSt
          rw [eA,stE,hpw,if_neg hne,eB]
        have eb2 : cutB b sh st j i (i + s) 1 true true = b + i * st.getD j 0 := by
          unfold cutB
          rw [eS,hpp,if_neg hne,hK,hF,pS,if_neg (by omega)]
        have et2 : cutSt sh st j i (i + s) 1 true true = st.set j (cutX sh st j i (i + s) 1 true true) := by
          unfold cutSt
          rw [eS,hpp,if_neg hne]
        have eX : permL (st.set j (cutX sh st j i (i + s) 1 true true)) (wo (nums 0 1 sh.length) j ++ [(j : Int)]) = wo st j ++ [cutX sh st j i (i + s) 1 true true] := by
          have h1 : j < st.length := by omega
          have := permL_last (xs := st.set j (cutX sh st j i (i + s) 1 true true)) (j := j) (by simpa using h1)
          rw [List.length_set,hl,woJ_set _ h1,show (st.set j (cutX sh st j i (i + s) 1 true true)).getD j 0 = cutX sh st j i (i + s) 1 true true by simp [List.getD,h1]] at this
          exact this
        rw [eb1,et1,eb2,et2,eX]
        by_cases h1 : s = 1
        · subst h1
          have hW : (wo st j).length = (wo sh j).length := by simp [wo,hl]
          rw [← offs_drop (sh := wo sh j ++ [1]) (st := wo st j ++ [st.getD j 0]) (by simp [hW]),← offs_drop (sh := wo sh j ++ [1]) (st := wo st j ++ [cutX sh st j i (i + 1) 1 true true]) (by simp [hW])]
          congr 1
          exact (keepL_mid _ (st.getD j 0) (wo sh j) [] (wo st j) [] hW.symm).trans (keepL_mid _ (cutX sh st j i (i + 1) 1 true true) (wo sh j) [] (wo st j) [] hW.symm).symm
        · have : cutX sh st j i (i + s) 1 true true = st.getD j 0 := by
            unfold cutX
            rw [hK,if_neg (by omega),pC,if_neg (by omega),Int.one_mul]
          rw [this]
    have hvt' := hvt
    simp only [sameB,hvp,hvt,hoffs,Bool.true_and]
    rw [eP,eA]
    simp


set_option maxHeartbeats 16000000 in
theorem drawWn_ok (bs : List Int) (n : Nat) (hn : bs.length = n) (hb : n ≤ 1099511627776 ∧ ∀ x ∈ bs,0 ≤ x ∧ x ≤ 255) : BCall Try.prog 21 [.rows false (UL bs) n] [] (fun r H' => ∃ b sh st d i,(good4 sh ∧ st.length ≤ 5 ∧ -1000 ≤ i ∧ i ≤ 1000) ∧ r = .tup [.agg [.int .i64 b,.own 0 sh.length 1,.own 1 st.length 1],.int .i64 d,.int .i64 i] ∧ H' = [IL sh,IL st]) := by
  refine bcall_of (pins := []) (pin := 0) l21_eq rfl rfl rfl ?_
  (repeat' (first
 | (first | refine awp_seq ?_ | refine awp_block ?_)
 | ((first | refine awp_reg ?_ | refine awp_drawX (mid := l21r3a) (post := l21r3b) [144,32] mixed (by decide) ?_ | refine awp_condB ?_ | refine awp_skip ?_ | refine awp_exit ?_); simp (maxSteps := 400000) (disch := omega) only [push_cast,seval,l21r0,l21r1,l21r2,l21r3a,l21r3b,l21r3])
 | ((first | refine condB_split (fun h => ?_) (fun h => ?_) | refine gIf_split (fun h => ?_) (fun h => ?_) | refine qIf_split (fun h => ?_) (fun h => ?_)) <;> (try simp only [h]) <;> (try simp only [decide_eq_true_eq,decide_eq_false_iff_not,Bool.not_eq_true',Bool.not_eq_false',Bool.and_eq_true,Bool.or_eq_true,Bool.and_eq_false_iff,Bool.or_eq_false_iff,bne_iff_ne,ne_eq,beq_iff_eq,Bool.not_eq_true,Bool.not_eq_false] at h) <;> (try simp only [h]) <;> (first | (exfalso; omega) | (focus (exfalso; simp_all; done)) | (simp (maxSteps := 400000) (disch := omega) only [push_cast,seval]) | skip))
 | ((first | ((with_reducible refine callD_of (f := 27) true ?_); simp (maxSteps := 400000) (disch := omega) only [push_cast,seval]; (refine call0D (newReader_ok _ _ ?_ ?_) ?_; (iterate 2 (focus (first | assumption | rfl | omega | (simp <;> omega) | (simp_all <;> omega)))); rintro _ _ ⟨bs0,hbs0,rfl,rfl⟩)) | ((with_reducible refine callD_ids (f := 28) [144] true ?_); simp (maxSteps := 400000) (disch := omega) only [push_cast,seval]; (refine call1D (id := 144) (dimOfD_ok _ _ ?_ ?_) (by (simp (maxSteps := 400000) (disch := omega) only [push_cast,seval]); rfl) ?_; (iterate 2 (focus (first | assumption | rfl | omega | (simp <;> omega) | (simp_all <;> omega)))); rintro _ _ ⟨b,sh,st,d,q,⟨hl1,hl9,hl2⟩,hq,rfl,rfl⟩)) | ((with_reducible refine callD_ids (f := 29) (args := [Operand.tmp 17,Operand.tmp 18]) [144,288] true ?_); simp (maxSteps := 400000) (disch := omega) only [push_cast,seval]; (refine call2D (id := 144) (id' := 288) (by decide) (one_ok _ _ _ _ ?_ ?_ ?_ ?_ ?_) (by (simp (maxSteps := 400000) (disch := omega) only [push_cast,seval]); rfl) (by (simp (maxSteps := 400000) (disch := omega) only [push_cast,seval]); rfl) ?_; (iterate 5 (focus (first | assumption | rfl | omega | (simp <;> omega) | (simp_all <;> omega)))); rintro _ _ ⟨x,hx,hx0,rfl,rfl⟩)) | ((with_reducible refine callD_ids (f := 29) [144] true ?_); simp (maxSteps := 400000) (disch := omega) only [push_cast,seval]; (refine call1D (id := 144) (oneR_ok _ _ _ _ ?_ ?_ ?_ ?_ ?_) (by (simp (maxSteps := 400000) (disch := omega) only [push_cast,seval]); rfl) ?_; (iterate 5 (focus (first | assumption | rfl | omega | (simp <;> omega) | (simp_all <;> omega)))); rintro _ _ ⟨x,hx,hx0,rfl,rfl⟩)) | ((with_reducible refine qcallI_of (f := 29) [144] true ?_); simp (maxSteps := 400000) (disch := omega) only [push_cast,seval]; (refine qcall1D (id := 144) (oneR_ok _ _ _ _ ?_ ?_ ?_ ?_ ?_) (by (simp (maxSteps := 400000) (disch := omega) only [push_cast,seval]); rfl) (by decide) (by simp only [unI_cons,unI_nil];exact ⟨_,_,_,List.mem_cons_self,by omega,rfl,rfl⟩) ?_; (iterate 5 (focus (first | assumption | rfl | omega | (simp <;> omega) | (simp_all <;> omega)))); rintro _ _ ⟨x,hx,hx0,rfl,rfl⟩))) <;> (try simp (maxSteps := 400000) (disch := omega) only [push_cast,seval]))
 | (refine awp_ret ⟨.inr rfl,[192,193],[],_,by decide,rfl,?_⟩; (try simp (maxSteps := 400000) (disch := omega) only [push_cast,seval,↓allMem_nil,↓allMem_cons,↓List.map_cons,↓List.map_nil]))))
  exact ⟨_,_,_,_,_,⟨by assumption,by omega,by omega,by omega⟩,rfl,rfl⟩


set_option maxHeartbeats 16000000 in
theorem lFnWn_ok (bs : List Int) (hl : bs.length ≤ 9223372036854775807) (hb : ∀ x ∈ bs,0 ≤ x ∧ x ≤ 255) : PCall Try.prog 5 [.rows false (UL bs) bs.length] (fun r => r = .bool true) := by
  refine pcall_of l5_eq rfl ?_
  by_cases h : bs.length ≤ 1048576
  · have q : bs.length ≤ 1099511627776 ∧ ∀ x ∈ bs,0 ≤ x ∧ x ≤ 255 := ⟨by omega,hb⟩
    (repeat' (first
 | (refine awp_joinL (c1 := .reg l5r3) (fun x : Int × List Int × List Int × Int × Int => mkS [(3,.ref 48 3 0),(4,.int .i64 x.2.2.2.1),(5,.int .i64 x.2.2.2.2)] [(48,[.int .i64 x.1,.own 368 x.2.1.length 1,.own 369 x.2.2.1.length 1]),(368,IL x.2.1),(369,IL x.2.2.1)]) (fun x => good4 x.2.1 ∧ x.2.2.1.length ≤ 5 ∧ -1000 ≤ x.2.2.2.2 ∧ x.2.2.2.2 ≤ 1000) ?_ ?_)
 | (first | refine awp_seq ?_ | refine awp_block ?_)
 | ((first | refine awp_reg ?_ | refine awp_draw (mid := l5r17a) (post := l5r17b) mixed (by decide) ?_ | refine awp_condB ?_ | refine awp_skip ?_ | refine awp_exit ?_); simp (maxSteps := 400000) (disch := omega) only [push_cast,seval,l5r0,l5r1,l5r2,l5r3,l5r4,l5r5,l5r6,l5r7,l5r8,l5r9,l5r10,l5r11,l5r12,l5r13,l5r14,l5r15,l5r16,l5r17a,l5r17b,l5r17])
 | ((first | refine condB_split (fun h => ?_) (fun h => ?_) | refine gIf_split (fun h => ?_) (fun h => ?_) | refine qIf_split (fun h => ?_) (fun h => ?_)) <;> (try simp only [h]) <;> (try simp only [decide_eq_true_eq,decide_eq_false_iff_not,Bool.not_eq_true',Bool.not_eq_false',Bool.and_eq_true,Bool.or_eq_true,Bool.and_eq_false_iff,Bool.or_eq_false_iff,bne_iff_ne,ne_eq,beq_iff_eq,Bool.not_eq_true,Bool.not_eq_false] at h) <;> (try simp only [h]) <;> (first | (exfalso; omega) | (focus (exfalso; simp_all; done)) | (simp (maxSteps := 400000) (disch := omega) only [push_cast,seval]) | skip))
 | ((first | refine callD_of false ?_ | refine qcallD_of false ?_); simp (maxSteps := 400000) (disch := omega) only [push_cast,seval])
 | ((first | (refine call0D (drawWn_ok _ _ ?_ ?_) ?_; (iterate 2 (focus (first | assumption | rfl | omega | (simp <;> omega) | (simp_all <;> omega)))); rintro _ _ ⟨b,sh,st,d,i,⟨hl1,hl2,hi0⟩,rfl,rfl⟩) | ((first | refine call0D (iWindowsOf_ok _ _ _ _ _ _ _ ?_ ?_ ?_) ?_ | refine qcall0D (iWindowsOf_ok _ _ _ _ _ _ _ ?_ ?_ ?_) ⟨_,_,rfl,rfl⟩ ?_); (iterate 3 (focus (first | assumption | rfl | omega | (simp <;> omega) | (simp_all <;> omega)))); rintro _ _ ⟨rfl,rfl⟩) | ((first | refine call0D (sWindowsOf_ok _ _ _ _ _ _ _ ?_ ?_ ?_) ?_ | refine qcall0D (sWindowsOf_ok _ _ _ _ _ _ _ ?_ ?_ ?_) ⟨_,_,rfl,rfl⟩ ?_); (iterate 3 (focus (first | assumption | rfl | omega | (simp <;> omega) | (simp_all <;> omega)))); rintro _ _ ⟨rfl,rfl⟩) | ((first | refine call0D (BCall.ofP (equalViewL_ok _ _ _ _ _ _ _ _ _ _ ?_ ?_ ?_ ?_ ?_)) ?_ | refine qcall0D (BCall.ofP (equalViewL_ok _ _ _ _ _ _ _ _ _ _ ?_ ?_ ?_ ?_ ?_)) ⟨_,_,rfl,rfl⟩ ?_); (iterate 5 (focus (first | assumption | rfl | omega | (simp <;> omega) | (simp_all <;> omega)))); rintro _ _ ⟨rfl,rfl⟩) | ((first | refine call0D (iPickDim_ok _ _ _ _ _ _ _ ?_ ?_ ?_ ?_) ?_ | refine qcall0D (iPickDim_ok _ _ _ _ _ _ _ ?_ ?_ ?_ ?_) ⟨_,_,rfl,rfl⟩ ?_); (iterate 4 (focus (first | assumption | rfl | omega | (simp <;> omega) | (simp_all <;> omega)))); rintro _ _ ⟨rfl,rfl⟩) | ((first | refine call0D (iSliceDim_ok _ _ _ _ _ _ _ _ _ _ _ ?_ ?_ ?_) ?_ | refine qcall0D (iSliceDim_ok _ _ _ _ _ _ _ _ _ _ _ ?_ ?_ ?_) ⟨_,_,rfl,rfl⟩ ?_); (iterate 3 (focus (first | assumption | rfl | omega | (simp <;> omega) | (simp_all <;> omega)))); rintro _ _ ⟨rfl,rfl⟩) | ((first | refine call0D (upToL_ok _ ?_) ?_ | refine qcall0D (upToL_ok _ ?_) ⟨_,_,rfl,rfl⟩ ?_); (focus (first | assumption | rfl | omega | (simp <;> omega) | (simp_all <;> omega))); rintro _ _ ⟨rfl,rfl⟩) | ((first | refine call0D (lwithout_ok _ _ _ ?_ ?_) ?_ | refine qcall0D (lwithout_ok _ _ _ ?_ ?_) ⟨_,_,rfl,rfl⟩ ?_); (iterate 2 (focus (first | assumption | rfl | omega | (simp <;> omega) | (simp_all <;> omega)))); rintro _ _ ⟨rfl,rfl⟩) | ((first | refine call0D (iPermuteDims_ok _ _ _ _ _ _ _ ?_ ?_ ?_ ?_) ?_ | refine qcall0D (iPermuteDims_ok _ _ _ _ _ _ _ ?_ ?_ ?_ ?_) ⟨_,_,rfl,rfl⟩ ?_); (iterate 4 (focus (first | assumption | rfl | omega | (simp <;> omega) | (simp_all <;> omega)))); rintro _ _ ⟨rfl,rfl⟩) | ((first | refine call0D (BCall.ofP (iSameView_ok _ _ _ _ _ _ _ _ _ _ ?_ ?_ ?_ ?_ ?_)) ?_ | refine qcall0D (BCall.ofP (iSameView_ok _ _ _ _ _ _ _ _ _ _ ?_ ?_ ?_ ?_ ?_)) ⟨_,_,rfl,rfl⟩ ?_); (iterate 5 (focus (first | assumption | rfl | omega | (simp <;> omega) | (simp_all <;> omega)))); rintro _ _ ⟨rfl,rfl⟩)) <;> (try simp (maxSteps := 400000) (disch := omega) only [push_cast,seval]))
 | (refine awp_ret ⟨.inr rfl,_,rfl,?_⟩; (try simp (maxSteps := 400000) (disch := omega) only [push_cast,seval]))))
    · (refine exSub5 (Sub.of_eqs rfl rfl ?_ ?_ ?_) ?_; (focus (simp [Vw.mkS,Vw.lk,Vw.hk,AV.inn,innL,innL_ints,innL_append,innL_rep,-List.map_set,-List.getD_eq_getElem?_getD]; done)); (focus (simp [AV.inn,innL,Vw.hk]; done)); (focus (simp [AV.inn,innL,innL_ints,innL_append,innL_rep,Vw.hk]; done)); (try simp only); (first | omega | (refine ⟨?_,?_⟩ <;> first | assumption | omega) | (refine ⟨?_,?_,?_⟩ <;> first | assumption | omega) | (refine ⟨?_,?_,?_,?_⟩ <;> first | assumption | omega)))
    · refine ⟨?_⟩
      rintro ⟨b,sh,st,d,s⟩ ⟨hl1,hl2,hi1,hi2⟩
      try simp only at hl1 hl2 hi1 hi2 ⊢
      have hl0 := hl1.2
      have hq : sh.length ≤ 1099511627776 ∧ st.length ≤ 1099511627776 := by omega
      cases hV : wnOk b sh st d s with
 | false =>
        have hAl : (MVL false (winSh sh d.toNat s)).length = 0 := rfl
        have hCl : (MVL false (winSt st d.toNat)).length = 0 := rfl
        generalize hA : MVL false (winSh sh d.toNat s) = A at *
        generalize hC : MVL false (winSt st d.toNat) = C at *
        generalize hB : MVB false b = B at *
        have q1 : (A.length ≤ 1099511627776 ∧ C.length ≤ 1099511627776) ∧ A.length ≤ 1099511627776 ∧ C.length ≤ 1099511627776 := by omega
        (repeat' (first
 | (first | refine awp_seq ?_ | refine awp_block ?_)
 | ((first | refine awp_reg ?_ | refine awp_draw (mid := l5r17a) (post := l5r17b) mixed (by decide) ?_ | refine awp_condB ?_ | refine awp_skip ?_ | refine awp_exit ?_); simp (maxSteps := 400000) (disch := omega) only [push_cast,seval,l5r0,l5r1,l5r2,l5r3,l5r4,l5r5,l5r6,l5r7,l5r8,l5r9,l5r10,l5r11,l5r12,l5r13,l5r14,l5r15,l5r16,l5r17a,l5r17b,l5r17,hV,hA,hB,hC,decide_true,Bool.and_self])
 | ((first | refine condB_split (fun h => ?_) (fun h => ?_) | refine gIf_split (fun h => ?_) (fun h => ?_) | refine qIf_split (fun h => ?_) (fun h => ?_)) <;> (try simp only [h]) <;> (try simp only [decide_eq_true_eq,decide_eq_false_iff_not,Bool.not_eq_true',Bool.not_eq_false',Bool.and_eq_true,Bool.or_eq_true,Bool.and_eq_false_iff,Bool.or_eq_false_iff,bne_iff_ne,ne_eq,beq_iff_eq,Bool.not_eq_true,Bool.not_eq_false] at h) <;> (try simp only [h]) <;> (first | (exfalso; omega) | (focus (exfalso; simp_all; done)) | (simp (maxSteps := 400000) (disch := omega) only [push_cast,seval,hV,hA,hB,hC,decide_true,Bool.and_self]) | skip))
 | ((first | refine callD_of false ?_ | refine qcallD_of false ?_); simp (maxSteps := 400000) (disch := omega) only [push_cast,seval,hV,hA,hB,hC,decide_true,Bool.and_self])
 | ((first | (refine call0D (drawWn_ok _ _ ?_ ?_) ?_; (iterate 2 (focus (first | assumption | rfl | omega | (simp <;> omega) | (simp_all <;> omega)))); rintro _ _ ⟨b,sh,st,d,i,⟨hl1,hl2,hi0⟩,rfl,rfl⟩) | ((first | refine call0D (iWindowsOf_ok _ _ _ _ _ _ _ ?_ ?_ ?_) ?_ | refine qcall0D (iWindowsOf_ok _ _ _ _ _ _ _ ?_ ?_ ?_) ⟨_,_,rfl,rfl⟩ ?_); (iterate 3 (focus (first | assumption | rfl | omega | (simp <;> omega) | (simp_all <;> omega)))); rintro _ _ ⟨rfl,rfl⟩) | ((first | refine call0D (sWindowsOf_ok _ _ _ _ _ _ _ ?_ ?_ ?_) ?_ | refine qcall0D (sWindowsOf_ok _ _ _ _ _ _ _ ?_ ?_ ?_) ⟨_,_,rfl,rfl⟩ ?_); (iterate 3 (focus (first | assumption | rfl | omega | (simp <;> omega) | (simp_all <;> omega)))); rintro _ _ ⟨rfl,rfl⟩) | ((first | refine call0D (BCall.ofP (equalViewL_ok _ _ _ _ _ _ _ _ _ _ ?_ ?_ ?_ ?_ ?_)) ?_ | refine qcall0D (BCall.ofP (equalViewL_ok _ _ _ _ _ _ _ _ _ _ ?_ ?_ ?_ ?_ ?_)) ⟨_,_,rfl,rfl⟩ ?_); (iterate 5 (focus (first | assumption | rfl | omega | (simp <;> omega) | (simp_all <;> omega)))); rintro _ _ ⟨rfl,rfl⟩) | ((first | refine call0D (iPickDim_ok _ _ _ _ _ _ _ ?_ ?_ ?_ ?_) ?_ | refine qcall0D (iPickDim_ok _ _ _ _ _ _ _ ?_ ?_ ?_ ?_) ⟨_,_,rfl,rfl⟩ ?_); (iterate 4 (focus (first | assumption | rfl | omega | (simp <;> omega) | (simp_all <;> omega)))); rintro _ _ ⟨rfl,rfl⟩) | ((first | refine call0D (iSliceDim_ok _ _ _ _ _ _ _ _ _ _ _ ?_ ?_ ?_) ?_ | refine qcall0D (iSliceDim_ok _ _ _ _ _ _ _ _ _ _ _ ?_ ?_ ?_) ⟨_,_,rfl,rfl⟩ ?_); (iterate 3 (focus (first | assumption | rfl | omega | (simp <;> omega) | (simp_all <;> omega)))); rintro _ _ ⟨rfl,rfl⟩) | ((first | refine call0D (upToL_ok _ ?_) ?_ | refine qcall0D (upToL_ok _ ?_) ⟨_,_,rfl,rfl⟩ ?_); (focus (first | assumption | rfl | omega | (simp <;> omega) | (simp_all <;> omega))); rintro _ _ ⟨rfl,rfl⟩) | ((first | refine call0D (lwithout_ok _ _ _ ?_ ?_) ?_ | refine qcall0D (lwithout_ok _ _ _ ?_ ?_) ⟨_,_,rfl,rfl⟩ ?_); (iterate 2 (focus (first | assumption | rfl | omega | (simp <;> omega) | (simp_all <;> omega)))); rintro _ _ ⟨rfl,rfl⟩) | ((first | refine call0D (iPermuteDims_ok _ _ _ _ _ _ _ ?_ ?_ ?_ ?_) ?_ | refine qcall0D (iPermuteDims_ok _ _ _ _ _ _ _ ?_ ?_ ?_ ?_) ⟨_,_,rfl,rfl⟩ ?_); (iterate 4 (focus (first | assumption | rfl | omega | (simp <;> omega) | (simp_all <;> omega)))); rintro _ _ ⟨rfl,rfl⟩) | ((first | refine call0D (BCall.ofP (iSameView_ok _ _ _ _ _ _ _ _ _ _ ?_ ?_ ?_ ?_ ?_)) ?_ | refine qcall0D (BCall.ofP (iSameView_ok _ _ _ _ _ _ _ _ _ _ ?_ ?_ ?_ ?_ ?_)) ⟨_,_,rfl,rfl⟩ ?_); (iterate 5 (focus (first | assumption | rfl | omega | (simp <;> omega) | (simp_all <;> omega)))); rintro _ _ ⟨rfl,rfl⟩)) <;> (try simp (maxSteps := 400000) (disch := omega) only [push_cast,seval,hV,hA,hB,hC,decide_true,Bool.and_self]))
 | (refine awp_ret ⟨.inr rfl,_,rfl,?_⟩; (try simp (maxSteps := 400000) (disch := omega) only [push_cast,seval,hV,hA,hB,hC,decide_true,Bool.and_self]))))
        all_goals (try simp)
 | true =>
        have hV' := hV
        simp only [wnOk,Bool.and_eq_true,decide_eq_true_eq] at hV'
        obtain ⟨⟨⟨hv,hd1,hd2⟩,hs1,hs2⟩,hw⟩ := hV'
        obtain ⟨j,rfl⟩ : ∃ j : Nat,d = j := ⟨d.toNat,by omega⟩
        rw [Int.toNat_natCast] at hs2 hw
        have hj : j < sh.length := by omega
        have hlen := (okV_valid hv).2
        have hx60 := good4_at (vSh_good (vV_spec.1 hv).1).1 hj
        have hW := fun (i : Int) (hi : 0 ≤ i ∧ i ≤ sh.getD j 0 - s) => win_same hv hlen hj ⟨hs1,hs2⟩ hi hw
        have hwl : (winSh sh j s).length = sh.length + 1 := by simp [winSh]
        have hwt : (winSt st j).length = st.length + 1 := by simp [winSt]
        have eg := winSh_at (s := s) hj
        have lo : (wo (nums 0 1 sh.length) j).length = sh.length - 1 := by rw [wo_length (by simpa using hj)]; simp
        have ln := nums_length 0 1 sh.length
        have eL : ∀ l,MVL true l = l := fun _ => rfl
        have eB : ∀ x,MVB true x = x := fun _ => rfl
        generalize hA : winSh sh j s = A at *
        generalize hC : winSt st j = C at *
        have q1 : (A.length ≤ 1099511627776 ∧ C.length ≤ 1099511627776) ∧ A.length ≤ 1099511627776 ∧ C.length ≤ 1099511627776 := by omega
        have q2 : A.length ≤ 1099511627776 ∧ C.length ≤ 1099511627776 := by omega
        have hjA : j < A.length := by omega
        have hn1 : 1 ≤ sh.getD j 0 - s + 1 := by omega
        (repeat' (first
 | (first | refine awp_seq ?_ | refine awp_block ?_)
 | ((first | refine awp_reg ?_ | refine awp_draw (mid := l5r17a) (post := l5r17b) mixed (by decide) ?_ | refine awp_condB ?_ | refine awp_skip ?_ | refine awp_exit ?_); simp (maxSteps := 400000) (disch := omega) only [push_cast,seval,l5r0,l5r1,l5r2,l5r3,l5r4,l5r5,l5r6,l5r7,l5r8,l5r9,l5r10,l5r11,l5r12,l5r13,l5r14,l5r15,l5r16,l5r17a,l5r17b,l5r17,hV,eL,eB,hA,hC,Int.toNat_natCast,decide_true,Bool.and_self])
 | ((first | refine condB_split (fun h => ?_) (fun h => ?_) | refine gIf_split (fun h => ?_) (fun h => ?_) | refine qIf_split (fun h => ?_) (fun h => ?_)) <;> (try simp only [h]) <;> (try simp only [decide_eq_true_eq,decide_eq_false_iff_not,Bool.not_eq_true',Bool.not_eq_false',Bool.and_eq_true,Bool.or_eq_true,Bool.and_eq_false_iff,Bool.or_eq_false_iff,bne_iff_ne,ne_eq,beq_iff_eq,Bool.not_eq_true,Bool.not_eq_false] at h) <;> (try simp only [h]) <;> (first | (exfalso; omega) | (focus (exfalso; simp_all; done)) | (simp (maxSteps := 400000) (disch := omega) only [push_cast,seval,hV,eL,eB,hA,hC,Int.toNat_natCast,decide_true,Bool.and_self]) | skip))
 | ((first | refine callD_of false ?_ | refine qcallD_of false ?_); simp (maxSteps := 400000) (disch := omega) only [push_cast,seval,hV,eL,eB,hA,hC,Int.toNat_natCast,decide_true,Bool.and_self])
 | ((first | (refine call0D (drawWn_ok _ _ ?_ ?_) ?_; (iterate 2 (focus (first | assumption | rfl | omega | (simp <;> omega) | (simp_all <;> omega)))); rintro _ _ ⟨b,sh,st,d,i,⟨hl1,hl2,hi0⟩,rfl,rfl⟩) | ((first | refine call0D (iWindowsOf_ok _ _ _ _ _ _ _ ?_ ?_ ?_) ?_ | refine qcall0D (iWindowsOf_ok _ _ _ _ _ _ _ ?_ ?_ ?_) ⟨_,_,rfl,rfl⟩ ?_); (iterate 3 (focus (first | assumption | rfl | omega | (simp <;> omega) | (simp_all <;> omega)))); rintro _ _ ⟨rfl,rfl⟩) | ((first | refine call0D (sWindowsOf_ok _ _ _ _ _ _ _ ?_ ?_ ?_) ?_ | refine qcall0D (sWindowsOf_ok _ _ _ _ _ _ _ ?_ ?_ ?_) ⟨_,_,rfl,rfl⟩ ?_); (iterate 3 (focus (first | assumption | rfl | omega | (simp <;> omega) | (simp_all <;> omega)))); rintro _ _ ⟨rfl,rfl⟩) | ((first | refine call0D (BCall.ofP (equalViewL_ok _ _ _ _ _ _ _ _ _ _ ?_ ?_ ?_ ?_ ?_)) ?_ | refine qcall0D (BCall.ofP (equalViewL_ok _ _ _ _ _ _ _ _ _ _ ?_ ?_ ?_ ?_ ?_)) ⟨_,_,rfl,rfl⟩ ?_); (iterate 5 (focus (first | assumption | rfl | omega | (simp <;> omega) | (simp_all <;> omega)))); rintro _ _ ⟨rfl,rfl⟩) | ((first | refine call0D (iPickDim_ok _ _ _ _ _ _ _ ?_ ?_ ?_ ?_) ?_ | refine qcall0D (iPickDim_ok _ _ _ _ _ _ _ ?_ ?_ ?_ ?_) ⟨_,_,rfl,rfl⟩ ?_); (iterate 4 (focus (first | assumption | rfl | omega | (simp <;> omega) | (simp_all <;> omega)))); rintro _ _ ⟨rfl,rfl⟩) | ((first | refine call0D (iSliceDim_ok _ _ _ _ _ _ _ _ _ _ _ ?_ ?_ ?_) ?_ | refine qcall0D (iSliceDim_ok _ _ _ _ _ _ _ _ _ _ _ ?_ ?_ ?_) ⟨_,_,rfl,rfl⟩ ?_); (iterate 3 (focus (first | assumption | rfl | omega | (simp <;> omega) | (simp_all <;> omega)))); rintro _ _ ⟨rfl,rfl⟩) | ((first | refine call0D (upToL_ok _ ?_) ?_ | refine qcall0D (upToL_ok _ ?_) ⟨_,_,rfl,rfl⟩ ?_); (focus (first | assumption | rfl | omega | (simp <;> omega) | (simp_all <;> omega))); rintro _ _ ⟨rfl,rfl⟩) | ((first | refine call0D (lwithout_ok _ _ _ ?_ ?_) ?_ | refine qcall0D (lwithout_ok _ _ _ ?_ ?_) ⟨_,_,rfl,rfl⟩ ?_); (iterate 2 (focus (first | assumption | rfl | omega | (simp <;> omega) | (simp_all <;> omega)))); rintro _ _ ⟨rfl,rfl⟩) | ((first | refine call0D (iPermuteDims_ok _ _ _ _ _ _ _ ?_ ?_ ?_ ?_) ?_ | refine qcall0D (iPermuteDims_ok _ _ _ _ _ _ _ ?_ ?_ ?_ ?_) ⟨_,_,rfl,rfl⟩ ?_); (iterate 4 (focus (first | assumption | rfl | omega | (simp <;> omega) | (simp_all <;> omega)))); rintro _ _ ⟨rfl,rfl⟩) | ((first | refine call0D (BCall.ofP (iSameView_ok _ _ _ _ _ _ _ _ _ _ ?_ ?_ ?_ ?_ ?_)) ?_ | refine qcall0D (BCall.ofP (iSameView_ok _ _ _ _ _ _ _ _ _ _ ?_ ?_ ?_ ?_ ?_)) ⟨_,_,rfl,rfl⟩ ?_); (iterate 5 (focus (first | assumption | rfl | omega | (simp <;> omega) | (simp_all <;> omega)))); rintro _ _ ⟨rfl,rfl⟩)) <;> (try simp (maxSteps := 400000) (disch := omega) only [push_cast,seval,hV,eL,eB,hA,hC,Int.toNat_natCast,decide_true,Bool.and_self]))
 | (refine awp_ret ⟨.inr rfl,_,rfl,?_⟩; (try simp (maxSteps := 400000) (disch := omega) only [push_cast,seval,hV,eL,eB,hA,hC,Int.toNat_natCast,decide_true,Bool.and_self]))))
        refine awp_loop (fun k : Nat => mkS [(3,.ref 48 3 0),(4,.int .i64 j),(5,.int .i64 s),(6,.ref 96 3 0),(10,.int .i64 k)] [(48,[.int .i64 b,.own 368 sh.length 1,.own 369 st.length 1]),(368,IL sh),(369,IL st),(96,[.int .i64 b,.own 496 A.length 1,.own 497 C.length 1]),(496,IL A),(497,IL C)]) (fun k => (k : Int) ≤ sh.getD j 0 - s + 1) (fun k => (sh.getD j 0 - s + 1).toNat - k) 0 (by show ((0 : Nat) : Int) ≤ _; omega) ?_ ?_
        · (refine Sub.of_lists ?_ ?_ ?_ ?_ ?_ <;> simp [Vw.mkS,Vw.lk,Vw.hk,AV.inn,innL,innL_ints,innL_append,innL_rep,-List.map_set,-List.getD_eq_getElem?_getD])
        · intro k hk
          by_cases hlt : (k : Int) < sh.getD j 0 - s + 1
          · obtain ⟨w1,w2,w3,w4⟩ := hW k (by omega)
            have hcl1 := cutSh_length sh j k (k + s) 1 true true
            have hcl2 := cutSt_length (by omega) j k (k + s) 1 true true (sh := sh) (st := st)
            have q3 : (cutSh sh j k (k + s) 1 true true).length ≤ 1099511627776 ∧ (cutSt sh st j k (k + s) 1 true true).length ≤ 1099511627776 := by omega
            have hk64 : -9223372036854775808 ≤ (k : Int) ∧ (k : Int) ≤ 9223372036854775807 := by omega
            have hO : (wo (nums 0 1 sh.length) j ++ [(j : Int)]).length = sh.length := by simp [lo]; omega
            have pl1 := permL_length (cutSh sh j k (k + s) 1 true true) (wo (nums 0 1 sh.length) j ++ [(j : Int)])
            have pl2 := permL_length (cutSt sh st j k (k + s) 1 true true) (wo (nums 0 1 sh.length) j ++ [(j : Int)])
            have hWA : (wo A j).length = A.length - 1 := wo_length hjA
            have hWC : (pkSt A C j).length = A.length - 1 := by unfold pkSt; rw [stE_length (by simp [wo]; omega)]; exact hWA
            have eO : List.map (AV.int .i64) (wo (nums 0 1 sh.length) j) ++ [AV.int .i64 (j : Int)] = List.map (AV.int .i64) (wo (nums 0 1 sh.length) j ++ [(j : Int)]) := by simp
            generalize hOO : wo (nums 0 1 sh.length) j ++ [(j : Int)] = O at *
            generalize hB2 : cutB b sh st j k (k + s) 1 true true = B2 at *
            generalize hS2 : cutSh sh j k (k + s) 1 true true = S2 at *
            generalize hT2 : cutSt sh st j k (k + s) 1 true true = T2 at *
            generalize hS3 : permL S2 O = S3 at *
            generalize hT3 : permL T2 O = T3 at *
            generalize hB1 : pkB b A C j k = B1 at *
            generalize hW1 : wo A j = W1 at *
            generalize hT1 : pkSt A C j = T1 at *
            have q5 : (S2.length ≤ 1099511627776 ∧ T2.length ≤ 1099511627776) ∧ O.length ≤ 1099511627776 := by omega
            have q6 : (W1.length ≤ 1099511627776 ∧ T1.length ≤ 1099511627776) ∧ S3.length ≤ 1099511627776 ∧ T3.length ≤ 1099511627776 := by omega
            have q7 : j < (nums 0 1 sh.length).length ∧ (nums 0 1 sh.length).length ≤ 1099511627776 := by omega
            clear hW hw hv
            (repeat' (first
 | (first | refine awp_seq ?_ | refine awp_block ?_)
 | ((first | refine awp_reg ?_ | refine awp_draw (mid := l5r17a) (post := l5r17b) mixed (by decide) ?_ | refine awp_condB ?_ | refine awp_skip ?_ | refine awp_exit ?_); simp (maxSteps := 400000) (disch := omega) only [push_cast,seval,l5r0,l5r1,l5r2,l5r3,l5r4,l5r5,l5r6,l5r7,l5r8,l5r9,l5r10,l5r11,l5r12,l5r13,l5r14,l5r15,l5r16,l5r17a,l5r17b,l5r17,hA,hC,eg,eL,eB,eO,hB2,hS2,hT2,hS3,hT3,hB1,hW1,hT1,w1,w2,w3,w4,Int.toNat_natCast,decide_true,Bool.and_self])
 | ((first | refine condB_split (fun h => ?_) (fun h => ?_) | refine gIf_split (fun h => ?_) (fun h => ?_) | refine qIf_split (fun h => ?_) (fun h => ?_)) <;> (try simp only [h]) <;> (try simp only [decide_eq_true_eq,decide_eq_false_iff_not,Bool.not_eq_true',Bool.not_eq_false',Bool.and_eq_true,Bool.or_eq_true,Bool.and_eq_false_iff,Bool.or_eq_false_iff,bne_iff_ne,ne_eq,beq_iff_eq,Bool.not_eq_true,Bool.not_eq_false] at h) <;> (try simp only [h]) <;> (first | (exfalso; omega) | (focus (exfalso; simp_all; done)) | (simp (maxSteps := 400000) (disch := omega) only [push_cast,seval,hA,hC,eg,eL,eB,eO,hB2,hS2,hT2,hS3,hT3,hB1,hW1,hT1,w1,w2,w3,w4,Int.toNat_natCast,decide_true,Bool.and_self]) | skip))
 | ((first | refine callD_of false ?_ | refine qcallD_of false ?_); simp (maxSteps := 400000) (disch := omega) only [push_cast,seval,hA,hC,eg,eL,eB,eO,hB2,hS2,hT2,hS3,hT3,hB1,hW1,hT1,w1,w2,w3,w4,Int.toNat_natCast,decide_true,Bool.and_self])
 | ((first | (refine call0D (drawWn_ok _ _ ?_ ?_) ?_; (iterate 2 (focus (first | assumption | rfl | omega | (simp <;> omega) | (simp_all <;> omega)))); rintro _ _ ⟨b,sh,st,d,i,⟨hl1,hl2,hi0⟩,rfl,rfl⟩) | ((first | refine call0D (iWindowsOf_ok _ _ _ _ _ _ _ ?_ ?_ ?_) ?_ | refine qcall0D (iWindowsOf_ok _ _ _ _ _ _ _ ?_ ?_ ?_) ⟨_,_,rfl,rfl⟩ ?_); (iterate 3 (focus (first | assumption | rfl | omega | (simp <;> omega) | (simp_all <;> omega)))); rintro _ _ ⟨rfl,rfl⟩) | ((first | refine call0D (sWindowsOf_ok _ _ _ _ _ _ _ ?_ ?_ ?_) ?_ | refine qcall0D (sWindowsOf_ok _ _ _ _ _ _ _ ?_ ?_ ?_) ⟨_,_,rfl,rfl⟩ ?_); (iterate 3 (focus (first | assumption | rfl | omega | (simp <;> omega) | (simp_all <;> omega)))); rintro _ _ ⟨rfl,rfl⟩) | ((first | refine call0D (BCall.ofP (equalViewL_ok _ _ _ _ _ _ _ _ _ _ ?_ ?_ ?_ ?_ ?_)) ?_ | refine qcall0D (BCall.ofP (equalViewL_ok _ _ _ _ _ _ _ _ _ _ ?_ ?_ ?_ ?_ ?_)) ⟨_,_,rfl,rfl⟩ ?_); (iterate 5 (focus (first | assumption | rfl | omega | (simp <;> omega) | (simp_all <;> omega)))); rintro _ _ ⟨rfl,rfl⟩) | ((first | refine call0D (iPickDim_ok _ _ _ _ _ _ _ ?_ ?_ ?_ ?_) ?_ | refine qcall0D (iPickDim_ok _ _ _ _ _ _ _ ?_ ?_ ?_ ?_) ⟨_,_,rfl,rfl⟩ ?_); (iterate 4 (focus (first | assumption | rfl | omega | (simp <;> omega) | (simp_all <;> omega)))); rintro _ _ ⟨rfl,rfl⟩) | ((first | refine call0D (iSliceDim_ok _ _ _ _ _ _ _ _ _ _ _ ?_ ?_ ?_) ?_ | refine qcall0D (iSliceDim_ok _ _ _ _ _ _ _ _ _ _ _ ?_ ?_ ?_) ⟨_,_,rfl,rfl⟩ ?_); (iterate 3 (focus (first | assumption | rfl | omega | (simp <;> omega) | (simp_all <;> omega)))); rintro _ _ ⟨rfl,rfl⟩) | ((first | refine call0D (upToL_ok _ ?_) ?_ | refine qcall0D (BCall.ofP (plainI (upToL_ok _ ?_))) ⟨_,_,rfl,rfl⟩ ?_); (focus (first | assumption | rfl | omega | (simp <;> omega) | (simp_all <;> omega))); rintro _ _ ⟨rfl,rfl⟩) | ((first | refine call0D (lwithout_ok _ _ _ ?_ ?_) ?_ | refine qcall0D (BCall.ofP (plainI (lwithout_ok _ _ _ ?_ ?_))) ⟨_,_,rfl,rfl⟩ ?_); (iterate 2 (focus (first | assumption | rfl | omega | (simp <;> omega) | (simp_all <;> omega)))); rintro _ _ ⟨rfl,rfl⟩) | ((first | refine call0D (iPermuteDims_ok _ _ _ _ _ _ _ ?_ ?_ ?_ ?_) ?_ | refine qcall0D (iPermuteDims_ok _ _ _ _ _ _ _ ?_ ?_ ?_ ?_) ⟨_,_,rfl,rfl⟩ ?_); (iterate 4 (focus (first | assumption | rfl | omega | (simp <;> omega) | (simp_all <;> omega)))); rintro _ _ ⟨rfl,rfl⟩) | ((first | refine call0D (BCall.ofP (iSameView_ok _ _ _ _ _ _ _ _ _ _ ?_ ?_ ?_ ?_ ?_)) ?_ | refine qcall0D (BCall.ofP (iSameView_ok _ _ _ _ _ _ _ _ _ _ ?_ ?_ ?_ ?_ ?_)) ⟨_,_,rfl,rfl⟩ ?_); (iterate 5 (focus (first | assumption | rfl | omega | (simp <;> omega) | (simp_all <;> omega)))); rintro _ _ ⟨rfl,rfl⟩)) <;> (try simp (maxSteps := 400000) (disch := omega) only [push_cast,seval,hA,hC,eg,eL,eB,eO,hB2,hS2,hT2,hS3,hT3,hB1,hW1,hT1,w1,w2,w3,w4,Int.toNat_natCast,decide_true,Bool.and_self]))
 | (refine awp_ret ⟨.inr rfl,_,rfl,?_⟩; (try simp (maxSteps := 400000) (disch := omega) only [push_cast,seval,hA,hC,eg,eL,eB,eO,hB2,hS2,hT2,hS3,hT3,hB1,hW1,hT1,w1,w2,w3,w4,Int.toNat_natCast,decide_true,Bool.and_self]))))
            refine ⟨k + 1,by omega,by omega,?_⟩
            (refine Sub.of_lists ?_ ?_ ?_ ?_ ?_ <;> simp [Vw.mkS,Vw.lk,Vw.hk,AV.inn,innL,innL_ints,innL_append,innL_rep,-List.map_set,-List.getD_eq_getElem?_getD])
          · have hke : (k : Int) = sh.getD j 0 - s + 1 := by omega
            (repeat' (first
 | (first | refine awp_seq ?_ | refine awp_block ?_)
 | ((first | refine awp_reg ?_ | refine awp_draw (mid := l5r17a) (post := l5r17b) mixed (by decide) ?_ | refine awp_condB ?_ | refine awp_skip ?_ | refine awp_exit ?_); simp (maxSteps := 400000) (disch := omega) only [push_cast,seval,l5r0,l5r1,l5r2,l5r3,l5r4,l5r5,l5r6,l5r7,l5r8,l5r9,l5r10,l5r11,l5r12,l5r13,l5r14,l5r15,l5r16,l5r17a,l5r17b,l5r17,eg,hke,decide_true])
 | ((first | refine condB_split (fun h => ?_) (fun h => ?_) | refine gIf_split (fun h => ?_) (fun h => ?_) | refine qIf_split (fun h => ?_) (fun h => ?_)) <;> (try simp only [h]) <;> (try simp only [decide_eq_true_eq,decide_eq_false_iff_not,Bool.not_eq_true',Bool.not_eq_false',Bool.and_eq_true,Bool.or_eq_true,Bool.and_eq_false_iff,Bool.or_eq_false_iff,bne_iff_ne,ne_eq,beq_iff_eq,Bool.not_eq_true,Bool.not_eq_false] at h) <;> (try simp only [h]) <;> (first | (exfalso; omega) | (focus (exfalso; simp_all; done)) | (simp (maxSteps := 400000) (disch := omega) only [push_cast,seval,eg,hke,decide_true]) | skip))
 | ((first | refine callD_of false ?_ | refine qcallD_of false ?_); simp (maxSteps := 400000) (disch := omega) only [push_cast,seval,eg,hke,decide_true])
 | ((first | (refine call0D (drawWn_ok _ _ ?_ ?_) ?_; (iterate 2 (focus (first | assumption | rfl | omega | (simp <;> omega) | (simp_all <;> omega)))); rintro _ _ ⟨b,sh,st,d,i,⟨hl1,hl2,hi0⟩,rfl,rfl⟩) | ((first | refine call0D (iWindowsOf_ok _ _ _ _ _ _ _ ?_ ?_ ?_) ?_ | refine qcall0D (iWindowsOf_ok _ _ _ _ _ _ _ ?_ ?_ ?_) ⟨_,_,rfl,rfl⟩ ?_); (iterate 3 (focus (first | assumption | rfl | omega | (simp <;> omega) | (simp_all <;> omega)))); rintro _ _ ⟨rfl,rfl⟩) | ((first | refine call0D (sWindowsOf_ok _ _ _ _ _ _ _ ?_ ?_ ?_) ?_ | refine qcall0D (sWindowsOf_ok _ _ _ _ _ _ _ ?_ ?_ ?_) ⟨_,_,rfl,rfl⟩ ?_); (iterate 3 (focus (first | assumption | rfl | omega | (simp <;> omega) | (simp_all <;> omega)))); rintro _ _ ⟨rfl,rfl⟩) | ((first | refine call0D (BCall.ofP (equalViewL_ok _ _ _ _ _ _ _ _ _ _ ?_ ?_ ?_ ?_ ?_)) ?_ | refine qcall0D (BCall.ofP (equalViewL_ok _ _ _ _ _ _ _ _ _ _ ?_ ?_ ?_ ?_ ?_)) ⟨_,_,rfl,rfl⟩ ?_); (iterate 5 (focus (first | assumption | rfl | omega | (simp <;> omega) | (simp_all <;> omega)))); rintro _ _ ⟨rfl,rfl⟩) | ((first | refine call0D (iPickDim_ok _ _ _ _ _ _ _ ?_ ?_ ?_ ?_) ?_ | refine qcall0D (iPickDim_ok _ _ _ _ _ _ _ ?_ ?_ ?_ ?_) ⟨_,_,rfl,rfl⟩ ?_); (iterate 4 (focus (first | assumption | rfl | omega | (simp <;> omega) | (simp_all <;> omega)))); rintro _ _ ⟨rfl,rfl⟩) | ((first | refine call0D (iSliceDim_ok _ _ _ _ _ _ _ _ _ _ _ ?_ ?_ ?_) ?_ | refine qcall0D (iSliceDim_ok _ _ _ _ _ _ _ _ _ _ _ ?_ ?_ ?_) ⟨_,_,rfl,rfl⟩ ?_); (iterate 3 (focus (first | assumption | rfl | omega | (simp <;> omega) | (simp_all <;> omega)))); rintro _ _ ⟨rfl,rfl⟩) | ((first | refine call0D (upToL_ok _ ?_) ?_ | refine qcall0D (upToL_ok _ ?_) ⟨_,_,rfl,rfl⟩ ?_); (focus (first | assumption | rfl | omega | (simp <;> omega) | (simp_all <;> omega))); rintro _ _ ⟨rfl,rfl⟩) | ((first | refine call0D (lwithout_ok _ _ _ ?_ ?_) ?_ | refine qcall0D (lwithout_ok _ _ _ ?_ ?_) ⟨_,_,rfl,rfl⟩ ?_); (iterate 2 (focus (first | assumption | rfl | omega | (simp <;> omega) | (simp_all <;> omega)))); rintro _ _ ⟨rfl,rfl⟩) | ((first | refine call0D (iPermuteDims_ok _ _ _ _ _ _ _ ?_ ?_ ?_ ?_) ?_ | refine qcall0D (iPermuteDims_ok _ _ _ _ _ _ _ ?_ ?_ ?_ ?_) ⟨_,_,rfl,rfl⟩ ?_); (iterate 4 (focus (first | assumption | rfl | omega | (simp <;> omega) | (simp_all <;> omega)))); rintro _ _ ⟨rfl,rfl⟩) | ((first | refine call0D (BCall.ofP (iSameView_ok _ _ _ _ _ _ _ _ _ _ ?_ ?_ ?_ ?_ ?_)) ?_ | refine qcall0D (BCall.ofP (iSameView_ok _ _ _ _ _ _ _ _ _ _ ?_ ?_ ?_ ?_ ?_)) ⟨_,_,rfl,rfl⟩ ?_); (iterate 5 (focus (first | assumption | rfl | omega | (simp <;> omega) | (simp_all <;> omega)))); rintro _ _ ⟨rfl,rfl⟩)) <;> (try simp (maxSteps := 400000) (disch := omega) only [push_cast,seval,eg,hke,decide_true]))
 | (refine awp_ret ⟨.inr rfl,_,rfl,?_⟩; (try simp (maxSteps := 400000) (disch := omega) only [push_cast,seval,eg,hke,decide_true]))))
            all_goals (try simp)
  · (repeat' (first
 | (first | refine awp_seq ?_ | refine awp_block ?_)
 | ((first | refine awp_reg ?_ | refine awp_draw (mid := l5r17a) (post := l5r17b) mixed (by decide) ?_ | refine awp_condB ?_ | refine awp_skip ?_ | refine awp_exit ?_); simp (maxSteps := 400000) (disch := omega) only [push_cast,seval,l5r0,l5r1,l5r2,l5r3,l5r4,l5r5,l5r6,l5r7,l5r8,l5r9,l5r10,l5r11,l5r12,l5r13,l5r14,l5r15,l5r16,l5r17a,l5r17b,l5r17])
 | ((first | refine condB_split (fun h => ?_) (fun h => ?_) | refine gIf_split (fun h => ?_) (fun h => ?_) | refine qIf_split (fun h => ?_) (fun h => ?_)) <;> (try simp only [h]) <;> (try simp only [decide_eq_true_eq,decide_eq_false_iff_not,Bool.not_eq_true',Bool.not_eq_false',Bool.and_eq_true,Bool.or_eq_true,Bool.and_eq_false_iff,Bool.or_eq_false_iff,bne_iff_ne,ne_eq,beq_iff_eq,Bool.not_eq_true,Bool.not_eq_false] at h) <;> (try simp only [h]) <;> (first | (exfalso; omega) | (focus (exfalso; simp_all; done)) | (simp (maxSteps := 400000) (disch := omega) only [push_cast,seval]) | skip))
 | ((first | refine callD_of false ?_ | refine qcallD_of false ?_); simp (maxSteps := 400000) (disch := omega) only [push_cast,seval])
 | ((first | (refine call0D (drawWn_ok _ _ ?_ ?_) ?_; (iterate 2 (focus (first | assumption | rfl | omega | (simp <;> omega) | (simp_all <;> omega)))); rintro _ _ ⟨b,sh,st,d,i,⟨hl1,hl2,hi0⟩,rfl,rfl⟩) | ((first | refine call0D (iWindowsOf_ok _ _ _ _ _ _ _ ?_ ?_ ?_) ?_ | refine qcall0D (iWindowsOf_ok _ _ _ _ _ _ _ ?_ ?_ ?_) ⟨_,_,rfl,rfl⟩ ?_); (iterate 3 (focus (first | assumption | rfl | omega | (simp <;> omega) | (simp_all <;> omega)))); rintro _ _ ⟨rfl,rfl⟩) | ((first | refine call0D (sWindowsOf_ok _ _ _ _ _ _ _ ?_ ?_ ?_) ?_ | refine qcall0D (sWindowsOf_ok _ _ _ _ _ _ _ ?_ ?_ ?_) ⟨_,_,rfl,rfl⟩ ?_); (iterate 3 (focus (first | assumption | rfl | omega | (simp <;> omega) | (simp_all <;> omega)))); rintro _ _ ⟨rfl,rfl⟩) | ((first | refine call0D (BCall.ofP (equalViewL_ok _ _ _ _ _ _ _ _ _ _ ?_ ?_ ?_ ?_ ?_)) ?_ | refine qcall0D (BCall.ofP (equalViewL_ok _ _ _ _ _ _ _ _ _ _ ?_ ?_ ?_ ?_ ?_)) ⟨_,_,rfl,rfl⟩ ?_); (iterate 5 (focus (first | assumption | rfl | omega | (simp <;> omega) | (simp_all <;> omega)))); rintro _ _ ⟨rfl,rfl⟩) | ((first | refine call0D (iPickDim_ok _ _ _ _ _ _ _ ?_ ?_ ?_ ?_) ?_ | refine qcall0D (iPickDim_ok _ _ _ _ _ _ _ ?_ ?_ ?_ ?_) ⟨_,_,rfl,rfl⟩ ?_); (iterate 4 (focus (first | assumption | rfl | omega | (simp <;> omega) | (simp_all <;> omega)))); rintro _ _ ⟨rfl,rfl⟩) | ((first | refine call0D (iSliceDim_ok _ _ _ _ _ _ _ _ _ _ _ ?_ ?_ ?_) ?_ | refine qcall0D (iSliceDim_ok _ _ _ _ _ _ _ _ _ _ _ ?_ ?_ ?_) ⟨_,_,rfl,rfl⟩ ?_); (iterate 3 (focus (first | assumption | rfl | omega | (simp <;> omega) | (simp_all <;> omega)))); rintro _ _ ⟨rfl,rfl⟩) | ((first | refine call0D (upToL_ok _ ?_) ?_ | refine qcall0D (upToL_ok _ ?_) ⟨_,_,rfl,rfl⟩ ?_); (focus (first | assumption | rfl | omega | (simp <;> omega) | (simp_all <;> omega))); rintro _ _ ⟨rfl,rfl⟩) | ((first | refine call0D (lwithout_ok _ _ _ ?_ ?_) ?_ | refine qcall0D (lwithout_ok _ _ _ ?_ ?_) ⟨_,_,rfl,rfl⟩ ?_); (iterate 2 (focus (first | assumption | rfl | omega | (simp <;> omega) | (simp_all <;> omega)))); rintro _ _ ⟨rfl,rfl⟩) | ((first | refine call0D (iPermuteDims_ok _ _ _ _ _ _ _ ?_ ?_ ?_ ?_) ?_ | refine qcall0D (iPermuteDims_ok _ _ _ _ _ _ _ ?_ ?_ ?_ ?_) ⟨_,_,rfl,rfl⟩ ?_); (iterate 4 (focus (first | assumption | rfl | omega | (simp <;> omega) | (simp_all <;> omega)))); rintro _ _ ⟨rfl,rfl⟩) | ((first | refine call0D (BCall.ofP (iSameView_ok _ _ _ _ _ _ _ _ _ _ ?_ ?_ ?_ ?_ ?_)) ?_ | refine qcall0D (BCall.ofP (iSameView_ok _ _ _ _ _ _ _ _ _ _ ?_ ?_ ?_ ?_ ?_)) ⟨_,_,rfl,rfl⟩ ?_); (iterate 5 (focus (first | assumption | rfl | omega | (simp <;> omega) | (simp_all <;> omega)))); rintro _ _ ⟨rfl,rfl⟩)) <;> (try simp (maxSteps := 400000) (disch := omega) only [push_cast,seval]))
 | (refine awp_ret ⟨.inr rfl,_,rfl,?_⟩; (try simp (maxSteps := 400000) (disch := omega) only [push_cast,seval]))))

end Go.Proofs.Ytielfbmofoolbaa
