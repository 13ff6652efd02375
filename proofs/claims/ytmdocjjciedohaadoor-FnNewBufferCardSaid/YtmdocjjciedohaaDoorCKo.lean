import Derived.Test.YtmdocjjciedohaaDoorCKf
import Derived.Test.YtmdocjjciedohaaDoorCM1
set_option linter.unusedSimpArgs false
set_option linter.unusedVariables false
set_option maxRecDepth 4000
set_option maxHeartbeats 4000000
namespace Go.Proofs.YtmdocjjciedohaaDoor
open VwM Vw Go

theorem validStrides_ok (st : List Int) (n : Nat) (d : Nat) (hn : st.length = n) (hb : n ≤ 1099511627776) : PCall Tryd.prog 31 [.rows false (IL st) n,.int .i64 d] (fun r => r = .bool (vSt st d)) := by
  subst hn
  refine pcall_of l31_eq rfl ?_
  by_cases hd : st.length = d
  · subst hd
    (repeat' (first
 | (first | refine awp_seq ?_ | refine awp_block ?_)
 | ((first | refine awp_reg ?_ | refine awp_condB ?_ | refine awp_skip ?_ | refine awp_exit ?_); simp (disch := omega) only [push_cast,seval,l31r0,l31r1,l31r2,l31r3,l31r4,l31r5,l31r6,l31r7,l31r8,l31r9])
 | ((first | refine condB_split (fun h => ?_) (fun h => ?_) | refine gIf_split (fun h => ?_) (fun h => ?_) | refine qIf_split (fun h => ?_) (fun h => ?_)) <;> (try simp only [h]) <;> (try simp only [bitvec_to_nat] at h) <;> (try simp only [h]) <;> (first | (exfalso; omega) | (focus (exfalso; simp_all; done)) | (simp (disch := omega) only [push_cast,seval]) | skip))
 | ((first | refine callD_of false ?_ | refine qcallD_of false ?_); simp (disch := omega) only [push_cast,seval])
 | ((first | ((first | refine call0D (BCall.ofP (within_ok _ _ ?_ ?_)) ?_ | refine qcall0D (BCall.ofP (within_ok _ _ ?_ ?_)) ⟨_,_,rfl,rfl⟩ ?_); (iterate 2 (exact sd)); rintro _ _ ⟨rfl,rfl⟩)) <;> (try simp (disch := omega) only [push_cast,seval]))
 | (refine awp_ret ⟨.inr rfl,_,rfl,?_⟩; (try simp (disch := omega) only [push_cast,seval]))))
    refine awp_loop (fun k : Nat => mkS [(11,RI st),(12,.int .i64 st.length),(13,.int .i64 k)] []) (fun k => k ≤ st.length ∧ ∀ j : Nat,j < k → -60 ≤ st.getD j 0 ∧ st.getD j 0 ≤ 60) (fun k => st.length - k) 0 ⟨Nat.zero_le _,fun j h => absurd h (Nat.not_lt_zero _)⟩ ?_ ?_
    · (refine Sub.of_lists ?_ ?_ ?_ ?_ ?_ <;> simp [Vw.mkS,Vw.lk,Vw.hk,AV.inn,innL,innL_ints,innL_append,innL_rep,-List.map_set,-List.getD_eq_getElem?_getD])
    · rintro k ⟨hk,hj⟩
      by_cases hlt : k < st.length
      · (repeat' (first
 | (first | refine awp_seq ?_ | refine awp_block ?_)
 | ((first | refine awp_reg ?_ | refine awp_condB ?_ | refine awp_skip ?_ | refine awp_exit ?_); simp (disch := omega) only [push_cast,seval,l31r0,l31r1,l31r2,l31r3,l31r4,l31r5,l31r6,l31r7,l31r8,l31r9])
 | ((first | refine condB_split (fun h => ?_) (fun h => ?_) | refine gIf_split (fun h => ?_) (fun h => ?_) | refine qIf_split (fun h => ?_) (fun h => ?_)) <;> (try simp only [h]) <;> (try simp only [bitvec_to_nat] at h) <;> (try simp only [h]) <;> (first | (exfalso; omega) | (focus (exfalso; simp_all; done)) | (simp (disch := omega) only [push_cast,seval]) | skip))
 | ((first | refine callD_of false ?_ | refine qcallD_of false ?_); simp (disch := omega) only [push_cast,seval])
 | ((first | ((first | refine call0D (BCall.ofP (within_ok _ _ ?_ ?_)) ?_ | refine qcall0D (BCall.ofP (within_ok _ _ ?_ ?_)) ⟨_,_,rfl,rfl⟩ ?_); (iterate 2 (exact sd)); rintro _ _ ⟨rfl,rfl⟩)) <;> (try simp (disch := omega) only [push_cast,seval]))
 | (refine awp_ret ⟨.inr rfl,_,rfl,?_⟩; (try simp (disch := omega) only [push_cast,seval]))))
        · have : allI st (-60) 60 = false := allI_false (j := k) hlt (by omega)
          simp [vSt,this]
        · refine ⟨k + 1,⟨by omega,fun j h => ?_⟩,by omega,?_⟩
          · by_cases hjk : j = k
            · subst hjk; assumption
            · exact hj j (by omega)
          · (refine Sub.of_lists ?_ ?_ ?_ ?_ ?_ <;> simp [Vw.mkS,Vw.lk,Vw.hk,AV.inn,innL,innL_ints,innL_append,innL_rep,-List.map_set,-List.getD_eq_getElem?_getD])
      · have ha : allI st (-60) 60 = true := allI_getD fun j h => hj j (by omega)
        (repeat' (first
 | (first | refine awp_seq ?_ | refine awp_block ?_)
 | ((first | refine awp_reg ?_ | refine awp_condB ?_ | refine awp_skip ?_ | refine awp_exit ?_); simp (disch := omega) only [push_cast,seval,l31r0,l31r1,l31r2,l31r3,l31r4,l31r5,l31r6,l31r7,l31r8,l31r9])
 | ((first | refine condB_split (fun h => ?_) (fun h => ?_) | refine gIf_split (fun h => ?_) (fun h => ?_) | refine qIf_split (fun h => ?_) (fun h => ?_)) <;> (try simp only [h]) <;> (try simp only [bitvec_to_nat] at h) <;> (try simp only [h]) <;> (first | (exfalso; omega) | (focus (exfalso; simp_all; done)) | (simp (disch := omega) only [push_cast,seval]) | skip))
 | ((first | refine callD_of false ?_ | refine qcallD_of false ?_); simp (disch := omega) only [push_cast,seval])
 | ((first | ((first | refine call0D (BCall.ofP (within_ok _ _ ?_ ?_)) ?_ | refine qcall0D (BCall.ofP (within_ok _ _ ?_ ?_)) ⟨_,_,rfl,rfl⟩ ?_); (iterate 2 (exact sd)); rintro _ _ ⟨rfl,rfl⟩)) <;> (try simp (disch := omega) only [push_cast,seval]))
 | (refine awp_ret ⟨.inr rfl,_,rfl,?_⟩; (try simp (disch := omega) only [push_cast,seval]))))
        simp [vSt,ha]
  · have hd' : ¬ (st.length : Int) = d := by omega
    (repeat' (first
 | (first | refine awp_seq ?_ | refine awp_block ?_)
 | ((first | refine awp_reg ?_ | refine awp_condB ?_ | refine awp_skip ?_ | refine awp_exit ?_); simp (disch := omega) only [push_cast,seval,l31r0,l31r1,l31r2,l31r3,l31r4,l31r5,l31r6,l31r7,l31r8,l31r9,hd'])
 | ((first | refine condB_split (fun h => ?_) (fun h => ?_) | refine gIf_split (fun h => ?_) (fun h => ?_) | refine qIf_split (fun h => ?_) (fun h => ?_)) <;> (try simp only [h]) <;> (try simp only [bitvec_to_nat] at h) <;> (try simp only [h]) <;> (first | (exfalso; omega) | (focus (exfalso; simp_all; done)) | (simp (disch := omega) only [push_cast,seval,hd']) | skip))
 | ((first | refine callD_of false ?_ | refine qcallD_of false ?_); simp (disch := omega) only [push_cast,seval,hd'])
 | ((first | ((first | refine call0D (BCall.ofP (within_ok _ _ ?_ ?_)) ?_ | refine qcall0D (BCall.ofP (within_ok _ _ ?_ ?_)) ⟨_,_,rfl,rfl⟩ ?_); (iterate 2 (exact sd)); rintro _ _ ⟨rfl,rfl⟩)) <;> (try simp (disch := omega) only [push_cast,seval,hd']))
 | (refine awp_ret ⟨.inr rfl,_,rfl,?_⟩; (try simp (disch := omega) only [push_cast,seval,hd']))))
    simp [vSt,hd]


/-- What keeps a view's cells from overflowing. -/
def okV (b : Int) (sh st : List Int) : Prop := (good4 sh ∧ pr sh ≤ 60) ∧ (-1000000 ≤ b ∧ b ≤ 1000000) ∧ sh.length ≤ st.length ∧ ∀ i,i < sh.length → -12960000 ≤ st.getD i 0 ∧ st.getD i 0 ≤ 12960000
theorem okV_dig {b : Int} {sh st : List Int} (h : okV b sh st) {k : Int} (hk : 0 ≤ k) (hk2 : k < pr sh) : ∀ i,i < sh.length → (-60 ≤ dig sh k i ∧ dig sh k i ≤ 60) ∧ -12960000 ≤ st.getD i 0 ∧ st.getD i 0 ≤ 12960000 := fun i hi => by
  obtain ⟨⟨hg,_⟩,_,_,hs⟩ := h
  have h1 := dig_isIx hg hk hk2 i hi
  have h2 := good4_at hg hi
  exact ⟨by omega,hs i hi⟩
theorem unr_getD {sh : List Int} {k : Int} {i : Nat} (h : i < sh.length) : (unr sh k).getD i 0 = dig sh k i := by simp [unr,List.getD,h]
theorem dot_unr {sh st : List Int} {k : Int} : dot (fun i => (unr sh k).getD i 0) st sh.length = dot (dig sh k) st sh.length := dot_congr fun i hi => unr_getD hi
theorem dot_digP {sh st : List Int} {k : Int} : dot (digP sh k) st sh.length = dot (dig sh k) st sh.length := dot_congr fun i hi => by unfold digP; rw [if_pos hi]
def offsT (b : Int) (sh st : List Int) (j : Nat) : List Int := (List.range j).map fun k : Nat => cellK b sh st k
theorem offsT_zero (b : Int) (sh st : List Int) : offsT b sh st 0 = [] := rfl
theorem offsT_succ (b : Int) (sh st : List Int) (j : Nat) : offsT b sh st (j + 1) = offsT b sh st j ++ [cellK b sh st j] := by simp [offsT,List.range_succ]
theorem offsT_length (b : Int) (sh st : List Int) (j : Nat) : (offsT b sh st j).length = j := by simp [offsT]
theorem offsT_all (b : Int) (sh st : List Int) : offsT b sh st (pr sh).toNat = offs b sh st := rfl


theorem bounds_ok (b : Int) (sh st : List Int) (n m : Nat) (hn : sh.length = n) (hm : st.length = m) (hb : good4 sh ∧ vSt st sh.length = true ∧ -1000000 ≤ b ∧ b ≤ 1000000) : PCall Tryd.prog 32 [.agg [.int .i64 b,.rows false (IL sh) n,.rows false (IL st) m]] (fun r => r = .tup [.int .i64 (bdL b sh st),.int .i64 (bdH b sh st)]) := by
  subst hn hm
  obtain ⟨hg,hs,hb1,hb2⟩ := hb
  have hl := hg.2
  have hle := (vSt_spec.1 hs).1
  refine pcall_of l32_eq rfl ?_
  unfold bdL bdH
  by_cases hz : pr sh = 0
  · (repeat' (first
 | (first | refine awp_seq ?_ | refine awp_block ?_)
 | ((first | refine awp_reg ?_ | refine awp_draw (mid := l32r3a) (post := l32r3b) mixed (by decide) ?_ | refine awp_condB ?_ | refine awp_skip ?_ | refine awp_exit ?_); simp (disch := omega) only [push_cast,seval,l32r0,l32r1,l32r2,l32r3a,l32r3b,l32r3,l32r4,l32r5,l32r6,l32r7,l32r8,l32r9,l32r10,l32r11,hz])
 | ((first | refine condB_split (fun h => ?_) (fun h => ?_) | refine gIf_split (fun h => ?_) (fun h => ?_) | refine qIf_split (fun h => ?_) (fun h => ?_)) <;> (try simp only [h]) <;> (try simp only [bitvec_to_nat] at h) <;> (try simp only [h]) <;> (first | (exfalso; omega) | (focus (exfalso; simp_all; done)) | (simp (disch := omega) only [push_cast,seval,hz]) | skip))
 | ((first | refine callD_of false ?_ | refine qcallD_of false ?_); simp (disch := omega) only [push_cast,seval,hz])
 | ((first | ((first | refine call0D (BCall.ofP (vcount_ok _ _ _ _ _ _ ?_ ?_)) ?_ | refine qcall0D (BCall.ofP (vcount_ok _ _ _ _ _ _ ?_ ?_)) ⟨_,_,rfl,rfl⟩ ?_); (iterate 2 (exact sd)); rintro _ _ ⟨rfl,rfl⟩)) <;> (try simp (disch := omega) only [push_cast,seval,hz]))
 | (refine awp_ret ⟨.inr rfl,_,rfl,?_⟩; (try simp (disch := omega) only [push_cast,seval,hz]))))
  · (repeat' (first
 | (first | refine awp_seq ?_ | refine awp_block ?_)
 | ((first | refine awp_reg ?_ | refine awp_draw (mid := l32r3a) (post := l32r3b) mixed (by decide) ?_ | refine awp_condB ?_ | refine awp_skip ?_ | refine awp_exit ?_); simp (disch := omega) only [push_cast,seval,l32r0,l32r1,l32r2,l32r3a,l32r3b,l32r3,l32r4,l32r5,l32r6,l32r7,l32r8,l32r9,l32r10,l32r11,hz])
 | ((first | refine condB_split (fun h => ?_) (fun h => ?_) | refine gIf_split (fun h => ?_) (fun h => ?_) | refine qIf_split (fun h => ?_) (fun h => ?_)) <;> (try simp only [h]) <;> (try simp only [bitvec_to_nat] at h) <;> (try simp only [h]) <;> (first | (exfalso; omega) | (focus (exfalso; simp_all; done)) | (simp (disch := omega) only [push_cast,seval,hz]) | skip))
 | ((first | refine callD_of false ?_ | refine qcallD_of false ?_); simp (disch := omega) only [push_cast,seval,hz])
 | ((first | ((first | refine call0D (BCall.ofP (vcount_ok _ _ _ _ _ _ ?_ ?_)) ?_ | refine qcall0D (BCall.ofP (vcount_ok _ _ _ _ _ _ ?_ ?_)) ⟨_,_,rfl,rfl⟩ ?_); (iterate 2 (exact sd)); rintro _ _ ⟨rfl,rfl⟩)) <;> (try simp (disch := omega) only [push_cast,seval,hz]))
 | (refine awp_ret ⟨.inr rfl,_,rfl,?_⟩; (try simp (disch := omega) only [push_cast,seval,hz]))))
    refine awp_loop (fun k : Nat => mkS [(1,.ref 16 3 0),(4,.int .i64 (b + lowS sh st k)),(5,.int .i64 (b + highS sh st k)),(17,RI st),(18,.int .i64 st.length),(19,.int .i64 k)] [(16,[.int .i64 b,RI sh,RI st])])
      (fun k => k ≤ st.length) (fun k => st.length - k) 0 (Nat.zero_le _) ?_ ?_
    · (refine Sub.of_lists ?_ ?_ ?_ ?_ ?_ <;> simp [Vw.mkS,Vw.lk,Vw.hk,AV.inn,innL,innL_ints,innL_append,innL_rep,-List.map_set,-List.getD_eq_getElem?_getD,lowS,highS])
    · intro k hk
      by_cases hlt : k < st.length
      · have h1 := good4_at hg (k := k) (by omega)
        have h2 := vSt_at hs (i := k) (by omega)
        have h3 := mul_bd (x := sh.getD k 0 - 1) (y := st.getD k 0) (p := 60) (q := 60) (by omega) (by omega)
        have h4 := lowhigh_bound hg hs k (by omega)
        have h5 : k < sh.length := by omega
        (repeat' (first
 | (first | refine awp_seq ?_ | refine awp_block ?_)
 | ((first | refine awp_reg ?_ | refine awp_draw (mid := l32r3a) (post := l32r3b) mixed (by decide) ?_ | refine awp_condB ?_ | refine awp_skip ?_ | refine awp_exit ?_); simp (disch := omega) only [push_cast,seval,l32r0,l32r1,l32r2,l32r3a,l32r3b,l32r3,l32r4,l32r5,l32r6,l32r7,l32r8,l32r9,l32r10,l32r11])
 | ((first | refine condB_split (fun h => ?_) (fun h => ?_) | refine gIf_split (fun h => ?_) (fun h => ?_) | refine qIf_split (fun h => ?_) (fun h => ?_)) <;> (try simp only [h]) <;> (try simp only [bitvec_to_nat] at h) <;> (try simp only [h]) <;> (first | (exfalso; omega) | (focus (exfalso; simp_all; done)) | (simp (disch := omega) only [push_cast,seval]) | skip))
 | ((first | refine callD_of false ?_ | refine qcallD_of false ?_); simp (disch := omega) only [push_cast,seval])
 | ((first | ((first | refine call0D (BCall.ofP (vcount_ok _ _ _ _ _ _ ?_ ?_)) ?_ | refine qcall0D (BCall.ofP (vcount_ok _ _ _ _ _ _ ?_ ?_)) ⟨_,_,rfl,rfl⟩ ?_); (iterate 2 (exact sd)); rintro _ _ ⟨rfl,rfl⟩)) <;> (try simp (disch := omega) only [push_cast,seval]))
 | (refine awp_ret ⟨.inr rfl,_,rfl,?_⟩; (try simp (disch := omega) only [push_cast,seval]))))
        refine ⟨k + 1,by omega,by omega,?_⟩
        (refine Sub.of_lists ?_ ?_ ?_ ?_ ?_ <;> simp [Vw.mkS,Vw.lk,Vw.hk,AV.inn,innL,innL_ints,innL_append,innL_rep,-List.map_set,-List.getD_eq_getElem?_getD,lowS,highS,Int.add_assoc])
      · (repeat' (first
 | (first | refine awp_seq ?_ | refine awp_block ?_)
 | ((first | refine awp_reg ?_ | refine awp_draw (mid := l32r3a) (post := l32r3b) mixed (by decide) ?_ | refine awp_condB ?_ | refine awp_skip ?_ | refine awp_exit ?_); simp (disch := omega) only [push_cast,seval,l32r0,l32r1,l32r2,l32r3a,l32r3b,l32r3,l32r4,l32r5,l32r6,l32r7,l32r8,l32r9,l32r10,l32r11])
 | ((first | refine condB_split (fun h => ?_) (fun h => ?_) | refine gIf_split (fun h => ?_) (fun h => ?_) | refine qIf_split (fun h => ?_) (fun h => ?_)) <;> (try simp only [h]) <;> (try simp only [bitvec_to_nat] at h) <;> (try simp only [h]) <;> (first | (exfalso; omega) | (focus (exfalso; simp_all; done)) | (simp (disch := omega) only [push_cast,seval]) | skip))
 | ((first | refine callD_of false ?_ | refine qcallD_of false ?_); simp (disch := omega) only [push_cast,seval])
 | ((first | ((first | refine call0D (BCall.ofP (vcount_ok _ _ _ _ _ _ ?_ ?_)) ?_ | refine qcall0D (BCall.ofP (vcount_ok _ _ _ _ _ _ ?_ ?_)) ⟨_,_,rfl,rfl⟩ ?_); (iterate 2 (exact sd)); rintro _ _ ⟨rfl,rfl⟩)) <;> (try simp (disch := omega) only [push_cast,seval]))
 | (refine awp_ret ⟨.inr rfl,_,rfl,?_⟩; (try simp (disch := omega) only [push_cast,seval]))))
        rw [← hle,show k = st.length by omega]

end Go.Proofs.YtmdocjjciedohaaDoor
