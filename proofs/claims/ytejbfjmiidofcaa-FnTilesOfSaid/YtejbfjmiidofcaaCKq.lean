import Derived.Test.YtejbfjmiidofcaaCKp
import Derived.Test.YtejbfjmiidofcaaCM1
set_option linter.unusedSimpArgs false
set_option linter.unusedVariables false
set_option maxRecDepth 4000
set_option maxHeartbeats 4000000
namespace Go.Proofs.Ytejbfjmiidofcaa
open VwM Vw Go

theorem sequal_ok (xs ys : List Int) (n m : Nat) (hn : xs.length = n) (hm : ys.length = m) (hb : n ≤ 1099511627776 ∧ m ≤ 1099511627776) : PCall Try.prog 67 [.rows false (IL xs) n,.rows false (IL ys) m] (fun r => r = .bool (decide (xs = ys))) := by
  subst hn hm
  refine pcall_of l67_eq rfl ?_
  by_cases hl : xs.length = ys.length
  · have hl' : (xs.length : Int) = ys.length := by omega
    (repeat' (first
 | (first | refine awp_seq ?_ | refine awp_block ?_)
 | ((first | refine awp_reg ?_ | refine awp_draw (mid := l67r6a) (post := l67r6b) mixed (by decide) ?_ | refine awp_condB ?_ | refine awp_skip ?_ | refine awp_exit ?_); simp (disch := omega) only [push_cast,seval,l67r0,l67r1,l67r2,l67r3,l67r4,l67r5,l67r6a,l67r6b,l67r6,l67r7,l67r8,l67r9,hl'])
 | ((first | refine condB_split (fun h => ?_) (fun h => ?_) | refine gIf_split (fun h => ?_) (fun h => ?_) | refine qIf_split (fun h => ?_) (fun h => ?_)) <;> (try simp only [h]) <;> (try simp only [bitvec_to_nat] at h) <;> (try simp only [h]) <;> (first | (exfalso; omega) | (focus (exfalso; simp_all; done)) | (simp (disch := omega) only [push_cast,seval,hl']) | skip))
 | (refine awp_ret ⟨.inr rfl,_,rfl,?_⟩; (try simp (disch := omega) only [push_cast,seval,hl']))))
    refine awp_loop (fun k : Nat => mkS [(0,RI xs),(1,RI ys),(11,RI xs),(12,.int .i64 xs.length),(13,.int .i64 k)] []) (fun k => k ≤ xs.length ∧ ∀ j : Nat,j < k → xs.getD j 0 = ys.getD j 0) (fun k => xs.length - k) 0 ⟨Nat.zero_le _,fun j h => absurd h (Nat.not_lt_zero _)⟩ ?_ ?_
    · (refine Sub.of_lists ?_ ?_ ?_ ?_ ?_ <;> simp [Vw.mkS,Vw.lk,Vw.hk,AV.inn,innL,innL_ints,innL_append,innL_rep,-List.map_set,-List.getD_eq_getElem?_getD,hl])
    · rintro k ⟨hk,hj⟩
      by_cases hlt : k < xs.length
      · (repeat' (first
 | (first | refine awp_seq ?_ | refine awp_block ?_)
 | ((first | refine awp_reg ?_ | refine awp_draw (mid := l67r6a) (post := l67r6b) mixed (by decide) ?_ | refine awp_condB ?_ | refine awp_skip ?_ | refine awp_exit ?_); simp (disch := omega) only [push_cast,seval,l67r0,l67r1,l67r2,l67r3,l67r4,l67r5,l67r6a,l67r6b,l67r6,l67r7,l67r8,l67r9])
 | ((first | refine condB_split (fun h => ?_) (fun h => ?_) | refine gIf_split (fun h => ?_) (fun h => ?_) | refine qIf_split (fun h => ?_) (fun h => ?_)) <;> (try simp only [h]) <;> (try simp only [bitvec_to_nat] at h) <;> (try simp only [h]) <;> (first | (exfalso; omega) | (focus (exfalso; simp_all; done)) | (simp (disch := omega) only [push_cast,seval]) | skip))
 | (refine awp_ret ⟨.inr rfl,_,rfl,?_⟩; (try simp (disch := omega) only [push_cast,seval]))))
        · simp; rintro rfl; exact absurd rfl ‹_›
        · refine ⟨k + 1,⟨by omega,fun j h => ?_⟩,by omega,?_⟩
          · by_cases hjk : j = k
            · subst hjk; assumption
            · exact hj j (by omega)
          · (refine Sub.of_lists ?_ ?_ ?_ ?_ ?_ <;> simp [Vw.mkS,Vw.lk,Vw.hk,AV.inn,innL,innL_ints,innL_append,innL_rep,-List.map_set,-List.getD_eq_getElem?_getD])
      · (repeat' (first
 | (first | refine awp_seq ?_ | refine awp_block ?_)
 | ((first | refine awp_reg ?_ | refine awp_draw (mid := l67r6a) (post := l67r6b) mixed (by decide) ?_ | refine awp_condB ?_ | refine awp_skip ?_ | refine awp_exit ?_); simp (disch := omega) only [push_cast,seval,l67r0,l67r1,l67r2,l67r3,l67r4,l67r5,l67r6a,l67r6b,l67r6,l67r7,l67r8,l67r9])
 | ((first | refine condB_split (fun h => ?_) (fun h => ?_) | refine gIf_split (fun h => ?_) (fun h => ?_) | refine qIf_split (fun h => ?_) (fun h => ?_)) <;> (try simp only [h]) <;> (try simp only [bitvec_to_nat] at h) <;> (try simp only [h]) <;> (first | (exfalso; omega) | (focus (exfalso; simp_all; done)) | (simp (disch := omega) only [push_cast,seval]) | skip))
 | (refine awp_ret ⟨.inr rfl,_,rfl,?_⟩; (try simp (disch := omega) only [push_cast,seval]))))
        have : xs = ys := list_eq_of hl fun j h => hj j (by omega)
        simp [this]
  · have hl' : ¬ (xs.length : Int) = ys.length := by omega
    have : ¬ xs = ys := by rintro rfl; exact hl rfl
    (repeat' (first
 | (first | refine awp_seq ?_ | refine awp_block ?_)
 | ((first | refine awp_reg ?_ | refine awp_draw (mid := l67r6a) (post := l67r6b) mixed (by decide) ?_ | refine awp_condB ?_ | refine awp_skip ?_ | refine awp_exit ?_); simp (disch := omega) only [push_cast,seval,l67r0,l67r1,l67r2,l67r3,l67r4,l67r5,l67r6a,l67r6b,l67r6,l67r7,l67r8,l67r9,hl'])
 | ((first | refine condB_split (fun h => ?_) (fun h => ?_) | refine gIf_split (fun h => ?_) (fun h => ?_) | refine qIf_split (fun h => ?_) (fun h => ?_)) <;> (try simp only [h]) <;> (try simp only [bitvec_to_nat] at h) <;> (try simp only [h]) <;> (first | (exfalso; omega) | (focus (exfalso; simp_all; done)) | (simp (disch := omega) only [push_cast,seval,hl']) | skip))
 | (refine awp_ret ⟨.inr rfl,_,rfl,?_⟩; (try simp (disch := omega) only [push_cast,seval,hl']))))
    simp [this]


theorem okV_rows {b : Int} {sh st : List Int} (h : okV b sh st) : okV b sh (rowS sh) ∧ (rowS sh).length = sh.length := ⟨⟨h.1,h.2.1,by simp,fun i hi => by have := rowS_bound h.1.1 i hi; omega⟩,by simp⟩
theorem colS_bound {sh : List Int} (hg : good4 sh) (i : Nat) (h : i < sh.length) : 0 ≤ (colS sh).getD i 0 ∧ (colS sh).getD i 0 ≤ 12960000 := by
  rw [colS_getD sh i h]; exact pr_bound (good4_take hg i)
theorem okV_cols {b : Int} {sh st : List Int} (h : okV b sh st) : okV b sh (colS sh) ∧ (colS sh).length = sh.length := ⟨⟨h.1,h.2.1,by simp,fun i hi => by have := colS_bound h.1.1 i hi; omega⟩,by simp⟩
theorem offs_le {b : Int} {sh st : List Int} (h : okV b sh st) : (offs b sh st).length ≤ 60 := by rw [offs_length]; have := h.1.2; omega


theorem sdifferent_ok (xs : List Int) (n : Nat) (hn : xs.length = n) (hb : n ≤ 1099511627776) : PCall Try.prog 71 [.rows false (IL xs) n] (fun r => r = .bool (decide xs.Nodup)) := by
  subst hn
  refine pcall_of l71_eq rfl ?_
  (repeat' (first
 | (first | refine awp_seq ?_ | refine awp_block ?_)
 | ((first | refine awp_reg ?_ | refine awp_draw (mid := l71r3a) (post := l71r3b) mixed (by decide) ?_ | refine awp_condB ?_ | refine awp_skip ?_ | refine awp_exit ?_); simp (disch := omega) only [push_cast,seval,l71r0,l71r1,l71r2,l71r3a,l71r3b,l71r3,l71r4,l71r5,l71r6])
 | ((first | refine condB_split (fun h => ?_) (fun h => ?_) | refine gIf_split (fun h => ?_) (fun h => ?_) | refine qIf_split (fun h => ?_) (fun h => ?_)) <;> (try simp only [h]) <;> (try simp only [bitvec_to_nat] at h) <;> (try simp only [h]) <;> (first | (exfalso; omega) | (focus (exfalso; simp_all; done)) | (simp (disch := omega) only [push_cast,seval]) | skip))
 | ((first | refine callD_of false ?_ | refine qcallD_of false ?_); simp (disch := omega) only [push_cast,seval])
 | ((first | ((first | refine call0D (BCall.ofP (placeIn_ok _ _ _ ?_ ?_)) ?_ | refine qcall0D (BCall.ofP (placeIn_ok _ _ _ ?_ ?_)) ⟨_,_,rfl,rfl⟩ ?_); (iterate 2 (exact sd)); rintro _ _ ⟨rfl,rfl⟩)) <;> (try simp (disch := omega) only [push_cast,seval]))
 | (refine awp_ret ⟨.inr rfl,_,rfl,?_⟩; (try simp (disch := omega) only [push_cast,seval]))))
  refine awp_loop (fun k : Nat => mkS [(0,RI xs),(3,.int .i64 k)] []) (fun k => k ≤ xs.length ∧ ∀ j,j < k → xs.getD j 0 ∉ xs.take j) (fun k => xs.length - k) 0 ⟨Nat.zero_le _,fun j h => absurd h (Nat.not_lt_zero _)⟩ ?_ ?_
  · (refine Sub.of_lists ?_ ?_ ?_ ?_ ?_ <;> simp [Vw.mkS,Vw.lk,Vw.hk,AV.inn,innL,innL_ints,innL_append,innL_rep,-List.map_set,-List.getD_eq_getElem?_getD])
  · rintro k ⟨hk,hj⟩
    by_cases hlt : k < xs.length
    · have hl : (xs.take k).length = k := by simp; omega
      by_cases hm : xs.getD k 0 ∈ xs.take k
      · have hp : 0 ≤ placeI (xs.take k) (xs.getD k 0) := by
          have := mt (@placeI_neg (xs.take k) (xs.getD k 0)).1 (fun h => h hm)
          omega
        have hno : ¬ xs.Nodup := not_nodup hlt hm
        (repeat' (first
 | (first | refine awp_seq ?_ | refine awp_block ?_)
 | ((first | refine awp_reg ?_ | refine awp_draw (mid := l71r3a) (post := l71r3b) mixed (by decide) ?_ | refine awp_condB ?_ | refine awp_skip ?_ | refine awp_exit ?_); simp (disch := omega) only [push_cast,seval,l71r0,l71r1,l71r2,l71r3a,l71r3b,l71r3,l71r4,l71r5,l71r6,hp,IL_head,Nat.sub_zero])
 | ((first | refine condB_split (fun h => ?_) (fun h => ?_) | refine gIf_split (fun h => ?_) (fun h => ?_) | refine qIf_split (fun h => ?_) (fun h => ?_)) <;> (try simp only [h]) <;> (try simp only [bitvec_to_nat] at h) <;> (try simp only [h]) <;> (first | (exfalso; omega) | (focus (exfalso; simp_all; done)) | (simp (disch := omega) only [push_cast,seval,hp,IL_head,Nat.sub_zero]) | skip))
 | ((first | refine callD_of false ?_ | refine qcallD_of false ?_); simp (disch := omega) only [push_cast,seval,hp,IL_head,Nat.sub_zero])
 | ((first | ((first | refine call0D (BCall.ofP (placeIn_ok _ _ _ ?_ ?_)) ?_ | refine qcall0D (BCall.ofP (placeIn_ok _ _ _ ?_ ?_)) ⟨_,_,rfl,rfl⟩ ?_); (iterate 2 (exact sd)); rintro _ _ ⟨rfl,rfl⟩)) <;> (try simp (disch := omega) only [push_cast,seval,hp,IL_head,Nat.sub_zero]))
 | (refine awp_ret ⟨.inr rfl,_,rfl,?_⟩; (try simp (disch := omega) only [push_cast,seval,hp,IL_head,Nat.sub_zero]))))
        simp [hno]
      · have hp : ¬ 0 ≤ placeI (xs.take k) (xs.getD k 0) := by have := (@placeI_neg (xs.take k) (xs.getD k 0)).2 hm; omega
        (repeat' (first
 | (first | refine awp_seq ?_ | refine awp_block ?_)
 | ((first | refine awp_reg ?_ | refine awp_draw (mid := l71r3a) (post := l71r3b) mixed (by decide) ?_ | refine awp_condB ?_ | refine awp_skip ?_ | refine awp_exit ?_); simp (disch := omega) only [push_cast,seval,l71r0,l71r1,l71r2,l71r3a,l71r3b,l71r3,l71r4,l71r5,l71r6,hp,IL_head,Nat.sub_zero])
 | ((first | refine condB_split (fun h => ?_) (fun h => ?_) | refine gIf_split (fun h => ?_) (fun h => ?_) | refine qIf_split (fun h => ?_) (fun h => ?_)) <;> (try simp only [h]) <;> (try simp only [bitvec_to_nat] at h) <;> (try simp only [h]) <;> (first | (exfalso; omega) | (focus (exfalso; simp_all; done)) | (simp (disch := omega) only [push_cast,seval,hp,IL_head,Nat.sub_zero]) | skip))
 | ((first | refine callD_of false ?_ | refine qcallD_of false ?_); simp (disch := omega) only [push_cast,seval,hp,IL_head,Nat.sub_zero])
 | ((first | ((first | refine call0D (BCall.ofP (placeIn_ok _ _ _ ?_ ?_)) ?_ | refine qcall0D (BCall.ofP (placeIn_ok _ _ _ ?_ ?_)) ⟨_,_,rfl,rfl⟩ ?_); (iterate 2 (exact sd)); rintro _ _ ⟨rfl,rfl⟩)) <;> (try simp (disch := omega) only [push_cast,seval,hp,IL_head,Nat.sub_zero]))
 | (refine awp_ret ⟨.inr rfl,_,rfl,?_⟩; (try simp (disch := omega) only [push_cast,seval,hp,IL_head,Nat.sub_zero]))))
        refine ⟨k + 1,⟨by omega,fun j h => ?_⟩,by omega,?_⟩
        · by_cases hjk : j = k
          · subst hjk; assumption
          · exact hj j (by omega)
        · (refine Sub.of_lists ?_ ?_ ?_ ?_ ?_ <;> simp [Vw.mkS,Vw.lk,Vw.hk,AV.inn,innL,innL_ints,innL_append,innL_rep,-List.map_set,-List.getD_eq_getElem?_getD])
    · have hn : xs.Nodup := nodup_iff.2 fun j h => hj j (by omega)
      (repeat' (first
 | (first | refine awp_seq ?_ | refine awp_block ?_)
 | ((first | refine awp_reg ?_ | refine awp_draw (mid := l71r3a) (post := l71r3b) mixed (by decide) ?_ | refine awp_condB ?_ | refine awp_skip ?_ | refine awp_exit ?_); simp (disch := omega) only [push_cast,seval,l71r0,l71r1,l71r2,l71r3a,l71r3b,l71r3,l71r4,l71r5,l71r6])
 | ((first | refine condB_split (fun h => ?_) (fun h => ?_) | refine gIf_split (fun h => ?_) (fun h => ?_) | refine qIf_split (fun h => ?_) (fun h => ?_)) <;> (try simp only [h]) <;> (try simp only [bitvec_to_nat] at h) <;> (try simp only [h]) <;> (first | (exfalso; omega) | (focus (exfalso; simp_all; done)) | (simp (disch := omega) only [push_cast,seval]) | skip))
 | ((first | refine callD_of false ?_ | refine qcallD_of false ?_); simp (disch := omega) only [push_cast,seval])
 | ((first | ((first | refine call0D (BCall.ofP (placeIn_ok _ _ _ ?_ ?_)) ?_ | refine qcall0D (BCall.ofP (placeIn_ok _ _ _ ?_ ?_)) ⟨_,_,rfl,rfl⟩ ?_); (iterate 2 (exact sd)); rintro _ _ ⟨rfl,rfl⟩)) <;> (try simp (disch := omega) only [push_cast,seval]))
 | (refine awp_ret ⟨.inr rfl,_,rfl,?_⟩; (try simp (disch := omega) only [push_cast,seval]))))
      simp [hn]


theorem iIsOneToOne_ok (b : Int) (sh st : List Int) (n m : Nat) (hn : sh.length = n) (hm : st.length = m) (hb : n ≤ 1099511627776 ∧ m ≤ 1099511627776) : PCall Try.prog 34 [.agg [.int .i64 b,.rows false (IL sh) n,.rows false (IL st) m]] (fun r => r = .bool (oneB b sh st)) := by
  subst hn hm
  obtain ⟨hb1,hb2⟩ := hb
  refine pcall_of l34_eq rfl ?_
  unfold oneB
  cases hv : vV b sh st with
  | false =>
    (repeat' (first
 | (first | refine awp_seq ?_ | refine awp_block ?_)
 | ((first | refine awp_reg ?_ | refine awp_condB ?_ | refine awp_skip ?_ | refine awp_exit ?_); simp (disch := omega) only [push_cast,seval,l34r0,l34r1,l34r2,l34r3,l34r4,l34r5,l34r6,l34r7,l34r8,l34r9,l34r10,l34r11,hv])
 | ((first | refine condB_split (fun h => ?_) (fun h => ?_) | refine gIf_split (fun h => ?_) (fun h => ?_) | refine qIf_split (fun h => ?_) (fun h => ?_)) <;> (try simp only [h]) <;> (try simp only [bitvec_to_nat] at h) <;> (try simp only [h]) <;> (first | (exfalso; omega) | (focus (exfalso; simp_all; done)) | (simp (disch := omega) only [push_cast,seval,hv]) | skip))
 | ((first | refine callD_of false ?_ | refine qcallD_of false ?_); simp (disch := omega) only [push_cast,seval,hv])
 | ((first | ((first | refine call0D (BCall.ofP (iValidView_ok _ _ _ _ _ ?_ ?_ ?_)) ?_ | refine qcall0D (BCall.ofP (iValidView_ok _ _ _ _ _ ?_ ?_ ?_)) ⟨_,_,rfl,rfl⟩ ?_); (iterate 3 (exact sd)); rintro _ _ ⟨rfl,rfl⟩) | ((first | refine call0D (cells_ok _ _ _ _ _ ?_ ?_ ?_) ?_ | refine qcall0D (cells_ok _ _ _ _ _ ?_ ?_ ?_) ⟨_,_,rfl,rfl⟩ ?_); (iterate 3 (exact sd)); rintro _ _ ⟨rfl,rfl⟩)) <;> (try simp (disch := omega) only [push_cast,seval,hv]))
 | (refine awp_ret ⟨.inr rfl,_,rfl,?_⟩; (try simp (disch := omega) only [push_cast,seval,hv]))))
    all_goals simp
  | true =>
    have hok := okV_valid hv
    have l1 := offs_le hok.1
    have hcs := vV_cells hv
    generalize hL : offs b sh st = L at *
    (repeat' (first
 | (first | refine awp_seq ?_ | refine awp_block ?_)
 | ((first | refine awp_reg ?_ | refine awp_condB ?_ | refine awp_skip ?_ | refine awp_exit ?_); simp (disch := omega) only [push_cast,seval,l34r0,l34r1,l34r2,l34r3,l34r4,l34r5,l34r6,l34r7,l34r8,l34r9,l34r10,l34r11,hv,hL])
 | ((first | refine condB_split (fun h => ?_) (fun h => ?_) | refine gIf_split (fun h => ?_) (fun h => ?_) | refine qIf_split (fun h => ?_) (fun h => ?_)) <;> (try simp only [h]) <;> (try simp only [bitvec_to_nat] at h) <;> (try simp only [h]) <;> (first | (exfalso; omega) | (focus (exfalso; simp_all; done)) | (simp (disch := omega) only [push_cast,seval,hv,hL]) | skip))
 | ((first | refine callD_of false ?_ | refine qcallD_of false ?_); simp (disch := omega) only [push_cast,seval,hv,hL])
 | ((first | ((first | refine call0D (BCall.ofP (iValidView_ok _ _ _ _ _ ?_ ?_ ?_)) ?_ | refine qcall0D (BCall.ofP (iValidView_ok _ _ _ _ _ ?_ ?_ ?_)) ⟨_,_,rfl,rfl⟩ ?_); (iterate 3 (exact sd)); rintro _ _ ⟨rfl,rfl⟩) | ((first | refine call0D (cells_ok _ _ _ _ _ ?_ ?_ ?_) ?_ | refine qcall0D (cells_ok _ _ _ _ _ ?_ ?_ ?_) ⟨_,_,rfl,rfl⟩ ?_); (iterate 3 (exact sd)); rintro _ _ ⟨rfl,rfl⟩)) <;> (try simp (disch := omega) only [push_cast,seval,hv,hL]))
 | (refine awp_ret ⟨.inr rfl,_,rfl,?_⟩; (try simp (disch := omega) only [push_cast,seval,hv,hL]))))
    refine awp_loop (fun k : Nat => mkS [(3,.ref 48 60 0),(10,.own 160 L.length 1),(11,.int .i64 L.length),(12,.int .i64 k)] [(48,(met L k).map AV.bool),(160,IL L)]) (fun k => k ≤ L.length ∧ ∀ j,j < k → L.getD j 0 ∉ L.take j) (fun k => L.length - k) 0 ⟨Nat.zero_le _,fun j h => absurd h (Nat.not_lt_zero _)⟩ ?_ ?_
    · rw [met_zero]
      (refine Sub.of_lists ?_ ?_ ?_ ?_ ?_ <;> simp [Vw.mkS,Vw.lk,Vw.hk,AV.inn,innL,innL_ints,innL_append,innL_rep,-List.map_set,-List.getD_eq_getElem?_getD])
    · rintro k ⟨hk,hj⟩
      have hml := met_length L k
      by_cases hlt : k < L.length
      · have hc := hcs _ (getD_mem hlt)
        obtain ⟨c,hc'⟩ : ∃ c : Nat,L.getD k 0 = c := ⟨(L.getD k 0).toNat,by omega⟩
        have hc60 : c < 60 := by omega
        have hmg := met_getD (xs := L) (k := k) hc60
        have hms := met_set hlt hc' hc60
        by_cases hm : (c : Int) ∈ L.take k
        · have hno : ¬ L.Nodup := not_nodup hlt (by rw [hc']; exact hm)
          (repeat' (first
 | (first | refine awp_seq ?_ | refine awp_block ?_)
 | ((first | refine awp_reg ?_ | refine awp_condB ?_ | refine awp_skip ?_ | refine awp_exit ?_); simp (disch := omega) only [push_cast,seval,l34r0,l34r1,l34r2,l34r3,l34r4,l34r5,l34r6,l34r7,l34r8,l34r9,l34r10,l34r11,hc',hmg,hm,hml,List.length_map,Int.toNat_natCast,decide_true])
 | ((first | refine condB_split (fun h => ?_) (fun h => ?_) | refine gIf_split (fun h => ?_) (fun h => ?_) | refine qIf_split (fun h => ?_) (fun h => ?_)) <;> (try simp only [h]) <;> (try simp only [bitvec_to_nat] at h) <;> (try simp only [h]) <;> (first | (exfalso; omega) | (focus (exfalso; simp_all; done)) | (simp (disch := omega) only [push_cast,seval,hc',hmg,hm,hml,List.length_map,Int.toNat_natCast,decide_true]) | skip))
 | ((first | refine callD_of false ?_ | refine qcallD_of false ?_); simp (disch := omega) only [push_cast,seval,hc',hmg,hm,hml,List.length_map,Int.toNat_natCast,decide_true])
 | ((first | ((first | refine call0D (BCall.ofP (iValidView_ok _ _ _ _ _ ?_ ?_ ?_)) ?_ | refine qcall0D (BCall.ofP (iValidView_ok _ _ _ _ _ ?_ ?_ ?_)) ⟨_,_,rfl,rfl⟩ ?_); (iterate 3 (exact sd)); rintro _ _ ⟨rfl,rfl⟩) | ((first | refine call0D (cells_ok _ _ _ _ _ ?_ ?_ ?_) ?_ | refine qcall0D (cells_ok _ _ _ _ _ ?_ ?_ ?_) ⟨_,_,rfl,rfl⟩ ?_); (iterate 3 (exact sd)); rintro _ _ ⟨rfl,rfl⟩)) <;> (try simp (disch := omega) only [push_cast,seval,hc',hmg,hm,hml,List.length_map,Int.toNat_natCast,decide_true]))
 | (refine awp_ret ⟨.inr rfl,_,rfl,?_⟩; (try simp (disch := omega) only [push_cast,seval,hc',hmg,hm,hml,List.length_map,Int.toNat_natCast,decide_true]))))
          simp [hno]
        · (repeat' (first
 | (first | refine awp_seq ?_ | refine awp_block ?_)
 | ((first | refine awp_reg ?_ | refine awp_condB ?_ | refine awp_skip ?_ | refine awp_exit ?_); simp (disch := omega) only [push_cast,seval,l34r0,l34r1,l34r2,l34r3,l34r4,l34r5,l34r6,l34r7,l34r8,l34r9,l34r10,l34r11,hc',hmg,hm,hml,List.length_map,Int.toNat_natCast,decide_false])
 | ((first | refine condB_split (fun h => ?_) (fun h => ?_) | refine gIf_split (fun h => ?_) (fun h => ?_) | refine qIf_split (fun h => ?_) (fun h => ?_)) <;> (try simp only [h]) <;> (try simp only [bitvec_to_nat] at h) <;> (try simp only [h]) <;> (first | (exfalso; omega) | (focus (exfalso; simp_all; done)) | (simp (disch := omega) only [push_cast,seval,hc',hmg,hm,hml,List.length_map,Int.toNat_natCast,decide_false]) | skip))
 | ((first | refine callD_of false ?_ | refine qcallD_of false ?_); simp (disch := omega) only [push_cast,seval,hc',hmg,hm,hml,List.length_map,Int.toNat_natCast,decide_false])
 | ((first | ((first | refine call0D (BCall.ofP (iValidView_ok _ _ _ _ _ ?_ ?_ ?_)) ?_ | refine qcall0D (BCall.ofP (iValidView_ok _ _ _ _ _ ?_ ?_ ?_)) ⟨_,_,rfl,rfl⟩ ?_); (iterate 3 (exact sd)); rintro _ _ ⟨rfl,rfl⟩) | ((first | refine call0D (cells_ok _ _ _ _ _ ?_ ?_ ?_) ?_ | refine qcall0D (cells_ok _ _ _ _ _ ?_ ?_ ?_) ⟨_,_,rfl,rfl⟩ ?_); (iterate 3 (exact sd)); rintro _ _ ⟨rfl,rfl⟩)) <;> (try simp (disch := omega) only [push_cast,seval,hc',hmg,hm,hml,List.length_map,Int.toNat_natCast,decide_false]))
 | (refine awp_ret ⟨.inr rfl,_,rfl,?_⟩; (try simp (disch := omega) only [push_cast,seval,hc',hmg,hm,hml,List.length_map,Int.toNat_natCast,decide_false]))))
          refine ⟨k + 1,⟨by omega,fun j h => ?_⟩,by omega,?_⟩
          · by_cases hjk : j = k
            · subst hjk; rw [hc']; exact hm
            · exact hj j (by omega)
          · have e : ((met L k).map AV.bool).set c (.bool true) = (met L (k + 1)).map AV.bool := by rw [← hms,List.map_set]
            (refine Sub.of_lists ?_ ?_ ?_ ?_ ?_ <;> simp [Vw.mkS,Vw.lk,Vw.hk,AV.inn,innL,innL_ints,innL_append,innL_rep,-List.map_set,-List.getD_eq_getElem?_getD,e,innL_boolsM])
      · have hn : L.Nodup := nodup_iff.2 fun j h => hj j (by omega)
        (repeat' (first
 | (first | refine awp_seq ?_ | refine awp_block ?_)
 | ((first | refine awp_reg ?_ | refine awp_condB ?_ | refine awp_skip ?_ | refine awp_exit ?_); simp (disch := omega) only [push_cast,seval,l34r0,l34r1,l34r2,l34r3,l34r4,l34r5,l34r6,l34r7,l34r8,l34r9,l34r10,l34r11])
 | ((first | refine condB_split (fun h => ?_) (fun h => ?_) | refine gIf_split (fun h => ?_) (fun h => ?_) | refine qIf_split (fun h => ?_) (fun h => ?_)) <;> (try simp only [h]) <;> (try simp only [bitvec_to_nat] at h) <;> (try simp only [h]) <;> (first | (exfalso; omega) | (focus (exfalso; simp_all; done)) | (simp (disch := omega) only [push_cast,seval]) | skip))
 | ((first | refine callD_of false ?_ | refine qcallD_of false ?_); simp (disch := omega) only [push_cast,seval])
 | ((first | ((first | refine call0D (BCall.ofP (iValidView_ok _ _ _ _ _ ?_ ?_ ?_)) ?_ | refine qcall0D (BCall.ofP (iValidView_ok _ _ _ _ _ ?_ ?_ ?_)) ⟨_,_,rfl,rfl⟩ ?_); (iterate 3 (exact sd)); rintro _ _ ⟨rfl,rfl⟩) | ((first | refine call0D (cells_ok _ _ _ _ _ ?_ ?_ ?_) ?_ | refine qcall0D (cells_ok _ _ _ _ _ ?_ ?_ ?_) ⟨_,_,rfl,rfl⟩ ?_); (iterate 3 (exact sd)); rintro _ _ ⟨rfl,rfl⟩)) <;> (try simp (disch := omega) only [push_cast,seval]))
 | (refine awp_ret ⟨.inr rfl,_,rfl,?_⟩; (try simp (disch := omega) only [push_cast,seval]))))
        simp [hn]


def sameB (b : Int) (sh st : List Int) (b' : Int) (sh' st' : List Int) : Bool := vV b sh st && vV b' sh' st' && decide (sh = sh') && decide (offs b sh st = offs b' sh' st')

end Go.Proofs.Ytejbfjmiidofcaa
