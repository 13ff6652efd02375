import Derived.Test.YtejbfjmiidofcaaCKp6
import Derived.Test.YtejbfjmiidofcaaCM1
import Derived.Test.YtejbfjmiidofcaaCW3
set_option linter.unusedSimpArgs false
set_option linter.unusedVariables false
set_option maxRecDepth 4000
set_option maxHeartbeats 4000000
namespace Go.Proofs.Ytejbfjmiidofcaa
open VwM Vw Go

theorem plI_in {xs : List Int} {x : Int} (h : x ∈ xs) : 0 ≤ placeI xs x ∧ ¬ placeI xs x < 0 := by
  have h1 := mt (@placeI_neg xs x).1 (fun h' => h' h)
  exact ⟨by omega,h1⟩
theorem plI_out {xs : List Int} {x : Int} (h : x ∉ xs) : ¬ 0 ≤ placeI xs x ∧ placeI xs x < 0 := by
  have h1 := (@placeI_neg xs x).2 h
  exact ⟨by omega,h1⟩


set_option maxHeartbeats 16000000 in
theorem skeep_ok (ls : List (List Int)) (out : List Int) (n m : Nat) (i j : Nat) (a b : List Int) (hi : ls[i]? = some a) (hj : ls[j]? = some b) (hn : ls.length = n) (hm : out.length = m) (hb : (n ≤ 1000 ∧ m ≤ 100000000) ∧ (∀ l ∈ ls,l.length ≤ 100000000)) : BCall Try.prog 58 [.rows false (LL false ls) n,.rows false (IL out) m,.int .i64 i,.int .i64 j] [] (OI (keL ls out a b i j)) := by
  subst hn hm
  obtain ⟨⟨hb0,hb1⟩,hb3⟩ := hb
  have hll := LL_length false ls
  have hil := (List.getElem?_eq_some_iff.1 hi).1
  have hjl := (List.getElem?_eq_some_iff.1 hj).1
  have hdi := LL_drop false ls i hi
  have hdj := LL_drop false ls j hj
  have ha := hb3 _ (List.mem_of_getElem? hi)
  have hbb := hb3 _ (List.mem_of_getElem? hj)
  have hi1 : i + 1 ≤ ls.length := by omega
  have hj1 : j + 1 ≤ ls.length := by omega
  refine bcall_of (pins := []) (pin := 0) l58_eq rfl rfl rfl ?_
  (repeat' (first
 | (first | refine awp_seq ?_ | refine awp_block ?_)
 | ((first | refine awp_reg ?_ | refine awp_condB ?_ | refine awp_skip ?_ | refine awp_exit ?_); simp (disch := omega) only [push_cast,seval,l58r0,l58r1,l58r2,l58r3,l58r4,l58r5,l58r6,l58r7,l58r8,l58r9,l58r10,l58r11,l58r12,l58r13,innL_LL])
 | ((first | refine condB_split (fun h => ?_) (fun h => ?_) | refine gIf_split (fun h => ?_) (fun h => ?_) | refine qIf_split (fun h => ?_) (fun h => ?_)) <;> (try simp only [h]) <;> (try simp only [bitvec_to_nat] at h) <;> (try simp only [h]) <;> (first | (exfalso; omega) | (focus (exfalso; simp_all; done)) | (simp (disch := omega) only [push_cast,seval,innL_LL]) | skip))
 | ((first | refine callD_of false ?_ | refine qcallD_of false ?_); simp (disch := omega) only [push_cast,seval,innL_LL])
 | ((first | ((first | refine call0D (BCall.ofP (placeIn_ok _ _ _ ?_ ?_)) ?_ | refine qcall0D (BCall.ofP (placeIn_ok _ _ _ ?_ ?_)) ⟨_,_,rfl,rfl⟩ ?_); (iterate 2 (exact sd)); rintro _ _ ⟨rfl,rfl⟩)) <;> (try simp (disch := omega) only [push_cast,seval,innL_LL]))
 | (refine awp_ret ⟨.inr rfl,[208],[],_,by decide,rfl,?_⟩; (try simp (disch := omega) only [push_cast,seval,↓allMem_nil,↓allMem_cons,↓List.map_cons,↓List.map_nil,innL_LL]))))
  refine awp_loop (fun k : Nat => mkS [(0,.rows false (LL false ls) ls.length),(1,RI out),(2,.int .i64 i),(3,.int .i64 j),(9,.own 208 (keT ls out a b i j k).length 1),(10,.int .i64 k)] [(208,IL (keT ls out a b i j k))]) (fun k => k ≤ 5) (fun k => 5 - k) 0 (Nat.zero_le _) ?_ ?_
  · have e0 : keT ls out a b i j 0 = [] := rfl
    (refine Sub.of_lists ?_ ?_ ?_ ?_ ?_ <;> simp [Vw.mkS,Vw.lk,Vw.hk,AV.inn,innL,innL_ints,innL_append,innL_rep,-List.map_set,-List.getD_eq_getElem?_getD,innL_LL,e0])
  · intro k hk
    have hkl := keT_len ls out a b i j k
    have hst := keT_step ls out a b i j k
    by_cases hk5 : k < 5
    · generalize hU : keT ls out a b i j k = U at *
      generalize hU2 : keT ls out a b i j (k + 1) = U2 at *
      by_cases hin : (k : Int) ∈ a ∨ (k : Int) ∈ b
      · have hab : (decide ((k : Int) ∈ a) || decide ((k : Int) ∈ b)) = true := by simp only [Bool.or_eq_true,decide_eq_true_eq]; exact hin
        rw [hab,Bool.true_and] at hst
        have hp : (0 ≤ placeI out (k : Int)) = ((k : Int) ∈ out) := by
          by_cases h : (k : Int) ∈ out
          · exact propext ⟨fun _ => h,fun _ => (plI_in h).1⟩
          · exact propext ⟨fun h' => absurd h' (plI_out h).1,fun h' => absurd h' h⟩
        have hp2 : decide (0 ≤ placeI out (k : Int)) = (decide ((k : Int) ∈ out) || decide ((k : Int) ∈ (besT ls i j 0).flatten)) := by
          simp only [hp,besT,List.flatten_nil,List.not_mem_nil,decide_false,Bool.or_false]
        by_cases hA : (k : Int) ∈ a
        · have hpa := plI_in hA
          have hpa1 := hpa.2
          (repeat' (first
 | (first | refine awp_seq ?_ | refine awp_block ?_)
 | ((first | refine awp_reg ?_ | refine awp_condB ?_ | refine awp_skip ?_ | refine awp_exit ?_); simp (disch := omega) only [push_cast,seval,l58r0,l58r1,l58r2,l58r3,l58r4,l58r5,l58r6,l58r7,l58r8,l58r9,l58r10,l58r11,l58r12,l58r13,hdi,hdj,hll,hi1,hj1,hpa1,hp2,innL_LL])
 | ((first | refine condB_split (fun h => ?_) (fun h => ?_) | refine gIf_split (fun h => ?_) (fun h => ?_) | refine qIf_split (fun h => ?_) (fun h => ?_)) <;> (try simp only [h]) <;> (try simp only [bitvec_to_nat] at h) <;> (try simp only [h]) <;> (first | (exfalso; omega) | (focus (exfalso; simp_all; done)) | (simp (disch := omega) only [push_cast,seval,hdi,hdj,hll,hi1,hj1,hpa1,hp2,innL_LL]) | skip))
 | ((first | refine callD_of false ?_ | refine qcallD_of false ?_); simp (disch := omega) only [push_cast,seval,hdi,hdj,hll,hi1,hj1,hpa1,hp2,innL_LL])
 | ((first | ((first | refine call0D (BCall.ofP (placeIn_ok _ _ _ ?_ ?_)) ?_ | refine qcall0D (BCall.ofP (placeIn_ok _ _ _ ?_ ?_)) ⟨_,_,rfl,rfl⟩ ?_); (iterate 2 (exact sd)); rintro _ _ ⟨rfl,rfl⟩)) <;> (try simp (disch := omega) only [push_cast,seval,hdi,hdj,hll,hi1,hj1,hpa1,hp2,innL_LL]))
 | (refine awp_ret ⟨.inr rfl,[208],[],_,by decide,rfl,?_⟩; (try simp (disch := omega) only [push_cast,seval,↓allMem_nil,↓allMem_cons,↓List.map_cons,↓List.map_nil,hdi,hdj,hll,hi1,hj1,hpa1,hp2,innL_LL]))))
          refine awp_loop (fun q : Nat => mkS [(0,.rows false (LL false ls) ls.length),(1,RI out),(2,.int .i64 i),(3,.int .i64 j),(9,.own 208 U.length 1),(10,.int .i64 k),(11,.bool (decide ((k : Int) ∈ out) || decide ((k : Int) ∈ (besT ls i j q).flatten))),(12,.int .i64 q)] [(208,IL U)]) (fun q => q ≤ ls.length) (fun q => ls.length - q) 0 (Nat.zero_le _) ?_ ?_
          · (refine Sub.of_lists ?_ ?_ ?_ ?_ ?_ <;> simp [Vw.mkS,Vw.lk,Vw.hk,AV.inn,innL,innL_ints,innL_append,innL_rep,-List.map_set,-List.getD_eq_getElem?_getD,innL_LL])
          · intro q hq
            by_cases hql : q < ls.length
            · obtain ⟨l,hl⟩ := mem_lt hql
              have hd := LL_drop false ls q hl
              have hq1 : q + 1 ≤ ls.length := by omega
              have hbl := hb3 _ (List.mem_of_getElem? hl)
              cases hN : (decide ((k : Int) ∈ out) || decide ((k : Int) ∈ (besT ls i j q).flatten)) with
              | true =>
                have hN2 : (decide ((k : Int) ∈ out) || decide ((k : Int) ∈ (besT ls i j (q + 1)).flatten)) = true := by
                  rw [Bool.or_eq_true,decide_eq_true_eq,decide_eq_true_eq] at hN ⊢
                  rcases hN with h | h
                  · exact .inl h
                  · exact .inr (by simp only [besT,List.flatten_append,List.mem_append]; exact .inl h)
                (repeat' (first
 | (first | refine awp_seq ?_ | refine awp_block ?_)
 | ((first | refine awp_reg ?_ | refine awp_condB ?_ | refine awp_skip ?_ | refine awp_exit ?_); simp (disch := omega) only [push_cast,seval,l58r0,l58r1,l58r2,l58r3,l58r4,l58r5,l58r6,l58r7,l58r8,l58r9,l58r10,l58r11,l58r12,l58r13,hd,hll,hq1,innL_LL])
 | ((first | refine condB_split (fun h => ?_) (fun h => ?_) | refine gIf_split (fun h => ?_) (fun h => ?_) | refine qIf_split (fun h => ?_) (fun h => ?_)) <;> (try simp only [h]) <;> (try simp only [bitvec_to_nat] at h) <;> (try simp only [h]) <;> (first | (exfalso; omega) | (focus (exfalso; simp_all; done)) | (simp (disch := omega) only [push_cast,seval,hd,hll,hq1,innL_LL]) | skip))
 | ((first | refine callD_of false ?_ | refine qcallD_of false ?_); simp (disch := omega) only [push_cast,seval,hd,hll,hq1,innL_LL])
 | ((first | ((first | refine call0D (BCall.ofP (placeIn_ok _ _ _ ?_ ?_)) ?_ | refine qcall0D (BCall.ofP (placeIn_ok _ _ _ ?_ ?_)) ⟨_,_,rfl,rfl⟩ ?_); (iterate 2 (exact sd)); rintro _ _ ⟨rfl,rfl⟩)) <;> (try simp (disch := omega) only [push_cast,seval,hd,hll,hq1,innL_LL]))
 | (refine awp_ret ⟨.inr rfl,[208],[],_,by decide,rfl,?_⟩; (try simp (disch := omega) only [push_cast,seval,↓allMem_nil,↓allMem_cons,↓List.map_cons,↓List.map_nil,hd,hll,hq1,innL_LL]))))
                refine ⟨q + 1,by omega,by omega,?_⟩
                rw [hN2]
                (refine Sub.of_lists ?_ ?_ ?_ ?_ ?_ <;> simp [Vw.mkS,Vw.lk,Vw.hk,AV.inn,innL,innL_ints,innL_append,innL_rep,-List.map_set,-List.getD_eq_getElem?_getD,innL_LL])
              | false =>
                rw [Bool.or_eq_false_iff,decide_eq_false_iff_not,decide_eq_false_iff_not] at hN
                by_cases hqi : q = i
                · have hN2 : (decide ((k : Int) ∈ out) || decide ((k : Int) ∈ (besT ls i j (q + 1)).flatten)) = false := by
                    rw [besT_no (.inl hqi),Bool.or_eq_false_iff,decide_eq_false_iff_not,decide_eq_false_iff_not]; exact hN
                  have h1 : (q : Int) = i := by omega
                  have h1' : ((q : Int) = i) = True := eq_true h1
                  (repeat' (first
 | (first | refine awp_seq ?_ | refine awp_block ?_)
 | ((first | refine awp_reg ?_ | refine awp_condB ?_ | refine awp_skip ?_ | refine awp_exit ?_); simp (disch := omega) only [push_cast,seval,l58r0,l58r1,l58r2,l58r3,l58r4,l58r5,l58r6,l58r7,l58r8,l58r9,l58r10,l58r11,l58r12,l58r13,hd,hll,hq1,h1',ne_eq,not_true_eq_false,decide_false,innL_LL])
 | ((first | refine condB_split (fun h => ?_) (fun h => ?_) | refine gIf_split (fun h => ?_) (fun h => ?_) | refine qIf_split (fun h => ?_) (fun h => ?_)) <;> (try simp only [h]) <;> (try simp only [bitvec_to_nat] at h) <;> (try simp only [h]) <;> (first | (exfalso; omega) | (focus (exfalso; simp_all; done)) | (simp (disch := omega) only [push_cast,seval,hd,hll,hq1,h1',ne_eq,not_true_eq_false,decide_false,innL_LL]) | skip))
 | ((first | refine callD_of false ?_ | refine qcallD_of false ?_); simp (disch := omega) only [push_cast,seval,hd,hll,hq1,h1',ne_eq,not_true_eq_false,decide_false,innL_LL])
 | ((first | ((first | refine call0D (BCall.ofP (placeIn_ok _ _ _ ?_ ?_)) ?_ | refine qcall0D (BCall.ofP (placeIn_ok _ _ _ ?_ ?_)) ⟨_,_,rfl,rfl⟩ ?_); (iterate 2 (exact sd)); rintro _ _ ⟨rfl,rfl⟩)) <;> (try simp (disch := omega) only [push_cast,seval,hd,hll,hq1,h1',ne_eq,not_true_eq_false,decide_false,innL_LL]))
 | (refine awp_ret ⟨.inr rfl,[208],[],_,by decide,rfl,?_⟩; (try simp (disch := omega) only [push_cast,seval,↓allMem_nil,↓allMem_cons,↓List.map_cons,↓List.map_nil,hd,hll,hq1,h1',ne_eq,not_true_eq_false,decide_false,innL_LL]))))
                  refine ⟨q + 1,by omega,by omega,?_⟩
                  rw [hN2]
                  (refine Sub.of_lists ?_ ?_ ?_ ?_ ?_ <;> simp [Vw.mkS,Vw.lk,Vw.hk,AV.inn,innL,innL_ints,innL_append,innL_rep,-List.map_set,-List.getD_eq_getElem?_getD,innL_LL])
                · have h1 : ((q : Int) = i) = False := eq_false (by omega)
                  by_cases hqj : q = j
                  · have hN2 : (decide ((k : Int) ∈ out) || decide ((k : Int) ∈ (besT ls i j (q + 1)).flatten)) = false := by
                      rw [besT_no (.inr hqj),Bool.or_eq_false_iff,decide_eq_false_iff_not,decide_eq_false_iff_not]; exact hN
                    have h2 : ((q : Int) = j) = True := eq_true (by omega)
                    (repeat' (first
 | (first | refine awp_seq ?_ | refine awp_block ?_)
 | ((first | refine awp_reg ?_ | refine awp_condB ?_ | refine awp_skip ?_ | refine awp_exit ?_); simp (disch := omega) only [push_cast,seval,l58r0,l58r1,l58r2,l58r3,l58r4,l58r5,l58r6,l58r7,l58r8,l58r9,l58r10,l58r11,l58r12,l58r13,hd,hll,hq1,h1,h2,innL_LL])
 | ((first | refine condB_split (fun h => ?_) (fun h => ?_) | refine gIf_split (fun h => ?_) (fun h => ?_) | refine qIf_split (fun h => ?_) (fun h => ?_)) <;> (try simp only [h]) <;> (try simp only [bitvec_to_nat] at h) <;> (try simp only [h]) <;> (first | (exfalso; omega) | (focus (exfalso; simp_all; done)) | (simp (disch := omega) only [push_cast,seval,hd,hll,hq1,h1,h2,innL_LL]) | skip))
 | ((first | refine callD_of false ?_ | refine qcallD_of false ?_); simp (disch := omega) only [push_cast,seval,hd,hll,hq1,h1,h2,innL_LL])
 | ((first | ((first | refine call0D (BCall.ofP (placeIn_ok _ _ _ ?_ ?_)) ?_ | refine qcall0D (BCall.ofP (placeIn_ok _ _ _ ?_ ?_)) ⟨_,_,rfl,rfl⟩ ?_); (iterate 2 (exact sd)); rintro _ _ ⟨rfl,rfl⟩)) <;> (try simp (disch := omega) only [push_cast,seval,hd,hll,hq1,h1,h2,innL_LL]))
 | (refine awp_ret ⟨.inr rfl,[208],[],_,by decide,rfl,?_⟩; (try simp (disch := omega) only [push_cast,seval,↓allMem_nil,↓allMem_cons,↓List.map_cons,↓List.map_nil,hd,hll,hq1,h1,h2,innL_LL]))))
                    refine ⟨q + 1,by omega,by omega,?_⟩
                    rw [hN2]
                    (refine Sub.of_lists ?_ ?_ ?_ ?_ ?_ <;> simp [Vw.mkS,Vw.lk,Vw.hk,AV.inn,innL,innL_ints,innL_append,innL_rep,-List.map_set,-List.getD_eq_getElem?_getD,innL_LL])
                  · have h2 : ((q : Int) = j) = False := eq_false (by omega)
                    have hN2 : (decide ((k : Int) ∈ out) || decide ((k : Int) ∈ (besT ls i j (q + 1)).flatten)) = decide ((k : Int) ∈ l) := by
                      rw [besT_yes hl hqi hqj,Bool.eq_iff_iff]
                      simp only [Bool.or_eq_true,decide_eq_true_eq,List.flatten_append,List.mem_append,List.flatten_cons,List.flatten_nil,List.append_nil]
                      exact ⟨fun h => by rcases h with h | h | h; exact absurd h hN.1; exact absurd h hN.2; exact h,fun h => .inr (.inr h)⟩
                    have hp3 : (0 ≤ placeI l (k : Int)) = ((k : Int) ∈ l) := by
                      by_cases h : (k : Int) ∈ l
                      · exact propext ⟨fun _ => h,fun _ => (plI_in h).1⟩
                      · exact propext ⟨fun h' => absurd h' (plI_out h).1,fun h' => absurd h' h⟩
                    (repeat' (first
 | (first | refine awp_seq ?_ | refine awp_block ?_)
 | ((first | refine awp_reg ?_ | refine awp_condB ?_ | refine awp_skip ?_ | refine awp_exit ?_); simp (disch := omega) only [push_cast,seval,l58r0,l58r1,l58r2,l58r3,l58r4,l58r5,l58r6,l58r7,l58r8,l58r9,l58r10,l58r11,l58r12,l58r13,hd,hll,hq1,h1,h2,hp3,innL_LL])
 | ((first | refine condB_split (fun h => ?_) (fun h => ?_) | refine gIf_split (fun h => ?_) (fun h => ?_) | refine qIf_split (fun h => ?_) (fun h => ?_)) <;> (try simp only [h]) <;> (try simp only [bitvec_to_nat] at h) <;> (try simp only [h]) <;> (first | (exfalso; omega) | (focus (exfalso; simp_all; done)) | (simp (disch := omega) only [push_cast,seval,hd,hll,hq1,h1,h2,hp3,innL_LL]) | skip))
 | ((first | refine callD_of false ?_ | refine qcallD_of false ?_); simp (disch := omega) only [push_cast,seval,hd,hll,hq1,h1,h2,hp3,innL_LL])
 | ((first | ((first | refine call0D (BCall.ofP (placeIn_ok _ _ _ ?_ ?_)) ?_ | refine qcall0D (BCall.ofP (placeIn_ok _ _ _ ?_ ?_)) ⟨_,_,rfl,rfl⟩ ?_); (iterate 2 (exact sd)); rintro _ _ ⟨rfl,rfl⟩)) <;> (try simp (disch := omega) only [push_cast,seval,hd,hll,hq1,h1,h2,hp3,innL_LL]))
 | (refine awp_ret ⟨.inr rfl,[208],[],_,by decide,rfl,?_⟩; (try simp (disch := omega) only [push_cast,seval,↓allMem_nil,↓allMem_cons,↓List.map_cons,↓List.map_nil,hd,hll,hq1,h1,h2,hp3,innL_LL]))))
                    refine ⟨q + 1,by omega,by omega,?_⟩
                    rw [hN2]
                    (refine Sub.of_lists ?_ ?_ ?_ ?_ ?_ <;> simp [Vw.mkS,Vw.lk,Vw.hk,AV.inn,innL,innL_ints,innL_append,innL_rep,-List.map_set,-List.getD_eq_getElem?_getD,innL_LL])
            · have eq : q = ls.length := by omega
              subst eq
              have hbs : besT ls i j ls.length = besL ls i j := rfl
              rw [hbs]
              cases hN : (decide ((k : Int) ∈ out) || decide ((k : Int) ∈ (besL ls i j).flatten)) with
              | true =>
                rw [hN,if_pos rfl] at hst
                (repeat' (first
 | (first | refine awp_seq ?_ | refine awp_block ?_)
 | ((first | refine awp_reg ?_ | refine awp_condB ?_ | refine awp_skip ?_ | refine awp_exit ?_); simp (disch := omega) only [push_cast,seval,l58r0,l58r1,l58r2,l58r3,l58r4,l58r5,l58r6,l58r7,l58r8,l58r9,l58r10,l58r11,l58r12,l58r13,hll,List.length_map,innL_LL])
 | ((first | refine condB_split (fun h => ?_) (fun h => ?_) | refine gIf_split (fun h => ?_) (fun h => ?_) | refine qIf_split (fun h => ?_) (fun h => ?_)) <;> (try simp only [h]) <;> (try simp only [bitvec_to_nat] at h) <;> (try simp only [h]) <;> (first | (exfalso; omega) | (focus (exfalso; simp_all; done)) | (simp (disch := omega) only [push_cast,seval,hll,List.length_map,innL_LL]) | skip))
 | ((first | refine callD_of false ?_ | refine qcallD_of false ?_); simp (disch := omega) only [push_cast,seval,hll,List.length_map,innL_LL])
 | ((first | ((first | refine call0D (BCall.ofP (placeIn_ok _ _ _ ?_ ?_)) ?_ | refine qcall0D (BCall.ofP (placeIn_ok _ _ _ ?_ ?_)) ⟨_,_,rfl,rfl⟩ ?_); (iterate 2 (exact sd)); rintro _ _ ⟨rfl,rfl⟩)) <;> (try simp (disch := omega) only [push_cast,seval,hll,List.length_map,innL_LL]))
 | (refine awp_ret ⟨.inr rfl,[208],[],_,by decide,rfl,?_⟩; (try simp (disch := omega) only [push_cast,seval,↓allMem_nil,↓allMem_cons,↓List.map_cons,↓List.map_nil,hll,List.length_map,innL_LL]))))
                refine ⟨k + 1,by omega,by omega,?_⟩
                rw [hU2,hst]
                (refine Sub.of_lists ?_ ?_ ?_ ?_ ?_ <;> simp [Vw.mkS,Vw.lk,Vw.hk,AV.inn,innL,innL_ints,innL_append,innL_rep,-List.map_set,-List.getD_eq_getElem?_getD,innL_LL])
              | false =>
                rw [hN,if_neg (by simp),List.append_nil] at hst
                (repeat' (first
 | (first | refine awp_seq ?_ | refine awp_block ?_)
 | ((first | refine awp_reg ?_ | refine awp_condB ?_ | refine awp_skip ?_ | refine awp_exit ?_); simp (disch := omega) only [push_cast,seval,l58r0,l58r1,l58r2,l58r3,l58r4,l58r5,l58r6,l58r7,l58r8,l58r9,l58r10,l58r11,l58r12,l58r13,hll,innL_LL])
 | ((first | refine condB_split (fun h => ?_) (fun h => ?_) | refine gIf_split (fun h => ?_) (fun h => ?_) | refine qIf_split (fun h => ?_) (fun h => ?_)) <;> (try simp only [h]) <;> (try simp only [bitvec_to_nat] at h) <;> (try simp only [h]) <;> (first | (exfalso; omega) | (focus (exfalso; simp_all; done)) | (simp (disch := omega) only [push_cast,seval,hll,innL_LL]) | skip))
 | ((first | refine callD_of false ?_ | refine qcallD_of false ?_); simp (disch := omega) only [push_cast,seval,hll,innL_LL])
 | ((first | ((first | refine call0D (BCall.ofP (placeIn_ok _ _ _ ?_ ?_)) ?_ | refine qcall0D (BCall.ofP (placeIn_ok _ _ _ ?_ ?_)) ⟨_,_,rfl,rfl⟩ ?_); (iterate 2 (exact sd)); rintro _ _ ⟨rfl,rfl⟩)) <;> (try simp (disch := omega) only [push_cast,seval,hll,innL_LL]))
 | (refine awp_ret ⟨.inr rfl,[208],[],_,by decide,rfl,?_⟩; (try simp (disch := omega) only [push_cast,seval,↓allMem_nil,↓allMem_cons,↓List.map_cons,↓List.map_nil,hll,innL_LL]))))
                refine ⟨k + 1,by omega,by omega,?_⟩
                rw [hU2,hst]
                (refine Sub.of_lists ?_ ?_ ?_ ?_ ?_ <;> simp [Vw.mkS,Vw.lk,Vw.hk,AV.inn,innL,innL_ints,innL_append,innL_rep,-List.map_set,-List.getD_eq_getElem?_getD,innL_LL])
        · have hB : (k : Int) ∈ b := by rcases hin with h | h; exact absurd h hA; exact h
          have hpa := (plI_out hA).2
          have hpb := (plI_in hB).2
          (repeat' (first
 | (first | refine awp_seq ?_ | refine awp_block ?_)
 | ((first | refine awp_reg ?_ | refine awp_condB ?_ | refine awp_skip ?_ | refine awp_exit ?_); simp (disch := omega) only [push_cast,seval,l58r0,l58r1,l58r2,l58r3,l58r4,l58r5,l58r6,l58r7,l58r8,l58r9,l58r10,l58r11,l58r12,l58r13,hdi,hdj,hll,hi1,hj1,hpa,hpb,hp2,innL_LL])
 | ((first | refine condB_split (fun h => ?_) (fun h => ?_) | refine gIf_split (fun h => ?_) (fun h => ?_) | refine qIf_split (fun h => ?_) (fun h => ?_)) <;> (try simp only [h]) <;> (try simp only [bitvec_to_nat] at h) <;> (try simp only [h]) <;> (first | (exfalso; omega) | (focus (exfalso; simp_all; done)) | (simp (disch := omega) only [push_cast,seval,hdi,hdj,hll,hi1,hj1,hpa,hpb,hp2,innL_LL]) | skip))
 | ((first | refine callD_of false ?_ | refine qcallD_of false ?_); simp (disch := omega) only [push_cast,seval,hdi,hdj,hll,hi1,hj1,hpa,hpb,hp2,innL_LL])
 | ((first | ((first | refine call0D (BCall.ofP (placeIn_ok _ _ _ ?_ ?_)) ?_ | refine qcall0D (BCall.ofP (placeIn_ok _ _ _ ?_ ?_)) ⟨_,_,rfl,rfl⟩ ?_); (iterate 2 (exact sd)); rintro _ _ ⟨rfl,rfl⟩)) <;> (try simp (disch := omega) only [push_cast,seval,hdi,hdj,hll,hi1,hj1,hpa,hpb,hp2,innL_LL]))
 | (refine awp_ret ⟨.inr rfl,[208],[],_,by decide,rfl,?_⟩; (try simp (disch := omega) only [push_cast,seval,↓allMem_nil,↓allMem_cons,↓List.map_cons,↓List.map_nil,hdi,hdj,hll,hi1,hj1,hpa,hpb,hp2,innL_LL]))))
          refine awp_loop (fun q : Nat => mkS [(0,.rows false (LL false ls) ls.length),(1,RI out),(2,.int .i64 i),(3,.int .i64 j),(9,.own 208 U.length 1),(10,.int .i64 k),(11,.bool (decide ((k : Int) ∈ out) || decide ((k : Int) ∈ (besT ls i j q).flatten))),(12,.int .i64 q)] [(208,IL U)]) (fun q => q ≤ ls.length) (fun q => ls.length - q) 0 (Nat.zero_le _) ?_ ?_
          · (refine Sub.of_lists ?_ ?_ ?_ ?_ ?_ <;> simp [Vw.mkS,Vw.lk,Vw.hk,AV.inn,innL,innL_ints,innL_append,innL_rep,-List.map_set,-List.getD_eq_getElem?_getD,innL_LL])
          · intro q hq
            by_cases hql : q < ls.length
            · obtain ⟨l,hl⟩ := mem_lt hql
              have hd := LL_drop false ls q hl
              have hq1 : q + 1 ≤ ls.length := by omega
              have hbl := hb3 _ (List.mem_of_getElem? hl)
              cases hN : (decide ((k : Int) ∈ out) || decide ((k : Int) ∈ (besT ls i j q).flatten)) with
              | true =>
                have hN2 : (decide ((k : Int) ∈ out) || decide ((k : Int) ∈ (besT ls i j (q + 1)).flatten)) = true := by
                  rw [Bool.or_eq_true,decide_eq_true_eq,decide_eq_true_eq] at hN ⊢
                  rcases hN with h | h
                  · exact .inl h
                  · exact .inr (by simp only [besT,List.flatten_append,List.mem_append]; exact .inl h)
                (repeat' (first
 | (first | refine awp_seq ?_ | refine awp_block ?_)
 | ((first | refine awp_reg ?_ | refine awp_condB ?_ | refine awp_skip ?_ | refine awp_exit ?_); simp (disch := omega) only [push_cast,seval,l58r0,l58r1,l58r2,l58r3,l58r4,l58r5,l58r6,l58r7,l58r8,l58r9,l58r10,l58r11,l58r12,l58r13,hd,hll,hq1,innL_LL])
 | ((first | refine condB_split (fun h => ?_) (fun h => ?_) | refine gIf_split (fun h => ?_) (fun h => ?_) | refine qIf_split (fun h => ?_) (fun h => ?_)) <;> (try simp only [h]) <;> (try simp only [bitvec_to_nat] at h) <;> (try simp only [h]) <;> (first | (exfalso; omega) | (focus (exfalso; simp_all; done)) | (simp (disch := omega) only [push_cast,seval,hd,hll,hq1,innL_LL]) | skip))
 | ((first | refine callD_of false ?_ | refine qcallD_of false ?_); simp (disch := omega) only [push_cast,seval,hd,hll,hq1,innL_LL])
 | ((first | ((first | refine call0D (BCall.ofP (placeIn_ok _ _ _ ?_ ?_)) ?_ | refine qcall0D (BCall.ofP (placeIn_ok _ _ _ ?_ ?_)) ⟨_,_,rfl,rfl⟩ ?_); (iterate 2 (exact sd)); rintro _ _ ⟨rfl,rfl⟩)) <;> (try simp (disch := omega) only [push_cast,seval,hd,hll,hq1,innL_LL]))
 | (refine awp_ret ⟨.inr rfl,[208],[],_,by decide,rfl,?_⟩; (try simp (disch := omega) only [push_cast,seval,↓allMem_nil,↓allMem_cons,↓List.map_cons,↓List.map_nil,hd,hll,hq1,innL_LL]))))
                refine ⟨q + 1,by omega,by omega,?_⟩
                rw [hN2]
                (refine Sub.of_lists ?_ ?_ ?_ ?_ ?_ <;> simp [Vw.mkS,Vw.lk,Vw.hk,AV.inn,innL,innL_ints,innL_append,innL_rep,-List.map_set,-List.getD_eq_getElem?_getD,innL_LL])
              | false =>
                rw [Bool.or_eq_false_iff,decide_eq_false_iff_not,decide_eq_false_iff_not] at hN
                by_cases hqi : q = i
                · have hN2 : (decide ((k : Int) ∈ out) || decide ((k : Int) ∈ (besT ls i j (q + 1)).flatten)) = false := by
                    rw [besT_no (.inl hqi),Bool.or_eq_false_iff,decide_eq_false_iff_not,decide_eq_false_iff_not]; exact hN
                  have h1 : (q : Int) = i := by omega
                  have h1' : ((q : Int) = i) = True := eq_true h1
                  (repeat' (first
 | (first | refine awp_seq ?_ | refine awp_block ?_)
 | ((first | refine awp_reg ?_ | refine awp_condB ?_ | refine awp_skip ?_ | refine awp_exit ?_); simp (disch := omega) only [push_cast,seval,l58r0,l58r1,l58r2,l58r3,l58r4,l58r5,l58r6,l58r7,l58r8,l58r9,l58r10,l58r11,l58r12,l58r13,hd,hll,hq1,h1',ne_eq,not_true_eq_false,decide_false,innL_LL])
 | ((first | refine condB_split (fun h => ?_) (fun h => ?_) | refine gIf_split (fun h => ?_) (fun h => ?_) | refine qIf_split (fun h => ?_) (fun h => ?_)) <;> (try simp only [h]) <;> (try simp only [bitvec_to_nat] at h) <;> (try simp only [h]) <;> (first | (exfalso; omega) | (focus (exfalso; simp_all; done)) | (simp (disch := omega) only [push_cast,seval,hd,hll,hq1,h1',ne_eq,not_true_eq_false,decide_false,innL_LL]) | skip))
 | ((first | refine callD_of false ?_ | refine qcallD_of false ?_); simp (disch := omega) only [push_cast,seval,hd,hll,hq1,h1',ne_eq,not_true_eq_false,decide_false,innL_LL])
 | ((first | ((first | refine call0D (BCall.ofP (placeIn_ok _ _ _ ?_ ?_)) ?_ | refine qcall0D (BCall.ofP (placeIn_ok _ _ _ ?_ ?_)) ⟨_,_,rfl,rfl⟩ ?_); (iterate 2 (exact sd)); rintro _ _ ⟨rfl,rfl⟩)) <;> (try simp (disch := omega) only [push_cast,seval,hd,hll,hq1,h1',ne_eq,not_true_eq_false,decide_false,innL_LL]))
 | (refine awp_ret ⟨.inr rfl,[208],[],_,by decide,rfl,?_⟩; (try simp (disch := omega) only [push_cast,seval,↓allMem_nil,↓allMem_cons,↓List.map_cons,↓List.map_nil,hd,hll,hq1,h1',ne_eq,not_true_eq_false,decide_false,innL_LL]))))
                  refine ⟨q + 1,by omega,by omega,?_⟩
                  rw [hN2]
                  (refine Sub.of_lists ?_ ?_ ?_ ?_ ?_ <;> simp [Vw.mkS,Vw.lk,Vw.hk,AV.inn,innL,innL_ints,innL_append,innL_rep,-List.map_set,-List.getD_eq_getElem?_getD,innL_LL])
                · have h1 : ((q : Int) = i) = False := eq_false (by omega)
                  by_cases hqj : q = j
                  · have hN2 : (decide ((k : Int) ∈ out) || decide ((k : Int) ∈ (besT ls i j (q + 1)).flatten)) = false := by
                      rw [besT_no (.inr hqj),Bool.or_eq_false_iff,decide_eq_false_iff_not,decide_eq_false_iff_not]; exact hN
                    have h2 : ((q : Int) = j) = True := eq_true (by omega)
                    (repeat' (first
 | (first | refine awp_seq ?_ | refine awp_block ?_)
 | ((first | refine awp_reg ?_ | refine awp_condB ?_ | refine awp_skip ?_ | refine awp_exit ?_); simp (disch := omega) only [push_cast,seval,l58r0,l58r1,l58r2,l58r3,l58r4,l58r5,l58r6,l58r7,l58r8,l58r9,l58r10,l58r11,l58r12,l58r13,hd,hll,hq1,h1,h2,innL_LL])
 | ((first | refine condB_split (fun h => ?_) (fun h => ?_) | refine gIf_split (fun h => ?_) (fun h => ?_) | refine qIf_split (fun h => ?_) (fun h => ?_)) <;> (try simp only [h]) <;> (try simp only [bitvec_to_nat] at h) <;> (try simp only [h]) <;> (first | (exfalso; omega) | (focus (exfalso; simp_all; done)) | (simp (disch := omega) only [push_cast,seval,hd,hll,hq1,h1,h2,innL_LL]) | skip))
 | ((first | refine callD_of false ?_ | refine qcallD_of false ?_); simp (disch := omega) only [push_cast,seval,hd,hll,hq1,h1,h2,innL_LL])
 | ((first | ((first | refine call0D (BCall.ofP (placeIn_ok _ _ _ ?_ ?_)) ?_ | refine qcall0D (BCall.ofP (placeIn_ok _ _ _ ?_ ?_)) ⟨_,_,rfl,rfl⟩ ?_); (iterate 2 (exact sd)); rintro _ _ ⟨rfl,rfl⟩)) <;> (try simp (disch := omega) only [push_cast,seval,hd,hll,hq1,h1,h2,innL_LL]))
 | (refine awp_ret ⟨.inr rfl,[208],[],_,by decide,rfl,?_⟩; (try simp (disch := omega) only [push_cast,seval,↓allMem_nil,↓allMem_cons,↓List.map_cons,↓List.map_nil,hd,hll,hq1,h1,h2,innL_LL]))))
                    refine ⟨q + 1,by omega,by omega,?_⟩
                    rw [hN2]
                    (refine Sub.of_lists ?_ ?_ ?_ ?_ ?_ <;> simp [Vw.mkS,Vw.lk,Vw.hk,AV.inn,innL,innL_ints,innL_append,innL_rep,-List.map_set,-List.getD_eq_getElem?_getD,innL_LL])
                  · have h2 : ((q : Int) = j) = False := eq_false (by omega)
                    have hN2 : (decide ((k : Int) ∈ out) || decide ((k : Int) ∈ (besT ls i j (q + 1)).flatten)) = decide ((k : Int) ∈ l) := by
                      rw [besT_yes hl hqi hqj,Bool.eq_iff_iff]
                      simp only [Bool.or_eq_true,decide_eq_true_eq,List.flatten_append,List.mem_append,List.flatten_cons,List.flatten_nil,List.append_nil]
                      exact ⟨fun h => by rcases h with h | h | h; exact absurd h hN.1; exact absurd h hN.2; exact h,fun h => .inr (.inr h)⟩
                    have hp3 : (0 ≤ placeI l (k : Int)) = ((k : Int) ∈ l) := by
                      by_cases h : (k : Int) ∈ l
                      · exact propext ⟨fun _ => h,fun _ => (plI_in h).1⟩
                      · exact propext ⟨fun h' => absurd h' (plI_out h).1,fun h' => absurd h' h⟩
                    (repeat' (first
 | (first | refine awp_seq ?_ | refine awp_block ?_)
 | ((first | refine awp_reg ?_ | refine awp_condB ?_ | refine awp_skip ?_ | refine awp_exit ?_); simp (disch := omega) only [push_cast,seval,l58r0,l58r1,l58r2,l58r3,l58r4,l58r5,l58r6,l58r7,l58r8,l58r9,l58r10,l58r11,l58r12,l58r13,hd,hll,hq1,h1,h2,hp3,innL_LL])
 | ((first | refine condB_split (fun h => ?_) (fun h => ?_) | refine gIf_split (fun h => ?_) (fun h => ?_) | refine qIf_split (fun h => ?_) (fun h => ?_)) <;> (try simp only [h]) <;> (try simp only [bitvec_to_nat] at h) <;> (try simp only [h]) <;> (first | (exfalso; omega) | (focus (exfalso; simp_all; done)) | (simp (disch := omega) only [push_cast,seval,hd,hll,hq1,h1,h2,hp3,innL_LL]) | skip))
 | ((first | refine callD_of false ?_ | refine qcallD_of false ?_); simp (disch := omega) only [push_cast,seval,hd,hll,hq1,h1,h2,hp3,innL_LL])
 | ((first | ((first | refine call0D (BCall.ofP (placeIn_ok _ _ _ ?_ ?_)) ?_ | refine qcall0D (BCall.ofP (placeIn_ok _ _ _ ?_ ?_)) ⟨_,_,rfl,rfl⟩ ?_); (iterate 2 (exact sd)); rintro _ _ ⟨rfl,rfl⟩)) <;> (try simp (disch := omega) only [push_cast,seval,hd,hll,hq1,h1,h2,hp3,innL_LL]))
 | (refine awp_ret ⟨.inr rfl,[208],[],_,by decide,rfl,?_⟩; (try simp (disch := omega) only [push_cast,seval,↓allMem_nil,↓allMem_cons,↓List.map_cons,↓List.map_nil,hd,hll,hq1,h1,h2,hp3,innL_LL]))))
                    refine ⟨q + 1,by omega,by omega,?_⟩
                    rw [hN2]
                    (refine Sub.of_lists ?_ ?_ ?_ ?_ ?_ <;> simp [Vw.mkS,Vw.lk,Vw.hk,AV.inn,innL,innL_ints,innL_append,innL_rep,-List.map_set,-List.getD_eq_getElem?_getD,innL_LL])
            · have eq : q = ls.length := by omega
              subst eq
              have hbs : besT ls i j ls.length = besL ls i j := rfl
              rw [hbs]
              cases hN : (decide ((k : Int) ∈ out) || decide ((k : Int) ∈ (besL ls i j).flatten)) with
              | true =>
                rw [hN,if_pos rfl] at hst
                (repeat' (first
 | (first | refine awp_seq ?_ | refine awp_block ?_)
 | ((first | refine awp_reg ?_ | refine awp_condB ?_ | refine awp_skip ?_ | refine awp_exit ?_); simp (disch := omega) only [push_cast,seval,l58r0,l58r1,l58r2,l58r3,l58r4,l58r5,l58r6,l58r7,l58r8,l58r9,l58r10,l58r11,l58r12,l58r13,hll,List.length_map,innL_LL])
 | ((first | refine condB_split (fun h => ?_) (fun h => ?_) | refine gIf_split (fun h => ?_) (fun h => ?_) | refine qIf_split (fun h => ?_) (fun h => ?_)) <;> (try simp only [h]) <;> (try simp only [bitvec_to_nat] at h) <;> (try simp only [h]) <;> (first | (exfalso; omega) | (focus (exfalso; simp_all; done)) | (simp (disch := omega) only [push_cast,seval,hll,List.length_map,innL_LL]) | skip))
 | ((first | refine callD_of false ?_ | refine qcallD_of false ?_); simp (disch := omega) only [push_cast,seval,hll,List.length_map,innL_LL])
 | ((first | ((first | refine call0D (BCall.ofP (placeIn_ok _ _ _ ?_ ?_)) ?_ | refine qcall0D (BCall.ofP (placeIn_ok _ _ _ ?_ ?_)) ⟨_,_,rfl,rfl⟩ ?_); (iterate 2 (exact sd)); rintro _ _ ⟨rfl,rfl⟩)) <;> (try simp (disch := omega) only [push_cast,seval,hll,List.length_map,innL_LL]))
 | (refine awp_ret ⟨.inr rfl,[208],[],_,by decide,rfl,?_⟩; (try simp (disch := omega) only [push_cast,seval,↓allMem_nil,↓allMem_cons,↓List.map_cons,↓List.map_nil,hll,List.length_map,innL_LL]))))
                refine ⟨k + 1,by omega,by omega,?_⟩
                rw [hU2,hst]
                (refine Sub.of_lists ?_ ?_ ?_ ?_ ?_ <;> simp [Vw.mkS,Vw.lk,Vw.hk,AV.inn,innL,innL_ints,innL_append,innL_rep,-List.map_set,-List.getD_eq_getElem?_getD,innL_LL])
              | false =>
                rw [hN,if_neg (by simp),List.append_nil] at hst
                (repeat' (first
 | (first | refine awp_seq ?_ | refine awp_block ?_)
 | ((first | refine awp_reg ?_ | refine awp_condB ?_ | refine awp_skip ?_ | refine awp_exit ?_); simp (disch := omega) only [push_cast,seval,l58r0,l58r1,l58r2,l58r3,l58r4,l58r5,l58r6,l58r7,l58r8,l58r9,l58r10,l58r11,l58r12,l58r13,hll,innL_LL])
 | ((first | refine condB_split (fun h => ?_) (fun h => ?_) | refine gIf_split (fun h => ?_) (fun h => ?_) | refine qIf_split (fun h => ?_) (fun h => ?_)) <;> (try simp only [h]) <;> (try simp only [bitvec_to_nat] at h) <;> (try simp only [h]) <;> (first | (exfalso; omega) | (focus (exfalso; simp_all; done)) | (simp (disch := omega) only [push_cast,seval,hll,innL_LL]) | skip))
 | ((first | refine callD_of false ?_ | refine qcallD_of false ?_); simp (disch := omega) only [push_cast,seval,hll,innL_LL])
 | ((first | ((first | refine call0D (BCall.ofP (placeIn_ok _ _ _ ?_ ?_)) ?_ | refine qcall0D (BCall.ofP (placeIn_ok _ _ _ ?_ ?_)) ⟨_,_,rfl,rfl⟩ ?_); (iterate 2 (exact sd)); rintro _ _ ⟨rfl,rfl⟩)) <;> (try simp (disch := omega) only [push_cast,seval,hll,innL_LL]))
 | (refine awp_ret ⟨.inr rfl,[208],[],_,by decide,rfl,?_⟩; (try simp (disch := omega) only [push_cast,seval,↓allMem_nil,↓allMem_cons,↓List.map_cons,↓List.map_nil,hll,innL_LL]))))
                refine ⟨k + 1,by omega,by omega,?_⟩
                rw [hU2,hst]
                (refine Sub.of_lists ?_ ?_ ?_ ?_ ?_ <;> simp [Vw.mkS,Vw.lk,Vw.hk,AV.inn,innL,innL_ints,innL_append,innL_rep,-List.map_set,-List.getD_eq_getElem?_getD,innL_LL])
      · have hab : (decide ((k : Int) ∈ a) || decide ((k : Int) ∈ b)) = false := by
          rw [Bool.or_eq_false_iff,decide_eq_false_iff_not,decide_eq_false_iff_not]
          exact ⟨fun h => hin (.inl h),fun h => hin (.inr h)⟩
        rw [hab,Bool.false_and] at hst
        simp only [Bool.false_eq_true,if_false,List.append_nil] at hst
        have hpa := (plI_out fun h => hin (.inl h)).2
        have hpb := (plI_out fun h => hin (.inr h)).2
        (repeat' (first
 | (first | refine awp_seq ?_ | refine awp_block ?_)
 | ((first | refine awp_reg ?_ | refine awp_condB ?_ | refine awp_skip ?_ | refine awp_exit ?_); simp (disch := omega) only [push_cast,seval,l58r0,l58r1,l58r2,l58r3,l58r4,l58r5,l58r6,l58r7,l58r8,l58r9,l58r10,l58r11,l58r12,l58r13,hdi,hdj,hll,hi1,hj1,hpa,hpb,innL_LL])
 | ((first | refine condB_split (fun h => ?_) (fun h => ?_) | refine gIf_split (fun h => ?_) (fun h => ?_) | refine qIf_split (fun h => ?_) (fun h => ?_)) <;> (try simp only [h]) <;> (try simp only [bitvec_to_nat] at h) <;> (try simp only [h]) <;> (first | (exfalso; omega) | (focus (exfalso; simp_all; done)) | (simp (disch := omega) only [push_cast,seval,hdi,hdj,hll,hi1,hj1,hpa,hpb,innL_LL]) | skip))
 | ((first | refine callD_of false ?_ | refine qcallD_of false ?_); simp (disch := omega) only [push_cast,seval,hdi,hdj,hll,hi1,hj1,hpa,hpb,innL_LL])
 | ((first | ((first | refine call0D (BCall.ofP (placeIn_ok _ _ _ ?_ ?_)) ?_ | refine qcall0D (BCall.ofP (placeIn_ok _ _ _ ?_ ?_)) ⟨_,_,rfl,rfl⟩ ?_); (iterate 2 (exact sd)); rintro _ _ ⟨rfl,rfl⟩)) <;> (try simp (disch := omega) only [push_cast,seval,hdi,hdj,hll,hi1,hj1,hpa,hpb,innL_LL]))
 | (refine awp_ret ⟨.inr rfl,[208],[],_,by decide,rfl,?_⟩; (try simp (disch := omega) only [push_cast,seval,↓allMem_nil,↓allMem_cons,↓List.map_cons,↓List.map_nil,hdi,hdj,hll,hi1,hj1,hpa,hpb,innL_LL]))))
        refine ⟨k + 1,by omega,by omega,?_⟩
        rw [hU2,hst]
        (refine Sub.of_lists ?_ ?_ ?_ ?_ ?_ <;> simp [Vw.mkS,Vw.lk,Vw.hk,AV.inn,innL,innL_ints,innL_append,innL_rep,-List.map_set,-List.getD_eq_getElem?_getD,innL_LL])
    · have ek : k = 5 := by omega
      subst ek
      (repeat' (first
 | (first | refine awp_seq ?_ | refine awp_block ?_)
 | ((first | refine awp_reg ?_ | refine awp_condB ?_ | refine awp_skip ?_ | refine awp_exit ?_); simp (disch := omega) only [push_cast,seval,l58r0,l58r1,l58r2,l58r3,l58r4,l58r5,l58r6,l58r7,l58r8,l58r9,l58r10,l58r11,l58r12,l58r13,List.length_map,innL_LL])
 | ((first | refine condB_split (fun h => ?_) (fun h => ?_) | refine gIf_split (fun h => ?_) (fun h => ?_) | refine qIf_split (fun h => ?_) (fun h => ?_)) <;> (try simp only [h]) <;> (try simp only [bitvec_to_nat] at h) <;> (try simp only [h]) <;> (first | (exfalso; omega) | (focus (exfalso; simp_all; done)) | (simp (disch := omega) only [push_cast,seval,List.length_map,innL_LL]) | skip))
 | ((first | refine callD_of false ?_ | refine qcallD_of false ?_); simp (disch := omega) only [push_cast,seval,List.length_map,innL_LL])
 | ((first | ((first | refine call0D (BCall.ofP (placeIn_ok _ _ _ ?_ ?_)) ?_ | refine qcall0D (BCall.ofP (placeIn_ok _ _ _ ?_ ?_)) ⟨_,_,rfl,rfl⟩ ?_); (iterate 2 (exact sd)); rintro _ _ ⟨rfl,rfl⟩)) <;> (try simp (disch := omega) only [push_cast,seval,List.length_map,innL_LL]))
 | (refine awp_ret ⟨.inr rfl,[208],[],_,by decide,rfl,?_⟩; (try simp (disch := omega) only [push_cast,seval,↓allMem_nil,↓allMem_cons,↓List.map_cons,↓List.map_nil,List.length_map,innL_LL]))))
      all_goals (first | exact ⟨rfl,rfl⟩ | skip)

end Go.Proofs.Ytejbfjmiidofcaa
