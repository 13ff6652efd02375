import Derived.Test.YtejbfjmiidofcaaCKp7
import Derived.Test.YtejbfjmiidofcaaCM1
import Derived.Test.YtejbfjmiidofcaaCW3
set_option linter.unusedSimpArgs false
set_option linter.unusedVariables false
set_option maxRecDepth 4000
set_option maxHeartbeats 4000000
namespace Go.Proofs.Ytejbfjmiidofcaa
open VwM Vw Go

/-- What the inner loop of the cost by two has found after q lists. -/
def rcO (e : List Int) (ls : List (List Int)) (K : List Int) (i j k q : Nat) : Int := if (k : Int) ∈ (besT ls i j q).flatten ∨ (0 < q ∧ (k : Int) ∈ K) then e.getD k 0 else -1
theorem rcO_zero (e : List Int) (ls : List (List Int)) (K : List Int) (i j k : Nat) : rcO e ls K i j k 0 = -1 := by
  unfold rcO; rw [if_neg]; simp [besT]
theorem rcO_all (e : List Int) (ls : List (List Int)) (K : List Int) (i j k q : Nat) (hq : 0 < q) (he : q = ls.length) : rcO e ls K i j k q = if (k : Int) ∈ (besL ls i j).flatten ++ K then e.getD k 0 else -1 := by
  subst he
  unfold rcO
  simp only [hq,true_and,List.mem_append]
theorem rcO_keep {e : List Int} {ls : List (List Int)} {K : List Int} {i j k q : Nat} (h : (k : Int) ∈ K) : rcO e ls K i j k (q + 1) = e.getD k 0 := by
  unfold rcO; rw [if_pos (.inr ⟨by omega,h⟩)]
theorem rcO_skip {e : List Int} {ls : List (List Int)} {K : List Int} {i j k q : Nat} (h : (k : Int) ∉ K) (hq : q = i ∨ q = j) : rcO e ls K i j k (q + 1) = rcO e ls K i j k q := by
  unfold rcO; rw [besT_no hq]; simp only [h,and_false,or_false]
theorem rcO_out {e : List Int} {ls : List (List Int)} {K l : List Int} {i j k q : Nat} (h : (k : Int) ∉ K) (hl : ls[q]? = some l) (hi : q ≠ i) (hj : q ≠ j) (hm : (k : Int) ∉ l) : rcO e ls K i j k (q + 1) = rcO e ls K i j k q := by
  unfold rcO; rw [besT_yes hl hi hj]; simp only [h,and_false,or_false,List.flatten_append,List.mem_append,List.flatten_cons,List.flatten_nil,List.append_nil,hm]
theorem rcO_in {e : List Int} {ls : List (List Int)} {K l : List Int} {i j k q : Nat} (hl : ls[q]? = some l) (hi : q ≠ i) (hj : q ≠ j) (hm : (k : Int) ∈ l) : rcO e ls K i j k (q + 1) = e.getD k 0 := by
  unfold rcO; rw [if_pos]; left; rw [besT_yes hl hi hj]; simp [hm]


set_option maxHeartbeats 32000000 in
theorem scostBy_ok (e : List Int) (ls : List (List Int)) (out : List Int) (n m z : Nat) (i j : Nat) (a b : List Int) (hi : ls[i]? = some a) (hj : ls[j]? = some b) (hz : e.length = z) (hn : ls.length = n) (hm : out.length = m) (hb : (z = 5 ∧ n ≤ 1000 ∧ m ≤ 100000000) ∧ (∀ l ∈ ls,l.length ≤ 100000000) ∧ ∀ k : Nat,k < 5 → (k : Int) ∈ ls.flatten → e.getD k 0 ≤ 60) : PCall Try.prog 60 [.rows false (IL e) z,.rows false (LL false ls) n,.rows false (IL out) m,.int .i64 i,.int .i64 j] (fun r => r = .int .i64 (cbE e ls out a b i j)) := by
  subst hz hn hm
  obtain ⟨⟨h5,hb0,hb1⟩,hb3,hb4⟩ := hb
  have hll := LL_length false ls
  have hil := (List.getElem?_eq_some_iff.1 hi).1
  have hjl := (List.getElem?_eq_some_iff.1 hj).1
  have hdi := LL_drop false ls i hi
  have hdj := LL_drop false ls j hj
  have ha := hb3 _ (List.mem_of_getElem? hi)
  have hbb := hb3 _ (List.mem_of_getElem? hj)
  have hi1 : i + 1 ≤ ls.length := by omega
  have hj1 : j + 1 ≤ ls.length := by omega
  have hfla : ∀ x : Int,x ∈ a ++ b → x ∈ ls.flatten := fun x hx => by
    rcases List.mem_append.1 hx with h | h
    · exact List.mem_flatten.2 ⟨a,List.mem_of_getElem? hi,h⟩
    · exact List.mem_flatten.2 ⟨b,List.mem_of_getElem? hj,h⟩
  have hflb : ∀ x : Int,x ∈ (besL ls i j).flatten ++ keL ls out a b i j → x ∈ ls.flatten := fun x hx => by
    rcases List.mem_append.1 hx with h | h
    · obtain ⟨l,hl,hx⟩ := List.mem_flatten.1 h
      exact List.mem_flatten.2 ⟨l,besT_sub hl,hx⟩
    · exact hfla x (List.mem_append.2 (mem_keL.1 h).2.1)
  have q5 : (ls.length ≤ 1000 ∧ out.length ≤ 100000000) ∧ (∀ l ∈ ls,l.length ≤ 100000000) := ⟨⟨hb0,hb1⟩,hb3⟩
  refine pcall_of l60_eq rfl ?_
  have q6 := fun U (hU : ∀ x : Int,x ∈ U → x ∈ ls.flatten) => selE_le (e := e) (U := U) fun k hk hm => hb4 k hk (hU k hm)
  have q7 := q6 _ hfla
  have q8 := q6 _ hflb
  clear q6 hfla hflb
  obtain ⟨K,hK⟩ : ∃ K,keL ls out a b i j = K := ⟨_,rfl⟩
  obtain ⟨R,hR⟩ : ∃ R,(besL ls i j).flatten ++ K = R := ⟨_,rfl⟩
  obtain ⟨AB,hAB⟩ : ∃ AB,a ++ b = AB := ⟨_,rfl⟩
  have hcb : cbE e ls out a b i j = pr (spE (selT e AB 5)) + pr (spE (selT e R 5)) := by unfold cbE; rw [hK,hR,hAB]
  rw [hcb]
  have hkk : K.length ≤ 5 := by rw [← hK]; exact keT_len ls out a b i j 5
  rw [hK,hR] at q8
  rw [hAB] at q7
  have hks := fun k => selT_step e AB k
  have hks2 := fun k => selT_step e R k
  have rc0 := rcO_zero e ls K i j
  have rcA := rcO_all e ls K i j
  rw [hR] at rcA
  have rcK := @rcO_keep e ls K i j
  have rcS := @rcO_skip e ls K i j
  have rcX := @rcO_out e ls K
  have rcI := @rcO_in e ls K
  clear hcb
  (repeat' (first
 | (first | refine awp_seq ?_ | refine awp_block ?_)
 | ((first | refine awp_reg ?_ | refine awp_condB ?_ | refine awp_skip ?_ | refine awp_exit ?_); simp (disch := omega) only [push_cast,seval,l60r0,l60r1,l60r2,l60r3,l60r4,l60r5,l60r6,l60r7,l60r8,l60r9,l60r10,l60r11,l60r12,l60r13,l60r14,l60r15,l60r16,l60r17,l60r18,l60r19,l60r20,hK,innL_LL])
 | ((first | refine condB_split (fun h => ?_) (fun h => ?_) | refine gIf_split (fun h => ?_) (fun h => ?_) | refine qIf_split (fun h => ?_) (fun h => ?_)) <;> (try simp only [h]) <;> (try simp only [bitvec_to_nat] at h) <;> (try simp only [h]) <;> (first | (exfalso; omega) | (focus (exfalso; simp_all; done)) | (simp (disch := omega) only [push_cast,seval,hK,innL_LL]) | skip))
 | ((first | refine callD_of false ?_ | refine qcallD_of false ?_); simp (disch := omega) only [push_cast,seval,hK,innL_LL])
 | ((first | ((first | refine call0D (skeep_ok _ _ _ _ _ _ _ _ (by assumption) (by assumption) ?_ ?_ ?_) ?_ | refine qcall0D (BCall.ofP (plainI (skeep_ok _ _ _ _ _ _ _ _ (by assumption) (by assumption) ?_ ?_ ?_))) ⟨_,_,rfl,rfl⟩ ?_); (iterate 3 (exact sd)); rintro _ _ ⟨rfl,rfl⟩) | ((first | refine call0D (BCall.ofP (placeIn_ok _ _ _ ?_ ?_)) ?_ | refine qcall0D (BCall.ofP (placeIn_ok _ _ _ ?_ ?_)) ⟨_,_,rfl,rfl⟩ ?_); (iterate 2 (exact sd)); rintro _ _ ⟨rfl,rfl⟩) | ((first | refine call0D (sspace_ok _ _ ?_ ?_) ?_ | refine qcall0D (BCall.ofP (plainI (sspace_ok _ _ ?_ ?_))) ⟨_,_,rfl,rfl⟩ ?_); (iterate 2 (exact sd)); rintro _ _ ⟨rfl,rfl⟩)) <;> (try simp (disch := omega) only [push_cast,seval,hK,innL_LL]))
 | (refine awp_ret ⟨.inr rfl,_,rfl,?_⟩; (try simp (disch := omega) only [push_cast,seval,hK,innL_LL]))))
  refine awp_loop (fun k : Nat => mkS [(0,RI e),(1,.rows false (LL false ls) ls.length),(2,RI out),(3,.int .i64 i),(4,.int .i64 j),(11,.own 352 k 1),(12,.own 368 k 1),(13,.own 448 K.length 1),(14,.int .i64 k)] [(352,IL (selT e AB k)),(368,IL (selT e R k)),(448,IL K)]) (fun k => k ≤ 5) (fun k => 5 - k) 0 (Nat.zero_le _) ?_ ?_
  · have e0 : ∀ U,selT e U 0 = [] := fun U => rfl
    (refine Sub.of_lists ?_ ?_ ?_ ?_ ?_ <;> simp [Vw.mkS,Vw.lk,Vw.hk,AV.inn,innL,innL_ints,innL_append,innL_rep,-List.map_set,-List.getD_eq_getElem?_getD,innL_LL,e0])
  · intro k hk
    have hl1 := selT_len e AB k
    have hl2 := selT_len e R k
    by_cases hk5 : k < 5
    · have hs1 := hks k
      have hs2 := hks2 k
      have rA := rcA k ls.length (by omega) rfl
      rw [← rA] at hs2
      clear rA hks hks2
      generalize hU : selT e AB k = U at *
      generalize hU2 : selT e AB (k + 1) = U2 at *
      generalize hV : selT e R k = V at *
      generalize hV2 : selT e R (k + 1) = V2 at *
      by_cases hin : (k : Int) ∈ a ∨ (k : Int) ∈ b
      · rw [if_pos (by rw [← hAB]; exact List.mem_append.2 hin)] at hs1
        by_cases hA : (k : Int) ∈ a
        · have hpa := (plI_in hA).1
          (repeat' (first
 | (first | refine awp_seq ?_ | refine awp_block ?_)
 | ((first | refine awp_reg ?_ | refine awp_condB ?_ | refine awp_skip ?_ | refine awp_exit ?_); simp (disch := omega) only [push_cast,seval,l60r0,l60r1,l60r2,l60r3,l60r4,l60r5,l60r6,l60r7,l60r8,l60r9,l60r10,l60r11,l60r12,l60r13,l60r14,l60r15,l60r16,l60r17,l60r18,l60r19,l60r20,hdi,hdj,hll,hi1,hj1,hpa,h5,innL_LL])
 | ((first | refine condB_split (fun h => ?_) (fun h => ?_) | refine gIf_split (fun h => ?_) (fun h => ?_) | refine qIf_split (fun h => ?_) (fun h => ?_)) <;> (try simp only [h]) <;> (try simp only [bitvec_to_nat] at h) <;> (try simp only [h]) <;> (first | (exfalso; omega) | (focus (exfalso; simp_all; done)) | (simp (disch := omega) only [push_cast,seval,hdi,hdj,hll,hi1,hj1,hpa,h5,innL_LL]) | skip))
 | ((first | refine callD_of false ?_ | refine qcallD_of false ?_); simp (disch := omega) only [push_cast,seval,hdi,hdj,hll,hi1,hj1,hpa,h5,innL_LL])
 | ((first | ((first | refine call0D (skeep_ok _ _ _ _ _ _ _ _ (by assumption) (by assumption) ?_ ?_ ?_) ?_ | refine qcall0D (skeep_ok _ _ _ _ _ _ _ _ (by assumption) (by assumption) ?_ ?_ ?_) ⟨_,_,rfl,rfl⟩ ?_); (iterate 3 (exact sd)); rintro _ _ ⟨rfl,rfl⟩) | ((first | refine call0D (BCall.ofP (placeIn_ok _ _ _ ?_ ?_)) ?_ | refine qcall0D (BCall.ofP (placeIn_ok _ _ _ ?_ ?_)) ⟨_,_,rfl,rfl⟩ ?_); (iterate 2 (exact sd)); rintro _ _ ⟨rfl,rfl⟩) | ((first | refine call0D (sspace_ok _ _ ?_ ?_) ?_ | refine qcall0D (sspace_ok _ _ ?_ ?_) ⟨_,_,rfl,rfl⟩ ?_); (iterate 2 (exact sd)); rintro _ _ ⟨rfl,rfl⟩)) <;> (try simp (disch := omega) only [push_cast,seval,hdi,hdj,hll,hi1,hj1,hpa,h5,innL_LL]))
 | (refine awp_ret ⟨.inr rfl,_,rfl,?_⟩; (try simp (disch := omega) only [push_cast,seval,hdi,hdj,hll,hi1,hj1,hpa,h5,innL_LL]))))
          refine awp_loop (fun q : Nat => mkS [(0,RI e),(1,.rows false (LL false ls) ls.length),(2,RI out),(3,.int .i64 i),(4,.int .i64 j),(11,.own 352 k 1),(12,.own 368 k 1),(13,.own 448 K.length 1),(14,.int .i64 k),(15,.int .i64 (e.getD k 0)),(16,.int .i64 (rcO e ls K i j k q)),(17,.int .i64 q)] [(352,IL U),(368,IL V),(448,IL K)]) (fun q => q ≤ ls.length) (fun q => ls.length - q) 0 (Nat.zero_le _) ?_ ?_
          · (refine Sub.of_lists ?_ ?_ ?_ ?_ ?_ <;> simp [Vw.mkS,Vw.lk,Vw.hk,AV.inn,innL,innL_ints,innL_append,innL_rep,-List.map_set,-List.getD_eq_getElem?_getD,innL_LL,rc0])
          · intro q hq
            by_cases hql : q < ls.length
            · obtain ⟨l,hl⟩ := mem_lt hql
              have hd := LL_drop false ls q hl
              have hq1 : q + 1 ≤ ls.length := by omega
              have hbl := hb3 _ (List.mem_of_getElem? hl)
              by_cases hkK : (k : Int) ∈ K
              · have hpk := (plI_in hkK).1
                have e9 := rcK (k := k) (q := q) hkK
                by_cases hqi : q = i
                · have h1 : ((q : Int) = i) = True := eq_true (by omega)
                  (repeat' (first
 | (first | refine awp_seq ?_ | refine awp_block ?_)
 | ((first | refine awp_reg ?_ | refine awp_condB ?_ | refine awp_skip ?_ | refine awp_exit ?_); simp (disch := omega) only [push_cast,seval,l60r0,l60r1,l60r2,l60r3,l60r4,l60r5,l60r6,l60r7,l60r8,l60r9,l60r10,l60r11,l60r12,l60r13,l60r14,l60r15,l60r16,l60r17,l60r18,l60r19,l60r20,hd,hll,hq1,h1,hpk,h5,List.length_map,innL_LL])
 | ((first | refine condB_split (fun h => ?_) (fun h => ?_) | refine gIf_split (fun h => ?_) (fun h => ?_) | refine qIf_split (fun h => ?_) (fun h => ?_)) <;> (try simp only [h]) <;> (try simp only [bitvec_to_nat] at h) <;> (try simp only [h]) <;> (first | (exfalso; omega) | (focus (exfalso; simp_all; done)) | (simp (disch := omega) only [push_cast,seval,hd,hll,hq1,h1,hpk,h5,List.length_map,innL_LL]) | skip))
 | ((first | refine callD_of false ?_ | refine qcallD_of false ?_); simp (disch := omega) only [push_cast,seval,hd,hll,hq1,h1,hpk,h5,List.length_map,innL_LL])
 | ((first | ((first | refine call0D (skeep_ok _ _ _ _ _ _ _ _ (by assumption) (by assumption) ?_ ?_ ?_) ?_ | refine qcall0D (skeep_ok _ _ _ _ _ _ _ _ (by assumption) (by assumption) ?_ ?_ ?_) ⟨_,_,rfl,rfl⟩ ?_); (iterate 3 (exact sd)); rintro _ _ ⟨rfl,rfl⟩) | ((first | refine call0D (BCall.ofP (placeIn_ok _ _ _ ?_ ?_)) ?_ | refine qcall0D (BCall.ofP (placeIn_ok _ _ _ ?_ ?_)) ⟨_,_,rfl,rfl⟩ ?_); (iterate 2 (exact sd)); rintro _ _ ⟨rfl,rfl⟩) | ((first | refine call0D (sspace_ok _ _ ?_ ?_) ?_ | refine qcall0D (sspace_ok _ _ ?_ ?_) ⟨_,_,rfl,rfl⟩ ?_); (iterate 2 (exact sd)); rintro _ _ ⟨rfl,rfl⟩)) <;> (try simp (disch := omega) only [push_cast,seval,hd,hll,hq1,h1,hpk,h5,List.length_map,innL_LL]))
 | (refine awp_ret ⟨.inr rfl,_,rfl,?_⟩; (try simp (disch := omega) only [push_cast,seval,hd,hll,hq1,h1,hpk,h5,List.length_map,innL_LL]))))
                  refine ⟨q + 1,by omega,by omega,?_⟩
                  rw [e9]
                  (refine Sub.of_lists ?_ ?_ ?_ ?_ ?_ <;> simp [Vw.mkS,Vw.lk,Vw.hk,AV.inn,innL,innL_ints,innL_append,innL_rep,-List.map_set,-List.getD_eq_getElem?_getD,innL_LL])
                · have h1 : ((q : Int) = i) = False := eq_false (by omega)
                  by_cases hqj : q = j
                  · have h2 : ((q : Int) = j) = True := eq_true (by omega)
                    (repeat' (first
 | (first | refine awp_seq ?_ | refine awp_block ?_)
 | ((first | refine awp_reg ?_ | refine awp_condB ?_ | refine awp_skip ?_ | refine awp_exit ?_); simp (disch := omega) only [push_cast,seval,l60r0,l60r1,l60r2,l60r3,l60r4,l60r5,l60r6,l60r7,l60r8,l60r9,l60r10,l60r11,l60r12,l60r13,l60r14,l60r15,l60r16,l60r17,l60r18,l60r19,l60r20,hd,hll,hq1,h1,h2,hpk,h5,List.length_map,innL_LL])
 | ((first | refine condB_split (fun h => ?_) (fun h => ?_) | refine gIf_split (fun h => ?_) (fun h => ?_) | refine qIf_split (fun h => ?_) (fun h => ?_)) <;> (try simp only [h]) <;> (try simp only [bitvec_to_nat] at h) <;> (try simp only [h]) <;> (first | (exfalso; omega) | (focus (exfalso; simp_all; done)) | (simp (disch := omega) only [push_cast,seval,hd,hll,hq1,h1,h2,hpk,h5,List.length_map,innL_LL]) | skip))
 | ((first | refine callD_of false ?_ | refine qcallD_of false ?_); simp (disch := omega) only [push_cast,seval,hd,hll,hq1,h1,h2,hpk,h5,List.length_map,innL_LL])
 | ((first | ((first | refine call0D (skeep_ok _ _ _ _ _ _ _ _ (by assumption) (by assumption) ?_ ?_ ?_) ?_ | refine qcall0D (skeep_ok _ _ _ _ _ _ _ _ (by assumption) (by assumption) ?_ ?_ ?_) ⟨_,_,rfl,rfl⟩ ?_); (iterate 3 (exact sd)); rintro _ _ ⟨rfl,rfl⟩) | ((first | refine call0D (BCall.ofP (placeIn_ok _ _ _ ?_ ?_)) ?_ | refine qcall0D (BCall.ofP (placeIn_ok _ _ _ ?_ ?_)) ⟨_,_,rfl,rfl⟩ ?_); (iterate 2 (exact sd)); rintro _ _ ⟨rfl,rfl⟩) | ((first | refine call0D (sspace_ok _ _ ?_ ?_) ?_ | refine qcall0D (sspace_ok _ _ ?_ ?_) ⟨_,_,rfl,rfl⟩ ?_); (iterate 2 (exact sd)); rintro _ _ ⟨rfl,rfl⟩)) <;> (try simp (disch := omega) only [push_cast,seval,hd,hll,hq1,h1,h2,hpk,h5,List.length_map,innL_LL]))
 | (refine awp_ret ⟨.inr rfl,_,rfl,?_⟩; (try simp (disch := omega) only [push_cast,seval,hd,hll,hq1,h1,h2,hpk,h5,List.length_map,innL_LL]))))
                    refine ⟨q + 1,by omega,by omega,?_⟩
                    rw [e9]
                    (refine Sub.of_lists ?_ ?_ ?_ ?_ ?_ <;> simp [Vw.mkS,Vw.lk,Vw.hk,AV.inn,innL,innL_ints,innL_append,innL_rep,-List.map_set,-List.getD_eq_getElem?_getD,innL_LL])
                  · have h2 : ((q : Int) = j) = False := eq_false (by omega)
                    by_cases hkl : (k : Int) ∈ l
                    · have hpl := (plI_in hkl).1
                      (repeat' (first
 | (first | refine awp_seq ?_ | refine awp_block ?_)
 | ((first | refine awp_reg ?_ | refine awp_condB ?_ | refine awp_skip ?_ | refine awp_exit ?_); simp (disch := omega) only [push_cast,seval,l60r0,l60r1,l60r2,l60r3,l60r4,l60r5,l60r6,l60r7,l60r8,l60r9,l60r10,l60r11,l60r12,l60r13,l60r14,l60r15,l60r16,l60r17,l60r18,l60r19,l60r20,hd,hll,hq1,h1,h2,hpk,hpl,h5,List.length_map,innL_LL])
 | ((first | refine condB_split (fun h => ?_) (fun h => ?_) | refine gIf_split (fun h => ?_) (fun h => ?_) | refine qIf_split (fun h => ?_) (fun h => ?_)) <;> (try simp only [h]) <;> (try simp only [bitvec_to_nat] at h) <;> (try simp only [h]) <;> (first | (exfalso; omega) | (focus (exfalso; simp_all; done)) | (simp (disch := omega) only [push_cast,seval,hd,hll,hq1,h1,h2,hpk,hpl,h5,List.length_map,innL_LL]) | skip))
 | ((first | refine callD_of false ?_ | refine qcallD_of false ?_); simp (disch := omega) only [push_cast,seval,hd,hll,hq1,h1,h2,hpk,hpl,h5,List.length_map,innL_LL])
 | ((first | ((first | refine call0D (skeep_ok _ _ _ _ _ _ _ _ (by assumption) (by assumption) ?_ ?_ ?_) ?_ | refine qcall0D (skeep_ok _ _ _ _ _ _ _ _ (by assumption) (by assumption) ?_ ?_ ?_) ⟨_,_,rfl,rfl⟩ ?_); (iterate 3 (exact sd)); rintro _ _ ⟨rfl,rfl⟩) | ((first | refine call0D (BCall.ofP (placeIn_ok _ _ _ ?_ ?_)) ?_ | refine qcall0D (BCall.ofP (placeIn_ok _ _ _ ?_ ?_)) ⟨_,_,rfl,rfl⟩ ?_); (iterate 2 (exact sd)); rintro _ _ ⟨rfl,rfl⟩) | ((first | refine call0D (sspace_ok _ _ ?_ ?_) ?_ | refine qcall0D (sspace_ok _ _ ?_ ?_) ⟨_,_,rfl,rfl⟩ ?_); (iterate 2 (exact sd)); rintro _ _ ⟨rfl,rfl⟩)) <;> (try simp (disch := omega) only [push_cast,seval,hd,hll,hq1,h1,h2,hpk,hpl,h5,List.length_map,innL_LL]))
 | (refine awp_ret ⟨.inr rfl,_,rfl,?_⟩; (try simp (disch := omega) only [push_cast,seval,hd,hll,hq1,h1,h2,hpk,hpl,h5,List.length_map,innL_LL]))))
                      refine ⟨q + 1,by omega,by omega,?_⟩
                      rw [e9]
                      (refine Sub.of_lists ?_ ?_ ?_ ?_ ?_ <;> simp [Vw.mkS,Vw.lk,Vw.hk,AV.inn,innL,innL_ints,innL_append,innL_rep,-List.map_set,-List.getD_eq_getElem?_getD,innL_LL])
                    · have hpl := (plI_out hkl).1
                      (repeat' (first
 | (first | refine awp_seq ?_ | refine awp_block ?_)
 | ((first | refine awp_reg ?_ | refine awp_condB ?_ | refine awp_skip ?_ | refine awp_exit ?_); simp (disch := omega) only [push_cast,seval,l60r0,l60r1,l60r2,l60r3,l60r4,l60r5,l60r6,l60r7,l60r8,l60r9,l60r10,l60r11,l60r12,l60r13,l60r14,l60r15,l60r16,l60r17,l60r18,l60r19,l60r20,hd,hll,hq1,h1,h2,hpk,hpl,h5,List.length_map,innL_LL])
 | ((first | refine condB_split (fun h => ?_) (fun h => ?_) | refine gIf_split (fun h => ?_) (fun h => ?_) | refine qIf_split (fun h => ?_) (fun h => ?_)) <;> (try simp only [h]) <;> (try simp only [bitvec_to_nat] at h) <;> (try simp only [h]) <;> (first | (exfalso; omega) | (focus (exfalso; simp_all; done)) | (simp (disch := omega) only [push_cast,seval,hd,hll,hq1,h1,h2,hpk,hpl,h5,List.length_map,innL_LL]) | skip))
 | ((first | refine callD_of false ?_ | refine qcallD_of false ?_); simp (disch := omega) only [push_cast,seval,hd,hll,hq1,h1,h2,hpk,hpl,h5,List.length_map,innL_LL])
 | ((first | ((first | refine call0D (skeep_ok _ _ _ _ _ _ _ _ (by assumption) (by assumption) ?_ ?_ ?_) ?_ | refine qcall0D (skeep_ok _ _ _ _ _ _ _ _ (by assumption) (by assumption) ?_ ?_ ?_) ⟨_,_,rfl,rfl⟩ ?_); (iterate 3 (exact sd)); rintro _ _ ⟨rfl,rfl⟩) | ((first | refine call0D (BCall.ofP (placeIn_ok _ _ _ ?_ ?_)) ?_ | refine qcall0D (BCall.ofP (placeIn_ok _ _ _ ?_ ?_)) ⟨_,_,rfl,rfl⟩ ?_); (iterate 2 (exact sd)); rintro _ _ ⟨rfl,rfl⟩) | ((first | refine call0D (sspace_ok _ _ ?_ ?_) ?_ | refine qcall0D (sspace_ok _ _ ?_ ?_) ⟨_,_,rfl,rfl⟩ ?_); (iterate 2 (exact sd)); rintro _ _ ⟨rfl,rfl⟩)) <;> (try simp (disch := omega) only [push_cast,seval,hd,hll,hq1,h1,h2,hpk,hpl,h5,List.length_map,innL_LL]))
 | (refine awp_ret ⟨.inr rfl,_,rfl,?_⟩; (try simp (disch := omega) only [push_cast,seval,hd,hll,hq1,h1,h2,hpk,hpl,h5,List.length_map,innL_LL]))))
                      refine ⟨q + 1,by omega,by omega,?_⟩
                      rw [e9]
                      (refine Sub.of_lists ?_ ?_ ?_ ?_ ?_ <;> simp [Vw.mkS,Vw.lk,Vw.hk,AV.inn,innL,innL_ints,innL_append,innL_rep,-List.map_set,-List.getD_eq_getElem?_getD,innL_LL])
              · have hpk := (plI_out hkK).1
                by_cases hqi : q = i
                · have h1 : ((q : Int) = i) = True := eq_true (by omega)
                  have e9 := rcS (k := k) (q := q) hkK (.inl hqi)
                  (repeat' (first
 | (first | refine awp_seq ?_ | refine awp_block ?_)
 | ((first | refine awp_reg ?_ | refine awp_condB ?_ | refine awp_skip ?_ | refine awp_exit ?_); simp (disch := omega) only [push_cast,seval,l60r0,l60r1,l60r2,l60r3,l60r4,l60r5,l60r6,l60r7,l60r8,l60r9,l60r10,l60r11,l60r12,l60r13,l60r14,l60r15,l60r16,l60r17,l60r18,l60r19,l60r20,hd,hll,hq1,h1,hpk,h5,List.length_map,innL_LL])
 | ((first | refine condB_split (fun h => ?_) (fun h => ?_) | refine gIf_split (fun h => ?_) (fun h => ?_) | refine qIf_split (fun h => ?_) (fun h => ?_)) <;> (try simp only [h]) <;> (try simp only [bitvec_to_nat] at h) <;> (try simp only [h]) <;> (first | (exfalso; omega) | (focus (exfalso; simp_all; done)) | (simp (disch := omega) only [push_cast,seval,hd,hll,hq1,h1,hpk,h5,List.length_map,innL_LL]) | skip))
 | ((first | refine callD_of false ?_ | refine qcallD_of false ?_); simp (disch := omega) only [push_cast,seval,hd,hll,hq1,h1,hpk,h5,List.length_map,innL_LL])
 | ((first | ((first | refine call0D (skeep_ok _ _ _ _ _ _ _ _ (by assumption) (by assumption) ?_ ?_ ?_) ?_ | refine qcall0D (skeep_ok _ _ _ _ _ _ _ _ (by assumption) (by assumption) ?_ ?_ ?_) ⟨_,_,rfl,rfl⟩ ?_); (iterate 3 (exact sd)); rintro _ _ ⟨rfl,rfl⟩) | ((first | refine call0D (BCall.ofP (placeIn_ok _ _ _ ?_ ?_)) ?_ | refine qcall0D (BCall.ofP (placeIn_ok _ _ _ ?_ ?_)) ⟨_,_,rfl,rfl⟩ ?_); (iterate 2 (exact sd)); rintro _ _ ⟨rfl,rfl⟩) | ((first | refine call0D (sspace_ok _ _ ?_ ?_) ?_ | refine qcall0D (sspace_ok _ _ ?_ ?_) ⟨_,_,rfl,rfl⟩ ?_); (iterate 2 (exact sd)); rintro _ _ ⟨rfl,rfl⟩)) <;> (try simp (disch := omega) only [push_cast,seval,hd,hll,hq1,h1,hpk,h5,List.length_map,innL_LL]))
 | (refine awp_ret ⟨.inr rfl,_,rfl,?_⟩; (try simp (disch := omega) only [push_cast,seval,hd,hll,hq1,h1,hpk,h5,List.length_map,innL_LL]))))
                  refine ⟨q + 1,by omega,by omega,?_⟩
                  rw [e9]
                  (refine Sub.of_lists ?_ ?_ ?_ ?_ ?_ <;> simp [Vw.mkS,Vw.lk,Vw.hk,AV.inn,innL,innL_ints,innL_append,innL_rep,-List.map_set,-List.getD_eq_getElem?_getD,innL_LL])
                · have h1 : ((q : Int) = i) = False := eq_false (by omega)
                  by_cases hqj : q = j
                  · have h2 : ((q : Int) = j) = True := eq_true (by omega)
                    have e9 := rcS (k := k) (q := q) hkK (.inr hqj)
                    (repeat' (first
 | (first | refine awp_seq ?_ | refine awp_block ?_)
 | ((first | refine awp_reg ?_ | refine awp_condB ?_ | refine awp_skip ?_ | refine awp_exit ?_); simp (disch := omega) only [push_cast,seval,l60r0,l60r1,l60r2,l60r3,l60r4,l60r5,l60r6,l60r7,l60r8,l60r9,l60r10,l60r11,l60r12,l60r13,l60r14,l60r15,l60r16,l60r17,l60r18,l60r19,l60r20,hd,hll,hq1,h1,h2,hpk,h5,List.length_map,innL_LL])
 | ((first | refine condB_split (fun h => ?_) (fun h => ?_) | refine gIf_split (fun h => ?_) (fun h => ?_) | refine qIf_split (fun h => ?_) (fun h => ?_)) <;> (try simp only [h]) <;> (try simp only [bitvec_to_nat] at h) <;> (try simp only [h]) <;> (first | (exfalso; omega) | (focus (exfalso; simp_all; done)) | (simp (disch := omega) only [push_cast,seval,hd,hll,hq1,h1,h2,hpk,h5,List.length_map,innL_LL]) | skip))
 | ((first | refine callD_of false ?_ | refine qcallD_of false ?_); simp (disch := omega) only [push_cast,seval,hd,hll,hq1,h1,h2,hpk,h5,List.length_map,innL_LL])
 | ((first | ((first | refine call0D (skeep_ok _ _ _ _ _ _ _ _ (by assumption) (by assumption) ?_ ?_ ?_) ?_ | refine qcall0D (skeep_ok _ _ _ _ _ _ _ _ (by assumption) (by assumption) ?_ ?_ ?_) ⟨_,_,rfl,rfl⟩ ?_); (iterate 3 (exact sd)); rintro _ _ ⟨rfl,rfl⟩) | ((first | refine call0D (BCall.ofP (placeIn_ok _ _ _ ?_ ?_)) ?_ | refine qcall0D (BCall.ofP (placeIn_ok _ _ _ ?_ ?_)) ⟨_,_,rfl,rfl⟩ ?_); (iterate 2 (exact sd)); rintro _ _ ⟨rfl,rfl⟩) | ((first | refine call0D (sspace_ok _ _ ?_ ?_) ?_ | refine qcall0D (sspace_ok _ _ ?_ ?_) ⟨_,_,rfl,rfl⟩ ?_); (iterate 2 (exact sd)); rintro _ _ ⟨rfl,rfl⟩)) <;> (try simp (disch := omega) only [push_cast,seval,hd,hll,hq1,h1,h2,hpk,h5,List.length_map,innL_LL]))
 | (refine awp_ret ⟨.inr rfl,_,rfl,?_⟩; (try simp (disch := omega) only [push_cast,seval,hd,hll,hq1,h1,h2,hpk,h5,List.length_map,innL_LL]))))
                    refine ⟨q + 1,by omega,by omega,?_⟩
                    rw [e9]
                    (refine Sub.of_lists ?_ ?_ ?_ ?_ ?_ <;> simp [Vw.mkS,Vw.lk,Vw.hk,AV.inn,innL,innL_ints,innL_append,innL_rep,-List.map_set,-List.getD_eq_getElem?_getD,innL_LL])
                  · have h2 : ((q : Int) = j) = False := eq_false (by omega)
                    by_cases hkl : (k : Int) ∈ l
                    · have hpl := (plI_in hkl).1
                      have e9 := rcI (k := k) (q := q) hl hqi hqj hkl
                      (repeat' (first
 | (first | refine awp_seq ?_ | refine awp_block ?_)
 | ((first | refine awp_reg ?_ | refine awp_condB ?_ | refine awp_skip ?_ | refine awp_exit ?_); simp (disch := omega) only [push_cast,seval,l60r0,l60r1,l60r2,l60r3,l60r4,l60r5,l60r6,l60r7,l60r8,l60r9,l60r10,l60r11,l60r12,l60r13,l60r14,l60r15,l60r16,l60r17,l60r18,l60r19,l60r20,hd,hll,hq1,h1,h2,hpk,hpl,h5,List.length_map,innL_LL])
 | ((first | refine condB_split (fun h => ?_) (fun h => ?_) | refine gIf_split (fun h => ?_) (fun h => ?_) | refine qIf_split (fun h => ?_) (fun h => ?_)) <;> (try simp only [h]) <;> (try simp only [bitvec_to_nat] at h) <;> (try simp only [h]) <;> (first | (exfalso; omega) | (focus (exfalso; simp_all; done)) | (simp (disch := omega) only [push_cast,seval,hd,hll,hq1,h1,h2,hpk,hpl,h5,List.length_map,innL_LL]) | skip))
 | ((first | refine callD_of false ?_ | refine qcallD_of false ?_); simp (disch := omega) only [push_cast,seval,hd,hll,hq1,h1,h2,hpk,hpl,h5,List.length_map,innL_LL])
 | ((first | ((first | refine call0D (skeep_ok _ _ _ _ _ _ _ _ (by assumption) (by assumption) ?_ ?_ ?_) ?_ | refine qcall0D (skeep_ok _ _ _ _ _ _ _ _ (by assumption) (by assumption) ?_ ?_ ?_) ⟨_,_,rfl,rfl⟩ ?_); (iterate 3 (exact sd)); rintro _ _ ⟨rfl,rfl⟩) | ((first | refine call0D (BCall.ofP (placeIn_ok _ _ _ ?_ ?_)) ?_ | refine qcall0D (BCall.ofP (placeIn_ok _ _ _ ?_ ?_)) ⟨_,_,rfl,rfl⟩ ?_); (iterate 2 (exact sd)); rintro _ _ ⟨rfl,rfl⟩) | ((first | refine call0D (sspace_ok _ _ ?_ ?_) ?_ | refine qcall0D (sspace_ok _ _ ?_ ?_) ⟨_,_,rfl,rfl⟩ ?_); (iterate 2 (exact sd)); rintro _ _ ⟨rfl,rfl⟩)) <;> (try simp (disch := omega) only [push_cast,seval,hd,hll,hq1,h1,h2,hpk,hpl,h5,List.length_map,innL_LL]))
 | (refine awp_ret ⟨.inr rfl,_,rfl,?_⟩; (try simp (disch := omega) only [push_cast,seval,hd,hll,hq1,h1,h2,hpk,hpl,h5,List.length_map,innL_LL]))))
                      refine ⟨q + 1,by omega,by omega,?_⟩
                      rw [e9]
                      (refine Sub.of_lists ?_ ?_ ?_ ?_ ?_ <;> simp [Vw.mkS,Vw.lk,Vw.hk,AV.inn,innL,innL_ints,innL_append,innL_rep,-List.map_set,-List.getD_eq_getElem?_getD,innL_LL])
                    · have hpl := (plI_out hkl).1
                      have e9 := rcX (k := k) (q := q) hkK hl hqi hqj hkl
                      (repeat' (first
 | (first | refine awp_seq ?_ | refine awp_block ?_)
 | ((first | refine awp_reg ?_ | refine awp_condB ?_ | refine awp_skip ?_ | refine awp_exit ?_); simp (disch := omega) only [push_cast,seval,l60r0,l60r1,l60r2,l60r3,l60r4,l60r5,l60r6,l60r7,l60r8,l60r9,l60r10,l60r11,l60r12,l60r13,l60r14,l60r15,l60r16,l60r17,l60r18,l60r19,l60r20,hd,hll,hq1,h1,h2,hpk,hpl,h5,List.length_map,innL_LL])
 | ((first | refine condB_split (fun h => ?_) (fun h => ?_) | refine gIf_split (fun h => ?_) (fun h => ?_) | refine qIf_split (fun h => ?_) (fun h => ?_)) <;> (try simp only [h]) <;> (try simp only [bitvec_to_nat] at h) <;> (try simp only [h]) <;> (first | (exfalso; omega) | (focus (exfalso; simp_all; done)) | (simp (disch := omega) only [push_cast,seval,hd,hll,hq1,h1,h2,hpk,hpl,h5,List.length_map,innL_LL]) | skip))
 | ((first | refine callD_of false ?_ | refine qcallD_of false ?_); simp (disch := omega) only [push_cast,seval,hd,hll,hq1,h1,h2,hpk,hpl,h5,List.length_map,innL_LL])
 | ((first | ((first | refine call0D (skeep_ok _ _ _ _ _ _ _ _ (by assumption) (by assumption) ?_ ?_ ?_) ?_ | refine qcall0D (skeep_ok _ _ _ _ _ _ _ _ (by assumption) (by assumption) ?_ ?_ ?_) ⟨_,_,rfl,rfl⟩ ?_); (iterate 3 (exact sd)); rintro _ _ ⟨rfl,rfl⟩) | ((first | refine call0D (BCall.ofP (placeIn_ok _ _ _ ?_ ?_)) ?_ | refine qcall0D (BCall.ofP (placeIn_ok _ _ _ ?_ ?_)) ⟨_,_,rfl,rfl⟩ ?_); (iterate 2 (exact sd)); rintro _ _ ⟨rfl,rfl⟩) | ((first | refine call0D (sspace_ok _ _ ?_ ?_) ?_ | refine qcall0D (sspace_ok _ _ ?_ ?_) ⟨_,_,rfl,rfl⟩ ?_); (iterate 2 (exact sd)); rintro _ _ ⟨rfl,rfl⟩)) <;> (try simp (disch := omega) only [push_cast,seval,hd,hll,hq1,h1,h2,hpk,hpl,h5,List.length_map,innL_LL]))
 | (refine awp_ret ⟨.inr rfl,_,rfl,?_⟩; (try simp (disch := omega) only [push_cast,seval,hd,hll,hq1,h1,h2,hpk,hpl,h5,List.length_map,innL_LL]))))
                      refine ⟨q + 1,by omega,by omega,?_⟩
                      rw [e9]
                      (refine Sub.of_lists ?_ ?_ ?_ ?_ ?_ <;> simp [Vw.mkS,Vw.lk,Vw.hk,AV.inn,innL,innL_ints,innL_append,innL_rep,-List.map_set,-List.getD_eq_getElem?_getD,innL_LL])
            · have eq : q = ls.length := by omega
              subst eq
              (repeat' (first
 | (first | refine awp_seq ?_ | refine awp_block ?_)
 | ((first | refine awp_reg ?_ | refine awp_condB ?_ | refine awp_skip ?_ | refine awp_exit ?_); simp (disch := omega) only [push_cast,seval,l60r0,l60r1,l60r2,l60r3,l60r4,l60r5,l60r6,l60r7,l60r8,l60r9,l60r10,l60r11,l60r12,l60r13,l60r14,l60r15,l60r16,l60r17,l60r18,l60r19,l60r20,hll,hl1,hl2,List.length_map,innL_LL])
 | ((first | refine condB_split (fun h => ?_) (fun h => ?_) | refine gIf_split (fun h => ?_) (fun h => ?_) | refine qIf_split (fun h => ?_) (fun h => ?_)) <;> (try simp only [h]) <;> (try simp only [bitvec_to_nat] at h) <;> (try simp only [h]) <;> (first | (exfalso; omega) | (focus (exfalso; simp_all; done)) | (simp (disch := omega) only [push_cast,seval,hll,hl1,hl2,List.length_map,innL_LL]) | skip))
 | ((first | refine callD_of false ?_ | refine qcallD_of false ?_); simp (disch := omega) only [push_cast,seval,hll,hl1,hl2,List.length_map,innL_LL])
 | ((first | ((first | refine call0D (skeep_ok _ _ _ _ _ _ _ _ (by assumption) (by assumption) ?_ ?_ ?_) ?_ | refine qcall0D (skeep_ok _ _ _ _ _ _ _ _ (by assumption) (by assumption) ?_ ?_ ?_) ⟨_,_,rfl,rfl⟩ ?_); (iterate 3 (exact sd)); rintro _ _ ⟨rfl,rfl⟩) | ((first | refine call0D (BCall.ofP (placeIn_ok _ _ _ ?_ ?_)) ?_ | refine qcall0D (BCall.ofP (placeIn_ok _ _ _ ?_ ?_)) ⟨_,_,rfl,rfl⟩ ?_); (iterate 2 (exact sd)); rintro _ _ ⟨rfl,rfl⟩) | ((first | refine call0D (sspace_ok _ _ ?_ ?_) ?_ | refine qcall0D (sspace_ok _ _ ?_ ?_) ⟨_,_,rfl,rfl⟩ ?_); (iterate 2 (exact sd)); rintro _ _ ⟨rfl,rfl⟩)) <;> (try simp (disch := omega) only [push_cast,seval,hll,hl1,hl2,List.length_map,innL_LL]))
 | (refine awp_ret ⟨.inr rfl,_,rfl,?_⟩; (try simp (disch := omega) only [push_cast,seval,hll,hl1,hl2,List.length_map,innL_LL]))))
              refine ⟨k + 1,by omega,by omega,?_⟩
              rw [hU2,hV2,hs1,hs2]
              (refine Sub.of_lists ?_ ?_ ?_ ?_ ?_ <;> simp [Vw.mkS,Vw.lk,Vw.hk,AV.inn,innL,innL_ints,innL_append,innL_rep,-List.map_set,-List.getD_eq_getElem?_getD,innL_LL])
        · have hB : (k : Int) ∈ b := by rcases hin with h | h; exact absurd h hA; exact h
          have hpa := (plI_out hA).1
          have hpb := (plI_in hB).1
          (repeat' (first
 | (first | refine awp_seq ?_ | refine awp_block ?_)
 | ((first | refine awp_reg ?_ | refine awp_condB ?_ | refine awp_skip ?_ | refine awp_exit ?_); simp (disch := omega) only [push_cast,seval,l60r0,l60r1,l60r2,l60r3,l60r4,l60r5,l60r6,l60r7,l60r8,l60r9,l60r10,l60r11,l60r12,l60r13,l60r14,l60r15,l60r16,l60r17,l60r18,l60r19,l60r20,hdi,hdj,hll,hi1,hj1,hpa,hpb,h5,innL_LL])
 | ((first | refine condB_split (fun h => ?_) (fun h => ?_) | refine gIf_split (fun h => ?_) (fun h => ?_) | refine qIf_split (fun h => ?_) (fun h => ?_)) <;> (try simp only [h]) <;> (try simp only [bitvec_to_nat] at h) <;> (try simp only [h]) <;> (first | (exfalso; omega) | (focus (exfalso; simp_all; done)) | (simp (disch := omega) only [push_cast,seval,hdi,hdj,hll,hi1,hj1,hpa,hpb,h5,innL_LL]) | skip))
 | ((first | refine callD_of false ?_ | refine qcallD_of false ?_); simp (disch := omega) only [push_cast,seval,hdi,hdj,hll,hi1,hj1,hpa,hpb,h5,innL_LL])
 | ((first | ((first | refine call0D (skeep_ok _ _ _ _ _ _ _ _ (by assumption) (by assumption) ?_ ?_ ?_) ?_ | refine qcall0D (skeep_ok _ _ _ _ _ _ _ _ (by assumption) (by assumption) ?_ ?_ ?_) ⟨_,_,rfl,rfl⟩ ?_); (iterate 3 (exact sd)); rintro _ _ ⟨rfl,rfl⟩) | ((first | refine call0D (BCall.ofP (placeIn_ok _ _ _ ?_ ?_)) ?_ | refine qcall0D (BCall.ofP (placeIn_ok _ _ _ ?_ ?_)) ⟨_,_,rfl,rfl⟩ ?_); (iterate 2 (exact sd)); rintro _ _ ⟨rfl,rfl⟩) | ((first | refine call0D (sspace_ok _ _ ?_ ?_) ?_ | refine qcall0D (sspace_ok _ _ ?_ ?_) ⟨_,_,rfl,rfl⟩ ?_); (iterate 2 (exact sd)); rintro _ _ ⟨rfl,rfl⟩)) <;> (try simp (disch := omega) only [push_cast,seval,hdi,hdj,hll,hi1,hj1,hpa,hpb,h5,innL_LL]))
 | (refine awp_ret ⟨.inr rfl,_,rfl,?_⟩; (try simp (disch := omega) only [push_cast,seval,hdi,hdj,hll,hi1,hj1,hpa,hpb,h5,innL_LL]))))
          refine awp_loop (fun q : Nat => mkS [(0,RI e),(1,.rows false (LL false ls) ls.length),(2,RI out),(3,.int .i64 i),(4,.int .i64 j),(11,.own 352 k 1),(12,.own 368 k 1),(13,.own 448 K.length 1),(14,.int .i64 k),(15,.int .i64 (e.getD k 0)),(16,.int .i64 (rcO e ls K i j k q)),(17,.int .i64 q)] [(352,IL U),(368,IL V),(448,IL K)]) (fun q => q ≤ ls.length) (fun q => ls.length - q) 0 (Nat.zero_le _) ?_ ?_
          · (refine Sub.of_lists ?_ ?_ ?_ ?_ ?_ <;> simp [Vw.mkS,Vw.lk,Vw.hk,AV.inn,innL,innL_ints,innL_append,innL_rep,-List.map_set,-List.getD_eq_getElem?_getD,innL_LL,rc0])
          · intro q hq
            by_cases hql : q < ls.length
            · obtain ⟨l,hl⟩ := mem_lt hql
              have hd := LL_drop false ls q hl
              have hq1 : q + 1 ≤ ls.length := by omega
              have hbl := hb3 _ (List.mem_of_getElem? hl)
              by_cases hkK : (k : Int) ∈ K
              · have hpk := (plI_in hkK).1
                have e9 := rcK (k := k) (q := q) hkK
                by_cases hqi : q = i
                · have h1 : ((q : Int) = i) = True := eq_true (by omega)
                  (repeat' (first
 | (first | refine awp_seq ?_ | refine awp_block ?_)
 | ((first | refine awp_reg ?_ | refine awp_condB ?_ | refine awp_skip ?_ | refine awp_exit ?_); simp (disch := omega) only [push_cast,seval,l60r0,l60r1,l60r2,l60r3,l60r4,l60r5,l60r6,l60r7,l60r8,l60r9,l60r10,l60r11,l60r12,l60r13,l60r14,l60r15,l60r16,l60r17,l60r18,l60r19,l60r20,hd,hll,hq1,h1,hpk,h5,List.length_map,innL_LL])
 | ((first | refine condB_split (fun h => ?_) (fun h => ?_) | refine gIf_split (fun h => ?_) (fun h => ?_) | refine qIf_split (fun h => ?_) (fun h => ?_)) <;> (try simp only [h]) <;> (try simp only [bitvec_to_nat] at h) <;> (try simp only [h]) <;> (first | (exfalso; omega) | (focus (exfalso; simp_all; done)) | (simp (disch := omega) only [push_cast,seval,hd,hll,hq1,h1,hpk,h5,List.length_map,innL_LL]) | skip))
 | ((first | refine callD_of false ?_ | refine qcallD_of false ?_); simp (disch := omega) only [push_cast,seval,hd,hll,hq1,h1,hpk,h5,List.length_map,innL_LL])
 | ((first | ((first | refine call0D (skeep_ok _ _ _ _ _ _ _ _ (by assumption) (by assumption) ?_ ?_ ?_) ?_ | refine qcall0D (skeep_ok _ _ _ _ _ _ _ _ (by assumption) (by assumption) ?_ ?_ ?_) ⟨_,_,rfl,rfl⟩ ?_); (iterate 3 (exact sd)); rintro _ _ ⟨rfl,rfl⟩) | ((first | refine call0D (BCall.ofP (placeIn_ok _ _ _ ?_ ?_)) ?_ | refine qcall0D (BCall.ofP (placeIn_ok _ _ _ ?_ ?_)) ⟨_,_,rfl,rfl⟩ ?_); (iterate 2 (exact sd)); rintro _ _ ⟨rfl,rfl⟩) | ((first | refine call0D (sspace_ok _ _ ?_ ?_) ?_ | refine qcall0D (sspace_ok _ _ ?_ ?_) ⟨_,_,rfl,rfl⟩ ?_); (iterate 2 (exact sd)); rintro _ _ ⟨rfl,rfl⟩)) <;> (try simp (disch := omega) only [push_cast,seval,hd,hll,hq1,h1,hpk,h5,List.length_map,innL_LL]))
 | (refine awp_ret ⟨.inr rfl,_,rfl,?_⟩; (try simp (disch := omega) only [push_cast,seval,hd,hll,hq1,h1,hpk,h5,List.length_map,innL_LL]))))
                  refine ⟨q + 1,by omega,by omega,?_⟩
                  rw [e9]
                  (refine Sub.of_lists ?_ ?_ ?_ ?_ ?_ <;> simp [Vw.mkS,Vw.lk,Vw.hk,AV.inn,innL,innL_ints,innL_append,innL_rep,-List.map_set,-List.getD_eq_getElem?_getD,innL_LL])
                · have h1 : ((q : Int) = i) = False := eq_false (by omega)
                  by_cases hqj : q = j
                  · have h2 : ((q : Int) = j) = True := eq_true (by omega)
                    (repeat' (first
 | (first | refine awp_seq ?_ | refine awp_block ?_)
 | ((first | refine awp_reg ?_ | refine awp_condB ?_ | refine awp_skip ?_ | refine awp_exit ?_); simp (disch := omega) only [push_cast,seval,l60r0,l60r1,l60r2,l60r3,l60r4,l60r5,l60r6,l60r7,l60r8,l60r9,l60r10,l60r11,l60r12,l60r13,l60r14,l60r15,l60r16,l60r17,l60r18,l60r19,l60r20,hd,hll,hq1,h1,h2,hpk,h5,List.length_map,innL_LL])
 | ((first | refine condB_split (fun h => ?_) (fun h => ?_) | refine gIf_split (fun h => ?_) (fun h => ?_) | refine qIf_split (fun h => ?_) (fun h => ?_)) <;> (try simp only [h]) <;> (try simp only [bitvec_to_nat] at h) <;> (try simp only [h]) <;> (first | (exfalso; omega) | (focus (exfalso; simp_all; done)) | (simp (disch := omega) only [push_cast,seval,hd,hll,hq1,h1,h2,hpk,h5,List.length_map,innL_LL]) | skip))
 | ((first | refine callD_of false ?_ | refine qcallD_of false ?_); simp (disch := omega) only [push_cast,seval,hd,hll,hq1,h1,h2,hpk,h5,List.length_map,innL_LL])
 | ((first | ((first | refine call0D (skeep_ok _ _ _ _ _ _ _ _ (by assumption) (by assumption) ?_ ?_ ?_) ?_ | refine qcall0D (skeep_ok _ _ _ _ _ _ _ _ (by assumption) (by assumption) ?_ ?_ ?_) ⟨_,_,rfl,rfl⟩ ?_); (iterate 3 (exact sd)); rintro _ _ ⟨rfl,rfl⟩) | ((first | refine call0D (BCall.ofP (placeIn_ok _ _ _ ?_ ?_)) ?_ | refine qcall0D (BCall.ofP (placeIn_ok _ _ _ ?_ ?_)) ⟨_,_,rfl,rfl⟩ ?_); (iterate 2 (exact sd)); rintro _ _ ⟨rfl,rfl⟩) | ((first | refine call0D (sspace_ok _ _ ?_ ?_) ?_ | refine qcall0D (sspace_ok _ _ ?_ ?_) ⟨_,_,rfl,rfl⟩ ?_); (iterate 2 (exact sd)); rintro _ _ ⟨rfl,rfl⟩)) <;> (try simp (disch := omega) only [push_cast,seval,hd,hll,hq1,h1,h2,hpk,h5,List.length_map,innL_LL]))
 | (refine awp_ret ⟨.inr rfl,_,rfl,?_⟩; (try simp (disch := omega) only [push_cast,seval,hd,hll,hq1,h1,h2,hpk,h5,List.length_map,innL_LL]))))
                    refine ⟨q + 1,by omega,by omega,?_⟩
                    rw [e9]
                    (refine Sub.of_lists ?_ ?_ ?_ ?_ ?_ <;> simp [Vw.mkS,Vw.lk,Vw.hk,AV.inn,innL,innL_ints,innL_append,innL_rep,-List.map_set,-List.getD_eq_getElem?_getD,innL_LL])
                  · have h2 : ((q : Int) = j) = False := eq_false (by omega)
                    by_cases hkl : (k : Int) ∈ l
                    · have hpl := (plI_in hkl).1
                      (repeat' (first
 | (first | refine awp_seq ?_ | refine awp_block ?_)
 | ((first | refine awp_reg ?_ | refine awp_condB ?_ | refine awp_skip ?_ | refine awp_exit ?_); simp (disch := omega) only [push_cast,seval,l60r0,l60r1,l60r2,l60r3,l60r4,l60r5,l60r6,l60r7,l60r8,l60r9,l60r10,l60r11,l60r12,l60r13,l60r14,l60r15,l60r16,l60r17,l60r18,l60r19,l60r20,hd,hll,hq1,h1,h2,hpk,hpl,h5,List.length_map,innL_LL])
 | ((first | refine condB_split (fun h => ?_) (fun h => ?_) | refine gIf_split (fun h => ?_) (fun h => ?_) | refine qIf_split (fun h => ?_) (fun h => ?_)) <;> (try simp only [h]) <;> (try simp only [bitvec_to_nat] at h) <;> (try simp only [h]) <;> (first | (exfalso; omega) | (focus (exfalso; simp_all; done)) | (simp (disch := omega) only [push_cast,seval,hd,hll,hq1,h1,h2,hpk,hpl,h5,List.length_map,innL_LL]) | skip))
 | ((first | refine callD_of false ?_ | refine qcallD_of false ?_); simp (disch := omega) only [push_cast,seval,hd,hll,hq1,h1,h2,hpk,hpl,h5,List.length_map,innL_LL])
 | ((first | ((first | refine call0D (skeep_ok _ _ _ _ _ _ _ _ (by assumption) (by assumption) ?_ ?_ ?_) ?_ | refine qcall0D (skeep_ok _ _ _ _ _ _ _ _ (by assumption) (by assumption) ?_ ?_ ?_) ⟨_,_,rfl,rfl⟩ ?_); (iterate 3 (exact sd)); rintro _ _ ⟨rfl,rfl⟩) | ((first | refine call0D (BCall.ofP (placeIn_ok _ _ _ ?_ ?_)) ?_ | refine qcall0D (BCall.ofP (placeIn_ok _ _ _ ?_ ?_)) ⟨_,_,rfl,rfl⟩ ?_); (iterate 2 (exact sd)); rintro _ _ ⟨rfl,rfl⟩) | ((first | refine call0D (sspace_ok _ _ ?_ ?_) ?_ | refine qcall0D (sspace_ok _ _ ?_ ?_) ⟨_,_,rfl,rfl⟩ ?_); (iterate 2 (exact sd)); rintro _ _ ⟨rfl,rfl⟩)) <;> (try simp (disch := omega) only [push_cast,seval,hd,hll,hq1,h1,h2,hpk,hpl,h5,List.length_map,innL_LL]))
 | (refine awp_ret ⟨.inr rfl,_,rfl,?_⟩; (try simp (disch := omega) only [push_cast,seval,hd,hll,hq1,h1,h2,hpk,hpl,h5,List.length_map,innL_LL]))))
                      refine ⟨q + 1,by omega,by omega,?_⟩
                      rw [e9]
                      (refine Sub.of_lists ?_ ?_ ?_ ?_ ?_ <;> simp [Vw.mkS,Vw.lk,Vw.hk,AV.inn,innL,innL_ints,innL_append,innL_rep,-List.map_set,-List.getD_eq_getElem?_getD,innL_LL])
                    · have hpl := (plI_out hkl).1
                      (repeat' (first
 | (first | refine awp_seq ?_ | refine awp_block ?_)
 | ((first | refine awp_reg ?_ | refine awp_condB ?_ | refine awp_skip ?_ | refine awp_exit ?_); simp (disch := omega) only [push_cast,seval,l60r0,l60r1,l60r2,l60r3,l60r4,l60r5,l60r6,l60r7,l60r8,l60r9,l60r10,l60r11,l60r12,l60r13,l60r14,l60r15,l60r16,l60r17,l60r18,l60r19,l60r20,hd,hll,hq1,h1,h2,hpk,hpl,h5,List.length_map,innL_LL])
 | ((first | refine condB_split (fun h => ?_) (fun h => ?_) | refine gIf_split (fun h => ?_) (fun h => ?_) | refine qIf_split (fun h => ?_) (fun h => ?_)) <;> (try simp only [h]) <;> (try simp only [bitvec_to_nat] at h) <;> (try simp only [h]) <;> (first | (exfalso; omega) | (focus (exfalso; simp_all; done)) | (simp (disch := omega) only [push_cast,seval,hd,hll,hq1,h1,h2,hpk,hpl,h5,List.length_map,innL_LL]) | skip))
 | ((first | refine callD_of false ?_ | refine qcallD_of false ?_); simp (disch := omega) only [push_cast,seval,hd,hll,hq1,h1,h2,hpk,hpl,h5,List.length_map,innL_LL])
 | ((first | ((first | refine call0D (skeep_ok _ _ _ _ _ _ _ _ (by assumption) (by assumption) ?_ ?_ ?_) ?_ | refine qcall0D (skeep_ok _ _ _ _ _ _ _ _ (by assumption) (by assumption) ?_ ?_ ?_) ⟨_,_,rfl,rfl⟩ ?_); (iterate 3 (exact sd)); rintro _ _ ⟨rfl,rfl⟩) | ((first | refine call0D (BCall.ofP (placeIn_ok _ _ _ ?_ ?_)) ?_ | refine qcall0D (BCall.ofP (placeIn_ok _ _ _ ?_ ?_)) ⟨_,_,rfl,rfl⟩ ?_); (iterate 2 (exact sd)); rintro _ _ ⟨rfl,rfl⟩) | ((first | refine call0D (sspace_ok _ _ ?_ ?_) ?_ | refine qcall0D (sspace_ok _ _ ?_ ?_) ⟨_,_,rfl,rfl⟩ ?_); (iterate 2 (exact sd)); rintro _ _ ⟨rfl,rfl⟩)) <;> (try simp (disch := omega) only [push_cast,seval,hd,hll,hq1,h1,h2,hpk,hpl,h5,List.length_map,innL_LL]))
 | (refine awp_ret ⟨.inr rfl,_,rfl,?_⟩; (try simp (disch := omega) only [push_cast,seval,hd,hll,hq1,h1,h2,hpk,hpl,h5,List.length_map,innL_LL]))))
                      refine ⟨q + 1,by omega,by omega,?_⟩
                      rw [e9]
                      (refine Sub.of_lists ?_ ?_ ?_ ?_ ?_ <;> simp [Vw.mkS,Vw.lk,Vw.hk,AV.inn,innL,innL_ints,innL_append,innL_rep,-List.map_set,-List.getD_eq_getElem?_getD,innL_LL])
              · have hpk := (plI_out hkK).1
                by_cases hqi : q = i
                · have h1 : ((q : Int) = i) = True := eq_true (by omega)
                  have e9 := rcS (k := k) (q := q) hkK (.inl hqi)
                  (repeat' (first
 | (first | refine awp_seq ?_ | refine awp_block ?_)
 | ((first | refine awp_reg ?_ | refine awp_condB ?_ | refine awp_skip ?_ | refine awp_exit ?_); simp (disch := omega) only [push_cast,seval,l60r0,l60r1,l60r2,l60r3,l60r4,l60r5,l60r6,l60r7,l60r8,l60r9,l60r10,l60r11,l60r12,l60r13,l60r14,l60r15,l60r16,l60r17,l60r18,l60r19,l60r20,hd,hll,hq1,h1,hpk,h5,List.length_map,innL_LL])
 | ((first | refine condB_split (fun h => ?_) (fun h => ?_) | refine gIf_split (fun h => ?_) (fun h => ?_) | refine qIf_split (fun h => ?_) (fun h => ?_)) <;> (try simp only [h]) <;> (try simp only [bitvec_to_nat] at h) <;> (try simp only [h]) <;> (first | (exfalso; omega) | (focus (exfalso; simp_all; done)) | (simp (disch := omega) only [push_cast,seval,hd,hll,hq1,h1,hpk,h5,List.length_map,innL_LL]) | skip))
 | ((first | refine callD_of false ?_ | refine qcallD_of false ?_); simp (disch := omega) only [push_cast,seval,hd,hll,hq1,h1,hpk,h5,List.length_map,innL_LL])
 | ((first | ((first | refine call0D (skeep_ok _ _ _ _ _ _ _ _ (by assumption) (by assumption) ?_ ?_ ?_) ?_ | refine qcall0D (skeep_ok _ _ _ _ _ _ _ _ (by assumption) (by assumption) ?_ ?_ ?_) ⟨_,_,rfl,rfl⟩ ?_); (iterate 3 (exact sd)); rintro _ _ ⟨rfl,rfl⟩) | ((first | refine call0D (BCall.ofP (placeIn_ok _ _ _ ?_ ?_)) ?_ | refine qcall0D (BCall.ofP (placeIn_ok _ _ _ ?_ ?_)) ⟨_,_,rfl,rfl⟩ ?_); (iterate 2 (exact sd)); rintro _ _ ⟨rfl,rfl⟩) | ((first | refine call0D (sspace_ok _ _ ?_ ?_) ?_ | refine qcall0D (sspace_ok _ _ ?_ ?_) ⟨_,_,rfl,rfl⟩ ?_); (iterate 2 (exact sd)); rintro _ _ ⟨rfl,rfl⟩)) <;> (try simp (disch := omega) only [push_cast,seval,hd,hll,hq1,h1,hpk,h5,List.length_map,innL_LL]))
 | (refine awp_ret ⟨.inr rfl,_,rfl,?_⟩; (try simp (disch := omega) only [push_cast,seval,hd,hll,hq1,h1,hpk,h5,List.length_map,innL_LL]))))
                  refine ⟨q + 1,by omega,by omega,?_⟩
                  rw [e9]
                  (refine Sub.of_lists ?_ ?_ ?_ ?_ ?_ <;> simp [Vw.mkS,Vw.lk,Vw.hk,AV.inn,innL,innL_ints,innL_append,innL_rep,-List.map_set,-List.getD_eq_getElem?_getD,innL_LL])
                · have h1 : ((q : Int) = i) = False := eq_false (by omega)
                  by_cases hqj : q = j
                  · have h2 : ((q : Int) = j) = True := eq_true (by omega)
                    have e9 := rcS (k := k) (q := q) hkK (.inr hqj)
                    (repeat' (first
 | (first | refine awp_seq ?_ | refine awp_block ?_)
 | ((first | refine awp_reg ?_ | refine awp_condB ?_ | refine awp_skip ?_ | refine awp_exit ?_); simp (disch := omega) only [push_cast,seval,l60r0,l60r1,l60r2,l60r3,l60r4,l60r5,l60r6,l60r7,l60r8,l60r9,l60r10,l60r11,l60r12,l60r13,l60r14,l60r15,l60r16,l60r17,l60r18,l60r19,l60r20,hd,hll,hq1,h1,h2,hpk,h5,List.length_map,innL_LL])
 | ((first | refine condB_split (fun h => ?_) (fun h => ?_) | refine gIf_split (fun h => ?_) (fun h => ?_) | refine qIf_split (fun h => ?_) (fun h => ?_)) <;> (try simp only [h]) <;> (try simp only [bitvec_to_nat] at h) <;> (try simp only [h]) <;> (first | (exfalso; omega) | (focus (exfalso; simp_all; done)) | (simp (disch := omega) only [push_cast,seval,hd,hll,hq1,h1,h2,hpk,h5,List.length_map,innL_LL]) | skip))
 | ((first | refine callD_of false ?_ | refine qcallD_of false ?_); simp (disch := omega) only [push_cast,seval,hd,hll,hq1,h1,h2,hpk,h5,List.length_map,innL_LL])
 | ((first | ((first | refine call0D (skeep_ok _ _ _ _ _ _ _ _ (by assumption) (by assumption) ?_ ?_ ?_) ?_ | refine qcall0D (skeep_ok _ _ _ _ _ _ _ _ (by assumption) (by assumption) ?_ ?_ ?_) ⟨_,_,rfl,rfl⟩ ?_); (iterate 3 (exact sd)); rintro _ _ ⟨rfl,rfl⟩) | ((first | refine call0D (BCall.ofP (placeIn_ok _ _ _ ?_ ?_)) ?_ | refine qcall0D (BCall.ofP (placeIn_ok _ _ _ ?_ ?_)) ⟨_,_,rfl,rfl⟩ ?_); (iterate 2 (exact sd)); rintro _ _ ⟨rfl,rfl⟩) | ((first | refine call0D (sspace_ok _ _ ?_ ?_) ?_ | refine qcall0D (sspace_ok _ _ ?_ ?_) ⟨_,_,rfl,rfl⟩ ?_); (iterate 2 (exact sd)); rintro _ _ ⟨rfl,rfl⟩)) <;> (try simp (disch := omega) only [push_cast,seval,hd,hll,hq1,h1,h2,hpk,h5,List.length_map,innL_LL]))
 | (refine awp_ret ⟨.inr rfl,_,rfl,?_⟩; (try simp (disch := omega) only [push_cast,seval,hd,hll,hq1,h1,h2,hpk,h5,List.length_map,innL_LL]))))
                    refine ⟨q + 1,by omega,by omega,?_⟩
                    rw [e9]
                    (refine Sub.of_lists ?_ ?_ ?_ ?_ ?_ <;> simp [Vw.mkS,Vw.lk,Vw.hk,AV.inn,innL,innL_ints,innL_append,innL_rep,-List.map_set,-List.getD_eq_getElem?_getD,innL_LL])
                  · have h2 : ((q : Int) = j) = False := eq_false (by omega)
                    by_cases hkl : (k : Int) ∈ l
                    · have hpl := (plI_in hkl).1
                      have e9 := rcI (k := k) (q := q) hl hqi hqj hkl
                      (repeat' (first
 | (first | refine awp_seq ?_ | refine awp_block ?_)
 | ((first | refine awp_reg ?_ | refine awp_condB ?_ | refine awp_skip ?_ | refine awp_exit ?_); simp (disch := omega) only [push_cast,seval,l60r0,l60r1,l60r2,l60r3,l60r4,l60r5,l60r6,l60r7,l60r8,l60r9,l60r10,l60r11,l60r12,l60r13,l60r14,l60r15,l60r16,l60r17,l60r18,l60r19,l60r20,hd,hll,hq1,h1,h2,hpk,hpl,h5,List.length_map,innL_LL])
 | ((first | refine condB_split (fun h => ?_) (fun h => ?_) | refine gIf_split (fun h => ?_) (fun h => ?_) | refine qIf_split (fun h => ?_) (fun h => ?_)) <;> (try simp only [h]) <;> (try simp only [bitvec_to_nat] at h) <;> (try simp only [h]) <;> (first | (exfalso; omega) | (focus (exfalso; simp_all; done)) | (simp (disch := omega) only [push_cast,seval,hd,hll,hq1,h1,h2,hpk,hpl,h5,List.length_map,innL_LL]) | skip))
 | ((first | refine callD_of false ?_ | refine qcallD_of false ?_); simp (disch := omega) only [push_cast,seval,hd,hll,hq1,h1,h2,hpk,hpl,h5,List.length_map,innL_LL])
 | ((first | ((first | refine call0D (skeep_ok _ _ _ _ _ _ _ _ (by assumption) (by assumption) ?_ ?_ ?_) ?_ | refine qcall0D (skeep_ok _ _ _ _ _ _ _ _ (by assumption) (by assumption) ?_ ?_ ?_) ⟨_,_,rfl,rfl⟩ ?_); (iterate 3 (exact sd)); rintro _ _ ⟨rfl,rfl⟩) | ((first | refine call0D (BCall.ofP (placeIn_ok _ _ _ ?_ ?_)) ?_ | refine qcall0D (BCall.ofP (placeIn_ok _ _ _ ?_ ?_)) ⟨_,_,rfl,rfl⟩ ?_); (iterate 2 (exact sd)); rintro _ _ ⟨rfl,rfl⟩) | ((first | refine call0D (sspace_ok _ _ ?_ ?_) ?_ | refine qcall0D (sspace_ok _ _ ?_ ?_) ⟨_,_,rfl,rfl⟩ ?_); (iterate 2 (exact sd)); rintro _ _ ⟨rfl,rfl⟩)) <;> (try simp (disch := omega) only [push_cast,seval,hd,hll,hq1,h1,h2,hpk,hpl,h5,List.length_map,innL_LL]))
 | (refine awp_ret ⟨.inr rfl,_,rfl,?_⟩; (try simp (disch := omega) only [push_cast,seval,hd,hll,hq1,h1,h2,hpk,hpl,h5,List.length_map,innL_LL]))))
                      refine ⟨q + 1,by omega,by omega,?_⟩
                      rw [e9]
                      (refine Sub.of_lists ?_ ?_ ?_ ?_ ?_ <;> simp [Vw.mkS,Vw.lk,Vw.hk,AV.inn,innL,innL_ints,innL_append,innL_rep,-List.map_set,-List.getD_eq_getElem?_getD,innL_LL])
                    · have hpl := (plI_out hkl).1
                      have e9 := rcX (k := k) (q := q) hkK hl hqi hqj hkl
                      (repeat' (first
 | (first | refine awp_seq ?_ | refine awp_block ?_)
 | ((first | refine awp_reg ?_ | refine awp_condB ?_ | refine awp_skip ?_ | refine awp_exit ?_); simp (disch := omega) only [push_cast,seval,l60r0,l60r1,l60r2,l60r3,l60r4,l60r5,l60r6,l60r7,l60r8,l60r9,l60r10,l60r11,l60r12,l60r13,l60r14,l60r15,l60r16,l60r17,l60r18,l60r19,l60r20,hd,hll,hq1,h1,h2,hpk,hpl,h5,List.length_map,innL_LL])
 | ((first | refine condB_split (fun h => ?_) (fun h => ?_) | refine gIf_split (fun h => ?_) (fun h => ?_) | refine qIf_split (fun h => ?_) (fun h => ?_)) <;> (try simp only [h]) <;> (try simp only [bitvec_to_nat] at h) <;> (try simp only [h]) <;> (first | (exfalso; omega) | (focus (exfalso; simp_all; done)) | (simp (disch := omega) only [push_cast,seval,hd,hll,hq1,h1,h2,hpk,hpl,h5,List.length_map,innL_LL]) | skip))
 | ((first | refine callD_of false ?_ | refine qcallD_of false ?_); simp (disch := omega) only [push_cast,seval,hd,hll,hq1,h1,h2,hpk,hpl,h5,List.length_map,innL_LL])
 | ((first | ((first | refine call0D (skeep_ok _ _ _ _ _ _ _ _ (by assumption) (by assumption) ?_ ?_ ?_) ?_ | refine qcall0D (skeep_ok _ _ _ _ _ _ _ _ (by assumption) (by assumption) ?_ ?_ ?_) ⟨_,_,rfl,rfl⟩ ?_); (iterate 3 (exact sd)); rintro _ _ ⟨rfl,rfl⟩) | ((first | refine call0D (BCall.ofP (placeIn_ok _ _ _ ?_ ?_)) ?_ | refine qcall0D (BCall.ofP (placeIn_ok _ _ _ ?_ ?_)) ⟨_,_,rfl,rfl⟩ ?_); (iterate 2 (exact sd)); rintro _ _ ⟨rfl,rfl⟩) | ((first | refine call0D (sspace_ok _ _ ?_ ?_) ?_ | refine qcall0D (sspace_ok _ _ ?_ ?_) ⟨_,_,rfl,rfl⟩ ?_); (iterate 2 (exact sd)); rintro _ _ ⟨rfl,rfl⟩)) <;> (try simp (disch := omega) only [push_cast,seval,hd,hll,hq1,h1,h2,hpk,hpl,h5,List.length_map,innL_LL]))
 | (refine awp_ret ⟨.inr rfl,_,rfl,?_⟩; (try simp (disch := omega) only [push_cast,seval,hd,hll,hq1,h1,h2,hpk,hpl,h5,List.length_map,innL_LL]))))
                      refine ⟨q + 1,by omega,by omega,?_⟩
                      rw [e9]
                      (refine Sub.of_lists ?_ ?_ ?_ ?_ ?_ <;> simp [Vw.mkS,Vw.lk,Vw.hk,AV.inn,innL,innL_ints,innL_append,innL_rep,-List.map_set,-List.getD_eq_getElem?_getD,innL_LL])
            · have eq : q = ls.length := by omega
              subst eq
              (repeat' (first
 | (first | refine awp_seq ?_ | refine awp_block ?_)
 | ((first | refine awp_reg ?_ | refine awp_condB ?_ | refine awp_skip ?_ | refine awp_exit ?_); simp (disch := omega) only [push_cast,seval,l60r0,l60r1,l60r2,l60r3,l60r4,l60r5,l60r6,l60r7,l60r8,l60r9,l60r10,l60r11,l60r12,l60r13,l60r14,l60r15,l60r16,l60r17,l60r18,l60r19,l60r20,hll,hl1,hl2,List.length_map,innL_LL])
 | ((first | refine condB_split (fun h => ?_) (fun h => ?_) | refine gIf_split (fun h => ?_) (fun h => ?_) | refine qIf_split (fun h => ?_) (fun h => ?_)) <;> (try simp only [h]) <;> (try simp only [bitvec_to_nat] at h) <;> (try simp only [h]) <;> (first | (exfalso; omega) | (focus (exfalso; simp_all; done)) | (simp (disch := omega) only [push_cast,seval,hll,hl1,hl2,List.length_map,innL_LL]) | skip))
 | ((first | refine callD_of false ?_ | refine qcallD_of false ?_); simp (disch := omega) only [push_cast,seval,hll,hl1,hl2,List.length_map,innL_LL])
 | ((first | ((first | refine call0D (skeep_ok _ _ _ _ _ _ _ _ (by assumption) (by assumption) ?_ ?_ ?_) ?_ | refine qcall0D (skeep_ok _ _ _ _ _ _ _ _ (by assumption) (by assumption) ?_ ?_ ?_) ⟨_,_,rfl,rfl⟩ ?_); (iterate 3 (exact sd)); rintro _ _ ⟨rfl,rfl⟩) | ((first | refine call0D (BCall.ofP (placeIn_ok _ _ _ ?_ ?_)) ?_ | refine qcall0D (BCall.ofP (placeIn_ok _ _ _ ?_ ?_)) ⟨_,_,rfl,rfl⟩ ?_); (iterate 2 (exact sd)); rintro _ _ ⟨rfl,rfl⟩) | ((first | refine call0D (sspace_ok _ _ ?_ ?_) ?_ | refine qcall0D (sspace_ok _ _ ?_ ?_) ⟨_,_,rfl,rfl⟩ ?_); (iterate 2 (exact sd)); rintro _ _ ⟨rfl,rfl⟩)) <;> (try simp (disch := omega) only [push_cast,seval,hll,hl1,hl2,List.length_map,innL_LL]))
 | (refine awp_ret ⟨.inr rfl,_,rfl,?_⟩; (try simp (disch := omega) only [push_cast,seval,hll,hl1,hl2,List.length_map,innL_LL]))))
              refine ⟨k + 1,by omega,by omega,?_⟩
              rw [hU2,hV2,hs1,hs2]
              (refine Sub.of_lists ?_ ?_ ?_ ?_ ?_ <;> simp [Vw.mkS,Vw.lk,Vw.hk,AV.inn,innL,innL_ints,innL_append,innL_rep,-List.map_set,-List.getD_eq_getElem?_getD,innL_LL])
      · rw [if_neg (by rw [← hAB]; exact fun h => hin (List.mem_append.1 h))] at hs1
        have hpa := (plI_out fun h => hin (.inl h)).1
        have hpb := (plI_out fun h => hin (.inr h)).1
        · (repeat' (first
 | (first | refine awp_seq ?_ | refine awp_block ?_)
 | ((first | refine awp_reg ?_ | refine awp_condB ?_ | refine awp_skip ?_ | refine awp_exit ?_); simp (disch := omega) only [push_cast,seval,l60r0,l60r1,l60r2,l60r3,l60r4,l60r5,l60r6,l60r7,l60r8,l60r9,l60r10,l60r11,l60r12,l60r13,l60r14,l60r15,l60r16,l60r17,l60r18,l60r19,l60r20,hdi,hdj,hll,hi1,hj1,hpa,hpb,h5,innL_LL])
 | ((first | refine condB_split (fun h => ?_) (fun h => ?_) | refine gIf_split (fun h => ?_) (fun h => ?_) | refine qIf_split (fun h => ?_) (fun h => ?_)) <;> (try simp only [h]) <;> (try simp only [bitvec_to_nat] at h) <;> (try simp only [h]) <;> (first | (exfalso; omega) | (focus (exfalso; simp_all; done)) | (simp (disch := omega) only [push_cast,seval,hdi,hdj,hll,hi1,hj1,hpa,hpb,h5,innL_LL]) | skip))
 | ((first | refine callD_of false ?_ | refine qcallD_of false ?_); simp (disch := omega) only [push_cast,seval,hdi,hdj,hll,hi1,hj1,hpa,hpb,h5,innL_LL])
 | ((first | ((first | refine call0D (skeep_ok _ _ _ _ _ _ _ _ (by assumption) (by assumption) ?_ ?_ ?_) ?_ | refine qcall0D (skeep_ok _ _ _ _ _ _ _ _ (by assumption) (by assumption) ?_ ?_ ?_) ⟨_,_,rfl,rfl⟩ ?_); (iterate 3 (exact sd)); rintro _ _ ⟨rfl,rfl⟩) | ((first | refine call0D (BCall.ofP (placeIn_ok _ _ _ ?_ ?_)) ?_ | refine qcall0D (BCall.ofP (placeIn_ok _ _ _ ?_ ?_)) ⟨_,_,rfl,rfl⟩ ?_); (iterate 2 (exact sd)); rintro _ _ ⟨rfl,rfl⟩) | ((first | refine call0D (sspace_ok _ _ ?_ ?_) ?_ | refine qcall0D (sspace_ok _ _ ?_ ?_) ⟨_,_,rfl,rfl⟩ ?_); (iterate 2 (exact sd)); rintro _ _ ⟨rfl,rfl⟩)) <;> (try simp (disch := omega) only [push_cast,seval,hdi,hdj,hll,hi1,hj1,hpa,hpb,h5,innL_LL]))
 | (refine awp_ret ⟨.inr rfl,_,rfl,?_⟩; (try simp (disch := omega) only [push_cast,seval,hdi,hdj,hll,hi1,hj1,hpa,hpb,h5,innL_LL]))))
          refine awp_loop (fun q : Nat => mkS [(0,RI e),(1,.rows false (LL false ls) ls.length),(2,RI out),(3,.int .i64 i),(4,.int .i64 j),(11,.own 352 k 1),(12,.own 368 k 1),(13,.own 448 K.length 1),(14,.int .i64 k),(15,.int .i64 (-1)),(16,.int .i64 (rcO e ls K i j k q)),(17,.int .i64 q)] [(352,IL U),(368,IL V),(448,IL K)]) (fun q => q ≤ ls.length) (fun q => ls.length - q) 0 (Nat.zero_le _) ?_ ?_
          · (refine Sub.of_lists ?_ ?_ ?_ ?_ ?_ <;> simp [Vw.mkS,Vw.lk,Vw.hk,AV.inn,innL,innL_ints,innL_append,innL_rep,-List.map_set,-List.getD_eq_getElem?_getD,innL_LL,rc0])
          · intro q hq
            by_cases hql : q < ls.length
            · obtain ⟨l,hl⟩ := mem_lt hql
              have hd := LL_drop false ls q hl
              have hq1 : q + 1 ≤ ls.length := by omega
              have hbl := hb3 _ (List.mem_of_getElem? hl)
              by_cases hkK : (k : Int) ∈ K
              · have hpk := (plI_in hkK).1
                have e9 := rcK (k := k) (q := q) hkK
                by_cases hqi : q = i
                · have h1 : ((q : Int) = i) = True := eq_true (by omega)
                  (repeat' (first
 | (first | refine awp_seq ?_ | refine awp_block ?_)
 | ((first | refine awp_reg ?_ | refine awp_condB ?_ | refine awp_skip ?_ | refine awp_exit ?_); simp (disch := omega) only [push_cast,seval,l60r0,l60r1,l60r2,l60r3,l60r4,l60r5,l60r6,l60r7,l60r8,l60r9,l60r10,l60r11,l60r12,l60r13,l60r14,l60r15,l60r16,l60r17,l60r18,l60r19,l60r20,hd,hll,hq1,h1,hpk,h5,List.length_map,innL_LL])
 | ((first | refine condB_split (fun h => ?_) (fun h => ?_) | refine gIf_split (fun h => ?_) (fun h => ?_) | refine qIf_split (fun h => ?_) (fun h => ?_)) <;> (try simp only [h]) <;> (try simp only [bitvec_to_nat] at h) <;> (try simp only [h]) <;> (first | (exfalso; omega) | (focus (exfalso; simp_all; done)) | (simp (disch := omega) only [push_cast,seval,hd,hll,hq1,h1,hpk,h5,List.length_map,innL_LL]) | skip))
 | ((first | refine callD_of false ?_ | refine qcallD_of false ?_); simp (disch := omega) only [push_cast,seval,hd,hll,hq1,h1,hpk,h5,List.length_map,innL_LL])
 | ((first | ((first | refine call0D (skeep_ok _ _ _ _ _ _ _ _ (by assumption) (by assumption) ?_ ?_ ?_) ?_ | refine qcall0D (skeep_ok _ _ _ _ _ _ _ _ (by assumption) (by assumption) ?_ ?_ ?_) ⟨_,_,rfl,rfl⟩ ?_); (iterate 3 (exact sd)); rintro _ _ ⟨rfl,rfl⟩) | ((first | refine call0D (BCall.ofP (placeIn_ok _ _ _ ?_ ?_)) ?_ | refine qcall0D (BCall.ofP (placeIn_ok _ _ _ ?_ ?_)) ⟨_,_,rfl,rfl⟩ ?_); (iterate 2 (exact sd)); rintro _ _ ⟨rfl,rfl⟩) | ((first | refine call0D (sspace_ok _ _ ?_ ?_) ?_ | refine qcall0D (sspace_ok _ _ ?_ ?_) ⟨_,_,rfl,rfl⟩ ?_); (iterate 2 (exact sd)); rintro _ _ ⟨rfl,rfl⟩)) <;> (try simp (disch := omega) only [push_cast,seval,hd,hll,hq1,h1,hpk,h5,List.length_map,innL_LL]))
 | (refine awp_ret ⟨.inr rfl,_,rfl,?_⟩; (try simp (disch := omega) only [push_cast,seval,hd,hll,hq1,h1,hpk,h5,List.length_map,innL_LL]))))
                  refine ⟨q + 1,by omega,by omega,?_⟩
                  rw [e9]
                  (refine Sub.of_lists ?_ ?_ ?_ ?_ ?_ <;> simp [Vw.mkS,Vw.lk,Vw.hk,AV.inn,innL,innL_ints,innL_append,innL_rep,-List.map_set,-List.getD_eq_getElem?_getD,innL_LL])
                · have h1 : ((q : Int) = i) = False := eq_false (by omega)
                  by_cases hqj : q = j
                  · have h2 : ((q : Int) = j) = True := eq_true (by omega)
                    (repeat' (first
 | (first | refine awp_seq ?_ | refine awp_block ?_)
 | ((first | refine awp_reg ?_ | refine awp_condB ?_ | refine awp_skip ?_ | refine awp_exit ?_); simp (disch := omega) only [push_cast,seval,l60r0,l60r1,l60r2,l60r3,l60r4,l60r5,l60r6,l60r7,l60r8,l60r9,l60r10,l60r11,l60r12,l60r13,l60r14,l60r15,l60r16,l60r17,l60r18,l60r19,l60r20,hd,hll,hq1,h1,h2,hpk,h5,List.length_map,innL_LL])
 | ((first | refine condB_split (fun h => ?_) (fun h => ?_) | refine gIf_split (fun h => ?_) (fun h => ?_) | refine qIf_split (fun h => ?_) (fun h => ?_)) <;> (try simp only [h]) <;> (try simp only [bitvec_to_nat] at h) <;> (try simp only [h]) <;> (first | (exfalso; omega) | (focus (exfalso; simp_all; done)) | (simp (disch := omega) only [push_cast,seval,hd,hll,hq1,h1,h2,hpk,h5,List.length_map,innL_LL]) | skip))
 | ((first | refine callD_of false ?_ | refine qcallD_of false ?_); simp (disch := omega) only [push_cast,seval,hd,hll,hq1,h1,h2,hpk,h5,List.length_map,innL_LL])
 | ((first | ((first | refine call0D (skeep_ok _ _ _ _ _ _ _ _ (by assumption) (by assumption) ?_ ?_ ?_) ?_ | refine qcall0D (skeep_ok _ _ _ _ _ _ _ _ (by assumption) (by assumption) ?_ ?_ ?_) ⟨_,_,rfl,rfl⟩ ?_); (iterate 3 (exact sd)); rintro _ _ ⟨rfl,rfl⟩) | ((first | refine call0D (BCall.ofP (placeIn_ok _ _ _ ?_ ?_)) ?_ | refine qcall0D (BCall.ofP (placeIn_ok _ _ _ ?_ ?_)) ⟨_,_,rfl,rfl⟩ ?_); (iterate 2 (exact sd)); rintro _ _ ⟨rfl,rfl⟩) | ((first | refine call0D (sspace_ok _ _ ?_ ?_) ?_ | refine qcall0D (sspace_ok _ _ ?_ ?_) ⟨_,_,rfl,rfl⟩ ?_); (iterate 2 (exact sd)); rintro _ _ ⟨rfl,rfl⟩)) <;> (try simp (disch := omega) only [push_cast,seval,hd,hll,hq1,h1,h2,hpk,h5,List.length_map,innL_LL]))
 | (refine awp_ret ⟨.inr rfl,_,rfl,?_⟩; (try simp (disch := omega) only [push_cast,seval,hd,hll,hq1,h1,h2,hpk,h5,List.length_map,innL_LL]))))
                    refine ⟨q + 1,by omega,by omega,?_⟩
                    rw [e9]
                    (refine Sub.of_lists ?_ ?_ ?_ ?_ ?_ <;> simp [Vw.mkS,Vw.lk,Vw.hk,AV.inn,innL,innL_ints,innL_append,innL_rep,-List.map_set,-List.getD_eq_getElem?_getD,innL_LL])
                  · have h2 : ((q : Int) = j) = False := eq_false (by omega)
                    by_cases hkl : (k : Int) ∈ l
                    · have hpl := (plI_in hkl).1
                      (repeat' (first
 | (first | refine awp_seq ?_ | refine awp_block ?_)
 | ((first | refine awp_reg ?_ | refine awp_condB ?_ | refine awp_skip ?_ | refine awp_exit ?_); simp (disch := omega) only [push_cast,seval,l60r0,l60r1,l60r2,l60r3,l60r4,l60r5,l60r6,l60r7,l60r8,l60r9,l60r10,l60r11,l60r12,l60r13,l60r14,l60r15,l60r16,l60r17,l60r18,l60r19,l60r20,hd,hll,hq1,h1,h2,hpk,hpl,h5,List.length_map,innL_LL])
 | ((first | refine condB_split (fun h => ?_) (fun h => ?_) | refine gIf_split (fun h => ?_) (fun h => ?_) | refine qIf_split (fun h => ?_) (fun h => ?_)) <;> (try simp only [h]) <;> (try simp only [bitvec_to_nat] at h) <;> (try simp only [h]) <;> (first | (exfalso; omega) | (focus (exfalso; simp_all; done)) | (simp (disch := omega) only [push_cast,seval,hd,hll,hq1,h1,h2,hpk,hpl,h5,List.length_map,innL_LL]) | skip))
 | ((first | refine callD_of false ?_ | refine qcallD_of false ?_); simp (disch := omega) only [push_cast,seval,hd,hll,hq1,h1,h2,hpk,hpl,h5,List.length_map,innL_LL])
 | ((first | ((first | refine call0D (skeep_ok _ _ _ _ _ _ _ _ (by assumption) (by assumption) ?_ ?_ ?_) ?_ | refine qcall0D (skeep_ok _ _ _ _ _ _ _ _ (by assumption) (by assumption) ?_ ?_ ?_) ⟨_,_,rfl,rfl⟩ ?_); (iterate 3 (exact sd)); rintro _ _ ⟨rfl,rfl⟩) | ((first | refine call0D (BCall.ofP (placeIn_ok _ _ _ ?_ ?_)) ?_ | refine qcall0D (BCall.ofP (placeIn_ok _ _ _ ?_ ?_)) ⟨_,_,rfl,rfl⟩ ?_); (iterate 2 (exact sd)); rintro _ _ ⟨rfl,rfl⟩) | ((first | refine call0D (sspace_ok _ _ ?_ ?_) ?_ | refine qcall0D (sspace_ok _ _ ?_ ?_) ⟨_,_,rfl,rfl⟩ ?_); (iterate 2 (exact sd)); rintro _ _ ⟨rfl,rfl⟩)) <;> (try simp (disch := omega) only [push_cast,seval,hd,hll,hq1,h1,h2,hpk,hpl,h5,List.length_map,innL_LL]))
 | (refine awp_ret ⟨.inr rfl,_,rfl,?_⟩; (try simp (disch := omega) only [push_cast,seval,hd,hll,hq1,h1,h2,hpk,hpl,h5,List.length_map,innL_LL]))))
                      refine ⟨q + 1,by omega,by omega,?_⟩
                      rw [e9]
                      (refine Sub.of_lists ?_ ?_ ?_ ?_ ?_ <;> simp [Vw.mkS,Vw.lk,Vw.hk,AV.inn,innL,innL_ints,innL_append,innL_rep,-List.map_set,-List.getD_eq_getElem?_getD,innL_LL])
                    · have hpl := (plI_out hkl).1
                      (repeat' (first
 | (first | refine awp_seq ?_ | refine awp_block ?_)
 | ((first | refine awp_reg ?_ | refine awp_condB ?_ | refine awp_skip ?_ | refine awp_exit ?_); simp (disch := omega) only [push_cast,seval,l60r0,l60r1,l60r2,l60r3,l60r4,l60r5,l60r6,l60r7,l60r8,l60r9,l60r10,l60r11,l60r12,l60r13,l60r14,l60r15,l60r16,l60r17,l60r18,l60r19,l60r20,hd,hll,hq1,h1,h2,hpk,hpl,h5,List.length_map,innL_LL])
 | ((first | refine condB_split (fun h => ?_) (fun h => ?_) | refine gIf_split (fun h => ?_) (fun h => ?_) | refine qIf_split (fun h => ?_) (fun h => ?_)) <;> (try simp only [h]) <;> (try simp only [bitvec_to_nat] at h) <;> (try simp only [h]) <;> (first | (exfalso; omega) | (focus (exfalso; simp_all; done)) | (simp (disch := omega) only [push_cast,seval,hd,hll,hq1,h1,h2,hpk,hpl,h5,List.length_map,innL_LL]) | skip))
 | ((first | refine callD_of false ?_ | refine qcallD_of false ?_); simp (disch := omega) only [push_cast,seval,hd,hll,hq1,h1,h2,hpk,hpl,h5,List.length_map,innL_LL])
 | ((first | ((first | refine call0D (skeep_ok _ _ _ _ _ _ _ _ (by assumption) (by assumption) ?_ ?_ ?_) ?_ | refine qcall0D (skeep_ok _ _ _ _ _ _ _ _ (by assumption) (by assumption) ?_ ?_ ?_) ⟨_,_,rfl,rfl⟩ ?_); (iterate 3 (exact sd)); rintro _ _ ⟨rfl,rfl⟩) | ((first | refine call0D (BCall.ofP (placeIn_ok _ _ _ ?_ ?_)) ?_ | refine qcall0D (BCall.ofP (placeIn_ok _ _ _ ?_ ?_)) ⟨_,_,rfl,rfl⟩ ?_); (iterate 2 (exact sd)); rintro _ _ ⟨rfl,rfl⟩) | ((first | refine call0D (sspace_ok _ _ ?_ ?_) ?_ | refine qcall0D (sspace_ok _ _ ?_ ?_) ⟨_,_,rfl,rfl⟩ ?_); (iterate 2 (exact sd)); rintro _ _ ⟨rfl,rfl⟩)) <;> (try simp (disch := omega) only [push_cast,seval,hd,hll,hq1,h1,h2,hpk,hpl,h5,List.length_map,innL_LL]))
 | (refine awp_ret ⟨.inr rfl,_,rfl,?_⟩; (try simp (disch := omega) only [push_cast,seval,hd,hll,hq1,h1,h2,hpk,hpl,h5,List.length_map,innL_LL]))))
                      refine ⟨q + 1,by omega,by omega,?_⟩
                      rw [e9]
                      (refine Sub.of_lists ?_ ?_ ?_ ?_ ?_ <;> simp [Vw.mkS,Vw.lk,Vw.hk,AV.inn,innL,innL_ints,innL_append,innL_rep,-List.map_set,-List.getD_eq_getElem?_getD,innL_LL])
              · have hpk := (plI_out hkK).1
                by_cases hqi : q = i
                · have h1 : ((q : Int) = i) = True := eq_true (by omega)
                  have e9 := rcS (k := k) (q := q) hkK (.inl hqi)
                  (repeat' (first
 | (first | refine awp_seq ?_ | refine awp_block ?_)
 | ((first | refine awp_reg ?_ | refine awp_condB ?_ | refine awp_skip ?_ | refine awp_exit ?_); simp (disch := omega) only [push_cast,seval,l60r0,l60r1,l60r2,l60r3,l60r4,l60r5,l60r6,l60r7,l60r8,l60r9,l60r10,l60r11,l60r12,l60r13,l60r14,l60r15,l60r16,l60r17,l60r18,l60r19,l60r20,hd,hll,hq1,h1,hpk,h5,List.length_map,innL_LL])
 | ((first | refine condB_split (fun h => ?_) (fun h => ?_) | refine gIf_split (fun h => ?_) (fun h => ?_) | refine qIf_split (fun h => ?_) (fun h => ?_)) <;> (try simp only [h]) <;> (try simp only [bitvec_to_nat] at h) <;> (try simp only [h]) <;> (first | (exfalso; omega) | (focus (exfalso; simp_all; done)) | (simp (disch := omega) only [push_cast,seval,hd,hll,hq1,h1,hpk,h5,List.length_map,innL_LL]) | skip))
 | ((first | refine callD_of false ?_ | refine qcallD_of false ?_); simp (disch := omega) only [push_cast,seval,hd,hll,hq1,h1,hpk,h5,List.length_map,innL_LL])
 | ((first | ((first | refine call0D (skeep_ok _ _ _ _ _ _ _ _ (by assumption) (by assumption) ?_ ?_ ?_) ?_ | refine qcall0D (skeep_ok _ _ _ _ _ _ _ _ (by assumption) (by assumption) ?_ ?_ ?_) ⟨_,_,rfl,rfl⟩ ?_); (iterate 3 (exact sd)); rintro _ _ ⟨rfl,rfl⟩) | ((first | refine call0D (BCall.ofP (placeIn_ok _ _ _ ?_ ?_)) ?_ | refine qcall0D (BCall.ofP (placeIn_ok _ _ _ ?_ ?_)) ⟨_,_,rfl,rfl⟩ ?_); (iterate 2 (exact sd)); rintro _ _ ⟨rfl,rfl⟩) | ((first | refine call0D (sspace_ok _ _ ?_ ?_) ?_ | refine qcall0D (sspace_ok _ _ ?_ ?_) ⟨_,_,rfl,rfl⟩ ?_); (iterate 2 (exact sd)); rintro _ _ ⟨rfl,rfl⟩)) <;> (try simp (disch := omega) only [push_cast,seval,hd,hll,hq1,h1,hpk,h5,List.length_map,innL_LL]))
 | (refine awp_ret ⟨.inr rfl,_,rfl,?_⟩; (try simp (disch := omega) only [push_cast,seval,hd,hll,hq1,h1,hpk,h5,List.length_map,innL_LL]))))
                  refine ⟨q + 1,by omega,by omega,?_⟩
                  rw [e9]
                  (refine Sub.of_lists ?_ ?_ ?_ ?_ ?_ <;> simp [Vw.mkS,Vw.lk,Vw.hk,AV.inn,innL,innL_ints,innL_append,innL_rep,-List.map_set,-List.getD_eq_getElem?_getD,innL_LL])
                · have h1 : ((q : Int) = i) = False := eq_false (by omega)
                  by_cases hqj : q = j
                  · have h2 : ((q : Int) = j) = True := eq_true (by omega)
                    have e9 := rcS (k := k) (q := q) hkK (.inr hqj)
                    (repeat' (first
 | (first | refine awp_seq ?_ | refine awp_block ?_)
 | ((first | refine awp_reg ?_ | refine awp_condB ?_ | refine awp_skip ?_ | refine awp_exit ?_); simp (disch := omega) only [push_cast,seval,l60r0,l60r1,l60r2,l60r3,l60r4,l60r5,l60r6,l60r7,l60r8,l60r9,l60r10,l60r11,l60r12,l60r13,l60r14,l60r15,l60r16,l60r17,l60r18,l60r19,l60r20,hd,hll,hq1,h1,h2,hpk,h5,List.length_map,innL_LL])
 | ((first | refine condB_split (fun h => ?_) (fun h => ?_) | refine gIf_split (fun h => ?_) (fun h => ?_) | refine qIf_split (fun h => ?_) (fun h => ?_)) <;> (try simp only [h]) <;> (try simp only [bitvec_to_nat] at h) <;> (try simp only [h]) <;> (first | (exfalso; omega) | (focus (exfalso; simp_all; done)) | (simp (disch := omega) only [push_cast,seval,hd,hll,hq1,h1,h2,hpk,h5,List.length_map,innL_LL]) | skip))
 | ((first | refine callD_of false ?_ | refine qcallD_of false ?_); simp (disch := omega) only [push_cast,seval,hd,hll,hq1,h1,h2,hpk,h5,List.length_map,innL_LL])
 | ((first | ((first | refine call0D (skeep_ok _ _ _ _ _ _ _ _ (by assumption) (by assumption) ?_ ?_ ?_) ?_ | refine qcall0D (skeep_ok _ _ _ _ _ _ _ _ (by assumption) (by assumption) ?_ ?_ ?_) ⟨_,_,rfl,rfl⟩ ?_); (iterate 3 (exact sd)); rintro _ _ ⟨rfl,rfl⟩) | ((first | refine call0D (BCall.ofP (placeIn_ok _ _ _ ?_ ?_)) ?_ | refine qcall0D (BCall.ofP (placeIn_ok _ _ _ ?_ ?_)) ⟨_,_,rfl,rfl⟩ ?_); (iterate 2 (exact sd)); rintro _ _ ⟨rfl,rfl⟩) | ((first | refine call0D (sspace_ok _ _ ?_ ?_) ?_ | refine qcall0D (sspace_ok _ _ ?_ ?_) ⟨_,_,rfl,rfl⟩ ?_); (iterate 2 (exact sd)); rintro _ _ ⟨rfl,rfl⟩)) <;> (try simp (disch := omega) only [push_cast,seval,hd,hll,hq1,h1,h2,hpk,h5,List.length_map,innL_LL]))
 | (refine awp_ret ⟨.inr rfl,_,rfl,?_⟩; (try simp (disch := omega) only [push_cast,seval,hd,hll,hq1,h1,h2,hpk,h5,List.length_map,innL_LL]))))
                    refine ⟨q + 1,by omega,by omega,?_⟩
                    rw [e9]
                    (refine Sub.of_lists ?_ ?_ ?_ ?_ ?_ <;> simp [Vw.mkS,Vw.lk,Vw.hk,AV.inn,innL,innL_ints,innL_append,innL_rep,-List.map_set,-List.getD_eq_getElem?_getD,innL_LL])
                  · have h2 : ((q : Int) = j) = False := eq_false (by omega)
                    by_cases hkl : (k : Int) ∈ l
                    · have hpl := (plI_in hkl).1
                      have e9 := rcI (k := k) (q := q) hl hqi hqj hkl
                      (repeat' (first
 | (first | refine awp_seq ?_ | refine awp_block ?_)
 | ((first | refine awp_reg ?_ | refine awp_condB ?_ | refine awp_skip ?_ | refine awp_exit ?_); simp (disch := omega) only [push_cast,seval,l60r0,l60r1,l60r2,l60r3,l60r4,l60r5,l60r6,l60r7,l60r8,l60r9,l60r10,l60r11,l60r12,l60r13,l60r14,l60r15,l60r16,l60r17,l60r18,l60r19,l60r20,hd,hll,hq1,h1,h2,hpk,hpl,h5,List.length_map,innL_LL])
 | ((first | refine condB_split (fun h => ?_) (fun h => ?_) | refine gIf_split (fun h => ?_) (fun h => ?_) | refine qIf_split (fun h => ?_) (fun h => ?_)) <;> (try simp only [h]) <;> (try simp only [bitvec_to_nat] at h) <;> (try simp only [h]) <;> (first | (exfalso; omega) | (focus (exfalso; simp_all; done)) | (simp (disch := omega) only [push_cast,seval,hd,hll,hq1,h1,h2,hpk,hpl,h5,List.length_map,innL_LL]) | skip))
 | ((first | refine callD_of false ?_ | refine qcallD_of false ?_); simp (disch := omega) only [push_cast,seval,hd,hll,hq1,h1,h2,hpk,hpl,h5,List.length_map,innL_LL])
 | ((first | ((first | refine call0D (skeep_ok _ _ _ _ _ _ _ _ (by assumption) (by assumption) ?_ ?_ ?_) ?_ | refine qcall0D (skeep_ok _ _ _ _ _ _ _ _ (by assumption) (by assumption) ?_ ?_ ?_) ⟨_,_,rfl,rfl⟩ ?_); (iterate 3 (exact sd)); rintro _ _ ⟨rfl,rfl⟩) | ((first | refine call0D (BCall.ofP (placeIn_ok _ _ _ ?_ ?_)) ?_ | refine qcall0D (BCall.ofP (placeIn_ok _ _ _ ?_ ?_)) ⟨_,_,rfl,rfl⟩ ?_); (iterate 2 (exact sd)); rintro _ _ ⟨rfl,rfl⟩) | ((first | refine call0D (sspace_ok _ _ ?_ ?_) ?_ | refine qcall0D (sspace_ok _ _ ?_ ?_) ⟨_,_,rfl,rfl⟩ ?_); (iterate 2 (exact sd)); rintro _ _ ⟨rfl,rfl⟩)) <;> (try simp (disch := omega) only [push_cast,seval,hd,hll,hq1,h1,h2,hpk,hpl,h5,List.length_map,innL_LL]))
 | (refine awp_ret ⟨.inr rfl,_,rfl,?_⟩; (try simp (disch := omega) only [push_cast,seval,hd,hll,hq1,h1,h2,hpk,hpl,h5,List.length_map,innL_LL]))))
                      refine ⟨q + 1,by omega,by omega,?_⟩
                      rw [e9]
                      (refine Sub.of_lists ?_ ?_ ?_ ?_ ?_ <;> simp [Vw.mkS,Vw.lk,Vw.hk,AV.inn,innL,innL_ints,innL_append,innL_rep,-List.map_set,-List.getD_eq_getElem?_getD,innL_LL])
                    · have hpl := (plI_out hkl).1
                      have e9 := rcX (k := k) (q := q) hkK hl hqi hqj hkl
                      (repeat' (first
 | (first | refine awp_seq ?_ | refine awp_block ?_)
 | ((first | refine awp_reg ?_ | refine awp_condB ?_ | refine awp_skip ?_ | refine awp_exit ?_); simp (disch := omega) only [push_cast,seval,l60r0,l60r1,l60r2,l60r3,l60r4,l60r5,l60r6,l60r7,l60r8,l60r9,l60r10,l60r11,l60r12,l60r13,l60r14,l60r15,l60r16,l60r17,l60r18,l60r19,l60r20,hd,hll,hq1,h1,h2,hpk,hpl,h5,List.length_map,innL_LL])
 | ((first | refine condB_split (fun h => ?_) (fun h => ?_) | refine gIf_split (fun h => ?_) (fun h => ?_) | refine qIf_split (fun h => ?_) (fun h => ?_)) <;> (try simp only [h]) <;> (try simp only [bitvec_to_nat] at h) <;> (try simp only [h]) <;> (first | (exfalso; omega) | (focus (exfalso; simp_all; done)) | (simp (disch := omega) only [push_cast,seval,hd,hll,hq1,h1,h2,hpk,hpl,h5,List.length_map,innL_LL]) | skip))
 | ((first | refine callD_of false ?_ | refine qcallD_of false ?_); simp (disch := omega) only [push_cast,seval,hd,hll,hq1,h1,h2,hpk,hpl,h5,List.length_map,innL_LL])
 | ((first | ((first | refine call0D (skeep_ok _ _ _ _ _ _ _ _ (by assumption) (by assumption) ?_ ?_ ?_) ?_ | refine qcall0D (skeep_ok _ _ _ _ _ _ _ _ (by assumption) (by assumption) ?_ ?_ ?_) ⟨_,_,rfl,rfl⟩ ?_); (iterate 3 (exact sd)); rintro _ _ ⟨rfl,rfl⟩) | ((first | refine call0D (BCall.ofP (placeIn_ok _ _ _ ?_ ?_)) ?_ | refine qcall0D (BCall.ofP (placeIn_ok _ _ _ ?_ ?_)) ⟨_,_,rfl,rfl⟩ ?_); (iterate 2 (exact sd)); rintro _ _ ⟨rfl,rfl⟩) | ((first | refine call0D (sspace_ok _ _ ?_ ?_) ?_ | refine qcall0D (sspace_ok _ _ ?_ ?_) ⟨_,_,rfl,rfl⟩ ?_); (iterate 2 (exact sd)); rintro _ _ ⟨rfl,rfl⟩)) <;> (try simp (disch := omega) only [push_cast,seval,hd,hll,hq1,h1,h2,hpk,hpl,h5,List.length_map,innL_LL]))
 | (refine awp_ret ⟨.inr rfl,_,rfl,?_⟩; (try simp (disch := omega) only [push_cast,seval,hd,hll,hq1,h1,h2,hpk,hpl,h5,List.length_map,innL_LL]))))
                      refine ⟨q + 1,by omega,by omega,?_⟩
                      rw [e9]
                      (refine Sub.of_lists ?_ ?_ ?_ ?_ ?_ <;> simp [Vw.mkS,Vw.lk,Vw.hk,AV.inn,innL,innL_ints,innL_append,innL_rep,-List.map_set,-List.getD_eq_getElem?_getD,innL_LL])
            · have eq : q = ls.length := by omega
              subst eq
              (repeat' (first
 | (first | refine awp_seq ?_ | refine awp_block ?_)
 | ((first | refine awp_reg ?_ | refine awp_condB ?_ | refine awp_skip ?_ | refine awp_exit ?_); simp (disch := omega) only [push_cast,seval,l60r0,l60r1,l60r2,l60r3,l60r4,l60r5,l60r6,l60r7,l60r8,l60r9,l60r10,l60r11,l60r12,l60r13,l60r14,l60r15,l60r16,l60r17,l60r18,l60r19,l60r20,hll,hl1,hl2,List.length_map,innL_LL])
 | ((first | refine condB_split (fun h => ?_) (fun h => ?_) | refine gIf_split (fun h => ?_) (fun h => ?_) | refine qIf_split (fun h => ?_) (fun h => ?_)) <;> (try simp only [h]) <;> (try simp only [bitvec_to_nat] at h) <;> (try simp only [h]) <;> (first | (exfalso; omega) | (focus (exfalso; simp_all; done)) | (simp (disch := omega) only [push_cast,seval,hll,hl1,hl2,List.length_map,innL_LL]) | skip))
 | ((first | refine callD_of false ?_ | refine qcallD_of false ?_); simp (disch := omega) only [push_cast,seval,hll,hl1,hl2,List.length_map,innL_LL])
 | ((first | ((first | refine call0D (skeep_ok _ _ _ _ _ _ _ _ (by assumption) (by assumption) ?_ ?_ ?_) ?_ | refine qcall0D (skeep_ok _ _ _ _ _ _ _ _ (by assumption) (by assumption) ?_ ?_ ?_) ⟨_,_,rfl,rfl⟩ ?_); (iterate 3 (exact sd)); rintro _ _ ⟨rfl,rfl⟩) | ((first | refine call0D (BCall.ofP (placeIn_ok _ _ _ ?_ ?_)) ?_ | refine qcall0D (BCall.ofP (placeIn_ok _ _ _ ?_ ?_)) ⟨_,_,rfl,rfl⟩ ?_); (iterate 2 (exact sd)); rintro _ _ ⟨rfl,rfl⟩) | ((first | refine call0D (sspace_ok _ _ ?_ ?_) ?_ | refine qcall0D (sspace_ok _ _ ?_ ?_) ⟨_,_,rfl,rfl⟩ ?_); (iterate 2 (exact sd)); rintro _ _ ⟨rfl,rfl⟩)) <;> (try simp (disch := omega) only [push_cast,seval,hll,hl1,hl2,List.length_map,innL_LL]))
 | (refine awp_ret ⟨.inr rfl,_,rfl,?_⟩; (try simp (disch := omega) only [push_cast,seval,hll,hl1,hl2,List.length_map,innL_LL]))))
              refine ⟨k + 1,by omega,by omega,?_⟩
              rw [hU2,hV2,hs1,hs2]
              (refine Sub.of_lists ?_ ?_ ?_ ?_ ?_ <;> simp [Vw.mkS,Vw.lk,Vw.hk,AV.inn,innL,innL_ints,innL_append,innL_rep,-List.map_set,-List.getD_eq_getElem?_getD,innL_LL])
    · have ek : k = 5 := by omega
      subst ek
      have q7 : ∀ x ∈ selT e AB 5,x ≤ 60 := q7
      have q8 : ∀ x ∈ selT e R 5,x ≤ 60 := q8
      generalize hU : selT e AB 5 = U at *
      generalize hV : selT e R 5 = V at *
      have q9 : U.length ≤ 6 ∧ ∀ x ∈ U,x ≤ 60 := ⟨by omega,q7⟩
      have q10 : V.length ≤ 6 ∧ ∀ x ∈ V,x ≤ 60 := ⟨by omega,q8⟩
      have b1 := pr_bound9 (xs := spE U) ⟨fun x hx => by
        obtain ⟨y,hy,rfl⟩ := List.mem_map.1 hx
        have := q7 y hy
        (split <;> omega),by rw [spE_length]; omega⟩
      have b2 := pr_bound9 (xs := spE V) ⟨fun x hx => by
        obtain ⟨y,hy,rfl⟩ := List.mem_map.1 hx
        have := q8 y hy
        (split <;> omega),by rw [spE_length]; omega⟩
      (repeat' (first
 | (first | refine awp_seq ?_ | refine awp_block ?_)
 | ((first | refine awp_reg ?_ | refine awp_condB ?_ | refine awp_skip ?_ | refine awp_exit ?_); simp (disch := omega) only [push_cast,seval,l60r0,l60r1,l60r2,l60r3,l60r4,l60r5,l60r6,l60r7,l60r8,l60r9,l60r10,l60r11,l60r12,l60r13,l60r14,l60r15,l60r16,l60r17,l60r18,l60r19,l60r20,hl1,hl2,List.length_map,innL_LL])
 | ((first | refine condB_split (fun h => ?_) (fun h => ?_) | refine gIf_split (fun h => ?_) (fun h => ?_) | refine qIf_split (fun h => ?_) (fun h => ?_)) <;> (try simp only [h]) <;> (try simp only [bitvec_to_nat] at h) <;> (try simp only [h]) <;> (first | (exfalso; omega) | (focus (exfalso; simp_all; done)) | (simp (disch := omega) only [push_cast,seval,hl1,hl2,List.length_map,innL_LL]) | skip))
 | ((first | refine callD_of false ?_ | refine qcallD_of false ?_); simp (disch := omega) only [push_cast,seval,hl1,hl2,List.length_map,innL_LL])
 | ((first | ((first | refine call0D (skeep_ok _ _ _ _ _ _ _ _ (by assumption) (by assumption) ?_ ?_ ?_) ?_ | refine qcall0D (skeep_ok _ _ _ _ _ _ _ _ (by assumption) (by assumption) ?_ ?_ ?_) ⟨_,_,rfl,rfl⟩ ?_); (iterate 3 (exact sd)); rintro _ _ ⟨rfl,rfl⟩) | ((first | refine call0D (BCall.ofP (placeIn_ok _ _ _ ?_ ?_)) ?_ | refine qcall0D (BCall.ofP (placeIn_ok _ _ _ ?_ ?_)) ⟨_,_,rfl,rfl⟩ ?_); (iterate 2 (exact sd)); rintro _ _ ⟨rfl,rfl⟩) | ((first | refine call0D (sspace_ok _ _ ?_ ?_) ?_ | refine qcall0D (sspace_ok _ _ ?_ ?_) ⟨_,_,rfl,rfl⟩ ?_); (iterate 2 (exact sd)); rintro _ _ ⟨rfl,rfl⟩)) <;> (try simp (disch := omega) only [push_cast,seval,hl1,hl2,List.length_map,innL_LL]))
 | (refine awp_ret ⟨.inr rfl,_,rfl,?_⟩; (try simp (disch := omega) only [push_cast,seval,hl1,hl2,List.length_map,innL_LL]))))

end Go.Proofs.Ytejbfjmiidofcaa
