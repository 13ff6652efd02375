import Derived.Test.YtfphjgmkpgoomaaCKj5
import Derived.Test.YtfphjgmkpgoomaaCM1
import Derived.Test.YtfphjgmkpgoomaaCW3
set_option linter.unusedSimpArgs false
set_option linter.unusedVariables false
set_option maxRecDepth 4000
set_option maxHeartbeats 4000000
namespace Go.Proofs.Ytfphjgmkpgoomaa
open VwM Vw Go

def pairWB (r : AV) (H' : List (List AV)) : Prop := ∃ b sh st b' sh' st',(sh.length ≤ 1000 ∧ st.length ≤ 1000 ∧ sh'.length ≤ 1000 ∧ st'.length ≤ 1000) ∧
    ((r = .tup [.agg [.int .i64 b,.own 0 sh.length 1,.own 1 st.length 1],.agg [.int .i64 b',.own 2 sh'.length 1,.own 3 st'.length 1]] ∧ H' = [IL sh,IL st,IL sh',IL st']) ∨
     (r = .tup [.agg [.int .i64 b,.own 0 sh.length 1,.own 1 st.length 1],.agg [.int .i64 b',.rows true (IL sh') sh'.length,.rows true (IL st') st'.length]] ∧ H' = [IL sh,IL st]))
theorem pairW_plain {P : Program} {f : Nat} {args : List AV} (h : BCall P f args [] pairWB) : PCall P f args pairVP := by
  refine (BCall.plain h).mono ?_
  rintro r ⟨r0,H',⟨b,sh,st,b',sh',st',⟨h1,h2,h3,h4⟩,(⟨rfl,rfl⟩ | ⟨rfl,rfl⟩)⟩,rfl⟩
  · exact ⟨b,sh,st,b',sh',st',_,_,_,_,⟨rfl,rfl,rfl,rfl,h1,h2,h3,h4⟩,by simp [AV.ren,nthH,List.map_map,Function.comp_def]⟩
  · exact ⟨b,sh,st,b',sh',st',_,_,_,_,⟨rfl,rfl,rfl,rfl,h1,h2,h3,h4⟩,by simp [AV.ren,nthH,List.map_map,Function.comp_def]⟩
theorem way_neg {b : Int} {sh st : List Int} {b' : Int} {sh' st' : List Int} (h : ¬ wayI b sh st b' sh' st' < 0) : vV b sh st = true ∧ vV b' sh' st' = true ∧ sh = sh' := by
  unfold wayI at h
  by_cases hc : (vV b sh st && vV b' sh' st' && decide (sh = sh')) = true
  · simpa [and_assoc] using hc
  · rw [if_neg hc] at h; exact absurd (by omega) h
theorem way_val {b : Int} {sh st : List Int} {b' : Int} {st' : List Int} (hv : vV b sh st = true) (hv' : vV b' sh st' = true) : wayI b sh st b' sh st' = (if mtL (offs b sh st) (offs b' sh st') = false then 0 else if (!mtL (offs b' sh st') (offs b sh st) && decide (offs b sh st).Nodup) = true then 1 else 2) := if_pos (by simp [hv,hv'])
theorem mt_do {b : Int} {sh st : List Int} {b' : Int} {st' : List Int} (hv : vV b sh st = true) (hv' : vV b' sh st' = true) (hd : doB b sh st b' sh st' = false) : mtL (offs b sh st) (offs b' sh st') = false := by
  refine Bool.eq_false_iff.2 fun hm => ?_
  obtain ⟨i,k,h1,h2,h3,h4⟩ := mtL_spec.1 hm
  have hx : (offs b sh st).getD i 0 ∈ bothL (offs b sh st) (offs b' sh st') := by
    have hmi := getD_mem h1
    exact mem_bothL.2 ⟨by have := vV_cells hv _ hmi; omega,hmi,h4 ▸ getD_mem h3⟩
  have h0 := of_decide_eq_false hd
  rw [show ovB b sh st b' sh st' = true by simp [ovB,hv,hv']] at h0
  exact h0 (List.length_pos_of_mem hx)
theorem way_do {b : Int} {sh st : List Int} {b' : Int} {st' : List Int} (hv : vV b sh st = true) (hv' : vV b' sh st' = true) (hd : doB b sh st b' sh st' = false) : wayI b sh st b' sh st' = 0 := by rw [way_val hv hv',if_pos (mt_do hv hv' hd)]
theorem way_self {b : Int} {sh st : List Int} (hv : vV b sh st = true) (ho : oneB b sh st = true) : wayI b sh st b sh st = 0 := by
  rw [way_val hv hv,if_pos]
  have hn : (offs b sh st).Nodup := by unfold oneB at ho; exact of_decide_eq_true (Bool.and_eq_true_iff.1 ho).2
  refine Bool.eq_false_iff.2 fun hm => ?_
  obtain ⟨i,k,h1,h2,h3,h4⟩ := mtL_spec.1 hm
  exact nodup_ne hn h1 h3 (by omega) h4
theorem one_list {xs : List Int} (h : xs.length = 1) : xs = [xs.getD 0 0] := by
  match xs,h with
  | [x],_ => rfl
theorem way_lines {b : Int} {sh st : List Int} {b' : Int} {st' : List Int} (hv : vV b sh st = true) (hv' : vV b' sh st' = true) (h1 : sh.length = 1) (h2 : 1 ≤ sh.getD 0 0) (h3 : st.getD 0 0 = st'.getD 0 0) (h4 : 1 ≤ st.getD 0 0) :
    (b ≤ b' → wayI b sh st b' sh st' = 0) ∧ (b' < b → doB b sh st b' sh st' = true → wayI b sh st b' sh st' = 1) := by
  have e1 := one_list h1
  have e2 := one_list (xs := st) (by rw [(okV_valid hv).2,h1])
  have e3 := one_list (xs := st') (by rw [(okV_valid hv').2,h1])
  have O1 : offs b sh st = nums b (st.getD 0 0) (sh.getD 0 0).toNat := by
    conv => lhs; rw [e1,e2]
    exact offs_line _ _ _ (by omega)
  have O2 : offs b' sh st' = nums b' (st.getD 0 0) (sh.getD 0 0).toNat := by
    conv => lhs; rw [e1,e3]
    rw [h3]
    exact offs_line _ _ _ (by omega)
  rw [way_val hv hv']
  unfold doB
  rw [show ovB b sh st b' sh st' = true by simp [ovB,hv,hv'],O1,O2]
  generalize st.getD 0 0 = c at *
  generalize (sh.getD 0 0).toNat = n at *
  have hmt : ∀ a a' : Int,mtL (nums a c n) (nums a' c n) = true → a' < a := by
    intro a a' hm
    obtain ⟨i,k,k1,k2,k3,k4⟩ := mtL_spec.1 hm
    rw [nums_length] at k1 k3
    rw [nums_getD _ _ _ _ k1,nums_getD _ _ _ _ k3] at k4
    have : (i : Int) * c < (k : Int) * c := Int.mul_lt_mul_of_pos_right (by omega) (by omega)
    omega
  constructor
  · intro hle
    rw [if_pos]
    refine Bool.eq_false_iff.2 fun hm => ?_
    have := hmt _ _ hm
    omega
  · intro hlt hd
    have hnd : (nums b c n).Nodup := (nums_sorted h4 n).imp fun h => by omega
    have hr : mtL (nums b' c n) (nums b c n) = false := Bool.eq_false_iff.2 fun hm => by have := hmt _ _ hm; omega
    have hm : mtL (nums b c n) (nums b' c n) = true := by
      have h0 := of_decide_eq_true hd
      have h1 : 0 < (bothL (nums b c n) (nums b' c n)).length := h0
      obtain ⟨x,hx⟩ := List.exists_mem_of_length_pos h1
      obtain ⟨_,x1,x2⟩ := mem_bothL.1 hx
      obtain ⟨i,hi,rfl⟩ := mem_getD.1 x1
      obtain ⟨k,hk,e⟩ := mem_getD.1 x2
      rw [nums_length] at hi hk
      refine mtL_spec.2 ⟨i,k,by rw [nums_length]; exact hi,?_,by rw [nums_length]; exact hk,e.symm⟩
      rw [nums_getD _ _ _ _ hi,nums_getD _ _ _ _ hk] at e
      refine Nat.lt_of_not_le fun hki => ?_
      have : (k : Int) * c ≤ (i : Int) * c := Int.mul_le_mul_of_nonneg_right (by omega) (by omega)
      omega
    rw [if_neg (by rw [hm]; simp),if_pos (by rw [hr]; simpa using hnd)]

end Go.Proofs.Ytfphjgmkpgoomaa
