import Derived.Test.YtceopplkfomalaaCKv8
import Derived.Test.YtceopplkfomalaaCM1
import Derived.Test.YtceopplkfomalaaCW3
set_option linter.unusedSimpArgs false
set_option linter.unusedVariables false
set_option maxRecDepth 4000
set_option maxHeartbeats 4000000
namespace Go.Proofs.Ytceopplkfomalaa
open VwM Vw Go

theorem gap_asc {b:Int} {sh st:List Int} (hv:vV b sh st=true):(gaL b sh st).length ≤ 1099511627776 ∧ ∀ i:Nat,1 ≤ i → i < (gaL b sh st).length → (gaL b sh st).getD (i - 1) 0 < (gaL b sh st).getD i 0:=by
  have hs:(gaL b sh st).Pairwise (· < ·):=by unfold gaL gapL;exact (nums_sorted (by omega) _).filter _
  exact ⟨by have:=gaL_le hv;omega,fun i h1 h2=>asc_get hs (by omega) h2⟩
theorem gap_in {b:Int} {sh st:List Int} (hv:vV b sh st=true) (hz:¬ pr sh=0) {k:Nat} (hk:k < spN b sh st):bdL b sh st + (k:Int) ∈ gaL b sh st ↔ ¬ bdL b sh st + (k:Int) ∈ bothL (offs b sh st) (offs b sh st):=by
  obtain ⟨-,e1,e2⟩:=ga_facts hv hz
  have hbd:=bd_cells hv hz
  unfold gaL gapL
  rw [List.mem_filter,e1]
  constructor
  · rintro ⟨_,h2⟩ hm
    exact of_decide_eq_true h2 (mem_bothL.1 hm).2.1
  · intro hm
    refine ⟨List.mem_map.2 ⟨k,List.mem_range.2 hk,by omega⟩,decide_eq_true fun hx=>hm (mem_bothL.2 ⟨by have:=vV_cells hv _ hx;omega,hx,hx⟩)⟩
theorem gap_len {b:Int} {sh st:List Int} (hv:vV b sh st=true) (hz:¬ pr sh=0):(gaL b sh st).length + (bothL (offs b sh st) (offs b sh st)).length=spN b sh st:=by
  obtain ⟨⟨f1,f2,f3⟩,e1,e2⟩:=ga_facts hv hz
  have hbd:=bd_cells hv hz
  have hC:bothL (offs b sh st) (offs b sh st)=(nums (bdL b sh st) 1 (spN b sh st)).filter fun x=>decide (x ∈ offs b sh st):=by
    refine sorted_ext (bothL_sorted _ _) ((nums_sorted (by omega) _).filter _) fun x=>?_
    rw [mem_bothL,List.mem_filter]
    constructor
    · rintro ⟨_,h1,_⟩
      have:=f3 x h1
      exact ⟨List.mem_map.2 ⟨(x - bdL b sh st).toNat,List.mem_range.2 (by omega),by omega⟩,decide_eq_true h1⟩
    · rintro ⟨_,h2⟩
      have hx:=of_decide_eq_true h2
      exact ⟨by have:=vV_cells hv _ hx;omega,hx,hx⟩
  rw [hC]
  unfold gaL gapL
  rw [e1]
  have h:=List.length_eq_countP_add_countP (fun x=>decide (x ∈ offs b sh st)) (l:=nums (bdL b sh st) 1 (spN b sh st))
  rw [nums_length,List.countP_eq_length_filter,List.countP_eq_length_filter] at h
  have e:List.filter (fun x=>decide (¬ x ∈ offs b sh st)) (nums (bdL b sh st) 1 (spN b sh st))=List.filter (fun a=>decide (¬ decide (a ∈ offs b sh st)=true)) (nums (bdL b sh st) 1 (spN b sh st)):=List.filter_congr fun x _=>by simp
  rw [e]
  omega

end Go.Proofs.Ytceopplkfomalaa
