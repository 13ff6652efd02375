import Derived.Test.YtceopplkfomalaaCKw7
import Derived.Test.YtceopplkfomalaaCM1
import Derived.Test.YtceopplkfomalaaCW3
set_option linter.unusedSimpArgs false
set_option linter.unusedVariables false
set_option maxRecDepth 4000
set_option maxHeartbeats 4000000
namespace Go.Proofs.Ytceopplkfomalaa
open VwM Vw Go

theorem del_cells (xs:List Int) (i j k:Nat) (hl:xs.length=k * 2) (hij:i < j) (hj:j ≤ k) :
    setRange (setRange (xs.map (AV.int .i64)) (i * 2) ((xs.drop (j * 2)).map (AV.int .i64))) ((i + (k - j)) * 2) (zcells [AV.int .i64 0,.int .i64 0] (k - (i + (k - j))))=IL (xs.take (i * 2) ++ xs.drop (j * 2) ++ List.replicate ((j - i) * 2) 0):=by
  have hd:(xs.drop (j * 2)).length=(k - j) * 2:=by rw [List.length_drop];omega
  have hz:zcells [AV.int .i64 0,.int .i64 0] (k - (i + (k - j)))=IL (List.replicate ((j - i) * 2) 0):=by
    rw [zcells2,show k - (i + (k - j))=j - i by omega]
  have ht:(xs.take (i * 2)).length=i * 2:=by rw [List.length_take];omega
  rw [hz]
  show _=List.map (AV.int .i64) (xs.take (i * 2) ++ xs.drop (j * 2) ++ List.replicate ((j - i) * 2) 0)
  refine List.ext_getElem? fun p=>?_
  rw [setRange_get _ _ _ _ (by rw [setRange_length];simp;omega),setRange_get _ _ _ _ (by simp;omega)]
  simp only [List.length_map,hd,List.length_replicate]
  by_cases h1:(i + (k - j)) * 2 ≤ p ∧ p < (i + (k - j)) * 2 + (j - i) * 2
  · rw [if_pos h1,List.map_append,List.getElem?_append_right (by simp;omega)]
    congr 1
    simp;omega
  · rw [if_neg h1]
    by_cases h2:i * 2 ≤ p ∧ p < i * 2 + (k - j) * 2
    · rw [if_pos h2,List.map_append,List.getElem?_append_left (by simp;omega),List.map_append,List.getElem?_append_right (by simp;omega)]
      congr 1
      simp;omega
    · rw [if_neg h2]
      by_cases h3:p < i * 2
      · rw [List.map_append,List.getElem?_append_left (by simp;omega),List.map_append,List.getElem?_append_left (by simp;omega),List.getElem?_map,List.getElem?_map,List.getElem?_take,if_pos h3]
      · rw [List.getElem?_eq_none (by simp;omega),List.getElem?_eq_none (by simp;omega)]


set_option maxHeartbeats 4000000 in
theorem delD_ok (xs:List Int) (k:Nat) (i j:Int) (hl:xs.length=k * 2) (hb:((0 ≤ i ∧ i < j) ∧ j ≤ k) ∧ k ≤ 1000) :
    BCall Try.prog 82 [.own 0 k 2,.int .i64 i,.int .i64 j] [IL xs] (fun r H'=>r=.osl 0 (k * 2) 0 (i.toNat + (k - j.toNat)) 2 k ∧ H'=[IL (xs.take (i.toNat * 2) ++ xs.drop (j.toNat * 2) ++ List.replicate ((j.toNat - i.toNat) * 2) 0)]):=by
  obtain ⟨⟨⟨h0,hij⟩,hj⟩,hk⟩:=hb
  obtain ⟨i,rfl⟩:∃ i':Nat,i=i':=⟨i.toNat,by omega⟩
  obtain ⟨j,rfl⟩:∃ j':Nat,j=j':=⟨j.toNat,by omega⟩
  simp only [Int.toNat_natCast]
  obtain ⟨m,rfl⟩:∃ m,k=j + m:=⟨k - j,by omega⟩
  refine bcall_of (pins:=[0]) (pin:=1) l82_eq rfl rfl rfl ?_
  have hne2:¬ (i:Int)=(j:Int):=by omega
  have hc:=del_cells xs i j (j + m) hl (by omega) (by omega)
  rw [Nat.add_sub_cancel_left] at hc ⊢
  have e1:((xs.map (AV.int .i64)).drop (j * 2)).take (m * 2)=(xs.drop (j * 2)).map (AV.int .i64):=by
    rw [← List.map_drop,List.take_of_length_le (by simp;omega)]
  have e2:(xs.drop (j * 2)).length=m * 2:=by rw [List.length_drop];omega
  have e3:((j:Int) + (m:Int)).toNat=j + m:=by omega
  have e4:((i:Int) + (m:Int)).toNat=i + m:=by omega
  (repeat' (first
 | (first|refine awp_seq ?_|refine awp_block ?_)
 | ((first|refine awp_reg ?_|refine awp_draw (mid:=l82r5a) (post:=l82r5b) mixed (by decide) ?_|refine awp_condB ?_|refine awp_skip ?_|refine awp_exit ?_);simp (disch:=omega) only [push_cast,seval,l82r0,l82r1,l82r2,l82r3,l82r4,l82r5a,l82r5b,l82r5,l82r6,l82r7,hne2,hl,e1,e2,e3,e4,hc,Vw.setRange_length,Nat.sub_zero,Nat.add_zero,Nat.zero_add,Nat.add_sub_cancel_left])
 | ((first|refine condB_split (fun h=>?_) (fun h=>?_)|refine gIf_split (fun h=>?_) (fun h=>?_)|refine qIf_split (fun h=>?_) (fun h=>?_))<;>(try simp only [h])<;>(try simp only [bitvec_to_nat] at h)<;>(try simp only [h])<;>(first|(exfalso;omega)|(focus (exfalso;simp_all;done))|(simp (disch:=omega) only [push_cast,seval,hne2,hl,e1,e2,e3,e4,hc,Vw.setRange_length,Nat.sub_zero,Nat.add_zero,Nat.zero_add,Nat.add_sub_cancel_left])|skip))
 | (refine awp_ret ⟨.inr rfl,[],[],_,by decide,rfl,?_⟩;(try simp (disch:=omega) only [push_cast,seval,↓allMem_nil,↓allMem_cons,↓List.map_cons,↓List.map_nil,hne2,hl,e1,e2,e3,e4,hc,Vw.setRange_length,Nat.sub_zero,Nat.add_zero,Nat.zero_add,Nat.add_sub_cancel_left]))))

end Go.Proofs.Ytceopplkfomalaa
