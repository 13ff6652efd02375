import Derived.Test.YtfkbhkpbfnklaaaCKp10
import Derived.Test.YtfkbhkpbfnklaaaCM1
import Derived.Test.YtfkbhkpbfnklaaaCW3
set_option linter.unusedSimpArgs false
set_option linter.unusedVariables false
set_option maxRecDepth 4000
set_option maxHeartbeats 4000000
namespace Go.Proofs.Ytfkbhkpbfnklaaa
open VwM Vw Go

set_option maxHeartbeats 8000000 in
theorem spick_ok (e xs:List Int) (z n:Nat) (hz:e.length=z) (hn:xs.length=n) (hb:(z ≤ 1000000 ∧ n ≤ 1000000) ∧ ∀ x ∈ xs,0 ≤ x ∧ x < z):BCall Try.prog 119 [.rows false (IL e) z,.rows false (IL xs) n] [] (OI (xs.map (gE e))):=by
  subst hz hn
  obtain ⟨⟨hb0,hb1⟩,hb2⟩:=hb
  refine bcall_of (pins:=[]) (pin:=0) l119_eq rfl rfl rfl ?_
  obtain ⟨U,hU⟩:∃ U:Nat → List Int,∀ k,U k=(xs.take k).map (gE e):=⟨_,fun _=>rfl⟩
  have hU0:U 0=[]:=hU 0
  (repeat' (first
 | (first|refine awp_seq ?_|refine awp_block ?_)
 | ((first|refine awp_reg ?_|refine awp_condB ?_|refine awp_skip ?_|refine awp_exit ?_);simp (disch:=omega) only [push_cast,seval,l119r0,l119r1,l119r2,l119r3,l119r4,l119r5,l119r6])
 | ((first|refine condB_split (fun h=>?_) (fun h=>?_)|refine gIf_split (fun h=>?_) (fun h=>?_)|refine qIf_split (fun h=>?_) (fun h=>?_))<;>(try simp only [h])<;>(try simp only [bitvec_to_nat] at h)<;>(try simp only [h])<;>(first|(exfalso;omega)|(focus (exfalso;simp_all;done))|(simp (disch:=omega) only [push_cast,seval])|skip))
 | (refine awp_ret ⟨.inr rfl,[112],[],_,by decide,rfl,?_⟩;(try simp (disch:=omega) only [push_cast,seval,↓allMem_nil,↓allMem_cons,↓List.map_cons,↓List.map_nil]))))
  refine awp_loop (fun k:Nat=>mkS [(0,RI e),(1,RI xs),(5,.own 112 k 1),(6,.int .i64 k)] [(112,IL (U k))]) (fun k=>k ≤ xs.length) (fun k=>xs.length - k) 0 (Nat.zero_le _) ?_ ?_
  · (refine Sub.of_lists ?_ ?_ ?_ ?_ ?_<;>simp [Vw.mkS,Vw.lk,Vw.hk,AV.inn,innL,innL_ints,innL_append,innL_rep,-List.map_set,-List.getD_eq_getElem?_getD,hU0])
  · intro k hk
    have hkl:(U k).length=k:=by rw [hU,List.length_map,List.length_take];omega
    by_cases hlt:k < xs.length
    · have hx:=hb2 _ (getD_mem hlt)
      obtain ⟨c,hc⟩:∃ c:Nat,xs.getD k 0=c:=⟨(xs.getD k 0).toNat,by omega⟩
      have hc5:c < e.length:=by omega
      have hge:gE e (xs.getD k 0)=e.getD c 0:=by unfold gE;rw [hc,Int.toNat_natCast]
      have hs:U (k + 1)=U k ++ [e.getD c 0]:=by rw [hU,hU,take_succ_getD xs k hlt,List.map_append,← hge];rfl
      clear hU hge hU0
      (repeat' (first
 | (first|refine awp_seq ?_|refine awp_block ?_)
 | ((first|refine awp_reg ?_|refine awp_condB ?_|refine awp_skip ?_|refine awp_exit ?_);simp (disch:=omega) only [push_cast,seval,l119r0,l119r1,l119r2,l119r3,l119r4,l119r5,l119r6,hc,hkl,List.length_map])
 | ((first|refine condB_split (fun h=>?_) (fun h=>?_)|refine gIf_split (fun h=>?_) (fun h=>?_)|refine qIf_split (fun h=>?_) (fun h=>?_))<;>(try simp only [h])<;>(try simp only [bitvec_to_nat] at h)<;>(try simp only [h])<;>(first|(exfalso;omega)|(focus (exfalso;simp_all;done))|(simp (disch:=omega) only [push_cast,seval,hc,hkl,List.length_map])|skip))
 | (refine awp_ret ⟨.inr rfl,[112],[],_,by decide,rfl,?_⟩;(try simp (disch:=omega) only [push_cast,seval,↓allMem_nil,↓allMem_cons,↓List.map_cons,↓List.map_nil,hc,hkl,List.length_map]))))
      refine ⟨k + 1,by omega,by omega,?_⟩
      (refine Sub.of_lists ?_ ?_ ?_ ?_ ?_<;>simp [Vw.mkS,Vw.lk,Vw.hk,AV.inn,innL,innL_ints,innL_append,innL_rep,-List.map_set,-List.getD_eq_getElem?_getD,hs])
    · have ek:U k=xs.map (gE e):=by rw [hU,List.take_of_length_le (by omega)]
      rw [ek] at hkl ⊢
      clear hU ek
      generalize xs.map (gE e)=W at *
      (repeat' (first
 | (first|refine awp_seq ?_|refine awp_block ?_)
 | ((first|refine awp_reg ?_|refine awp_condB ?_|refine awp_skip ?_|refine awp_exit ?_);simp (disch:=omega) only [push_cast,seval,l119r0,l119r1,l119r2,l119r3,l119r4,l119r5,l119r6,hkl,List.length_map])
 | ((first|refine condB_split (fun h=>?_) (fun h=>?_)|refine gIf_split (fun h=>?_) (fun h=>?_)|refine qIf_split (fun h=>?_) (fun h=>?_))<;>(try simp only [h])<;>(try simp only [bitvec_to_nat] at h)<;>(try simp only [h])<;>(first|(exfalso;omega)|(focus (exfalso;simp_all;done))|(simp (disch:=omega) only [push_cast,seval,hkl,List.length_map])|skip))
 | (refine awp_ret ⟨.inr rfl,[112],[],_,by decide,rfl,?_⟩;(try simp (disch:=omega) only [push_cast,seval,↓allMem_nil,↓allMem_cons,↓List.map_cons,↓List.map_nil,hkl,List.length_map]))))
      all_goals (first|exact ⟨by rw [hkl],rfl⟩|exact ⟨rfl,rfl⟩|skip)

end Go.Proofs.Ytfkbhkpbfnklaaa
