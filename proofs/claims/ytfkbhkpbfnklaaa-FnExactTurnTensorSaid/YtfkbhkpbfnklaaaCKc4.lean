import Derived.Test.YtfkbhkpbfnklaaaCKq9
import Derived.Test.YtfkbhkpbfnklaaaCM1
set_option linter.unusedSimpArgs false
set_option linter.unusedVariables false
set_option maxRecDepth 4000
set_option maxHeartbeats 4000000
namespace Go.Proofs.Ytfkbhkpbfnklaaa
open VwM Vw Go

def pmOk (b:Int) (sh st order:List Int):Bool :=
  vV b sh st && (decide (order.length=sh.length) && allI order 0 ((sh.length:Int) - 1) && decide order.Nodup) && vV b (permL sh order) (permL st order)


theorem spermuted_ok (b:Int) (sh st order:List Int) (n m p:Nat) (hn:sh.length=n) (hm:st.length=m) (hp:order.length=p) (hb:(n ≤ 4 ∧ m=n ∧ p=n) ∧ ∀ x ∈ order,0 ≤ x ∧ x ≤ (n:Int) - 1) :
    BCall Try.prog 71 [.agg [.int .i64 b,.rows false (IL sh) n,.rows false (IL st) m],.rows false (IL order) p] [] (OV b (permL sh order) (permL st order)):=by
  subst hn hm hp
  obtain ⟨⟨hb1,hb2,hb3⟩,hbo⟩:=hb
  refine bcall_of (pins:=[]) (pin:=0) l71_eq rfl rfl rfl ?_
  (repeat' (first
 | (first|refine awp_seq ?_|refine awp_block ?_)
 | ((first|refine awp_reg ?_|refine awp_draw (mid:=l71r4a) (post:=l71r4b) mixed (by decide) ?_|refine awp_draw (mid:=l71r5a) (post:=l71r5b) mixed (by decide) ?_|refine awp_condB ?_|refine awp_skip ?_|refine awp_exit ?_);simp (disch:=omega) only [push_cast,seval,l71r0,l71r1,l71r2,l71r3,l71r4a,l71r4b,l71r4,l71r5a,l71r5b,l71r5,l71r6,l71r7])
 | ((first|refine condB_split (fun h=>?_) (fun h=>?_)|refine gIf_split (fun h=>?_) (fun h=>?_)|refine qIf_split (fun h=>?_) (fun h=>?_))<;>(try simp only [h])<;>(try simp only [bitvec_to_nat] at h)<;>(try simp only [h])<;>(first|(exfalso;omega)|(focus (exfalso;simp_all;done))|(simp (disch:=omega) only [push_cast,seval])|skip))
 | (refine awp_ret ⟨.inr rfl,[16000,16016],[(16000,1),(16016,1)],_,by decide,rfl,?_⟩;(try simp (disch:=omega) only [push_cast,seval,↓allMem_nil,↓allMem_cons,↓List.map_cons,↓List.map_nil]))))
  refine awp_loop (fun k:Nat=>if k=0 then mkS [(2,.ref 32 3 0),(4,.ref 64 3 0),(5,.ref 80 3 0),(1,RI order),(6,.int .i64 0)] [(32,[.int .i64 b,RI sh,RI st]),(64,[.int .i64 0,.val (.slice none 0 0),.val (.slice none 0 0)]),(80,[.int .i64 b,.val (.slice none 0 0),.val (.slice none 0 0)])]
    else mkS [(2,.ref 32 3 0),(4,.ref 64 3 0),(5,.ref 80 3 0),(1,RI order),(6,.int .i64 k)] [(32,[.int .i64 b,RI sh,RI st]),(64,[.int .i64 0,.val (.slice none 0 0),.val (.slice none 0 0)]),(80,[.int .i64 b,.own 432 k 1,.own 640 k 1]),(432,IL (permL sh (order.take k))),(640,IL (permL st (order.take k)))])
    (fun k=>k ≤ order.length) (fun k=>order.length - k) 0 (Nat.zero_le _) ?_ ?_
  · rw [if_pos rfl]
    (refine Sub.of_lists ?_ ?_ ?_ ?_ ?_<;>simp [Vw.mkS,Vw.lk,Vw.hk,AV.inn,innL,innL_ints,innL_append,innL_rep,-List.map_set,-List.getD_eq_getElem?_getD])
  · intro k hk
    have e1:=permL_length sh (order.take k)
    have e2:=permL_length st (order.take k)
    by_cases hlt:k < order.length
    · have hx:=hbo _ (getD_mem hlt)
      obtain ⟨c,hc⟩:∃ c:Nat,order.getD k 0=c:=⟨(order.getD k 0).toNat,by omega⟩
      have s1:=permL_succ sh order hlt
      have s2:=permL_succ st order hlt
      rw [hc,Int.toNat_natCast] at s1 s2
      rw [hc] at hx
      have hc1:c < sh.length ∧ c < st.length:=by omega
      by_cases h0:k=0
      · subst h0
        rw [if_pos rfl]
        have hc0:order.getD 0 0=c:=hc
        (repeat' (first
 | (first|refine awp_seq ?_|refine awp_block ?_)
 | ((first|refine awp_reg ?_|refine awp_draw (mid:=l71r4a) (post:=l71r4b) mixed (by decide) ?_|refine awp_draw (mid:=l71r5a) (post:=l71r5b) mixed (by decide) ?_|refine awp_condB ?_|refine awp_skip ?_|refine awp_exit ?_);simp (disch:=omega) only [push_cast,seval,l71r0,l71r1,l71r2,l71r3,l71r4a,l71r4b,l71r4,l71r5a,l71r5b,l71r5,l71r6,l71r7,hc0,Int.toNat_natCast,Int.natCast_zero])
 | ((first|refine condB_split (fun h=>?_) (fun h=>?_)|refine gIf_split (fun h=>?_) (fun h=>?_)|refine qIf_split (fun h=>?_) (fun h=>?_))<;>(try simp only [h])<;>(try simp only [bitvec_to_nat] at h)<;>(try simp only [h])<;>(first|(exfalso;omega)|(focus (exfalso;simp_all;done))|(simp (disch:=omega) only [push_cast,seval,hc0,Int.toNat_natCast,Int.natCast_zero])|skip))
 | (refine awp_ret ⟨.inr rfl,[],[],_,by decide,rfl,?_⟩;(try simp (disch:=omega) only [push_cast,seval,↓allMem_nil,↓allMem_cons,↓List.map_cons,↓List.map_nil,hc0,Int.toNat_natCast,Int.natCast_zero]))))
        refine ⟨0 + 1,by omega,by omega,?_⟩
        rw [if_neg (by omega)]
        rw [s1,s2]
        simp only [List.take_zero]
        (refine Sub.of_lists ?_ ?_ ?_ ?_ ?_<;>simp [Vw.mkS,Vw.lk,Vw.hk,AV.inn,innL,innL_ints,innL_append,innL_rep,-List.map_set,-List.getD_eq_getElem?_getD,permL])
      · rw [if_neg h0]
        have e3:(permL sh (order.take k)).length=k:=by rw [e1];simp;omega
        have e4:(permL st (order.take k)).length=k:=by rw [e2];simp;omega
        generalize hq1:permL sh (order.take k)=q1 at *
        generalize hq2:permL st (order.take k)=q2 at *
        (repeat' (first
 | (first|refine awp_seq ?_|refine awp_block ?_)
 | ((first|refine awp_reg ?_|refine awp_draw (mid:=l71r4a) (post:=l71r4b) mixed (by decide) ?_|refine awp_draw (mid:=l71r5a) (post:=l71r5b) mixed (by decide) ?_|refine awp_condB ?_|refine awp_skip ?_|refine awp_exit ?_);simp (disch:=omega) only [push_cast,seval,l71r0,l71r1,l71r2,l71r3,l71r4a,l71r4b,l71r4,l71r5a,l71r5b,l71r5,l71r6,l71r7,hc,Int.toNat_natCast,e3,e4])
 | ((first|refine condB_split (fun h=>?_) (fun h=>?_)|refine gIf_split (fun h=>?_) (fun h=>?_)|refine qIf_split (fun h=>?_) (fun h=>?_))<;>(try simp only [h])<;>(try simp only [bitvec_to_nat] at h)<;>(try simp only [h])<;>(first|(exfalso;omega)|(focus (exfalso;simp_all;done))|(simp (disch:=omega) only [push_cast,seval,hc,Int.toNat_natCast,e3,e4])|skip))
 | (refine awp_ret ⟨.inr rfl,[],[],_,by decide,rfl,?_⟩;(try simp (disch:=omega) only [push_cast,seval,↓allMem_nil,↓allMem_cons,↓List.map_cons,↓List.map_nil,hc,Int.toNat_natCast,e3,e4]))))
        refine ⟨k + 1,by omega,by omega,?_⟩
        rw [if_neg (by omega),s1,s2]
        (refine Sub.of_lists ?_ ?_ ?_ ?_ ?_<;>simp [Vw.mkS,Vw.lk,Vw.hk,AV.inn,innL,innL_ints,innL_append,innL_rep,-List.map_set,-List.getD_eq_getElem?_getD,e3,e4])
    · have hke:k=order.length:=by omega
      have ht:order.take k=order:=List.take_of_length_le (by omega)
      by_cases h0:k=0
      · subst h0
        rw [if_pos rfl]
        have hL:(order.length:Int)=0:=by omega
        clear ht e1 e2 hk hbo hlt
        (repeat' (first
 | (first|refine awp_seq ?_|refine awp_block ?_)
 | ((first|refine awp_reg ?_|refine awp_draw (mid:=l71r4a) (post:=l71r4b) mixed (by decide) ?_|refine awp_draw (mid:=l71r5a) (post:=l71r5b) mixed (by decide) ?_|refine awp_condB ?_|refine awp_skip ?_|refine awp_exit ?_);simp (disch:=omega) only [push_cast,seval,l71r0,l71r1,l71r2,l71r3,l71r4a,l71r4b,l71r4,l71r5a,l71r5b,l71r5,l71r6,l71r7,hL])
 | ((first|refine condB_split (fun h=>?_) (fun h=>?_)|refine gIf_split (fun h=>?_) (fun h=>?_)|refine qIf_split (fun h=>?_) (fun h=>?_))<;>(try simp only [h])<;>(try simp only [bitvec_to_nat] at h)<;>(try simp only [h])<;>(first|(exfalso;omega)|(focus (exfalso;simp_all;done))|(simp (disch:=omega) only [push_cast,seval,hL])|skip))
 | (refine awp_ret ⟨.inr rfl,[16000,16016],[(16000,1),(16016,1)],_,by decide,rfl,?_⟩;(try simp (disch:=omega) only [push_cast,seval,↓allMem_nil,↓allMem_cons,↓List.map_cons,↓List.map_nil,hL]))))
        have ho:order=[]:=List.length_eq_zero_iff.1 hke.symm
        all_goals simp [OV,permL,ho]
      · rw [if_neg h0,ht]
        rw [ht] at e1 e2
        (repeat' (first
 | (first|refine awp_seq ?_|refine awp_block ?_)
 | ((first|refine awp_reg ?_|refine awp_draw (mid:=l71r4a) (post:=l71r4b) mixed (by decide) ?_|refine awp_draw (mid:=l71r5a) (post:=l71r5b) mixed (by decide) ?_|refine awp_condB ?_|refine awp_skip ?_|refine awp_exit ?_);simp (disch:=omega) only [push_cast,seval,l71r0,l71r1,l71r2,l71r3,l71r4a,l71r4b,l71r4,l71r5a,l71r5b,l71r5,l71r6,l71r7,hke,e1,e2])
 | ((first|refine condB_split (fun h=>?_) (fun h=>?_)|refine gIf_split (fun h=>?_) (fun h=>?_)|refine qIf_split (fun h=>?_) (fun h=>?_))<;>(try simp only [h])<;>(try simp only [bitvec_to_nat] at h)<;>(try simp only [h])<;>(first|(exfalso;omega)|(focus (exfalso;simp_all;done))|(simp (disch:=omega) only [push_cast,seval,hke,e1,e2])|skip))
 | (refine awp_ret ⟨.inr rfl,[432,640],[],_,by decide,rfl,?_⟩;(try simp (disch:=omega) only [push_cast,seval,↓allMem_nil,↓allMem_cons,↓List.map_cons,↓List.map_nil,hke,e1,e2]))))
        all_goals simp [OV,e1,e2]

end Go.Proofs.Ytfkbhkpbfnklaaa
