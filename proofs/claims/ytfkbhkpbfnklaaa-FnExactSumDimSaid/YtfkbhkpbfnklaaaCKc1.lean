import Derived.Test.YtfkbhkpbfnklaaaCKv
import Derived.Test.YtfkbhkpbfnklaaaCM1
import Derived.Test.YtfkbhkpbfnklaaaCW3
set_option linter.unusedSimpArgs false
set_option linter.unusedVariables false
set_option maxRecDepth 4000
set_option maxHeartbeats 4000000
namespace Go.Proofs.Ytfkbhkpbfnklaaa
open VwM Vw Go

theorem swithout_ok (xs:List Int) (n:Nat) (k:Nat) (hn:xs.length=n) (hb:k < n ∧ n ≤ 1099511627776):BCall Try.prog 79 [.rows false (IL xs) n,.int .i64 k] [] (OI (wo xs k)):=by
  subst hn
  obtain ⟨hb1,hb2⟩:=hb
  have hl:=wo_length hb1
  refine bcall_of (pins:=[]) (pin:=0) l79_eq rfl rfl rfl ?_
  have hmin:min k xs.length=k:=by omega
  have hl2:(xs.take k).length=k:=by simp;omega
  have hl3:(xs.drop (k + 1)).length=xs.length - (k + 1):=by simp
  (repeat' (first
 | (first|refine awp_seq ?_|refine awp_block ?_)
 | ((first|refine awp_reg ?_|refine awp_drawX (mid:=l79r1a) (post:=l79r1b) [80] mixed (by decide) ?_|refine awp_condB ?_|refine awp_skip ?_|refine awp_exit ?_);simp (disch:=omega) only [push_cast,seval,l79r0,l79r1a,l79r1b,l79r1,IL_head,IL_tail,Nat.sub_zero,hmin,hl2,hl3,← List.map_append])
 | ((first|refine condB_split (fun h=>?_) (fun h=>?_)|refine gIf_split (fun h=>?_) (fun h=>?_)|refine qIf_split (fun h=>?_) (fun h=>?_))<;>(try simp only [h])<;>(try simp only [bitvec_to_nat] at h)<;>(try simp only [h])<;>(first|(exfalso;omega)|(focus (exfalso;simp_all;done))|(simp (disch:=omega) only [push_cast,seval,IL_head,IL_tail,Nat.sub_zero,hmin,hl2,hl3,← List.map_append])|skip))
 | (refine awp_ret ⟨.inr rfl,[80],[],_,by decide,rfl,?_⟩;(try simp (disch:=omega) only [push_cast,seval,↓allMem_nil,↓allMem_cons,↓List.map_cons,↓List.map_nil,IL_head,IL_tail,Nat.sub_zero,hmin,hl2,hl3,← List.map_append]))))
  have hl4:xs.take k ++ xs.drop (k + 1)=wo xs k:=rfl
  all_goals simp only [OI,hl4,hl]
  all_goals (refine ⟨?_,trivial⟩;congr 1;omega)


theorem supTo_ok (n:Nat) (hb:n ≤ 1000):BCall Try.prog 78 [.int .i64 n] [] (OI (nums 0 1 n)):=by
  refine bcall_of (pins:=[]) (pin:=0) l78_eq rfl rfl rfl ?_
  (repeat' (first
 | (first|refine awp_seq ?_|refine awp_block ?_)
 | ((first|refine awp_reg ?_|refine awp_condB ?_|refine awp_skip ?_|refine awp_exit ?_);simp (disch:=omega) only [push_cast,seval,l78r0,l78r1,l78r2,l78r3,l78r4,l78r5,l78r6])
 | ((first|refine condB_split (fun h=>?_) (fun h=>?_)|refine gIf_split (fun h=>?_) (fun h=>?_)|refine qIf_split (fun h=>?_) (fun h=>?_))<;>(try simp only [h])<;>(try simp only [bitvec_to_nat] at h)<;>(try simp only [h])<;>(first|(exfalso;omega)|(focus (exfalso;simp_all;done))|(simp (disch:=omega) only [push_cast,seval])|skip))
 | (refine awp_ret ⟨.inr rfl,[80],[],_,by decide,rfl,?_⟩;(try simp (disch:=omega) only [push_cast,seval,↓allMem_nil,↓allMem_cons,↓List.map_cons,↓List.map_nil]))))
  refine awp_loop (fun k:Nat=>mkS [(0,.int .i64 n),(3,.own 80 k 1),(4,.int .i64 k)] [(80,IL (nums 0 1 k))]) (fun k=>k ≤ n) (fun k=>n - k) 0 (Nat.zero_le _) ?_ ?_
  · (refine Sub.of_lists ?_ ?_ ?_ ?_ ?_<;>simp [Vw.mkS,Vw.lk,Vw.hk,AV.inn,innL,innL_ints,innL_append,innL_rep,-List.map_set,-List.getD_eq_getElem?_getD,nums_zero])
  · intro k hk
    have hl:=nums_length 0 1 k
    have e:nums 0 1 (k + 1)=nums 0 1 k ++ [(k:Int)]:=by rw [nums_succ];simp
    by_cases hlt:k < n
    · (repeat' (first
 | (first|refine awp_seq ?_|refine awp_block ?_)
 | ((first|refine awp_reg ?_|refine awp_condB ?_|refine awp_skip ?_|refine awp_exit ?_);simp (disch:=omega) only [push_cast,seval,l78r0,l78r1,l78r2,l78r3,l78r4,l78r5,l78r6,hl])
 | ((first|refine condB_split (fun h=>?_) (fun h=>?_)|refine gIf_split (fun h=>?_) (fun h=>?_)|refine qIf_split (fun h=>?_) (fun h=>?_))<;>(try simp only [h])<;>(try simp only [bitvec_to_nat] at h)<;>(try simp only [h])<;>(first|(exfalso;omega)|(focus (exfalso;simp_all;done))|(simp (disch:=omega) only [push_cast,seval,hl])|skip))
 | (refine awp_ret ⟨.inr rfl,[80],[],_,by decide,rfl,?_⟩;(try simp (disch:=omega) only [push_cast,seval,↓allMem_nil,↓allMem_cons,↓List.map_cons,↓List.map_nil,hl]))))
      refine ⟨k + 1,by omega,by omega,?_⟩
      (refine Sub.of_lists ?_ ?_ ?_ ?_ ?_<;>simp [Vw.mkS,Vw.lk,Vw.hk,AV.inn,innL,innL_ints,innL_append,innL_rep,-List.map_set,-List.getD_eq_getElem?_getD,e])
    · have:k=n:=by omega
      subst this
      (repeat' (first
 | (first|refine awp_seq ?_|refine awp_block ?_)
 | ((first|refine awp_reg ?_|refine awp_condB ?_|refine awp_skip ?_|refine awp_exit ?_);simp (disch:=omega) only [push_cast,seval,l78r0,l78r1,l78r2,l78r3,l78r4,l78r5,l78r6,hl])
 | ((first|refine condB_split (fun h=>?_) (fun h=>?_)|refine gIf_split (fun h=>?_) (fun h=>?_)|refine qIf_split (fun h=>?_) (fun h=>?_))<;>(try simp only [h])<;>(try simp only [bitvec_to_nat] at h)<;>(try simp only [h])<;>(first|(exfalso;omega)|(focus (exfalso;simp_all;done))|(simp (disch:=omega) only [push_cast,seval,hl])|skip))
 | (refine awp_ret ⟨.inr rfl,[80],[],_,by decide,rfl,?_⟩;(try simp (disch:=omega) only [push_cast,seval,↓allMem_nil,↓allMem_cons,↓List.map_cons,↓List.map_nil,hl]))))
      all_goals simp [OI,hl]

end Go.Proofs.Ytfkbhkpbfnklaaa
