import Derived.Test.YtejbfjmiidofcaaGreatCKg
import Derived.Test.YtejbfjmiidofcaaGreatCM1

set_option linter.unusedSimpArgs false
set_option linter.unusedVariables false
set_option maxRecDepth 4000
set_option maxHeartbeats 4000000
namespace Go.Proofs.YtejbfjmiidofcaaGreat
open VwM Vw Go

theorem snormal_ok (a c:Int) (n:Nat) (hn:n ≤ 1000) (hb:∀ i:Nat,i < n → -1000 ≤ a + (i:Int) * c ∧ a + (i:Int) * c ≤ 1000):PCall Tryz.prog 81 [.rows false (IL (nums a c n)) n] (fun r=>r=PR a c n):=by
  refine pcall_of l81_eq rfl ?_
  by_cases hz:n=0
  · subst hz
    (repeat' (first
 | (first|refine awp_seq ?_|refine awp_block ?_)
 | ((first|refine awp_reg ?_|refine awp_draw (mid:=l81r5a) (post:=l81r5b) mixed (by decide) ?_|refine awp_draw (mid:=l81r6a) (post:=l81r6b) mixed (by decide) ?_|refine awp_condB ?_|refine awp_skip ?_|refine awp_exit ?_);simp (disch:=omega) only [push_cast,seval,l81r0,l81r1,l81r2,l81r3,l81r4,l81r5a,l81r5b,l81r5,l81r6a,l81r6b,l81r6,l81r7,l81r8,l81r9,l81r10,nums_zero])
 | ((first|refine condB_split (fun h=>?_) (fun h=>?_)|refine gIf_split (fun h=>?_) (fun h=>?_)|refine qIf_split (fun h=>?_) (fun h=>?_))<;>(try simp only [h])<;>(try simp only [bitvec_to_nat] at h)<;>(try simp only [h])<;>(first|(exfalso;omega)|(focus (exfalso;simp_all;done))|(simp (disch:=omega) only [push_cast,seval,nums_zero])|skip))
 | (refine awp_ret ⟨.inr rfl,_,rfl,?_⟩;(try simp (disch:=omega) only [push_cast,seval,nums_zero]))))
    all_goals simp [pS,pE,pC]
  have b0:=hb 0 (by omega)
  simp only [Int.natCast_zero,Int.zero_mul,Int.add_zero] at b0
  have g0:(nums a c n).getD 0 0=a:=by rw [nums_getD a c n 0 (by omega)];simp
  by_cases ho:n=1
  · subst ho
    (repeat' (first
 | (first|refine awp_seq ?_|refine awp_block ?_)
 | ((first|refine awp_reg ?_|refine awp_draw (mid:=l81r5a) (post:=l81r5b) mixed (by decide) ?_|refine awp_draw (mid:=l81r6a) (post:=l81r6b) mixed (by decide) ?_|refine awp_condB ?_|refine awp_skip ?_|refine awp_exit ?_);simp (disch:=omega) only [push_cast,seval,l81r0,l81r1,l81r2,l81r3,l81r4,l81r5a,l81r5b,l81r5,l81r6a,l81r6b,l81r6,l81r7,l81r8,l81r9,l81r10,g0])
 | ((first|refine condB_split (fun h=>?_) (fun h=>?_)|refine gIf_split (fun h=>?_) (fun h=>?_)|refine qIf_split (fun h=>?_) (fun h=>?_))<;>(try simp only [h])<;>(try simp only [bitvec_to_nat] at h)<;>(try simp only [h])<;>(first|(exfalso;omega)|(focus (exfalso;simp_all;done))|(simp (disch:=omega) only [push_cast,seval,g0])|skip))
 | (refine awp_ret ⟨.inr rfl,_,rfl,?_⟩;(try simp (disch:=omega) only [push_cast,seval,g0]))))
    all_goals simp [pS,pE,pC]
  have b1:=hb 1 (by omega)
  simp only [Int.natCast_one,Int.one_mul] at b1
  have bl:=hb (n - 1) (by omega)
  rw [show (((n - 1:Nat):Nat):Int)=(n:Int) - 1 by omega] at bl
  have ho':¬ (n:Int)=1:=by omega
  have hz':¬ (n:Int)=0:=by omega
  have g1:(nums a c n).getD 1 0=a + c:=by rw [nums_getD a c n 1 (by omega)];simp
  have gl:(nums a c n).getD ((n:Int) - 1).toNat 0=a + ((n:Int) - 1) * c:=by
    rw [nums_getD a c n _ (by omega)]
    rw [show ((((n:Int) - 1).toNat:Nat):Int)=(n:Int) - 1 by omega]
  have hlen:0 < n ∧ 1 < n:=by omega
  have e:a + c - a=c:=by omega
  have p1:¬ (n:Int) < 1:=by omega
  have p2:¬ (n:Int) ≤ 1:=by omega
  by_cases hc:c < 0
  · (repeat' (first
 | (first|refine awp_seq ?_|refine awp_block ?_)
 | ((first|refine awp_reg ?_|refine awp_draw (mid:=l81r5a) (post:=l81r5b) mixed (by decide) ?_|refine awp_draw (mid:=l81r6a) (post:=l81r6b) mixed (by decide) ?_|refine awp_condB ?_|refine awp_skip ?_|refine awp_exit ?_);simp (disch:=omega) only [push_cast,seval,l81r0,l81r1,l81r2,l81r3,l81r4,l81r5a,l81r5b,l81r5,l81r6a,l81r6b,l81r6,l81r7,l81r8,l81r9,l81r10,g0,g1,gl,hlen,e,hz',ho',hc])
 | ((first|refine condB_split (fun h=>?_) (fun h=>?_)|refine gIf_split (fun h=>?_) (fun h=>?_)|refine qIf_split (fun h=>?_) (fun h=>?_))<;>(try simp only [h])<;>(try simp only [bitvec_to_nat] at h)<;>(try simp only [h])<;>(first|(exfalso;omega)|(focus (exfalso;simp_all;done))|(simp (disch:=omega) only [push_cast,seval,g0,g1,gl,hlen,e,hz',ho',hc])|skip))
 | (refine awp_ret ⟨.inr rfl,_,rfl,?_⟩;(try simp (disch:=omega) only [push_cast,seval,g0,g1,gl,hlen,e,hz',ho',hc]))))
    all_goals simp [pS,pE,pC,p1,p2,ho',hc]
  · (repeat' (first
 | (first|refine awp_seq ?_|refine awp_block ?_)
 | ((first|refine awp_reg ?_|refine awp_draw (mid:=l81r5a) (post:=l81r5b) mixed (by decide) ?_|refine awp_draw (mid:=l81r6a) (post:=l81r6b) mixed (by decide) ?_|refine awp_condB ?_|refine awp_skip ?_|refine awp_exit ?_);simp (disch:=omega) only [push_cast,seval,l81r0,l81r1,l81r2,l81r3,l81r4,l81r5a,l81r5b,l81r5,l81r6a,l81r6b,l81r6,l81r7,l81r8,l81r9,l81r10,g0,g1,gl,hlen,e,hz',ho',hc])
 | ((first|refine condB_split (fun h=>?_) (fun h=>?_)|refine gIf_split (fun h=>?_) (fun h=>?_)|refine qIf_split (fun h=>?_) (fun h=>?_))<;>(try simp only [h])<;>(try simp only [bitvec_to_nat] at h)<;>(try simp only [h])<;>(first|(exfalso;omega)|(focus (exfalso;simp_all;done))|(simp (disch:=omega) only [push_cast,seval,g0,g1,gl,hlen,e,hz',ho',hc])|skip))
 | (refine awp_ret ⟨.inr rfl,_,rfl,?_⟩;(try simp (disch:=omega) only [push_cast,seval,g0,g1,gl,hlen,e,hz',ho',hc]))))
    all_goals simp [pS,pE,pC,p1,p2,ho',hc]

end Go.Proofs.YtejbfjmiidofcaaGreat
