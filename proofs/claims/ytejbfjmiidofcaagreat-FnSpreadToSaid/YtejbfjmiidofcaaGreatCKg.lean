import Derived.Test.YtejbfjmiidofcaaGreatCKb
import Derived.Test.YtejbfjmiidofcaaGreatCM1

set_option linter.unusedSimpArgs false
set_option linter.unusedVariables false
set_option maxRecDepth 4000
set_option maxHeartbeats 4000000
namespace Go.Proofs.YtejbfjmiidofcaaGreat
open VwM Vw Go

theorem sbound_ok (n x b:Int) (hn:0 ≤ n ∧ n ≤ 60) (hx:-100 ≤ x ∧ x ≤ 100):PCall Tryz.prog 97 [.int .i64 n,.int .i64 x,.int .i64 b] (fun r=>r=.int .i64 (endI x n b)):=by
  refine pcall_of l97_eq rfl ?_
  unfold endI
  by_cases h:b < 0
  · by_cases h1:x < 0
    · (repeat' (first
 | (first|refine awp_seq ?_|refine awp_block ?_)
 | ((first|refine awp_reg ?_|refine awp_condB ?_|refine awp_skip ?_|refine awp_exit ?_);simp (disch:=omega) only [push_cast,seval,l97r0,l97r1,l97r2,l97r3,l97r4,l97r5,l97r6,l97r7,l97r8,h,h1])
 | ((first|refine condB_split (fun h=>?_) (fun h=>?_)|refine gIf_split (fun h=>?_) (fun h=>?_)|refine qIf_split (fun h=>?_) (fun h=>?_))<;>(try simp only [h])<;>(try simp only [bitvec_to_nat] at h)<;>(try simp only [h])<;>(first|(exfalso;omega)|(focus (exfalso;simp_all;done))|(simp (disch:=omega) only [push_cast,seval,h,h1])|skip))
 | (refine awp_ret ⟨.inr rfl,_,rfl,?_⟩;(try simp (disch:=omega) only [push_cast,seval,h,h1]))))
      all_goals (refine congrArg (AV.int _) ?_;omega)
    · (repeat' (first
 | (first|refine awp_seq ?_|refine awp_block ?_)
 | ((first|refine awp_reg ?_|refine awp_condB ?_|refine awp_skip ?_|refine awp_exit ?_);simp (disch:=omega) only [push_cast,seval,l97r0,l97r1,l97r2,l97r3,l97r4,l97r5,l97r6,l97r7,l97r8,h,h1])
 | ((first|refine condB_split (fun h=>?_) (fun h=>?_)|refine gIf_split (fun h=>?_) (fun h=>?_)|refine qIf_split (fun h=>?_) (fun h=>?_))<;>(try simp only [h])<;>(try simp only [bitvec_to_nat] at h)<;>(try simp only [h])<;>(first|(exfalso;omega)|(focus (exfalso;simp_all;done))|(simp (disch:=omega) only [push_cast,seval,h,h1])|skip))
 | (refine awp_ret ⟨.inr rfl,_,rfl,?_⟩;(try simp (disch:=omega) only [push_cast,seval,h,h1]))))
      all_goals (refine congrArg (AV.int _) ?_;omega)
  · by_cases h1:x < 0
    · (repeat' (first
 | (first|refine awp_seq ?_|refine awp_block ?_)
 | ((first|refine awp_reg ?_|refine awp_condB ?_|refine awp_skip ?_|refine awp_exit ?_);simp (disch:=omega) only [push_cast,seval,l97r0,l97r1,l97r2,l97r3,l97r4,l97r5,l97r6,l97r7,l97r8,h,h1])
 | ((first|refine condB_split (fun h=>?_) (fun h=>?_)|refine gIf_split (fun h=>?_) (fun h=>?_)|refine qIf_split (fun h=>?_) (fun h=>?_))<;>(try simp only [h])<;>(try simp only [bitvec_to_nat] at h)<;>(try simp only [h])<;>(first|(exfalso;omega)|(focus (exfalso;simp_all;done))|(simp (disch:=omega) only [push_cast,seval,h,h1])|skip))
 | (refine awp_ret ⟨.inr rfl,_,rfl,?_⟩;(try simp (disch:=omega) only [push_cast,seval,h,h1]))))
      all_goals (refine congrArg (AV.int _) ?_;omega)
    · (repeat' (first
 | (first|refine awp_seq ?_|refine awp_block ?_)
 | ((first|refine awp_reg ?_|refine awp_condB ?_|refine awp_skip ?_|refine awp_exit ?_);simp (disch:=omega) only [push_cast,seval,l97r0,l97r1,l97r2,l97r3,l97r4,l97r5,l97r6,l97r7,l97r8,h,h1])
 | ((first|refine condB_split (fun h=>?_) (fun h=>?_)|refine gIf_split (fun h=>?_) (fun h=>?_)|refine qIf_split (fun h=>?_) (fun h=>?_))<;>(try simp only [h])<;>(try simp only [bitvec_to_nat] at h)<;>(try simp only [h])<;>(first|(exfalso;omega)|(focus (exfalso;simp_all;done))|(simp (disch:=omega) only [push_cast,seval,h,h1])|skip))
 | (refine awp_ret ⟨.inr rfl,_,rfl,?_⟩;(try simp (disch:=omega) only [push_cast,seval,h,h1]))))
      all_goals (refine congrArg (AV.int _) ?_;omega)


theorem sindices_ok (n f t b:Int) (hf ht:Bool) (hn:0 ≤ n ∧ n ≤ 60) (hs:vS f t b hf ht=true):BCall Tryz.prog 82 [.int .i64 n,slc f t b hf ht] [] (OI (nums (sFrom f n b hf) b (cntN (sFrom f n b hf) (sTo t n b ht) b))):=by
  obtain ⟨h1,h2,h3,h4,-,-⟩:=vS_spec.1 hs
  have hv:=over_valid hn hs
  refine bcall_of (pins:=[]) (pin:=0) l82_eq rfl rfl rfl ?_
  by_cases h:b < 0<;>cases hf<;>cases ht<;>simp only [sFrom,sTo,h,if_true,if_false,Bool.false_eq_true,reduceIte] at hv ⊢
  all_goals (repeat' (first
 | (first|refine awp_seq ?_|refine awp_block ?_)
 | ((first|refine awp_reg ?_|refine awp_condB ?_|refine awp_skip ?_|refine awp_exit ?_);simp (disch:=omega) only [push_cast,seval,l82r0,l82r1,l82r2,l82r3,l82r4,l82r5,l82r6,l82r7,l82r8,l82r9,l82r10,h])
 | ((first|refine condB_split (fun h=>?_) (fun h=>?_)|refine gIf_split (fun h=>?_) (fun h=>?_)|refine qIf_split (fun h=>?_) (fun h=>?_))<;>(try simp only [h])<;>(try simp only [bitvec_to_nat] at h)<;>(try simp only [h])<;>(first|(exfalso;omega)|(focus (exfalso;simp_all;done))|(simp (disch:=omega) only [push_cast,seval,h])|skip))
 | ((first|refine callD_of false ?_|refine qcallD_of false ?_);simp (disch:=omega) only [push_cast,seval,h])
 | ((first|((first|refine call0D (BCall.ofP (sbound_ok _ _ _ ?_ ?_)) ?_|refine qcall0D (BCall.ofP (sbound_ok _ _ _ ?_ ?_)) ⟨_,_,rfl,rfl⟩ ?_);(iterate 2 (exact sd));rintro _ _ ⟨rfl,rfl⟩)|((first|refine call0D (snumbers_ok _ _ _ ?_) ?_|refine qcall0D (snumbers_ok _ _ _ ?_) ⟨_,_,rfl,rfl⟩ ?_);(exact sd);rintro _ _ ⟨rfl,rfl⟩))<;>(try simp (disch:=omega) only [push_cast,seval,h]))
 | (refine awp_ret ⟨.inr rfl,[320],[],_,by decide,rfl,?_⟩;(try simp (disch:=omega) only [push_cast,seval,↓allMem_nil,↓allMem_cons,↓List.map_cons,↓List.map_nil,h]);(first|done|(show AV.own _ _ _=_ ∧ _)))
 | (refine awp_ret ⟨.inr rfl,[448],[],_,by decide,rfl,?_⟩;(try simp (disch:=omega) only [push_cast,seval,↓allMem_nil,↓allMem_cons,↓List.map_cons,↓List.map_nil,h]);(first|done|(show AV.own _ _ _=_ ∧ _)))
 | (refine awp_ret ⟨.inr rfl,[544],[],_,by decide,rfl,?_⟩;(try simp (disch:=omega) only [push_cast,seval,↓allMem_nil,↓allMem_cons,↓List.map_cons,↓List.map_nil,h]);(first|done|(show AV.own _ _ _=_ ∧ _)))))
  all_goals simp [OI]

end Go.Proofs.YtejbfjmiidofcaaGreat
