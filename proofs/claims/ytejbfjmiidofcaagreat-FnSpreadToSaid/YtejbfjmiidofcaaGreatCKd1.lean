import Derived.Test.YtejbfjmiidofcaaGreatCKc8
import Derived.Test.YtejbfjmiidofcaaGreatCM1
import Derived.Test.YtejbfjmiidofcaaGreatCW3
set_option linter.unusedSimpArgs false
set_option linter.unusedVariables false
set_option maxRecDepth 4000
set_option maxHeartbeats 4000000
namespace Go.Proofs.YtejbfjmiidofcaaGreat
open VwM Vw Go

set_option maxHeartbeats 8000000 in
theorem settled_ok (b:Int) (sh st:List Int) (p0 p1 p2 p3:Int) (D E:List Int) (n m k:Nat) (hm:st.length=m) (hk:E.length=D.length ∧ D.length=k) (hb:((m ≤ 4 ∧ (-1000000 ≤ b ∧ b ≤ 1000000) ∧ ∀ i,i < m → (-60 ≤ at4 p0 p1 p2 p3 i ∧ at4 p0 p1 p2 p3 i ≤ 60) ∧ -12960000 ≤ st.getD i 0 ∧ st.getD i 0 ≤ 12960000) ∧ k ≤ 1000) ∧ good4 D) :
    BCall Tryz.prog 26 [.agg [.int .i64 b,.rows false (IL sh) n,.rows false (IL st) m,.int .i64 p0,.int .i64 p1,.int .i64 p2,.int .i64 p3,.rows false (IL (dm D E)) k]] [] (OV (stB D (b + dot (at4 p0 p1 p2 p3) st m)) D (stE D E)):=by
  subst hm
  obtain ⟨hk1,hk2⟩:=hk
  subst hk2
  obtain ⟨hb,hg⟩:=hb
  have hg4:=hg.2
  refine bcall_of (pins:=[]) (pin:=0) l26_eq rfl rfl rfl ?_
  have hkk:E.length=D.length ∧ D.length=D.length:=⟨hk1,rfl⟩
  unfold stB stE
  by_cases hz:pr D=0
  · rw [if_pos hz,if_pos hz]
    (repeat' (first
 | (first|refine awp_seq ?_|refine awp_block ?_)
 | ((first|refine awp_reg ?_|refine awp_drawX (mid:=l26r3a) (post:=l26r3b) [48,1000000009,1000000010,1000000013] mixed (by decide) ?_|refine awp_condB ?_|refine awp_skip ?_|refine awp_exit ?_);simp (disch:=omega) only [push_cast,seval,l26r0,l26r1,l26r2,l26r3a,l26r3b,l26r3,l26r4,hz,List.length_replicate])
 | ((first|refine condB_split (fun h=>?_) (fun h=>?_)|refine gIf_split (fun h=>?_) (fun h=>?_)|refine qIf_split (fun h=>?_) (fun h=>?_))<;>(try simp only [h])<;>(try simp only [bitvec_to_nat] at h)<;>(try simp only [h])<;>(first|(exfalso;omega)|(focus (exfalso;simp_all;done))|(simp (disch:=omega) only [push_cast,seval,hz,List.length_replicate])|skip))
 | ((first|refine callD_of false ?_|refine qcallD_of false ?_);simp (disch:=omega) only [push_cast,seval,hz,List.length_replicate])
 | ((first|((first|refine call0D (partview4_ok _ _ _ _ _ _ _ _ _ _ _ _ ?_ ?_ ?_) ?_|refine qcall0D (partview4_ok _ _ _ _ _ _ _ _ _ _ _ _ ?_ ?_ ?_) ⟨_,_,rfl,rfl⟩ ?_);(iterate 3 (exact sd));rintro _ _ ⟨rfl,rfl⟩)|((first|refine call0D (BCall.ofP (vcount_ok _ _ _ _ _ _ ?_ ?_)) ?_|refine qcall0D (BCall.ofP (vcount_ok _ _ _ _ _ _ ?_ ?_)) ⟨_,_,rfl,rfl⟩ ?_);(iterate 2 (exact sd));rintro _ _ ⟨rfl,rfl⟩))<;>(try simp (disch:=omega) only [push_cast,seval,hz,List.length_replicate]))
 | (refine awp_ret ⟨.inr rfl,[80,192],[],_,by decide,rfl,?_⟩;(try simp (disch:=omega) only [push_cast,seval,↓allMem_nil,↓allMem_cons,↓List.map_cons,↓List.map_nil,hz,List.length_replicate]))))
    all_goals simp [OV]
  · rw [if_neg hz,if_neg hz]
    (repeat' (first
 | (first|refine awp_seq ?_|refine awp_block ?_)
 | ((first|refine awp_reg ?_|refine awp_drawX (mid:=l26r3a) (post:=l26r3b) [48,1000000009,1000000010,1000000013] mixed (by decide) ?_|refine awp_condB ?_|refine awp_skip ?_|refine awp_exit ?_);simp (disch:=omega) only [push_cast,seval,l26r0,l26r1,l26r2,l26r3a,l26r3b,l26r3,l26r4,hz])
 | ((first|refine condB_split (fun h=>?_) (fun h=>?_)|refine gIf_split (fun h=>?_) (fun h=>?_)|refine qIf_split (fun h=>?_) (fun h=>?_))<;>(try simp only [h])<;>(try simp only [bitvec_to_nat] at h)<;>(try simp only [h])<;>(first|(exfalso;omega)|(focus (exfalso;simp_all;done))|(simp (disch:=omega) only [push_cast,seval,hz])|skip))
 | ((first|refine callD_of false ?_|refine qcallD_of false ?_);simp (disch:=omega) only [push_cast,seval,hz])
 | ((first|((first|refine call0D (partview4_ok _ _ _ _ _ _ _ _ _ _ _ _ ?_ ?_ ?_) ?_|refine qcall0D (partview4_ok _ _ _ _ _ _ _ _ _ _ _ _ ?_ ?_ ?_) ⟨_,_,rfl,rfl⟩ ?_);(iterate 3 (exact sd));rintro _ _ ⟨rfl,rfl⟩)|((first|refine call0D (BCall.ofP (vcount_ok _ _ _ _ _ _ ?_ ?_)) ?_|refine qcall0D (BCall.ofP (vcount_ok _ _ _ _ _ _ ?_ ?_)) ⟨_,_,rfl,rfl⟩ ?_);(iterate 2 (exact sd));rintro _ _ ⟨rfl,rfl⟩))<;>(try simp (disch:=omega) only [push_cast,seval,hz]))
 | (refine awp_ret ⟨.inr rfl,[80,81],[],_,by decide,rfl,?_⟩;(try simp (disch:=omega) only [push_cast,seval,↓allMem_nil,↓allMem_cons,↓List.map_cons,↓List.map_nil,hz]))))
    all_goals simp [OV]

end Go.Proofs.YtejbfjmiidofcaaGreat
