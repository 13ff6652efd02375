import Derived.Test.YtejbfjmiidofcaaCKp12
import Derived.Test.YtejbfjmiidofcaaCM1
import Derived.Test.YtejbfjmiidofcaaCW3
set_option linter.unusedSimpArgs false
set_option linter.unusedVariables false
set_option maxRecDepth 4000
set_option maxHeartbeats 4000000
namespace Go.Proofs.Ytejbfjmiidofcaa
open VwM Vw Go

theorem ren_TL3 {ρ : Nat → Option Nat} {Zh : Nat → Option (List AV)} {b0 : Bool} (ts : List Tn) : (TL true ts).map (AV.ren ρ Zh b0 some 3) = TL true ts := ren_TLs true ts
theorem ren_LL3 {ρ : Nat → Option Nat} {Zh : Nat → Option (List AV)} {b0 : Bool} (ls : List (List Int)) : (LL true ls).map (AV.ren ρ Zh b0 some 3) = LL true ls := ren_LLs true ls


set_option maxHeartbeats 16000000 in
theorem pairOf_ok (bs : List Int) (p : Int) (hb : okB bs) (hp : 0 ≤ p ∧ p ≤ 600000) : BCall Try.prog 53 [.ref 0 2 0] [RD bs p] (fun r H' => ∃ ts ls out i j q,prodF ts ls out ∧ ((-1 ≤ i ∧ i ≤ 3) ∧ -1 ≤ j ∧ j ≤ 3) ∧ (p ≤ q ∧ q ≤ p + 3000) ∧ r = .tup [.own 1 ts.length 2,.own 2 ls.length 1,.own 3 out.length 1,.int .i64 i,.int .i64 j] ∧ H' = [RD bs q,TL true ts,LL true ls,IL out]) := by
  refine bcall_of (pins := [0]) (pin := 1) l53_eq rfl rfl rfl ?_
  (repeat' (first
 | (first | refine awp_seq ?_ | refine awp_block ?_)
 | ((first | refine awp_reg ?_ | refine awp_condB ?_ | refine awp_skip ?_ | refine awp_exit ?_); simp (disch := omega) only [push_cast,seval,l53r0,l53r1,l53r2,innL_TL,innL_LL])
 | ((first | refine condB_split (fun h => ?_) (fun h => ?_) | refine gIf_split (fun h => ?_) (fun h => ?_) | refine qIf_split (fun h => ?_) (fun h => ?_)) <;> (try simp only [h]) <;> (try simp only [bitvec_to_nat] at h) <;> (try simp only [h]) <;> (first | (exfalso; omega) | (focus (exfalso; simp_all; done)) | (simp (disch := omega) only [push_cast,seval,innL_TL,innL_LL]) | skip))
 | ((first | ((with_reducible refine callD_ids (f := 46) (args := [Operand.tmp 12,Operand.tmp 13]) [0,208] true ?_); simp (disch := omega) only [push_cast,seval,innL_TL,innL_LL]; (refine call2D (id := 0) (id' := 208) (by decide) (one_ok _ _ _ _ ?_ ?_ ?_ ?_ ?_) (by first | ((simp (disch := omega) only [push_cast,seval,innL_TL,innL_LL]); done) | ((simp (disch := omega) only [push_cast,seval,innL_TL,innL_LL]); rfl)) (by first | ((simp (disch := omega) only [push_cast,seval,innL_TL,innL_LL]); done) | ((simp (disch := omega) only [push_cast,seval,innL_TL,innL_LL]); rfl)) ?_; (iterate 5 (exact sd)); rintro _ _ ⟨x,hx,hx0,rfl,rfl⟩)) | ((with_reducible refine callD_ids (f := 46) (args := [Operand.tmp 22,Operand.tmp 23]) [0,368] true ?_); simp (disch := omega) only [push_cast,seval,innL_TL,innL_LL]; (refine call2D (id := 0) (id' := 368) (by decide) (one_ok _ _ _ _ ?_ ?_ ?_ ?_ ?_) (by first | ((simp (disch := omega) only [push_cast,seval,innL_TL,innL_LL]); done) | ((simp (disch := omega) only [push_cast,seval,innL_TL,innL_LL]); rfl)) (by first | ((simp (disch := omega) only [push_cast,seval,innL_TL,innL_LL]); done) | ((simp (disch := omega) only [push_cast,seval,innL_TL,innL_LL]); rfl)) ?_; (iterate 5 (exact sd)); rintro _ _ ⟨x,hx,hx0,rfl,rfl⟩)) | ((with_reducible refine callD_ids (f := 46) (args := [Operand.tmp 25,Operand.tmp 26]) [0,416] true ?_); simp (disch := omega) only [push_cast,seval,innL_TL,innL_LL]; (refine call2D (id := 0) (id' := 416) (by decide) (one_ok _ _ _ _ ?_ ?_ ?_ ?_ ?_) (by first | ((simp (disch := omega) only [push_cast,seval,innL_TL,innL_LL]); done) | ((simp (disch := omega) only [push_cast,seval,innL_TL,innL_LL]); rfl)) (by first | ((simp (disch := omega) only [push_cast,seval,innL_TL,innL_LL]); done) | ((simp (disch := omega) only [push_cast,seval,innL_TL,innL_LL]); rfl)) ?_; (iterate 5 (exact sd)); rintro _ _ ⟨x,hx,hx0,rfl,rfl⟩)) | ((with_reducible refine callD_ids (f := 46) [0] true ?_); simp (disch := omega) only [push_cast,seval,innL_TL,innL_LL]; (refine call1D (id := 0) (oneR_ok _ _ _ _ ?_ ?_ ?_ ?_ ?_) (by first | ((simp (disch := omega) only [push_cast,seval,innL_TL,innL_LL]); done) | ((simp (disch := omega) only [push_cast,seval,innL_TL,innL_LL]); rfl)) ?_; (iterate 5 (exact sd)); rintro _ _ ⟨x,hx,hx0,rfl,rfl⟩)) | ((with_reducible refine qcallI_of (f := 46) [0] true ?_); simp (disch := omega) only [push_cast,seval,innL_TL,innL_LL]; (refine qcall1D (id := 0) (oneR_ok _ _ _ _ ?_ ?_ ?_ ?_ ?_) (by first | ((simp (disch := omega) only [push_cast,seval,innL_TL,innL_LL]); done) | ((simp (disch := omega) only [push_cast,seval,innL_TL,innL_LL]); rfl)) (by decide) (by simp only [unI_cons,unI_nil];exact ⟨_,_,_,List.mem_cons_self,by omega,rfl,rfl⟩) ?_; (iterate 5 (exact sd)); rintro _ _ ⟨x,hx,hx0,rfl,rfl⟩)) | ((with_reducible refine callD_ids (f := 45) [0] true ?_); simp (disch := omega) only [push_cast,seval,innL_TL,innL_LL]; (refine call1D (id := 0) (prodOf_ok _ _ _ ?_ ?_) (by first | ((simp (disch := omega) only [push_cast,seval,innL_TL,innL_LL]); done) | ((simp (disch := omega) only [push_cast,seval,innL_TL,innL_LL]); rfl)) ?_; (iterate 2 (exact sd)); rintro _ _ ⟨ts,ls,out,q,hpf,hq,rfl,rfl⟩))) <;> (try simp (disch := omega) only [push_cast,seval,innL_TL,innL_LL]))))
  rename_i x1 hx1 hx10
  have hi : -1 ≤ x1 ∧ x1 ≤ 3 := by
    simp only [unI_cons,unI_nil,List.mem_cons,List.not_mem_nil,or_false] at hx1
    omega
  have hj : -1 ≤ x ∧ x ≤ 3 := by
    simp only [unI_cons,unI_nil,List.mem_cons,List.not_mem_nil,or_false] at hx
    omega
  (refine awp_ret ⟨.inr rfl,[240,241,242],[],_,by decide,rfl,?_⟩; (try simp (disch := omega) only [push_cast,seval,↓allMem_nil,↓allMem_cons,↓List.map_cons,↓List.map_nil,innL_TL,innL_LL]))
  exact ⟨ts,ls,out,x1,x,q + 1 + 1,hpf,⟨hi,hj⟩,by omega,rfl,rfl⟩


set_option maxHeartbeats 8000000 in
theorem drawCBB_ok (bs : List Int) (n : Nat) (hn : bs.length = n) (hb : n ≤ 1099511627776 ∧ ∀ x ∈ bs,0 ≤ x ∧ x ≤ 255) : BCall Try.prog 26 [.rows false (UL bs) n] [] (fun r H' => ∃ (ts : List Tn) (ls : List (List Int)) (out : List Int) (i j : Int),prodF ts ls out ∧ ((-1 ≤ i ∧ i ≤ 3) ∧ -1 ≤ j ∧ j ≤ 3) ∧ r = .tup [.own 0 ts.length 2,.own 1 ls.length 1,.own 2 out.length 1,.int .i64 i,.int .i64 j] ∧ H' = [TL true ts,LL true ls,IL out]) := by
  refine bcall_of (pins := []) (pin := 0) l26_eq rfl rfl rfl ?_
  (repeat' (first
 | (first | refine awp_seq ?_ | refine awp_block ?_)
 | ((first | refine awp_reg ?_ | refine awp_condB ?_ | refine awp_skip ?_ | refine awp_exit ?_); simp (disch := omega) only [push_cast,seval,l26r0,l26r1,innL_TL,innL_LL])
 | ((first | refine condB_split (fun h => ?_) (fun h => ?_) | refine gIf_split (fun h => ?_) (fun h => ?_) | refine qIf_split (fun h => ?_) (fun h => ?_)) <;> (try simp only [h]) <;> (try simp only [bitvec_to_nat] at h) <;> (try simp only [h]) <;> (first | (exfalso; omega) | (focus (exfalso; simp_all; done)) | (simp (disch := omega) only [push_cast,seval,innL_TL,innL_LL]) | skip))
 | ((first | ((with_reducible refine callD_of (f := 40) true ?_); simp (disch := omega) only [push_cast,seval,innL_TL,innL_LL]; (refine call0D (newReader_ok _ _ ?_ ?_) ?_; (iterate 2 (exact sd)); rintro _ _ ⟨bs0,hbs0,rfl,rfl⟩)) | ((with_reducible refine callD_ids (f := 53) [128] true ?_); simp (disch := omega) only [push_cast,seval,innL_TL,innL_LL]; (refine call1D (id := 128) (pairOf_ok _ _ ?_ ?_) (by first | ((simp (disch := omega) only [push_cast,seval,innL_TL,innL_LL]); done) | ((simp (disch := omega) only [push_cast,seval,innL_TL,innL_LL]); rfl)) ?_; (iterate 2 (exact sd)); rintro _ _ ⟨ts,ls,out,i,j,q,hpf,hij,hq,rfl,rfl⟩))) <;> (try simp (disch := omega) only [push_cast,seval,innL_TL,innL_LL]))))
  all_goals ((refine awp_ret ⟨.inr rfl,[144,145,146],[],_,by decide,rfl,?_⟩; (try simp (disch := omega) only [push_cast,seval,↓allMem_nil,↓allMem_cons,↓List.map_cons,↓List.map_nil,innL_TL,innL_LL])); exact ⟨ts,ls,out,i,j,hpf,hij,rfl,rfl⟩)
theorem drawCB_ok (bs : List Int) (n : Nat) (hn : bs.length = n) (hb : n ≤ 1099511627776 ∧ ∀ x ∈ bs,0 ≤ x ∧ x ≤ 255) : PCall Try.prog 26 [.rows false (UL bs) n] (fun r => ∃ (ts : List Tn) (ls : List (List Int)) (out : List Int) (i j : Int),prodF ts ls out ∧ ((-1 ≤ i ∧ i ≤ 3) ∧ -1 ≤ j ∧ j ≤ 3) ∧ r = .tup [.rows true (TL true ts) ts.length,.rows true (LL true ls) ls.length,.rows true (IL out) out.length,.int .i64 i,.int .i64 j]) := by
  refine (BCall.plain (drawCBB_ok bs n hn hb)).mono ?_
  rintro r ⟨r0,H',⟨ts,ls,out,i,j,hpf,hij,rfl,rfl⟩,rfl⟩
  refine ⟨ts,ls,out,i,j,hpf,hij,?_⟩
  simp [AV.ren,nthH,TL_length,LL_length,List.map_map,Function.comp_def,ren_TL3,ren_LL3]


end Go.Proofs.Ytejbfjmiidofcaa
