import Derived.Test.YtejbfjmiidofcaaCKp12
import Derived.Test.YtejbfjmiidofcaaCM1
import Derived.Test.YtejbfjmiidofcaaCW3
set_option linter.unusedSimpArgs false
set_option linter.unusedVariables false
set_option maxRecDepth 4000
set_option maxHeartbeats 4000000
namespace Go.Proofs.Ytejbfjmiidofcaa
open VwM Vw Go

theorem drawVTB_ok (bs : List Int) (n : Nat) (hn : bs.length = n) (hb : n ≤ 1099511627776 ∧ ∀ x ∈ bs,0 ≤ x ∧ x ≤ 255) : BCall Try.prog 10 [.rows false (UL bs) n] [] (fun r H' => ∃ x y,((x.length ≤ 5 ∧ ∀ v ∈ x,-1 ≤ v ∧ v ≤ 60) ∧ y.length ≤ 61 ∧ ∀ v ∈ y,-9 ≤ v ∧ v ≤ 9) ∧ OT x y r H') := by
  refine bcall_of (pins := []) (pin := 0) l10_eq rfl rfl rfl ?_
  (repeat' (first
 | (first | refine awp_seq ?_ | refine awp_block ?_)
 | ((first | refine awp_reg ?_ | refine awp_condB ?_ | refine awp_skip ?_ | refine awp_exit ?_); simp (disch := omega) only [push_cast,seval,l10r0,l10r1])
 | ((first | refine condB_split (fun h => ?_) (fun h => ?_) | refine gIf_split (fun h => ?_) (fun h => ?_) | refine qIf_split (fun h => ?_) (fun h => ?_)) <;> (try simp only [h]) <;> (try simp only [bitvec_to_nat] at h) <;> (try simp only [h]) <;> (first | (exfalso; omega) | (focus (exfalso; simp_all; done)) | (simp (disch := omega) only [push_cast,seval]) | skip))
 | ((first | ((with_reducible refine callD_of (f := 40) true ?_); simp (disch := omega) only [push_cast,seval]; (refine call0D (newReader_ok _ _ ?_ ?_) ?_; (iterate 2 (exact sd)); rintro _ _ ⟨bs0,hbs0,rfl,rfl⟩)) | ((with_reducible refine callD_ids (f := 39) [64] true ?_); simp (disch := omega) only [push_cast,seval]; (refine call1D (id := 64) (someTensor_ok _ _ ?_ ?_) (by first | ((simp (disch := omega) only [push_cast,seval]); done) | ((simp (disch := omega) only [push_cast,seval]); rfl)) ?_; (iterate 2 (exact sd)); rintro _ _ ⟨x1,y1,q,⟨⟨hx1,hx2⟩,hy1,hy2⟩,hq,rfl,rfl⟩))) <;> (try simp (disch := omega) only [push_cast,seval]))))
  all_goals ((refine awp_ret ⟨.inr rfl,[80,81],[],_,by decide,rfl,?_⟩; (try simp (disch := omega) only [push_cast,seval,↓allMem_nil,↓allMem_cons,↓List.map_cons,↓List.map_nil])); exact ⟨x1,y1,⟨⟨hx1,hx2⟩,hy1,hy2⟩,rfl,rfl⟩)
theorem drawVT_ok (bs : List Int) (n : Nat) (hn : bs.length = n) (hb : n ≤ 1099511627776 ∧ ∀ x ∈ bs,0 ≤ x ∧ x ≤ 255) : PCall Try.prog 10 [.rows false (UL bs) n] (fun r => ∃ x y,(x.length ≤ 5 ∧ ∀ v ∈ x,-1 ≤ v ∧ v ≤ 60) ∧ y.length ≤ 61 ∧ (∀ v ∈ y,-9 ≤ v ∧ v ≤ 9) ∧ r = .agg [.rows true (IL x) x.length,.rows true (IL y) y.length]) := by
  refine (BCall.plain (drawVTB_ok bs n hn hb)).mono ?_
  rintro r ⟨r0,H',⟨x,y,⟨h1,h2,h3⟩,rfl,rfl⟩,rfl⟩
  refine ⟨x,y,h1,h2,h3,?_⟩
  simp [AV.ren,nthH,List.map_map,Function.comp_def]


theorem ren_TL3 {ρ : Nat → Option Nat} {Zh : Nat → Option (List AV)} {b0 : Bool} (ts : List Tn) : (TL true ts).map (AV.ren ρ Zh b0 some 3) = TL true ts := ren_TLs true ts
theorem ren_LL3 {ρ : Nat → Option Nat} {Zh : Nat → Option (List AV)} {b0 : Bool} (ls : List (List Int)) : (LL true ls).map (AV.ren ρ Zh b0 some 3) = LL true ls := ren_LLs true ls


set_option maxHeartbeats 8000000 in
theorem drawEOB_ok (bs : List Int) (n : Nat) (hn : bs.length = n) (hb : n ≤ 1099511627776 ∧ ∀ x ∈ bs,0 ≤ x ∧ x ≤ 255) : BCall Try.prog 14 [.rows false (UL bs) n] [] (fun r H' => ∃ (ts : List Tn) (ls : List (List Int)) (out : List Int),prodF ts ls out ∧ r = .tup [.own 0 ts.length 2,.own 1 ls.length 1] ∧ H' = [TL true ts,LL true ls]) := by
  refine bcall_of (pins := []) (pin := 0) l14_eq rfl rfl rfl ?_
  (repeat' (first
 | (first | refine awp_seq ?_ | refine awp_block ?_)
 | ((first | refine awp_reg ?_ | refine awp_condB ?_ | refine awp_skip ?_ | refine awp_exit ?_); simp (disch := omega) only [push_cast,seval,l14r0,l14r1,l14r2,l14r3,innL_TL,innL_LL])
 | ((first | refine condB_split (fun h => ?_) (fun h => ?_) | refine gIf_split (fun h => ?_) (fun h => ?_) | refine qIf_split (fun h => ?_) (fun h => ?_)) <;> (try simp only [h]) <;> (try simp only [bitvec_to_nat] at h) <;> (try simp only [h]) <;> (first | (exfalso; omega) | (focus (exfalso; simp_all; done)) | (simp (disch := omega) only [push_cast,seval,innL_TL,innL_LL]) | skip))
 | ((first | ((with_reducible refine callD_of (f := 40) true ?_); simp (disch := omega) only [push_cast,seval,innL_TL,innL_LL]; (refine call0D (newReader_ok _ _ ?_ ?_) ?_; (iterate 2 (exact sd)); rintro _ _ ⟨bs0,hbs0,rfl,rfl⟩)) | ((with_reducible refine callD_ids (f := 46) (args := [Operand.tmp 12,Operand.tmp 13]) [144,208] true ?_); simp (disch := omega) only [push_cast,seval,innL_TL,innL_LL]; (refine call2D (id := 144) (id' := 208) (by decide) (one_ok _ _ _ _ ?_ ?_ ?_ ?_ ?_) (by first | ((simp (disch := omega) only [push_cast,seval,innL_TL,innL_LL]); done) | ((simp (disch := omega) only [push_cast,seval,innL_TL,innL_LL]); rfl)) (by first | ((simp (disch := omega) only [push_cast,seval,innL_TL,innL_LL]); done) | ((simp (disch := omega) only [push_cast,seval,innL_TL,innL_LL]); rfl)) ?_; (iterate 5 (exact sd)); rintro _ _ ⟨x,hx,hx0,rfl,rfl⟩)) | ((with_reducible refine callD_ids (f := 46) [144] true ?_); simp (disch := omega) only [push_cast,seval,innL_TL,innL_LL]; (refine call1D (id := 144) (oneR_ok _ _ _ _ ?_ ?_ ?_ ?_ ?_) (by first | ((simp (disch := omega) only [push_cast,seval,innL_TL,innL_LL]); done) | ((simp (disch := omega) only [push_cast,seval,innL_TL,innL_LL]); rfl)) ?_; (iterate 5 (exact sd)); rintro _ _ ⟨x,hx,hx0,rfl,rfl⟩)) | ((with_reducible refine qcallI_of (f := 46) [144] true ?_); simp (disch := omega) only [push_cast,seval,innL_TL,innL_LL]; (refine qcall1D (id := 144) (oneR_ok _ _ _ _ ?_ ?_ ?_ ?_ ?_) (by first | ((simp (disch := omega) only [push_cast,seval,innL_TL,innL_LL]); done) | ((simp (disch := omega) only [push_cast,seval,innL_TL,innL_LL]); rfl)) (by decide) (by simp only [unI_cons,unI_nil];exact ⟨_,_,_,List.mem_cons_self,by omega,rfl,rfl⟩) ?_; (iterate 5 (exact sd)); rintro _ _ ⟨x,hx,hx0,rfl,rfl⟩)) | ((with_reducible refine callD_ids (f := 45) [144] true ?_); simp (disch := omega) only [push_cast,seval,innL_TL,innL_LL]; (refine call1D (id := 144) (prodOf_ok _ _ _ ?_ ?_) (by first | ((simp (disch := omega) only [push_cast,seval,innL_TL,innL_LL]); done) | ((simp (disch := omega) only [push_cast,seval,innL_TL,innL_LL]); rfl)) ?_; (iterate 2 (exact sd)); rintro _ _ ⟨ts,ls,out,q,hpf,hq,rfl,rfl⟩))) <;> (try simp (disch := omega) only [push_cast,seval,innL_TL,innL_LL]))))
  all_goals ((refine awp_ret ⟨.inr rfl,[240,241],[],_,by decide,rfl,?_⟩; (try simp (disch := omega) only [push_cast,seval,↓allMem_nil,↓allMem_cons,↓List.map_cons,↓List.map_nil,innL_TL,innL_LL])); exact ⟨ts,ls,out,hpf,rfl,rfl⟩)
theorem drawEO_ok (bs : List Int) (n : Nat) (hn : bs.length = n) (hb : n ≤ 1099511627776 ∧ ∀ x ∈ bs,0 ≤ x ∧ x ≤ 255) : PCall Try.prog 14 [.rows false (UL bs) n] (fun r => ∃ (ts : List Tn) (ls : List (List Int)) (out : List Int),prodF ts ls out ∧ r = .tup [.rows true (TL true ts) ts.length,.rows true (LL true ls) ls.length]) := by
  refine (BCall.plain (drawEOB_ok bs n hn hb)).mono ?_
  rintro r ⟨r0,H',⟨ts,ls,out,hpf,rfl,rfl⟩,rfl⟩
  refine ⟨ts,ls,out,hpf,?_⟩
  simp [AV.ren,nthH,TL_length,LL_length,List.map_map,Function.comp_def,ren_TL3,ren_LL3]


theorem drawCoO_ok (bs : List Int) (n : Nat) (hn : bs.length = n) (hb : n ≤ 1099511627776 ∧ ∀ x ∈ bs,0 ≤ x ∧ x ≤ 255) : PCall Try.prog 19 [.rows false (UL bs) n] (fun r => ∃ (ts : List Tn) (ls : List (List Int)) (out : List Int),prodF ts ls out ∧ r = .tup [.rows true (TL true ts) ts.length,.rows true (LL true ls) ls.length]) := by
  refine pcall_of l19_eq rfl ?_
  (repeat' (first
 | (first | refine awp_seq ?_ | refine awp_block ?_)
 | ((first | refine awp_reg ?_ | refine awp_condB ?_ | refine awp_skip ?_ | refine awp_exit ?_); simp (disch := omega) only [push_cast,seval,l19r0,l19r1,innL_TL,innL_LL])
 | ((first | refine condB_split (fun h => ?_) (fun h => ?_) | refine gIf_split (fun h => ?_) (fun h => ?_) | refine qIf_split (fun h => ?_) (fun h => ?_)) <;> (try simp only [h]) <;> (try simp only [bitvec_to_nat] at h) <;> (try simp only [h]) <;> (first | (exfalso; omega) | (focus (exfalso; simp_all; done)) | (simp (disch := omega) only [push_cast,seval,innL_TL,innL_LL]) | skip))
 | ((first | refine callD_of false ?_ | refine qcallD_of false ?_); simp (disch := omega) only [push_cast,seval,innL_TL,innL_LL])
 | ((first | (refine call0D (BCall.ofP (drawEO_ok _ _ ?_ ?_)) ?_; (iterate 2 (exact sd)); rintro _ _ ⟨⟨ts,ls,out,hpf,rfl⟩,rfl⟩)) <;> (try simp (disch := omega) only [push_cast,seval,innL_TL,innL_LL]))
 | (refine awp_ret ⟨.inr rfl,_,rfl,?_⟩; (try simp (disch := omega) only [push_cast,seval,innL_TL,innL_LL]))))
  all_goals exact ⟨ts,ls,out,hpf,rfl⟩

end Go.Proofs.Ytejbfjmiidofcaa
