import Derived.Test.YtfphjgmkpgoomaaCKv6
import Derived.Test.YtfphjgmkpgoomaaCM1
import Derived.Test.YtfphjgmkpgoomaaCW3
set_option linter.unusedSimpArgs false
set_option linter.unusedVariables false
set_option maxRecDepth 4000
set_option maxHeartbeats 4000000
namespace Go.Proofs.Ytfphjgmkpgoomaa
open VwM Vw Go

theorem cutSt_len2 (sh st : List Int) (j : Nat) (f t w : Int) (hf ht : Bool) : (cutSt sh st j f t w hf ht).length ≤ max sh.length st.length := by
  unfold cutSt; split <;> simp <;> omega
def pairVP (r : AV) : Prop := ∃ b sh st b' sh' st' k1 k2 k3 k4,(sh.length = k1 ∧ st.length = k2 ∧ sh'.length = k3 ∧ st'.length = k4 ∧ sh.length ≤ 1000 ∧ st.length ≤ 1000 ∧ sh'.length ≤ 1000 ∧ st'.length ≤ 1000) ∧ r = .tup [.agg [.int .i64 b,.rows true (IL sh) k1,.rows true (IL st) k2],.agg [.int .i64 b',.rows true (IL sh') k3,.rows true (IL st') k4]]
def pairVB (r : AV) (H' : List (List AV)) : Prop := ∃ b sh st b' sh' st',(sh.length ≤ 1000 ∧ st.length ≤ 1000 ∧ sh'.length ≤ 1000 ∧ st'.length ≤ 1000) ∧ r = .tup [.agg [.int .i64 b,.own 0 sh.length 1,.own 1 st.length 1],.agg [.int .i64 b',.own 2 sh'.length 1,.own 3 st'.length 1]] ∧ H' = [IL sh,IL st,IL sh',IL st']
theorem pairV_plain {P : Program} {f : Nat} {args : List AV} (h : BCall P f args [] pairVB) : PCall P f args pairVP := by
  refine (BCall.plain h).mono ?_
  rintro r ⟨r0,H',⟨b,sh,st,b',sh',st',⟨h1,h2,h3,h4⟩,rfl,rfl⟩,rfl⟩
  exact ⟨b,sh,st,b',sh',st',_,_,_,_,⟨rfl,rfl,rfl,rfl,h1,h2,h3,h4⟩,by simp [AV.ren,nthH,List.map_map,Function.comp_def]⟩


theorem relSl2_ok (b : Int) (sh st : List Int) (n m : Nat) (d f t w : Int) (hf ht : Bool) (hn : sh.length = n) (hm : st.length = m) (hb : n ≤ 100 ∧ m ≤ 100) : BCall Try.prog 27 [W4 b sh st n m,.int .i64 d,slc f t w hf ht] [] RelV :=
  rel_view (sSliceDim_ok b sh st n m d f t w hf ht hn hm (by omega)) (by rw [cutSh_length]; omega) (Nat.le_trans (cutSt_len2 sh st _ f t w hf ht) (by omega))


set_option maxHeartbeats 32000000 in
theorem viewsOf_ok (bs : List Int) (p : Int) (hb : okB bs) (hp : 0 ≤ p ∧ p ≤ 500000) : BCall Try.prog 31 [.ref 0 2 0] [RD bs p] (fun r H' => ∃ b sh st b' sh' st' q,(sh.length ≤ 1000 ∧ st.length ≤ 1000 ∧ sh'.length ≤ 1000 ∧ st'.length ≤ 1000) ∧ (p ≤ q ∧ q ≤ p + 1000) ∧ r = .tup [.agg [.int .i64 b,.own 1 sh.length 1,.own 2 st.length 1],.agg [.int .i64 b',.own 3 sh'.length 1,.own 4 st'.length 1]] ∧ H' = [RD bs q,IL sh,IL st,IL sh',IL st']) := by
  refine bcall_of (pins := [0]) (pin := 1) l31_eq rfl rfl rfl ?_
  (repeat' (first
 | (first | refine awp_seq ?_ | refine awp_block ?_)
 | ((first | refine awp_reg ?_ | refine awp_drawX (mid := l31r5a) (post := l31r5b) [0,96,1000000006,2000000096] mixed (by decide) ?_ | refine awp_drawX (mid := l31r10a) (post := l31r10b) [0] mixed (by decide) ?_ | refine awp_drawX (mid := l31r11a) (post := l31r11b) [32] mixed (by decide) ?_ | refine awp_condB ?_ | refine awp_skip ?_ | refine awp_exit ?_); simp (disch := omega) only [push_cast,seval,l31r0,l31r1,l31r2,l31r3,l31r4,l31r5a,l31r5b,l31r5,l31r6,l31r7,l31r8,l31r9,l31r10a,l31r10b,l31r10,l31r11a,l31r11b,l31r11])
 | ((first | refine condB_split (fun h => ?_) (fun h => ?_) | refine gIf_split (fun h => ?_) (fun h => ?_) | refine qIf_split (fun h => ?_) (fun h => ?_)) <;> (try simp only [h]) <;> (try simp only [bitvec_to_nat] at h) <;> (try simp only [h]) <;> (first | (exfalso; omega) | (focus (exfalso; simp_all; done)) | (simp (disch := omega) only [push_cast,seval]) | skip))
 | ((first | ((with_reducible refine callD_ids (f := 53) [0] true ?_); simp (disch := omega) only [push_cast,seval]; (refine call1D (id := 0) (someView_ok _ _ ?_ ?_) (by first | ((simp (disch := omega) only [push_cast,seval]); done) | ((simp (disch := omega) only [push_cast,seval]); rfl)) ?_; (iterate 2 (exact sd)); rintro _ _ ⟨b,sh,st,q,⟨hl1,hl9,hl2⟩,hq,rfl,rfl⟩)) | ((with_reducible refine callD_ids (f := 55) [0] true ?_); simp (disch := omega) only [push_cast,seval]; (refine call1D (id := 0) (pick_ok _ _ _ ?_ ?_) (by first | ((simp (disch := omega) only [push_cast,seval]); done) | ((simp (disch := omega) only [push_cast,seval]); rfl)) ?_; (iterate 2 (exact sd)); rintro _ _ ⟨x,hx0,hx1,rfl,rfl⟩)) | ((with_reducible refine qcallI_of (f := 55) [0] true ?_); simp (disch := omega) only [push_cast,seval]; (refine qcall1D (id := 0) (pick_ok _ _ _ ?_ ?_) (by first | ((simp (disch := omega) only [push_cast,seval]); done) | ((simp (disch := omega) only [push_cast,seval]); rfl)) (by decide) ⟨_,_,0,by omega,Or.inr (Or.inr rfl),rfl,rfl⟩ ?_; (iterate 2 (exact sd)); rintro _ _ ⟨x,hx0,hx1,rfl,rfl⟩)) | ((with_reducible refine callD_ids (f := 69) [0] true ?_); simp (disch := omega) only [push_cast,seval]; (refine call1D (id := 0) (someSlice_ok _ _ ?_ ?_) (by first | ((simp (disch := omega) only [push_cast,seval]); done) | ((simp (disch := omega) only [push_cast,seval]); rfl)) ?_; (iterate 2 (exact sd)); rintro _ _ ⟨f,t,w,hf,ht,q,hs,hq,rfl,rfl⟩)) | ((with_reducible refine qcallI_of (f := 69) [0] true ?_); simp (disch := omega) only [push_cast,seval]; (refine qcall1D (id := 0) (someSlice_ok _ _ ?_ ?_) (by first | ((simp (disch := omega) only [push_cast,seval]); done) | ((simp (disch := omega) only [push_cast,seval]); rfl)) (by decide) ⟨_,_,0,0,0,false,false,_,by omega,⟨Int.le_refl _,by omega⟩,rfl,rfl⟩ ?_; (iterate 2 (exact sd)); rintro _ _ ⟨f,t,w,hf,ht,q,hs,hq,rfl,rfl⟩))) <;> (try simp (disch := omega) only [push_cast,seval]))
 | ((first | refine callD_of false ?_ | refine qcallD_of false ?_); simp (disch := omega) only [push_cast,seval])
 | ((first | ((first | refine call0D (relSl2_ok _ _ _ _ _ _ _ _ _ _ _ ?_ ?_ ?_) ?_ | refine qcall0D (relSl2_ok _ _ _ _ _ _ _ _ _ _ _ ?_ ?_ ?_) ⟨_,_,true,0,[],[],⟨by simp,by simp⟩,rfl,rfl⟩ ?_); (iterate 3 (exact sd)); rintro _ _ ⟨ok,b',sh',st',⟨hl1',hl2'⟩,rfl,rfl⟩) | ((first | refine call0D (scopyView_ok _ _ _ _ _ ?_ ?_ ?_) ?_ | refine qcall0D (scopyView_ok _ _ _ _ _ ?_ ?_ ?_) ⟨_,_,rfl,rfl⟩ ?_); (iterate 3 (exact sd)); rintro _ _ ⟨rfl,rfl⟩)) <;> (try simp (disch := omega) only [push_cast,seval]))))
  all_goals first
    | ((refine awp_ret ⟨.inr rfl,[144,145,320,321],[],_,by decide,rfl,?_⟩; (try simp (disch := omega) only [push_cast,seval,↓allMem_nil,↓allMem_cons,↓List.map_cons,↓List.map_nil])); exact ⟨_,_,_,_,_,_,_,⟨by first | omega | (have := hl1.2; omega),by omega,by omega,by omega⟩,by omega,rfl,rfl⟩)
    | ((refine awp_ret ⟨.inr rfl,[144,145,176,177],[],_,by decide,rfl,?_⟩; (try simp (disch := omega) only [push_cast,seval,↓allMem_nil,↓allMem_cons,↓List.map_cons,↓List.map_nil])); exact ⟨_,_,_,_,_,_,_,⟨by first | omega | (have := hl1.2; omega),by omega,by omega,by omega⟩,by omega,rfl,rfl⟩)
    | ((refine awp_ret ⟨.inr rfl,[144,145,448,449],[],_,by decide,rfl,?_⟩; (try simp (disch := omega) only [push_cast,seval,↓allMem_nil,↓allMem_cons,↓List.map_cons,↓List.map_nil])); exact ⟨_,_,_,_,_,_,_,⟨by first | omega | (have := hl1.2; omega),by omega,by omega,by omega⟩,by omega,rfl,rfl⟩)

end Go.Proofs.Ytfphjgmkpgoomaa
