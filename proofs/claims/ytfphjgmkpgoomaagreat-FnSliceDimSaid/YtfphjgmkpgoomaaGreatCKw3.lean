import Derived.Test.YtfphjgmkpgoomaaGreatCKz4
import Derived.Test.YtfphjgmkpgoomaaGreatCM1
import Derived.Test.YtfphjgmkpgoomaaGreatCW3
set_option linter.unusedSimpArgs false
set_option linter.unusedVariables false
set_option maxRecDepth 4000
set_option maxHeartbeats 4000000
namespace Go.Proofs.YtfphjgmkpgoomaaGreat
open VwM Vw Go

theorem flpK {n:Int} (hn:0 ≤ n ∧ n ≤ 60):cutK n 0 0 (-1) false false=n.toNat:=by
  have hF:sFrom 0 n (-1) false=n - 1:=rfl
  have hT:sTo 0 n (-1) false=-1:=rfl
  unfold cutK cntN cntI
  rw [hF,hT,if_pos (by decide)]
  split
  · omega
  · rw [show ((0:Int) - -1)=1 from rfl,Int.tdiv_one];omega
theorem flpSh {b:Int} {sh st:List Int} (hv:vV b sh st=true) {j:Nat} (hj:j < sh.length):cutSh sh j 0 0 (-1) false false=sh:=by
  have hn:=good4_at (vSh_good (vV_spec.1 hv).1).1 hj
  unfold cutSh
  rw [flpK hn,show ((sh.getD j 0).toNat:Int)=sh.getD j 0 by omega]
  refine List.ext_getElem? fun i=>?_
  rw [List.getElem?_set]
  by_cases e:j=i
  · subst e
    rw [if_pos rfl,if_pos hj,List.getD,List.getElem?_eq_getElem hj,Option.getD_some]
  · rw [if_neg e]
def flpIx (sh:List Int) (j:Nat) (g:Nat → Int):Nat → Int:=updF g j (sh.getD j 0 - 1 - g j)
theorem flpIx_two (sh:List Int) (j:Nat) (g:Nat → Int):flpIx sh j (flpIx sh j g)=g:=by
  funext i
  unfold flpIx updF
  by_cases e:i=j
  · subst e;rw [if_pos rfl,if_pos rfl];omega
  · rw [if_neg e,if_neg e]
theorem flpIx_ix {sh:List Int} {j:Nat} {g:Nat → Int} (hg:isIx sh g):isIx sh (flpIx sh j g):=fun i hi=>by
  have:=hg i hi
  unfold flpIx updF
  by_cases e:i=j
  · subst e;rw [if_pos rfl];omega
  · rw [if_neg e];exact this
theorem flp_dot {b:Int} {sh st:List Int} (hv:vV b sh st=true) {j:Nat} (hj:j < sh.length) (hz:¬ pr sh=0) {g:Nat → Int} (hg:isIx sh g) :
    cutB b sh st j 0 0 (-1) false false + dot g (cutSt sh st j 0 0 (-1) false false) sh.length=b + dot (flpIx sh j g) st sh.length:=by
  have hs:vS 0 0 (-1) false false=true:=by decide
  have e:=flpSh hv hj
  have h:=cut_dot (f:=0) (t:=0) (w:=-1) (hf:=false) (ht:=false) hv hj hs (by rw [e];exact hz) (g:=g) (by rw [e];exact hg)
  rw [h]
  congr 2
  unfold cutIx flpIx
  congr 1
  show sh.getD j 0 - 1 + g j * (-1)=_
  omega
theorem flp_v {b:Int} {sh st:List Int} (hv:vV b sh st=true) {j:Nat} (hj:j < sh.length):vV (cutB b sh st j 0 0 (-1) false false) sh (cutSt sh st j 0 0 (-1) false false)=true:=by
  have h:=vV_cut (f:=0) (t:=0) (w:=-1) (hf:=false) (ht:=false) hv hj (by decide)
  rwa [flpSh hv hj] at h
theorem flp_ok {b:Int} {sh st:List Int} (hv:vV b sh st=true) {j:Nat} (hj:j < sh.length):sdOk b sh st (j:Int) 0 0 (-1) false false=true:=by
  have h:=vV_cut (f:=0) (t:=0) (w:=-1) (hf:=false) (ht:=false) hv hj (by decide)
  simp only [sdOk,hv,Int.toNat_natCast,h,Bool.and_true,Bool.true_and]
  rw [tru_and ⟨by omega,by omega⟩]
  rfl
theorem flp_mem {b:Int} {sh st:List Int} (hv:vV b sh st=true) {j:Nat} (hj:j < sh.length) (x:Int):x ∈ offs (cutB b sh st j 0 0 (-1) false false) sh (cutSt sh st j 0 0 (-1) false false) ↔ x ∈ offs b sh st:=by
  have hg:=(vSh_good (vV_spec.1 hv).1).1
  rw [mem_offs_ix hg,mem_offs_ix hg]
  by_cases hz:pr sh=0
  · have hno:∀ g,¬ isIx sh g:=fun g hgi=>by
      have h1:(b + dot g st sh.length) ∈ offs b sh st:=(mem_offs_ix hg).2 ⟨g,hgi,rfl⟩
      have:=List.length_pos_of_mem h1
      rw [offs_length,hz] at this
      exact absurd this (by decide)
    exact ⟨fun ⟨g,h,_⟩=>absurd h (hno g),fun ⟨g,h,_⟩=>absurd h (hno g)⟩
  · constructor
    · rintro ⟨g,h1,h2⟩
      exact ⟨flpIx sh j g,flpIx_ix h1,by rw [← flp_dot hv hj hz h1];exact h2⟩
    · rintro ⟨g,h1,h2⟩
      refine ⟨flpIx sh j g,flpIx_ix h1,?_⟩
      rw [flp_dot hv hj hz (flpIx_ix h1),flpIx_two]
      exact h2
theorem flp_two {b:Int} {sh st:List Int} (hv:vV b sh st=true) {j:Nat} (hj:j < sh.length):offs (cutB (cutB b sh st j 0 0 (-1) false false) sh (cutSt sh st j 0 0 (-1) false false) j 0 0 (-1) false false) sh (cutSt sh (cutSt sh st j 0 0 (-1) false false) j 0 0 (-1) false false)=offs b sh st:=by
  have hg:=(vSh_good (vV_spec.1 hv).1).1
  by_cases hz:pr sh=0
  · have e:∀ x y,offs x sh y=[]:=fun x y=>List.length_eq_zero_iff.1 (by rw [offs_length,hz];rfl)
    rw [e,e]
  · refine offs_same hg fun g hgi=>?_
    rw [flp_dot (flp_v hv hj) hj hz hgi,flp_dot hv hj hz (flpIx_ix hgi),flpIx_two]
theorem bothL_mem {xs ys:List Int} (h:∀ x,x ∈ xs ↔ x ∈ ys):bothL xs xs=bothL ys ys:=by
  unfold bothL
  congr 1
  funext x
  simp only [h x]
def dimVP (r:AV):Prop:=∃ b sh st d k1 k2,(sh.length=k1 ∧ st.length=k2 ∧ sh.length ≤ 100 ∧ st.length ≤ 100) ∧ r=.tup [.agg [.int .i64 b,.rows true (IL sh) k1,.rows true (IL st) k2],.int .i64 d]
def dimVB (r:AV) (H':List (List AV)):Prop:=∃ b sh st d,(sh.length ≤ 100 ∧ st.length ≤ 100) ∧ r=.tup [.agg [.int .i64 b,.own 0 sh.length 1,.own 1 st.length 1],.int .i64 d] ∧ H'=[IL sh,IL st]
theorem dimV_plain {P:Program} {f:Nat} {args:List AV} (h:BCall P f args [] dimVB):PCall P f args dimVP:=by
  refine (BCall.plain h).mono ?_
  rintro r ⟨r0,H',⟨b,sh,st,d,⟨h1,h2⟩,rfl,rfl⟩,rfl⟩
  exact ⟨b,sh,st,d,_,_,⟨rfl,rfl,h1,h2⟩,by simp [AV.ren,nthH,List.map_map,Function.comp_def]⟩




theorem dimOfD_ok (bs:List Int) (p:Int) (hb:okB bs) (hp:0 ≤ p ∧ p ≤ 600000):BCall Tryz.prog 36 [.ref 0 2 0] [RD bs p] (fun r H'=>∃ b sh st d q,(good4 sh ∧ sh.length ≤ 4 ∧ st.length ≤ 5) ∧ (p ≤ q ∧ q ≤ p + 250) ∧ r=.tup [.agg [.int .i64 b,.own 1 sh.length 1,.own 2 st.length 1],.int .i64 d] ∧ H'=[RD bs q,IL sh,IL st]):=by
  refine bcall_of (pins:=[0]) (pin:=1) l36_eq rfl rfl rfl ?_
  (repeat' (first
 | (first|refine awp_seq ?_|refine awp_block ?_)
 | ((first|refine awp_reg ?_|refine awp_drawX (mid:=l36r2a) (post:=l36r2b) [0] mixed (by decide) ?_|refine awp_condB ?_|refine awp_skip ?_|refine awp_exit ?_);simp (disch:=omega) only [push_cast,seval,l36r0,l36r1,l36r2a,l36r2b,l36r2])
 | ((first|refine condB_split (fun h=>?_) (fun h=>?_)|refine gIf_split (fun h=>?_) (fun h=>?_)|refine qIf_split (fun h=>?_) (fun h=>?_))<;>(try simp only [h])<;>(try simp only [bitvec_to_nat] at h)<;>(try simp only [h])<;>(first|(exfalso;omega)|(focus (exfalso;simp_all;done))|(simp (disch:=omega) only [push_cast,seval])|skip))
 | ((first|((with_reducible refine callD_ids (f:=63) [0] true ?_);simp (disch:=omega) only [push_cast,seval];(refine call1D (id:=0) (someView_ok _ _ ?_ ?_) (by first|((simp (disch:=omega) only [push_cast,seval]);done)|((simp (disch:=omega) only [push_cast,seval]);rfl)) ?_;(iterate 2 (exact sd));rintro _ _ ⟨b,sh,st,q,⟨hl1,hl9,hl2⟩,hq,rfl,rfl⟩))|((with_reducible refine callD_ids (f:=65) [0] true ?_);simp (disch:=omega) only [push_cast,seval];(refine call1D (id:=0) (pick_ok _ _ _ ?_ ?_) (by first|((simp (disch:=omega) only [push_cast,seval]);done)|((simp (disch:=omega) only [push_cast,seval]);rfl)) ?_;(iterate 2 (exact sd));rintro _ _ ⟨x,hx0,hx1,rfl,rfl⟩))|((with_reducible refine qcallI_of (f:=65) [0] true ?_);simp (disch:=omega) only [push_cast,seval];(refine qcall1D (id:=0) (pick_ok _ _ _ ?_ ?_) (by first|((simp (disch:=omega) only [push_cast,seval]);done)|((simp (disch:=omega) only [push_cast,seval]);rfl)) (by decide) ⟨_,_,0,by omega,Or.inr (Or.inr rfl),rfl,rfl⟩ ?_;(iterate 2 (exact sd));rintro _ _ ⟨x,hx0,hx1,rfl,rfl⟩))|((with_reducible refine callD_ids (f:=66) (args:=[Operand.tmp 8,Operand.tmp 21]) [0,336] true ?_);simp (disch:=omega) only [push_cast,seval];(refine call2D (id:=0) (id':=336) (by decide) (one_ok _ _ _ _ ?_ ?_ ?_ ?_ ?_) (by first|((simp (disch:=omega) only [push_cast,seval]);done)|((simp (disch:=omega) only [push_cast,seval]);rfl)) (by first|((simp (disch:=omega) only [push_cast,seval]);done)|((simp (disch:=omega) only [push_cast,seval]);rfl)) ?_;(iterate 5 (exact sd));rintro _ _ ⟨x,hx,hx0,rfl,rfl⟩))|((with_reducible refine callD_ids (f:=66) [0] true ?_);simp (disch:=omega) only [push_cast,seval];(refine call1D (id:=0) (oneR_ok _ _ _ _ ?_ ?_ ?_ ?_ ?_) (by first|((simp (disch:=omega) only [push_cast,seval]);done)|((simp (disch:=omega) only [push_cast,seval]);rfl)) ?_;(iterate 5 (exact sd));rintro _ _ ⟨x,hx,hx0,rfl,rfl⟩))|((with_reducible refine qcallI_of (f:=66) [0] true ?_);simp (disch:=omega) only [push_cast,seval];(refine qcall1D (id:=0) (oneR_ok _ _ _ _ ?_ ?_ ?_ ?_ ?_) (by first|((simp (disch:=omega) only [push_cast,seval]);done)|((simp (disch:=omega) only [push_cast,seval]);rfl)) (by decide) (by simp only [unI_cons,unI_nil];exact ⟨_,_,_,List.mem_cons_self,by omega,rfl,rfl⟩) ?_;(iterate 5 (exact sd));rintro _ _ ⟨x,hx,hx0,rfl,rfl⟩)))<;>(try simp (disch:=omega) only [push_cast,seval]))
 | (refine awp_ret ⟨.inr rfl,[96,97],[],_,by decide,rfl,?_⟩;(try simp (disch:=omega) only [push_cast,seval,↓allMem_nil,↓allMem_cons,↓List.map_cons,↓List.map_nil]))))
  all_goals exact ⟨b,sh,st,_,_,⟨by assumption,by omega,by omega⟩,by omega,rfl,rfl⟩

end Go.Proofs.YtfphjgmkpgoomaaGreat
