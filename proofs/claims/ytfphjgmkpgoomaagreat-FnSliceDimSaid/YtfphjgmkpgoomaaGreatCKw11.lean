import Derived.Test.YtfphjgmkpgoomaaGreatCKw3
import Derived.Test.YtfphjgmkpgoomaaGreatCM1
import Derived.Test.YtfphjgmkpgoomaaGreatCW3
set_option linter.unusedSimpArgs false
set_option linter.unusedVariables false
set_option maxRecDepth 4000
set_option maxHeartbeats 4000000
namespace Go.Proofs.YtfphjgmkpgoomaaGreat
open VwM Vw Go

theorem sdl_step {b:Int} {sh st:List Int} (hv:vV b sh st=true) {j:Nat} (hj:j < sh.length) {f t w:Int} {hf ht:Bool} (hs:vS f t w hf ht=true) {k:Nat} (hk:(k:Int) < pr (cutSh sh j f t w hf ht)) :
    ∃ c:Nat,(unr (cutSh sh j f t w hf ht) k).getD j 0=(c:Int) ∧ c < (idxOf (sh.getD j 0) f t w hf ht).length ∧
      oaB (cutB b sh st j f t w hf ht) (cutSh sh j f t w hf ht) (cutSt sh st j f t w hf ht) (unr (cutSh sh j f t w hf ht) k)=true ∧
      oaB b sh st ((unr (cutSh sh j f t w hf ht) k).set j ((idxOf (sh.getD j 0) f t w hf ht).getD c 0))=true ∧
      oaV b sh st ((unr (cutSh sh j f t w hf ht) k).set j ((idxOf (sh.getD j 0) f t w hf ht).getD c 0))=oaV (cutB b sh st j f t w hf ht) (cutSh sh j f t w hf ht) (cutSt sh st j f t w hf ht) (unr (cutSh sh j f t w hf ht) k):=by
  have hvc:=vV_cut hv hj hs
  have hn:=good4_at (vSh_good (vV_spec.1 hv).1).1 hj
  have hz:¬ pr (cutSh sh j f t w hf ht)=0:=by omega
  have hI:=idxOf_good hn hs
  have hK:cntN (sFrom f (sh.getD j 0) w hf) (sTo t (sh.getD j 0) w ht) w=cutK (sh.getD j 0) f t w hf ht:=rfl
  rw [hK] at hI
  have hIl:(idxOf (sh.getD j 0) f t w hf ht).length=cutK (sh.getD j 0) f t w hf ht:=by rw [hI,nums_length]
  have hu:=unr_isIx (vSh_good (vV_spec.1 hvc).1).1 (Int.natCast_nonneg k) hk
  have hul:=(vIx_spec.1 hu).1
  have hix:=vIx_isIx' hu
  have hgj:0 ≤ (unr (cutSh sh j f t w hf ht) k).getD j 0 ∧ (unr (cutSh sh j f t w hf ht) k).getD j 0 < (cutSh sh j f t w hf ht).getD j 0:=hix j (by rw [cutSh_length];exact hj)
  rw [cutSh_at hj] at hgj
  obtain ⟨c,hc⟩:∃ c:Nat,(unr (cutSh sh j f t w hf ht) k).getD j 0=(c:Int):=⟨((unr (cutSh sh j f t w hf ht) k).getD j 0).toNat,by omega⟩
  have hcd:=cut_dot hv hj hs hz hix
  have hcx:=cutIx_ix hv hj hs hix
  have hoa:oaB (cutB b sh st j f t w hf ht) (cutSh sh j f t w hf ht) (cutSt sh st j f t w hf ht) (unr (cutSh sh j f t w hf ht) k)=true:=by unfold oaB;rw [hvc,hu];rfl
  have hov:oaV (cutB b sh st j f t w hf ht) (cutSh sh j f t w hf ht) (cutSt sh st j f t w hf ht) (unr (cutSh sh j f t w hf ht) k)=b + dot (cutIx sh j f w hf fun i=>(unr (cutSh sh j f t w hf ht) k).getD i 0) st sh.length:=by
    unfold oaV;rw [if_pos ⟨hvc,hu⟩,cutSh_length];exact hcd
  generalize hU:unr (cutSh sh j f t w hf ht) k=U at *
  rw [cutSh_length] at hul
  have hck:c < cutK (sh.getD j 0) f t w hf ht:=by omega
  have hy:(idxOf (sh.getD j 0) f t w hf ht).getD c 0=sFrom f (sh.getD j 0) w hf + (c:Int) * w:=by rw [hI,nums_getD _ _ _ _ hck]
  have hg:∀ i,i < sh.length → (U.set j ((idxOf (sh.getD j 0) f t w hf ht).getD c 0)).getD i 0=cutIx sh j f w hf (fun i=>U.getD i 0) i:=fun i hi=>by
    rw [hy]
    unfold cutIx updF
    by_cases e:i=j
    · subst e
      rw [if_pos rfl,set_getD_self (by omega)]
      show _=_ + U.getD i 0 * w
      rw [hc]
    · rw [if_neg e,set_getD_ne (fun h=>e h.symm)]
  have hv2:vIx sh (U.set j ((idxOf (sh.getD j 0) f t w hf ht).getD c 0))=true:=by
    refine vIx_spec.2 ⟨by rw [List.length_set];exact hul,fun i hi=>?_⟩
    rw [List.length_set,hul] at hi
    rw [hg i hi]
    have:=hcx i hi
    omega
  refine ⟨c,hc,by omega,hoa,by unfold oaB;rw [hv,hv2];rfl,?_⟩
  rw [hov]
  unfold oaV
  rw [if_pos ⟨hv,hv2⟩]
  congr 1
  exact dot_congr fun i hi=>hg i hi
theorem sdl_covers {b:Int} {sh st:List Int} (hv:vV b sh st=true) {j:Nat} (hj:j < sh.length) {f t w:Int} {hf ht:Bool} (hs:vS f t w hf ht=true) :
    coB b sh st (cutB b sh st j f t w hf ht) (cutSh sh j f t w hf ht) (cutSt sh st j f t w hf ht)=true:=by
  have hvc:=vV_cut hv hj hs
  have hgd:=(vSh_good (vV_spec.1 hv).1).1
  have hgc:=(vSh_good (vV_spec.1 hvc).1).1
  unfold coB ovB inclB
  rw [hv,hvc]
  refine decide_eq_true fun x hx=>?_
  by_cases hz:pr (cutSh sh j f t w hf ht)=0
  · have:=List.length_pos_of_mem hx
    rw [offs_length,hz] at this
    exact absurd this (by decide)
  · obtain ⟨g,h1,h2⟩:=(mem_offs_ix hgc).1 hx
    rw [cutSh_length,cut_dot hv hj hs hz h1] at h2
    exact (mem_offs_ix hgd).2 ⟨_,cutIx_ix hv hj hs h1,h2⟩
def dimSP (r:AV):Prop:=∃ b sh st d f t w hf ht k1 k2,(sh.length=k1 ∧ st.length=k2 ∧ sh.length ≤ 100 ∧ st.length ≤ 100) ∧ r=.tup [.agg [.int .i64 b,.rows true (IL sh) k1,.rows true (IL st) k2],.int .i64 d,slc f t w hf ht]
def dimSB (r:AV) (H':List (List AV)):Prop:=∃ b sh st d f t w hf ht,(sh.length ≤ 100 ∧ st.length ≤ 100) ∧ r=.tup [.agg [.int .i64 b,.own 0 sh.length 1,.own 1 st.length 1],.int .i64 d,slc f t w hf ht] ∧ H'=[IL sh,IL st]
theorem dimS_plain {P:Program} {f:Nat} {args:List AV} (h:BCall P f args [] dimSB):PCall P f args dimSP:=by
  refine (BCall.plain h).mono ?_
  rintro r ⟨r0,H',⟨b,sh,st,d,f,t,w,hf,ht,⟨h1,h2⟩,rfl,rfl⟩,rfl⟩
  exact ⟨b,sh,st,d,f,t,w,hf,ht,_,_,⟨rfl,rfl,h1,h2⟩,by simp [AV.ren,nthH,List.map_map,Function.comp_def]⟩




theorem drawSDb_ok (bs:List Int) (n:Nat) (hn:bs.length=n) (hb:n ≤ 1099511627776 ∧ ∀ x ∈ bs,0 ≤ x ∧ x ≤ 255):BCall Tryz.prog 7 [.rows false (UL bs) n] [] dimSB:=by
  refine bcall_of (pins:=[]) (pin:=0) l7_eq rfl rfl rfl ?_
  unfold dimSB
  (repeat' (first
 | (first|refine awp_seq ?_|refine awp_block ?_)
 | ((first|refine awp_reg ?_|refine awp_drawX (mid:=l7r3a) (post:=l7r3b) [144,32] mixed (by decide) ?_|refine awp_condB ?_|refine awp_skip ?_|refine awp_exit ?_);simp (disch:=omega) only [push_cast,seval,l7r0,l7r1,l7r2,l7r3a,l7r3b,l7r3])
 | ((first|refine condB_split (fun h=>?_) (fun h=>?_)|refine gIf_split (fun h=>?_) (fun h=>?_)|refine qIf_split (fun h=>?_) (fun h=>?_))<;>(try simp only [h])<;>(try simp only [bitvec_to_nat] at h)<;>(try simp only [h])<;>(first|(exfalso;omega)|(focus (exfalso;simp_all;done))|(simp (disch:=omega) only [push_cast,seval])|skip))
 | ((first|((with_reducible refine callD_of (f:=35) true ?_);simp (disch:=omega) only [push_cast,seval];(refine call0D (newReader_ok _ _ ?_ ?_) ?_;(iterate 2 (exact sd));rintro _ _ ⟨bs0,hbs0,rfl,rfl⟩))|((with_reducible refine callD_ids (f:=36) [144] true ?_);simp (disch:=omega) only [push_cast,seval];(refine call1D (id:=144) (dimOfD_ok _ _ ?_ ?_) (by first|((simp (disch:=omega) only [push_cast,seval]);done)|((simp (disch:=omega) only [push_cast,seval]);rfl)) ?_;(iterate 2 (exact sd));rintro _ _ ⟨b,sh,st,d,q,⟨hl1,hl9,hl2⟩,hq,rfl,rfl⟩))|((with_reducible refine callD_ids (f:=37) [144] true ?_);simp (disch:=omega) only [push_cast,seval];(refine call1D (id:=144) (someSlice_ok _ _ ?_ ?_) (by first|((simp (disch:=omega) only [push_cast,seval]);done)|((simp (disch:=omega) only [push_cast,seval]);rfl)) ?_;(iterate 2 (exact sd));rintro _ _ ⟨f,t,w,hf,ht,q,hs,hq,rfl,rfl⟩))|((with_reducible refine qcallI_of (f:=37) [144] true ?_);simp (disch:=omega) only [push_cast,seval];(refine qcall1D (id:=144) (someSlice_ok _ _ ?_ ?_) (by first|((simp (disch:=omega) only [push_cast,seval]);done)|((simp (disch:=omega) only [push_cast,seval]);rfl)) (by decide) ⟨_,_,0,0,0,false,false,_,by omega,⟨Int.le_refl _,by omega⟩,rfl,rfl⟩ ?_;(iterate 2 (exact sd));rintro _ _ ⟨f,t,w,hf,ht,q,hs,hq,rfl,rfl⟩)))<;>(try simp (disch:=omega) only [push_cast,seval]))
 | (refine awp_ret ⟨.inr rfl,[192,193],[],_,by decide,rfl,?_⟩;(try simp (disch:=omega) only [push_cast,seval,↓allMem_nil,↓allMem_cons,↓List.map_cons,↓List.map_nil]))))
  all_goals exact ⟨b,sh,st,d,_,_,_,_,_,⟨by have:=hl1.2;omega,by omega⟩,rfl,rfl⟩
theorem drawSDp_ok (bs:List Int) (n:Nat) (hn:bs.length=n) (hb:n ≤ 1099511627776 ∧ ∀ x ∈ bs,0 ≤ x ∧ x ≤ 255):PCall Tryz.prog 7 [.rows false (UL bs) n] dimSP:=dimS_plain (drawSDb_ok bs n hn hb)


set_option maxHeartbeats 32000000 in
theorem lFnSD_ok (bs:List Int) (hl:bs.length ≤ 9223372036854775807) (hb:∀ x ∈ bs,0 ≤ x ∧ x ≤ 255):PCall Tryz.prog 3 [.rows false (UL bs) bs.length] (fun r=>r=.bool true):=by
  refine pcall_of l3_eq rfl ?_
  by_cases h:bs.length ≤ 1048576
  · have q:bs.length ≤ 1099511627776 ∧ ∀ x ∈ bs,0 ≤ x ∧ x ≤ 255:=⟨by omega,hb⟩
    (repeat' (first
 | (refine awp_joinL (c1:=.reg l3r3) (fun x:Int × List Int × List Int × Int × Int × Int × Int × Bool × Bool=>mkS [(3,.ref 48 3 0),(4,.int .i64 x.2.2.2.1),(5,.ref 80 5 0)] [(48,[.int .i64 x.1,.rows true (IL x.2.1) x.2.1.length,.rows true (IL x.2.2.1) x.2.2.1.length]),(80,[.int .i64 x.2.2.2.2.1,.int .i64 x.2.2.2.2.2.1,.int .i64 x.2.2.2.2.2.2.1,.bool x.2.2.2.2.2.2.2.1,.bool x.2.2.2.2.2.2.2.2])]) (fun x=>x.2.1.length ≤ 100 ∧ x.2.2.1.length ≤ 100) ?_ ?_)
 | (first|refine awp_seq ?_|refine awp_block ?_)
 | ((first|refine awp_reg ?_|refine awp_draw (mid:=l3r8a) (post:=l3r8b) mixed (by decide) ?_|refine awp_condB ?_|refine awp_skip ?_|refine awp_exit ?_);simp (disch:=omega) only [push_cast,seval,l3r0,l3r1,l3r2,l3r3,l3r4,l3r5,l3r6,l3r7,l3r8a,l3r8b,l3r8,l3r9,l3r10,l3r11,l3r12,l3r13,l3r14,l3r15,l3r16,l3r17,l3r18])
 | ((first|refine condB_split (fun h=>?_) (fun h=>?_)|refine gIf_split (fun h=>?_) (fun h=>?_)|refine qIf_split (fun h=>?_) (fun h=>?_))<;>(try simp only [h])<;>(try simp only [bitvec_to_nat] at h)<;>(try simp only [h])<;>(first|(exfalso;omega)|(focus (exfalso;simp_all;done))|(simp (disch:=omega) only [push_cast,seval])|skip))
 | ((first|refine callD_of false ?_|refine qcallD_of false ?_);simp (disch:=omega) only [push_cast,seval])
 | ((first|(refine call0D (BCall.ofP (drawSDp_ok _ _ ?_ ?_)) ?_;(iterate 2 (exact sd));rintro _ _ ⟨⟨b,sh,st,d,f,t,w,hf,ht,_,_,⟨rfl,rfl,hl1,hl2⟩,rfl⟩,rfl⟩)|((first|refine call0D (iSliceDim_ok _ _ _ _ _ _ _ _ _ _ _ ?_ ?_ ?_) ?_|refine qcall0D (iSliceDim_ok _ _ _ _ _ _ _ _ _ _ _ ?_ ?_ ?_) ⟨_,_,rfl,rfl⟩ ?_);(iterate 3 (exact sd));rintro _ _ ⟨rfl,rfl⟩)|((first|refine call0D (sSliceDim_ok _ _ _ _ _ _ _ _ _ _ _ ?_ ?_ ?_) ?_|refine qcall0D (sSliceDim_ok _ _ _ _ _ _ _ _ _ _ _ ?_ ?_ ?_) ⟨_,_,rfl,rfl⟩ ?_);(iterate 3 (exact sd));rintro _ _ ⟨rfl,rfl⟩)|((first|refine call0D (BCall.ofP (equalViewL_ok _ _ _ _ _ _ _ _ _ _ ?_ ?_ ?_ ?_ ?_)) ?_|refine qcall0D (BCall.ofP (equalViewL_ok _ _ _ _ _ _ _ _ _ _ ?_ ?_ ?_ ?_ ?_)) ⟨_,_,rfl,rfl⟩ ?_);(iterate 5 (exact sd));rintro _ _ ⟨rfl,rfl⟩)|((first|refine call0D (iIndicesOf_ok _ _ _ _ _ _) ?_|refine qcall0D (iIndicesOf_ok _ _ _ _ _ _) ⟨_,_,rfl,rfl⟩ ?_);rintro _ _ ⟨rfl,rfl⟩)|((first|refine call0D (BCall.ofP (iCountOf_ok _ _ ?_ ?_)) ?_|refine qcall0D (BCall.ofP (iCountOf_ok _ _ ?_ ?_)) ⟨_,_,rfl,rfl⟩ ?_);(iterate 2 (exact sd));rintro _ _ ⟨rfl,rfl⟩)|((first|refine call0D (iIndexAt_ok _ _ _ ?_ ?_) ?_|refine qcall0D (iIndexAt_ok _ _ _ ?_ ?_) ⟨_,_,rfl,rfl⟩ ?_);(iterate 2 (exact sd));rintro _ _ ⟨rfl,rfl⟩)|((first|refine call0D (BCall.ofP (iOffsetAt_ok _ _ _ _ _ _ _ ?_ ?_ ?_ ?_)) ?_|refine qcall0D (BCall.ofP (iOffsetAt_ok _ _ _ _ _ _ _ ?_ ?_ ?_ ?_)) ⟨_,_,rfl,rfl⟩ ?_);(iterate 4 (exact sd));rintro _ _ ⟨rfl,rfl⟩)|((first|refine call0D (BCall.ofP (iCo_ok _ _ _ _ _ _ _ _ _ _ ?_ ?_ ?_ ?_ ?_)) ?_|refine qcall0D (BCall.ofP (iCo_ok _ _ _ _ _ _ _ _ _ _ ?_ ?_ ?_ ?_ ?_)) ⟨_,_,rfl,rfl⟩ ?_);(iterate 5 (exact sd));rintro _ _ ⟨rfl,rfl⟩))<;>(try simp (disch:=omega) only [push_cast,seval]))
 | (refine awp_ret ⟨.inr rfl,_,rfl,?_⟩;(try simp (disch:=omega) only [push_cast,seval]))))
    · (refine exSub9 (Sub.of_eqs rfl rfl ?_ ?_ ?_) ?_;(focus (simp [Vw.mkS,Vw.lk,Vw.hk,AV.inn,innL,innL_ints,innL_append,innL_rep,-List.map_set,-List.getD_eq_getElem?_getD,innL_ints];done));(focus (simp [AV.inn,innL,Vw.hk,innL_ints];done));(focus (simp [AV.inn,innL,innL_ints,innL_append,innL_rep,Vw.hk,innL_ints];done));(try simp only);(first|omega|(refine ⟨?_,?_⟩<;>first|assumption|omega)|(refine ⟨?_,?_,?_⟩<;>first|assumption|omega)|(refine ⟨?_,?_,?_,?_⟩<;>first|assumption|omega)))
    · refine ⟨?_⟩
      rintro ⟨b,sh,st,d,f,t,w,hf,ht⟩ ⟨hl1,hl2⟩
      try simp only at hl1 hl2 ⊢
      have hq:sh.length ≤ 1099511627776 ∧ st.length ≤ 1099511627776:=by omega
      cases hV:sdOk b sh st d f t w hf ht with
 | false =>
        have hAl:(MVL false (cutSh sh d.toNat f t w hf ht)).length=0:=rfl
        have hCl:(MVL false (cutSt sh st d.toNat f t w hf ht)).length=0:=rfl
        generalize hA:MVL false (cutSh sh d.toNat f t w hf ht)=A at *
        generalize hC:MVL false (cutSt sh st d.toNat f t w hf ht)=C at *
        generalize hB:MVB false (cutB b sh st d.toNat f t w hf ht)=B at *
        have q1:(A.length ≤ 1099511627776 ∧ C.length ≤ 1099511627776) ∧ A.length ≤ 1099511627776 ∧ C.length ≤ 1099511627776:=by omega
        (repeat' (first
 | (first|refine awp_seq ?_|refine awp_block ?_)
 | ((first|refine awp_reg ?_|refine awp_draw (mid:=l3r8a) (post:=l3r8b) mixed (by decide) ?_|refine awp_condB ?_|refine awp_skip ?_|refine awp_exit ?_);simp (disch:=omega) only [push_cast,seval,l3r0,l3r1,l3r2,l3r3,l3r4,l3r5,l3r6,l3r7,l3r8a,l3r8b,l3r8,l3r9,l3r10,l3r11,l3r12,l3r13,l3r14,l3r15,l3r16,l3r17,l3r18,hV,hA,hB,hC,decide_true,Bool.and_self])
 | ((first|refine condB_split (fun h=>?_) (fun h=>?_)|refine gIf_split (fun h=>?_) (fun h=>?_)|refine qIf_split (fun h=>?_) (fun h=>?_))<;>(try simp only [h])<;>(try simp only [bitvec_to_nat] at h)<;>(try simp only [h])<;>(first|(exfalso;omega)|(focus (exfalso;simp_all;done))|(simp (disch:=omega) only [push_cast,seval,hV,hA,hB,hC,decide_true,Bool.and_self])|skip))
 | ((first|refine callD_of false ?_|refine qcallD_of false ?_);simp (disch:=omega) only [push_cast,seval,hV,hA,hB,hC,decide_true,Bool.and_self])
 | ((first|(refine call0D (BCall.ofP (drawSDp_ok _ _ ?_ ?_)) ?_;(iterate 2 (exact sd));rintro _ _ ⟨⟨b,sh,st,d,f,t,w,hf,ht,_,_,⟨rfl,rfl,hl1,hl2⟩,rfl⟩,rfl⟩)|((first|refine call0D (iSliceDim_ok _ _ _ _ _ _ _ _ _ _ _ ?_ ?_ ?_) ?_|refine qcall0D (iSliceDim_ok _ _ _ _ _ _ _ _ _ _ _ ?_ ?_ ?_) ⟨_,_,rfl,rfl⟩ ?_);(iterate 3 (exact sd));rintro _ _ ⟨rfl,rfl⟩)|((first|refine call0D (sSliceDim_ok _ _ _ _ _ _ _ _ _ _ _ ?_ ?_ ?_) ?_|refine qcall0D (sSliceDim_ok _ _ _ _ _ _ _ _ _ _ _ ?_ ?_ ?_) ⟨_,_,rfl,rfl⟩ ?_);(iterate 3 (exact sd));rintro _ _ ⟨rfl,rfl⟩)|((first|refine call0D (BCall.ofP (equalViewL_ok _ _ _ _ _ _ _ _ _ _ ?_ ?_ ?_ ?_ ?_)) ?_|refine qcall0D (BCall.ofP (equalViewL_ok _ _ _ _ _ _ _ _ _ _ ?_ ?_ ?_ ?_ ?_)) ⟨_,_,rfl,rfl⟩ ?_);(iterate 5 (exact sd));rintro _ _ ⟨rfl,rfl⟩)|((first|refine call0D (iIndicesOf_ok _ _ _ _ _ _) ?_|refine qcall0D (iIndicesOf_ok _ _ _ _ _ _) ⟨_,_,rfl,rfl⟩ ?_);rintro _ _ ⟨rfl,rfl⟩)|((first|refine call0D (BCall.ofP (iCountOf_ok _ _ ?_ ?_)) ?_|refine qcall0D (BCall.ofP (iCountOf_ok _ _ ?_ ?_)) ⟨_,_,rfl,rfl⟩ ?_);(iterate 2 (exact sd));rintro _ _ ⟨rfl,rfl⟩)|((first|refine call0D (iIndexAt_ok _ _ _ ?_ ?_) ?_|refine qcall0D (iIndexAt_ok _ _ _ ?_ ?_) ⟨_,_,rfl,rfl⟩ ?_);(iterate 2 (exact sd));rintro _ _ ⟨rfl,rfl⟩)|((first|refine call0D (BCall.ofP (iOffsetAt_ok _ _ _ _ _ _ _ ?_ ?_ ?_ ?_)) ?_|refine qcall0D (BCall.ofP (iOffsetAt_ok _ _ _ _ _ _ _ ?_ ?_ ?_ ?_)) ⟨_,_,rfl,rfl⟩ ?_);(iterate 4 (exact sd));rintro _ _ ⟨rfl,rfl⟩)|((first|refine call0D (BCall.ofP (iCo_ok _ _ _ _ _ _ _ _ _ _ ?_ ?_ ?_ ?_ ?_)) ?_|refine qcall0D (BCall.ofP (iCo_ok _ _ _ _ _ _ _ _ _ _ ?_ ?_ ?_ ?_ ?_)) ⟨_,_,rfl,rfl⟩ ?_);(iterate 5 (exact sd));rintro _ _ ⟨rfl,rfl⟩))<;>(try simp (disch:=omega) only [push_cast,seval,hV,hA,hB,hC,decide_true,Bool.and_self]))
 | (refine awp_ret ⟨.inr rfl,_,rfl,?_⟩;(try simp (disch:=omega) only [push_cast,seval,hV,hA,hB,hC,decide_true,Bool.and_self]))))
        all_goals (try simp)
 | true =>
        have hV':=hV
        simp only [sdOk,Bool.and_eq_true,decide_eq_true_eq] at hV'
        obtain ⟨⟨⟨hv,hd1,hd2⟩,hs⟩,-⟩:=hV'
        obtain ⟨j,rfl⟩:∃ j:Nat,d=j:=⟨d.toNat,by omega⟩
        have hj:j < sh.length:=by omega
        have hlen:=(okV_valid hv).2
        have hvc:=vV_cut hv hj hs
        have hstep:=fun k=>@sdl_step b sh st hv j hj f t w hf ht hs k
        have hcov:=sdl_covers hv hj hs
        have hSl:=cutSh_length sh j f t w hf ht
        have hTl:=cutSt_length hlen j f t w hf ht
        have hSj:=cutSh_at (f:=f) (t:=t) (w:=w) (hf:=hf) (ht:=ht) hj
        have hIl:(idxOf (sh.getD j 0) f t w hf ht).length=cutK (sh.getD j 0) f t w hf ht:=by
          rw [idxOf_good (good4_at (vSh_good (vV_spec.1 hv).1).1 hj) hs,nums_length];rfl
        rw [← hIl] at hSj
        have hIb:(idxOf (sh.getD j 0) f t w hf ht).length ≤ 500:=idxOf_le
        have hvS:=(vV_spec.1 hvc).1
        have hpS:=(vSh_good hvS).2
        have e4:(if vSh (cutSh sh j f t w hf ht)=true then pr (cutSh sh j f t w hf ht) else -1)=pr (cutSh sh j f t w hf ht):=if_pos hvS
        have huu:∀ k:Nat,(k:Int) < pr (cutSh sh j f t w hf ht) → (if vSh (cutSh sh j f t w hf ht)=true ∧ 0 ≤ (k:Int) then unr (cutSh sh j f t w hf ht) k else [])=unr (cutSh sh j f t w hf ht) k:=fun k hk=>if_pos ⟨hvS,by omega⟩
        have hul:∀ k:Int,(unr (cutSh sh j f t w hf ht) k).length=sh.length:=fun k=>by rw [unr_length,hSl]
        obtain ⟨N,hN⟩:∃ N:Nat,pr (cutSh sh j f t w hf ht)=(N:Int):=⟨(pr (cutSh sh j f t w hf ht)).toNat,by omega⟩
        rw [hN] at hpS e4 huu hstep
        clear hIl hvS hs
        generalize hI:idxOf (sh.getD j 0) f t w hf ht=I at *
        generalize hgB:cutB b sh st j f t w hf ht=B at *
        generalize hgS:cutSh sh j f t w hf ht=S at *
        generalize hgT:cutSt sh st j f t w hf ht=T at *
        have q1:(S.length ≤ 1099511627776 ∧ T.length ≤ 1099511627776) ∧ S.length ≤ 1099511627776 ∧ T.length ≤ 1099511627776:=by omega
        have q2:S.length ≤ 1099511627776 ∧ T.length ≤ 1099511627776:=by omega
        have q3:(sh.length ≤ 1099511627776 ∧ st.length ≤ 1099511627776) ∧ S.length ≤ 1099511627776 ∧ T.length ≤ 1099511627776:=by omega
        have hjS:j < S.length:=by omega
        (repeat' (first
 | (first|refine awp_seq ?_|refine awp_block ?_)
 | ((first|refine awp_reg ?_|refine awp_draw (mid:=l3r8a) (post:=l3r8b) mixed (by decide) ?_|refine awp_condB ?_|refine awp_skip ?_|refine awp_exit ?_);simp (disch:=omega) only [push_cast,seval,l3r0,l3r1,l3r2,l3r3,l3r4,l3r5,l3r6,l3r7,l3r8a,l3r8b,l3r8,l3r9,l3r10,l3r11,l3r12,l3r13,l3r14,l3r15,l3r16,l3r17,l3r18,hV,Int.toNat_natCast,MVL_true,MVB_true,hgB,hgS,hgT,hI,decide_true,Bool.and_self])
 | ((first|refine condB_split (fun h=>?_) (fun h=>?_)|refine gIf_split (fun h=>?_) (fun h=>?_)|refine qIf_split (fun h=>?_) (fun h=>?_))<;>(try simp only [h])<;>(try simp only [bitvec_to_nat] at h)<;>(try simp only [h])<;>(first|(exfalso;omega)|(focus (exfalso;simp_all;done))|(simp (disch:=omega) only [push_cast,seval,hV,Int.toNat_natCast,MVL_true,MVB_true,hgB,hgS,hgT,hI,decide_true,Bool.and_self])|skip))
 | ((first|refine callD_of false ?_|refine qcallD_of false ?_);simp (disch:=omega) only [push_cast,seval,hV,Int.toNat_natCast,MVL_true,MVB_true,hgB,hgS,hgT,hI,decide_true,Bool.and_self])
 | ((first|(refine call0D (BCall.ofP (drawSDp_ok _ _ ?_ ?_)) ?_;(iterate 2 (exact sd));rintro _ _ ⟨⟨b,sh,st,d,f,t,w,hf,ht,_,_,⟨rfl,rfl,hl1,hl2⟩,rfl⟩,rfl⟩)|((first|refine call0D (iSliceDim_ok _ _ _ _ _ _ _ _ _ _ _ ?_ ?_ ?_) ?_|refine qcall0D (iSliceDim_ok _ _ _ _ _ _ _ _ _ _ _ ?_ ?_ ?_) ⟨_,_,rfl,rfl⟩ ?_);(iterate 3 (exact sd));rintro _ _ ⟨rfl,rfl⟩)|((first|refine call0D (sSliceDim_ok _ _ _ _ _ _ _ _ _ _ _ ?_ ?_ ?_) ?_|refine qcall0D (sSliceDim_ok _ _ _ _ _ _ _ _ _ _ _ ?_ ?_ ?_) ⟨_,_,rfl,rfl⟩ ?_);(iterate 3 (exact sd));rintro _ _ ⟨rfl,rfl⟩)|((first|refine call0D (BCall.ofP (equalViewL_ok _ _ _ _ _ _ _ _ _ _ ?_ ?_ ?_ ?_ ?_)) ?_|refine qcall0D (BCall.ofP (equalViewL_ok _ _ _ _ _ _ _ _ _ _ ?_ ?_ ?_ ?_ ?_)) ⟨_,_,rfl,rfl⟩ ?_);(iterate 5 (exact sd));rintro _ _ ⟨rfl,rfl⟩)|((first|refine call0D (iIndicesOf_ok _ _ _ _ _ _) ?_|refine qcall0D (iIndicesOf_ok _ _ _ _ _ _) ⟨_,_,rfl,rfl⟩ ?_);rintro _ _ ⟨rfl,rfl⟩)|((first|refine call0D (BCall.ofP (iCountOf_ok _ _ ?_ ?_)) ?_|refine qcall0D (BCall.ofP (iCountOf_ok _ _ ?_ ?_)) ⟨_,_,rfl,rfl⟩ ?_);(iterate 2 (exact sd));rintro _ _ ⟨rfl,rfl⟩)|((first|refine call0D (iIndexAt_ok _ _ _ ?_ ?_) ?_|refine qcall0D (iIndexAt_ok _ _ _ ?_ ?_) ⟨_,_,rfl,rfl⟩ ?_);(iterate 2 (exact sd));rintro _ _ ⟨rfl,rfl⟩)|((first|refine call0D (BCall.ofP (iOffsetAt_ok _ _ _ _ _ _ _ ?_ ?_ ?_ ?_)) ?_|refine qcall0D (BCall.ofP (iOffsetAt_ok _ _ _ _ _ _ _ ?_ ?_ ?_ ?_)) ⟨_,_,rfl,rfl⟩ ?_);(iterate 4 (exact sd));rintro _ _ ⟨rfl,rfl⟩)|((first|refine call0D (BCall.ofP (iCo_ok _ _ _ _ _ _ _ _ _ _ ?_ ?_ ?_ ?_ ?_)) ?_|refine qcall0D (BCall.ofP (iCo_ok _ _ _ _ _ _ _ _ _ _ ?_ ?_ ?_ ?_ ?_)) ⟨_,_,rfl,rfl⟩ ?_);(iterate 5 (exact sd));rintro _ _ ⟨rfl,rfl⟩))<;>(try simp (disch:=omega) only [push_cast,seval,hV,Int.toNat_natCast,MVL_true,MVB_true,hgB,hgS,hgT,hI,decide_true,Bool.and_self]))
 | (refine awp_ret ⟨.inr rfl,_,rfl,?_⟩;(try simp (disch:=omega) only [push_cast,seval,hV,Int.toNat_natCast,MVL_true,MVB_true,hgB,hgS,hgT,hI,decide_true,Bool.and_self]))))
        refine awp_loop (fun k:Nat=>mkS [(3,.ref 48 3 0),(4,.int .i64 j),(6,.ref 96 3 0),(10,.own 1072 I.length 1),(11,.int .i64 k)] [(48,[.int .i64 b,.rows true (IL sh) sh.length,.rows true (IL st) st.length]),(96,[.int .i64 B,.own 480 S.length 1,.own 481 T.length 1]),(480,IL S),(481,IL T),(1072,IL I)]) (fun k=>k ≤ N) (fun k=>N - k) 0 (Nat.zero_le _) ?_ ?_
        · (refine Sub.of_lists ?_ ?_ ?_ ?_ ?_<;>simp [Vw.mkS,Vw.lk,Vw.hk,AV.inn,innL,innL_ints,innL_append,innL_rep,-List.map_set,-List.getD_eq_getElem?_getD])
        · intro k hk
          by_cases hlt:k < N
          · have hkN:(k:Int) < (N:Int):=by omega
            obtain ⟨c,c1,c2,c3,c4,c5⟩:=hstep k hkN
            have hu2:=huu k hkN
            have hu3:=hul k
            clear hstep huu hul
            generalize hU:unr S (k:Int)=U at *
            generalize hZ:oaV B S T U=Z at *
            generalize hy:I.getD c 0=y at *
            have hjU:j < U.length:=by omega
            have hsl:(U.set j y).length=sh.length:=by rw [List.length_set];exact hu3
            have q5:(S.length ≤ 1099511627776 ∧ T.length ≤ 1099511627776) ∧ U.length ≤ 1099511627776:=by omega
            have q6:(sh.length ≤ 1099511627776 ∧ st.length ≤ 1099511627776) ∧ U.length ≤ 1099511627776:=by omega
            (repeat' (first
 | (first|refine awp_seq ?_|refine awp_block ?_)
 | ((first|refine awp_reg ?_|refine awp_draw (mid:=l3r8a) (post:=l3r8b) mixed (by decide) ?_|refine awp_condB ?_|refine awp_skip ?_|refine awp_exit ?_);simp (disch:=omega) only [push_cast,seval,l3r0,l3r1,l3r2,l3r3,l3r4,l3r5,l3r6,l3r7,l3r8a,l3r8b,l3r8,l3r9,l3r10,l3r11,l3r12,l3r13,l3r14,l3r15,l3r16,l3r17,l3r18,e4,hN,hU,hu2,hkN,c1,c3,c4,c5,hZ,hy,IL_set,List.length_set,decide_true,decide_false])
 | ((first|refine condB_split (fun h=>?_) (fun h=>?_)|refine gIf_split (fun h=>?_) (fun h=>?_)|refine qIf_split (fun h=>?_) (fun h=>?_))<;>(try simp only [h])<;>(try simp only [bitvec_to_nat] at h)<;>(try simp only [h])<;>(first|(exfalso;omega)|(focus (exfalso;simp_all;done))|(simp (disch:=omega) only [push_cast,seval,e4,hN,hU,hu2,hkN,c1,c3,c4,c5,hZ,hy,IL_set,List.length_set,decide_true,decide_false])|skip))
 | ((first|refine callD_of false ?_|refine qcallD_of false ?_);simp (disch:=omega) only [push_cast,seval,e4,hN,hU,hu2,hkN,c1,c3,c4,c5,hZ,hy,IL_set,List.length_set,decide_true,decide_false])
 | ((first|(refine call0D (BCall.ofP (drawSDp_ok _ _ ?_ ?_)) ?_;(iterate 2 (exact sd));rintro _ _ ⟨⟨b,sh,st,d,f,t,w,hf,ht,_,_,⟨rfl,rfl,hl1,hl2⟩,rfl⟩,rfl⟩)|((first|refine call0D (iSliceDim_ok _ _ _ _ _ _ _ _ _ _ _ ?_ ?_ ?_) ?_|refine qcall0D (iSliceDim_ok _ _ _ _ _ _ _ _ _ _ _ ?_ ?_ ?_) ⟨_,_,rfl,rfl⟩ ?_);(iterate 3 (exact sd));rintro _ _ ⟨rfl,rfl⟩)|((first|refine call0D (sSliceDim_ok _ _ _ _ _ _ _ _ _ _ _ ?_ ?_ ?_) ?_|refine qcall0D (sSliceDim_ok _ _ _ _ _ _ _ _ _ _ _ ?_ ?_ ?_) ⟨_,_,rfl,rfl⟩ ?_);(iterate 3 (exact sd));rintro _ _ ⟨rfl,rfl⟩)|((first|refine call0D (BCall.ofP (equalViewL_ok _ _ _ _ _ _ _ _ _ _ ?_ ?_ ?_ ?_ ?_)) ?_|refine qcall0D (BCall.ofP (equalViewL_ok _ _ _ _ _ _ _ _ _ _ ?_ ?_ ?_ ?_ ?_)) ⟨_,_,rfl,rfl⟩ ?_);(iterate 5 (exact sd));rintro _ _ ⟨rfl,rfl⟩)|((first|refine call0D (iIndicesOf_ok _ _ _ _ _ _) ?_|refine qcall0D (iIndicesOf_ok _ _ _ _ _ _) ⟨_,_,rfl,rfl⟩ ?_);rintro _ _ ⟨rfl,rfl⟩)|((first|refine call0D (BCall.ofP (iCountOf_ok _ _ ?_ ?_)) ?_|refine qcall0D (BCall.ofP (iCountOf_ok _ _ ?_ ?_)) ⟨_,_,rfl,rfl⟩ ?_);(iterate 2 (exact sd));rintro _ _ ⟨rfl,rfl⟩)|((first|refine call0D (iIndexAt_ok _ _ _ ?_ ?_) ?_|refine qcall0D (iIndexAt_ok _ _ _ ?_ ?_) ⟨_,_,rfl,rfl⟩ ?_);(iterate 2 (exact sd));rintro _ _ ⟨rfl,rfl⟩)|((first|refine call0D (BCall.ofP (iOffsetAt_ok _ _ _ _ _ _ _ ?_ ?_ ?_ ?_)) ?_|refine qcall0D (BCall.ofP (iOffsetAt_ok _ _ _ _ _ _ _ ?_ ?_ ?_ ?_)) ⟨_,_,rfl,rfl⟩ ?_);(iterate 4 (exact sd));rintro _ _ ⟨rfl,rfl⟩)|((first|refine call0D (BCall.ofP (iCo_ok _ _ _ _ _ _ _ _ _ _ ?_ ?_ ?_ ?_ ?_)) ?_|refine qcall0D (BCall.ofP (iCo_ok _ _ _ _ _ _ _ _ _ _ ?_ ?_ ?_ ?_ ?_)) ⟨_,_,rfl,rfl⟩ ?_);(iterate 5 (exact sd));rintro _ _ ⟨rfl,rfl⟩))<;>(try simp (disch:=omega) only [push_cast,seval,e4,hN,hU,hu2,hkN,c1,c3,c4,c5,hZ,hy,IL_set,List.length_set,decide_true,decide_false]))
 | (refine awp_ret ⟨.inr rfl,_,rfl,?_⟩; (try simp (disch := omega) only [push_cast,seval,e4,hN,hU,hu2,hkN,c1,c3,c4,c5,hZ,hy,IL_set,List.length_set,decide_true,decide_false]))))
            refine ⟨k + 1,by omega,by omega,?_⟩
            (refine Sub.of_lists ?_ ?_ ?_ ?_ ?_<;>simp [Vw.mkS,Vw.lk,Vw.hk,AV.inn,innL,innL_ints,innL_append,innL_rep,-List.map_set,-List.getD_eq_getElem?_getD])
          · have hkN:¬ (k:Int) < (N:Int):=by omega
            (repeat' (first
 | (first|refine awp_seq ?_|refine awp_block ?_)
 | ((first|refine awp_reg ?_|refine awp_draw (mid:=l3r8a) (post:=l3r8b) mixed (by decide) ?_|refine awp_condB ?_|refine awp_skip ?_|refine awp_exit ?_);simp (disch:=omega) only [push_cast,seval,l3r0,l3r1,l3r2,l3r3,l3r4,l3r5,l3r6,l3r7,l3r8a,l3r8b,l3r8,l3r9,l3r10,l3r11,l3r12,l3r13,l3r14,l3r15,l3r16,l3r17,l3r18,e4,hN,hkN,hSj,hcov,decide_true])
 | ((first|refine condB_split (fun h=>?_) (fun h=>?_)|refine gIf_split (fun h=>?_) (fun h=>?_)|refine qIf_split (fun h=>?_) (fun h=>?_))<;>(try simp only [h])<;>(try simp only [bitvec_to_nat] at h)<;>(try simp only [h])<;>(first|(exfalso;omega)|(focus (exfalso;simp_all;done))|(simp (disch:=omega) only [push_cast,seval,e4,hN,hkN,hSj,hcov,decide_true])|skip))
 | ((first|refine callD_of false ?_|refine qcallD_of false ?_);simp (disch:=omega) only [push_cast,seval,e4,hN,hkN,hSj,hcov,decide_true])
 | ((first|(refine call0D (BCall.ofP (drawSDp_ok _ _ ?_ ?_)) ?_;(iterate 2 (exact sd));rintro _ _ ⟨⟨b,sh,st,d,f,t,w,hf,ht,_,_,⟨rfl,rfl,hl1,hl2⟩,rfl⟩,rfl⟩)|((first|refine call0D (iSliceDim_ok _ _ _ _ _ _ _ _ _ _ _ ?_ ?_ ?_) ?_|refine qcall0D (iSliceDim_ok _ _ _ _ _ _ _ _ _ _ _ ?_ ?_ ?_) ⟨_,_,rfl,rfl⟩ ?_);(iterate 3 (exact sd));rintro _ _ ⟨rfl,rfl⟩)|((first|refine call0D (sSliceDim_ok _ _ _ _ _ _ _ _ _ _ _ ?_ ?_ ?_) ?_|refine qcall0D (sSliceDim_ok _ _ _ _ _ _ _ _ _ _ _ ?_ ?_ ?_) ⟨_,_,rfl,rfl⟩ ?_);(iterate 3 (exact sd));rintro _ _ ⟨rfl,rfl⟩)|((first|refine call0D (BCall.ofP (equalViewL_ok _ _ _ _ _ _ _ _ _ _ ?_ ?_ ?_ ?_ ?_)) ?_|refine qcall0D (BCall.ofP (equalViewL_ok _ _ _ _ _ _ _ _ _ _ ?_ ?_ ?_ ?_ ?_)) ⟨_,_,rfl,rfl⟩ ?_);(iterate 5 (exact sd));rintro _ _ ⟨rfl,rfl⟩)|((first|refine call0D (iIndicesOf_ok _ _ _ _ _ _) ?_|refine qcall0D (iIndicesOf_ok _ _ _ _ _ _) ⟨_,_,rfl,rfl⟩ ?_);rintro _ _ ⟨rfl,rfl⟩)|((first|refine call0D (BCall.ofP (iCountOf_ok _ _ ?_ ?_)) ?_|refine qcall0D (BCall.ofP (iCountOf_ok _ _ ?_ ?_)) ⟨_,_,rfl,rfl⟩ ?_);(iterate 2 (exact sd));rintro _ _ ⟨rfl,rfl⟩)|((first|refine call0D (iIndexAt_ok _ _ _ ?_ ?_) ?_|refine qcall0D (iIndexAt_ok _ _ _ ?_ ?_) ⟨_,_,rfl,rfl⟩ ?_);(iterate 2 (exact sd));rintro _ _ ⟨rfl,rfl⟩)|((first|refine call0D (BCall.ofP (iOffsetAt_ok _ _ _ _ _ _ _ ?_ ?_ ?_ ?_)) ?_|refine qcall0D (BCall.ofP (iOffsetAt_ok _ _ _ _ _ _ _ ?_ ?_ ?_ ?_)) ⟨_,_,rfl,rfl⟩ ?_);(iterate 4 (exact sd));rintro _ _ ⟨rfl,rfl⟩)|((first|refine call0D (BCall.ofP (iCo_ok _ _ _ _ _ _ _ _ _ _ ?_ ?_ ?_ ?_ ?_)) ?_|refine qcall0D (BCall.ofP (iCo_ok _ _ _ _ _ _ _ _ _ _ ?_ ?_ ?_ ?_ ?_)) ⟨_,_,rfl,rfl⟩ ?_);(iterate 5 (exact sd));rintro _ _ ⟨rfl,rfl⟩))<;>(try simp (disch:=omega) only [push_cast,seval,e4,hN,hkN,hSj,hcov,decide_true]))
 | (refine awp_ret ⟨.inr rfl,_,rfl,?_⟩; (try simp (disch := omega) only [push_cast,seval,e4,hN,hkN,hSj,hcov,decide_true]))))
            all_goals (try simp)
  · (repeat' (first
 | (first|refine awp_seq ?_|refine awp_block ?_)
 | ((first|refine awp_reg ?_|refine awp_draw (mid:=l3r8a) (post:=l3r8b) mixed (by decide) ?_|refine awp_condB ?_|refine awp_skip ?_|refine awp_exit ?_);simp (disch:=omega) only [push_cast,seval,l3r0,l3r1,l3r2,l3r3,l3r4,l3r5,l3r6,l3r7,l3r8a,l3r8b,l3r8,l3r9,l3r10,l3r11,l3r12,l3r13,l3r14,l3r15,l3r16,l3r17,l3r18])
 | ((first|refine condB_split (fun h=>?_) (fun h=>?_)|refine gIf_split (fun h=>?_) (fun h=>?_)|refine qIf_split (fun h=>?_) (fun h=>?_))<;>(try simp only [h])<;>(try simp only [bitvec_to_nat] at h)<;>(try simp only [h])<;>(first|(exfalso;omega)|(focus (exfalso;simp_all;done))|(simp (disch:=omega) only [push_cast,seval])|skip))
 | ((first|refine callD_of false ?_|refine qcallD_of false ?_);simp (disch:=omega) only [push_cast,seval])
 | ((first|(refine call0D (BCall.ofP (drawSDp_ok _ _ ?_ ?_)) ?_;(iterate 2 (exact sd));rintro _ _ ⟨⟨b,sh,st,d,f,t,w,hf,ht,_,_,⟨rfl,rfl,hl1,hl2⟩,rfl⟩,rfl⟩)|((first|refine call0D (iSliceDim_ok _ _ _ _ _ _ _ _ _ _ _ ?_ ?_ ?_) ?_|refine qcall0D (iSliceDim_ok _ _ _ _ _ _ _ _ _ _ _ ?_ ?_ ?_) ⟨_,_,rfl,rfl⟩ ?_);(iterate 3 (exact sd));rintro _ _ ⟨rfl,rfl⟩)|((first|refine call0D (sSliceDim_ok _ _ _ _ _ _ _ _ _ _ _ ?_ ?_ ?_) ?_|refine qcall0D (sSliceDim_ok _ _ _ _ _ _ _ _ _ _ _ ?_ ?_ ?_) ⟨_,_,rfl,rfl⟩ ?_);(iterate 3 (exact sd));rintro _ _ ⟨rfl,rfl⟩)|((first|refine call0D (BCall.ofP (equalViewL_ok _ _ _ _ _ _ _ _ _ _ ?_ ?_ ?_ ?_ ?_)) ?_|refine qcall0D (BCall.ofP (equalViewL_ok _ _ _ _ _ _ _ _ _ _ ?_ ?_ ?_ ?_ ?_)) ⟨_,_,rfl,rfl⟩ ?_);(iterate 5 (exact sd));rintro _ _ ⟨rfl,rfl⟩)|((first|refine call0D (iIndicesOf_ok _ _ _ _ _ _) ?_|refine qcall0D (iIndicesOf_ok _ _ _ _ _ _) ⟨_,_,rfl,rfl⟩ ?_);rintro _ _ ⟨rfl,rfl⟩)|((first|refine call0D (BCall.ofP (iCountOf_ok _ _ ?_ ?_)) ?_|refine qcall0D (BCall.ofP (iCountOf_ok _ _ ?_ ?_)) ⟨_,_,rfl,rfl⟩ ?_);(iterate 2 (exact sd));rintro _ _ ⟨rfl,rfl⟩)|((first|refine call0D (iIndexAt_ok _ _ _ ?_ ?_) ?_|refine qcall0D (iIndexAt_ok _ _ _ ?_ ?_) ⟨_,_,rfl,rfl⟩ ?_);(iterate 2 (exact sd));rintro _ _ ⟨rfl,rfl⟩)|((first|refine call0D (BCall.ofP (iOffsetAt_ok _ _ _ _ _ _ _ ?_ ?_ ?_ ?_)) ?_|refine qcall0D (BCall.ofP (iOffsetAt_ok _ _ _ _ _ _ _ ?_ ?_ ?_ ?_)) ⟨_,_,rfl,rfl⟩ ?_);(iterate 4 (exact sd));rintro _ _ ⟨rfl,rfl⟩)|((first|refine call0D (BCall.ofP (iCo_ok _ _ _ _ _ _ _ _ _ _ ?_ ?_ ?_ ?_ ?_)) ?_|refine qcall0D (BCall.ofP (iCo_ok _ _ _ _ _ _ _ _ _ _ ?_ ?_ ?_ ?_ ?_)) ⟨_,_,rfl,rfl⟩ ?_);(iterate 5 (exact sd));rintro _ _ ⟨rfl,rfl⟩))<;>(try simp (disch:=omega) only [push_cast,seval]))
 | (refine awp_ret ⟨.inr rfl,_,rfl,?_⟩;(try simp (disch:=omega) only [push_cast,seval]))))

end Go.Proofs.YtfphjgmkpgoomaaGreat
