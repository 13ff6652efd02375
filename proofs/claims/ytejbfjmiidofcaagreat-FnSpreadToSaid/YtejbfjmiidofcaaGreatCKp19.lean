import Derived.Test.YtejbfjmiidofcaaGreatCKz4
import Derived.Test.YtejbfjmiidofcaaGreatCM1
import Derived.Test.YtejbfjmiidofcaaGreatCW3
set_option linter.unusedSimpArgs false
set_option linter.unusedVariables false
set_option maxRecDepth 4000
set_option maxHeartbeats 4000000
namespace Go.Proofs.YtejbfjmiidofcaaGreat
open VwM Vw Go

/-- The index in place: 0 where the shape has 1. -/
def zIx (sh:List Int) (a:Nat) (U:List Int):Nat → List Int
  | 0=>U
  | i + 1=>if sh.getD i 0=1 then (zIx sh a U i).set (a + i) 0 else zIx sh a U i
theorem zIx_length (sh:List Int) (a:Nat) (U:List Int):∀ i,(zIx sh a U i).length=U.length
  | 0=>rfl
  | i + 1=>by
    simp only [zIx]
    split
    · rw [List.length_set,zIx_length sh a U i]
    · exact zIx_length sh a U i
theorem zIx_getD {sh U:List Int} {a:Nat}:∀ i m,a + i ≤ U.length → a + m < U.length → (zIx sh a U i).getD (a + m) 0=if m < i ∧ sh.getD m 0=1 then 0 else U.getD (a + m) 0
  | 0,m,_,_=>by rw [if_neg (by omega)];rfl
  | i + 1,m,hi,hm=>by
    have ih:=zIx_getD (sh:=sh) (U:=U) (a:=a) i m (by omega) hm
    have hl:=zIx_length sh a U i
    simp only [zIx]
    by_cases h1:sh.getD i 0=1
    · rw [if_pos h1]
      by_cases e:m=i
      · subst e
        rw [set_getD_self (by omega),if_pos ⟨by omega,h1⟩]
      · rw [set_getD_ne (by omega),ih]
        by_cases h2:m < i ∧ sh.getD m 0=1
        · rw [if_pos h2,if_pos ⟨by omega,h2.2⟩]
        · rw [if_neg h2,if_neg fun h=>h2 ⟨by omega,h.2⟩]
    · rw [if_neg h1,ih]
      by_cases h2:m < i ∧ sh.getD m 0=1
      · rw [if_pos h2,if_pos ⟨by omega,h2.2⟩]
      · rw [if_neg h2,if_neg fun h=>by
          by_cases e:m=i
          · subst e;exact h1 h.2
          · exact h2 ⟨by omega,h.2⟩]
theorem spr_step {b:Int} {sh st T:List Int} {a:Nat} (hv:vV b sh st=true) (hT:vSh T=true) (hA:spA sh T=true) (ha:T.length - sh.length=a) (hvs:vV b T (sprS sh st T)=true) {k:Nat} (hk:(k:Int) < pr T) :
    (zIx sh a (unr T k) sh.length).length=a + sh.length ∧ (unr T k).length=a + sh.length ∧ oaB b T (sprS sh st T) (unr T k)=true ∧ oaB b sh st (((zIx sh a (unr T k) sh.length).drop a).take sh.length)=true ∧
      oaV b sh st (((zIx sh a (unr T k) sh.length).drop a).take sh.length)=oaV b T (sprS sh st T) (unr T k):=by
  obtain ⟨hle,hAi⟩:=spA_at hA ha
  have hTl:T.length=a + sh.length:=by omega
  have hgT:=(vSh_good hT).1
  have hu:=unr_isIx hgT (Int.natCast_nonneg k) hk
  have hul:=(vIx_spec.1 hu).1
  have hix:=vIx_isIx' hu
  have hoa:oaB b T (sprS sh st T) (unr T k)=true:=by unfold oaB;rw [hvs,hu];rfl
  have hov:oaV b T (sprS sh st T) (unr T k)=b + dot (spF sh T (fun i=>(unr T k).getD i 0) a) st sh.length:=by
    unfold oaV
    rw [if_pos ⟨hvs,hu⟩,hTl,sp_dot ha sh.length (by omega)]
  have hsx:=sp_ix hA ha hix
  generalize hU:unr T k=U at *
  have hUl:U.length=a + sh.length:=by omega
  have hzl:=zIx_length sh a U sh.length
  have hX:∀ i,i < sh.length → (((zIx sh a U sh.length).drop a).take sh.length).getD i 0=spF sh T (fun i=>U.getD i 0) a i:=fun i hi=>by
    have h1:(((zIx sh a U sh.length).drop a).take sh.length).getD i 0=(zIx sh a U sh.length).getD (a + i) 0:=by
      simp [List.getD,List.getElem?_take,List.getElem?_drop,hi]
    rw [h1,zIx_getD sh.length i (by omega) (by omega)]
    have hr:0 ≤ U.getD (a + i) 0 ∧ U.getD (a + i) 0 < T.getD (a + i) 0:=hix (a + i) (by omega)
    unfold spF
    by_cases e1:sh.getD i 0=1
    · rw [if_pos ⟨hi,e1⟩]
      by_cases e2:sh.getD i 0=T.getD (a + i) 0
      · rw [if_pos e2]
        show (0:Int)=U.getD (a + i) 0
        omega
      · rw [if_neg e2]
    · rw [if_neg fun h=>e1 h.2]
      rcases hAi i hi with h|h
      · rw [if_pos h]
      · exact absurd h e1
  have hXl:(((zIx sh a U sh.length).drop a).take sh.length).length=sh.length:=by rw [List.length_take,List.length_drop];omega
  have hvx:vIx sh (((zIx sh a U sh.length).drop a).take sh.length)=true:=by
    refine vIx_spec.2 ⟨hXl,fun i hi=>?_⟩
    rw [hXl] at hi
    rw [hX i hi]
    have:=hsx i hi
    omega
  refine ⟨by omega,hUl,hoa,by unfold oaB;rw [hv,hvx];rfl,?_⟩
  rw [hov]
  unfold oaV
  rw [if_pos ⟨hv,hvx⟩]
  congr 1
  exact dot_congr fun i hi=>hX i hi
theorem spr_covers {b:Int} {sh st T:List Int} {a:Nat} (hv:vV b sh st=true) (hT:vSh T=true) (hA:spA sh T=true) (ha:T.length - sh.length=a) (hvs:vV b T (sprS sh st T)=true):coB b sh st b T (sprS sh st T)=true:=by
  have hgT:=(vSh_good hT).1
  have hgd:=(vSh_good (vV_spec.1 hv).1).1
  obtain ⟨hle,hAi⟩:=spA_at hA ha
  unfold coB ovB inclB
  rw [hv,hvs]
  refine decide_eq_true fun x hx=>?_
  obtain ⟨g,h1,h2⟩:=(mem_offs_ix hgT).1 hx
  have hTl:T.length=a + sh.length:=by omega
  rw [hTl,sp_dot ha sh.length (by omega)] at h2
  exact (mem_offs_ix hgd).2 ⟨_,sp_ix hA ha h1,h2⟩


theorem sinsertZ_ok (xs:List Int) (n:Nat) (x:Int) (hn:xs.length=n) (hb:n ≤ 1099511000000):BCall Tryz.prog 18 [.rows false (IL xs) n,.int .i64 0,.int .i64 x] [] (OI (ins xs 0 x)):=sinsert_ok xs n 0 x hn ⟨by omega,hb⟩


set_option maxHeartbeats 64000000 in
theorem drawSprB_ok (bs:List Int) (n:Nat) (hn:bs.length=n) (hb:n ≤ 1099511627776 ∧ ∀ x ∈ bs,0 ≤ x ∧ x ≤ 255):BCall Tryz.prog 4 [.rows false (UL bs) n] [] (fun r H'=>∃ (b:Int) (sh st T:List Int),(sh.length ≤ 4 ∧ st.length ≤ 5 ∧ T.length ≤ 6) ∧ r=.tup [.agg [.int .i64 b,.own 0 sh.length 1,.own 1 st.length 1],.own 2 T.length 1] ∧ H'=[IL sh,IL st,IL T]):=by
  refine bcall_of (pins:=[]) (pin:=0) l4_eq rfl rfl rfl ?_
  (repeat' (first
 | (first|refine awp_seq ?_|refine awp_block ?_)
 | ((first|refine awp_reg ?_|refine awp_condB ?_|refine awp_skip ?_|refine awp_exit ?_);simp (disch:=omega) only [push_cast,seval,l4r0,l4r1,l4r2,l4r3,l4r4,l4r5,l4r6,l4r7,l4r8,l4r9,l4r10,l4r11,l4r12,l4r13,l4r14,l4r15])
 | ((first|refine condB_split (fun h=>?_) (fun h=>?_)|refine gIf_split (fun h=>?_) (fun h=>?_)|refine qIf_split (fun h=>?_) (fun h=>?_))<;>(try simp only [h])<;>(try simp only [bitvec_to_nat] at h)<;>(try simp only [h])<;>(first|(exfalso;omega)|(focus (exfalso;simp_all;done))|(simp (disch:=omega) only [push_cast,seval])|skip))
 | ((first|((with_reducible refine callD_of (f:=13) true ?_);simp (disch:=omega) only [push_cast,seval];(refine call0D (newReader_ok _ _ ?_ ?_) ?_;(iterate 2 (exact sd));rintro _ _ ⟨bs0,hbs0,rfl,rfl⟩))|((with_reducible refine callD_ids (f:=14) [160] true ?_);simp (disch:=omega) only [push_cast,seval];(refine call1D (id:=160) (someView_ok _ _ ?_ ?_) (by first|((simp (disch:=omega) only [push_cast,seval]);done)|((simp (disch:=omega) only [push_cast,seval]);rfl)) ?_;(iterate 2 (exact sd));rintro _ _ ⟨b,sh,st,q,⟨hl1,hl9,hl2⟩,hq,rfl,rfl⟩))|((with_reducible refine callD_ids (f:=16) [160] true ?_);simp (disch:=omega) only [push_cast,seval];(refine call1D (id:=160) (pick_ok _ _ _ ?_ ?_) (by first|((simp (disch:=omega) only [push_cast,seval]);done)|((simp (disch:=omega) only [push_cast,seval]);rfl)) ?_;(iterate 2 (exact sd));rintro _ _ ⟨x,hx0,hx1,rfl,rfl⟩))|((with_reducible refine qcallI_of (f:=16) [160] true ?_);simp (disch:=omega) only [push_cast,seval];(refine qcall1D (id:=160) (pick_ok _ _ _ ?_ ?_) (by first|((simp (disch:=omega) only [push_cast,seval]);done)|((simp (disch:=omega) only [push_cast,seval]);rfl)) (by decide) ⟨_,_,0,by omega,Or.inr (Or.inr rfl),rfl,rfl⟩ ?_;(iterate 2 (exact sd));rintro _ _ ⟨x,hx0,hx1,rfl,rfl⟩))|((with_reducible refine callD_ids (f:=17) (args:=[Operand.tmp 34,Operand.tmp 35]) [160,560] true ?_);simp (disch:=omega) only [push_cast,seval];(refine call2D (id:=160) (id':=560) (by decide) (one_ok _ _ _ _ ?_ ?_ ?_ ?_ ?_) (by first|((simp (disch:=omega) only [push_cast,seval]);done)|((simp (disch:=omega) only [push_cast,seval]);rfl)) (by first|((simp (disch:=omega) only [push_cast,seval]);done)|((simp (disch:=omega) only [push_cast,seval]);rfl)) ?_;(iterate 5 (exact sd));rintro _ _ ⟨x,hx,hx0,rfl,rfl⟩))|((with_reducible refine callD_ids (f:=17) (args:=[Operand.tmp 38,Operand.tmp 39]) [160,624] true ?_);simp (disch:=omega) only [push_cast,seval];(refine call2D (id:=160) (id':=624) (by decide) (one_ok _ _ _ _ ?_ ?_ ?_ ?_ ?_) (by first|((simp (disch:=omega) only [push_cast,seval]);done)|((simp (disch:=omega) only [push_cast,seval]);rfl)) (by first|((simp (disch:=omega) only [push_cast,seval]);done)|((simp (disch:=omega) only [push_cast,seval]);rfl)) ?_;(iterate 5 (exact sd));rintro _ _ ⟨x,hx,hx0,rfl,rfl⟩))|((with_reducible refine callD_ids (f:=17) (args:=[Operand.tmp 46,Operand.tmp 47]) [160,752] true ?_);simp (disch:=omega) only [push_cast,seval];(refine call2D (id:=160) (id':=752) (by decide) (one_ok _ _ _ _ ?_ ?_ ?_ ?_ ?_) (by first|((simp (disch:=omega) only [push_cast,seval]);done)|((simp (disch:=omega) only [push_cast,seval]);rfl)) (by first|((simp (disch:=omega) only [push_cast,seval]);done)|((simp (disch:=omega) only [push_cast,seval]);rfl)) ?_;(iterate 5 (exact sd));rintro _ _ ⟨x,hx,hx0,rfl,rfl⟩))|((with_reducible refine callD_ids (f:=17) [160] true ?_);simp (disch:=omega) only [push_cast,seval];(refine call1D (id:=160) (oneR_ok _ _ _ _ ?_ ?_ ?_ ?_ ?_) (by first|((simp (disch:=omega) only [push_cast,seval]);done)|((simp (disch:=omega) only [push_cast,seval]);rfl)) ?_;(iterate 5 (exact sd));rintro _ _ ⟨x,hx,hx0,rfl,rfl⟩))|((with_reducible refine qcallI_of (f:=17) [160] true ?_);simp (disch:=omega) only [push_cast,seval];(refine qcall1D (id:=160) (oneR_ok _ _ _ _ ?_ ?_ ?_ ?_ ?_) (by first|((simp (disch:=omega) only [push_cast,seval]);done)|((simp (disch:=omega) only [push_cast,seval]);rfl)) (by decide) (by simp only [unI_cons,unI_nil];exact ⟨_,_,_,List.mem_cons_self,by omega,rfl,rfl⟩) ?_;(iterate 5 (exact sd));rintro _ _ ⟨x,hx,hx0,rfl,rfl⟩))|((with_reducible refine callD_ids (f:=19) [160] true ?_);simp (disch:=omega) only [push_cast,seval];(refine call1D (id:=160) (someShape_ok _ _ ?_ ?_) (by first|((simp (disch:=omega) only [push_cast,seval]);done)|((simp (disch:=omega) only [push_cast,seval]);rfl)) ?_;(iterate 2 (exact sd));rintro _ _ ⟨xs,q,⟨hxs,hxl⟩,hq,rfl,rfl⟩)))<;>(try simp (disch:=omega) only [push_cast,seval]))
 | ((first|refine callD_of false ?_|refine qcallD_of false ?_);simp (disch:=omega) only [push_cast,seval])
 | ((first|((first|refine call0D (copyInts_ok _ _ ?_ ?_) ?_|refine qcall0D (copyInts_ok _ _ ?_ ?_) ⟨_,_,rfl,rfl⟩ ?_);(iterate 2 (exact sd));rintro _ _ ⟨rfl,rfl⟩)|((first|refine call0D (sinsertZ_ok _ _ _ ?_ ?_) ?_|refine qcall0D (sinsertZ_ok _ _ _ ?_ ?_) ⟨_,_,rfl,rfl⟩ ?_);(iterate 2 (exact sd));rintro _ _ ⟨rfl,rfl⟩))<;>(try simp (disch:=omega) only [push_cast,seval]))))
  have hsb:=hl1.2
  refine awp_loopW (fun z:List Int × Nat × Int=>mkS [(2,.ref 32 3 0),(4,.ref 160 2 0),(5,.ref 80 3 0),(6,.own 240 z.1.length 1),(7,.int .i64 z.2.1)] [(160,RD bs0 z.2.2),(32,[.int .i64 0,.val (.slice none 0 0),.val (.slice none 0 0)]),(80,[.int .i64 b,.own 192 sh.length 1,.own 193 st.length 1]),(192,IL sh),(193,IL st),(240,IL z.1)])
    (fun z=>(z.1.length=sh.length ∧ z.2.1 ≤ sh.length) ∧ 0 ≤ z.2.2 ∧ z.2.2 + 2 * ((sh.length:Int) - z.2.1) ≤ q + 8) (fun z=>sh.length - z.2.1) (sh,0,q) ⟨⟨rfl,Nat.zero_le _⟩,by simp only;omega⟩ ?_ ?_
  · refine SubW.of ?_
    (refine Sub.of_lists ?_ ?_ ?_ ?_ ?_<;>simp [Vw.mkS,Vw.lk,Vw.hk,AV.inn,innL,innL_ints,innL_append,innL_rep,-List.map_set,-List.getD_eq_getElem?_getD])
  · rintro ⟨xs,i,p⟩ ⟨⟨hxl,hil⟩,hp0,hp1⟩
    simp only at hxl hil hp0 hp1 ⊢
    by_cases hlt:i < sh.length
    · have hlt':(i:Int) < xs.length:=by omega
      (repeat' (first
 | (first|refine awp_seq ?_|refine awp_block ?_)
 | ((first|refine awp_reg ?_|refine awp_condB ?_|refine awp_skip ?_|refine awp_exit ?_);simp (disch:=omega) only [push_cast,seval,l4r0,l4r1,l4r2,l4r3,l4r4,l4r5,l4r6,l4r7,l4r8,l4r9,l4r10,l4r11,l4r12,l4r13,l4r14,l4r15,hlt'])
 | ((first|refine condB_split (fun h=>?_) (fun h=>?_)|refine gIf_split (fun h=>?_) (fun h=>?_)|refine qIf_split (fun h=>?_) (fun h=>?_))<;>(try simp only [h])<;>(try simp only [bitvec_to_nat] at h)<;>(try simp only [h])<;>(first|(exfalso;omega)|(focus (exfalso;simp_all;done))|(simp (disch:=omega) only [push_cast,seval,hlt'])|skip))
 | ((first|((with_reducible refine callD_of (f:=13) true ?_);simp (disch:=omega) only [push_cast,seval,hlt'];(refine call0D (newReader_ok _ _ ?_ ?_) ?_;(iterate 2 (exact sd));rintro _ _ ⟨bs0,hbs0,rfl,rfl⟩))|((with_reducible refine callD_ids (f:=14) [160] true ?_);simp (disch:=omega) only [push_cast,seval,hlt'];(refine call1D (id:=160) (someView_ok _ _ ?_ ?_) (by first|((simp (disch:=omega) only [push_cast,seval,hlt']);done)|((simp (disch:=omega) only [push_cast,seval,hlt']);rfl)) ?_;(iterate 2 (exact sd));rintro _ _ ⟨b,sh,st,q,⟨hl1,hl9,hl2⟩,hq,rfl,rfl⟩))|((with_reducible refine callD_ids (f:=16) [160] true ?_);simp (disch:=omega) only [push_cast,seval,hlt'];(refine call1D (id:=160) (pick_ok _ _ _ ?_ ?_) (by first|((simp (disch:=omega) only [push_cast,seval,hlt']);done)|((simp (disch:=omega) only [push_cast,seval,hlt']);rfl)) ?_;(iterate 2 (exact sd));rintro _ _ ⟨x,hx0,hx1,rfl,rfl⟩))|((with_reducible refine qcallI_of (f:=16) [160] true ?_);simp (disch:=omega) only [push_cast,seval,hlt'];(refine qcall1D (id:=160) (pick_ok _ _ _ ?_ ?_) (by first|((simp (disch:=omega) only [push_cast,seval,hlt']);done)|((simp (disch:=omega) only [push_cast,seval,hlt']);rfl)) (by decide) ⟨_,_,0,by omega,Or.inr (Or.inr rfl),rfl,rfl⟩ ?_;(iterate 2 (exact sd));rintro _ _ ⟨x,hx0,hx1,rfl,rfl⟩))|((with_reducible refine callD_ids (f:=17) (args:=[Operand.tmp 34,Operand.tmp 35]) [160,560] true ?_);simp (disch:=omega) only [push_cast,seval,hlt'];(refine call2D (id:=160) (id':=560) (by decide) (one_ok _ _ _ _ ?_ ?_ ?_ ?_ ?_) (by first|((simp (disch:=omega) only [push_cast,seval,hlt']);done)|((simp (disch:=omega) only [push_cast,seval,hlt']);rfl)) (by first|((simp (disch:=omega) only [push_cast,seval,hlt']);done)|((simp (disch:=omega) only [push_cast,seval,hlt']);rfl)) ?_;(iterate 5 (exact sd));rintro _ _ ⟨x,hx,hx0,rfl,rfl⟩))|((with_reducible refine callD_ids (f:=17) (args:=[Operand.tmp 38,Operand.tmp 39]) [160,624] true ?_);simp (disch:=omega) only [push_cast,seval,hlt'];(refine call2D (id:=160) (id':=624) (by decide) (one_ok _ _ _ _ ?_ ?_ ?_ ?_ ?_) (by first|((simp (disch:=omega) only [push_cast,seval,hlt']);done)|((simp (disch:=omega) only [push_cast,seval,hlt']);rfl)) (by first|((simp (disch:=omega) only [push_cast,seval,hlt']);done)|((simp (disch:=omega) only [push_cast,seval,hlt']);rfl)) ?_;(iterate 5 (exact sd));rintro _ _ ⟨x,hx,hx0,rfl,rfl⟩))|((with_reducible refine callD_ids (f:=17) (args:=[Operand.tmp 46,Operand.tmp 47]) [160,752] true ?_);simp (disch:=omega) only [push_cast,seval,hlt'];(refine call2D (id:=160) (id':=752) (by decide) (one_ok _ _ _ _ ?_ ?_ ?_ ?_ ?_) (by first|((simp (disch:=omega) only [push_cast,seval,hlt']);done)|((simp (disch:=omega) only [push_cast,seval,hlt']);rfl)) (by first|((simp (disch:=omega) only [push_cast,seval,hlt']);done)|((simp (disch:=omega) only [push_cast,seval,hlt']);rfl)) ?_;(iterate 5 (exact sd));rintro _ _ ⟨x,hx,hx0,rfl,rfl⟩))|((with_reducible refine callD_ids (f:=17) [160] true ?_);simp (disch:=omega) only [push_cast,seval,hlt'];(refine call1D (id:=160) (oneR_ok _ _ _ _ ?_ ?_ ?_ ?_ ?_) (by first|((simp (disch:=omega) only [push_cast,seval,hlt']);done)|((simp (disch:=omega) only [push_cast,seval,hlt']);rfl)) ?_;(iterate 5 (exact sd));rintro _ _ ⟨x,hx,hx0,rfl,rfl⟩))|((with_reducible refine qcallI_of (f:=17) [160] true ?_);simp (disch:=omega) only [push_cast,seval,hlt'];(refine qcall1D (id:=160) (oneR_ok _ _ _ _ ?_ ?_ ?_ ?_ ?_) (by first|((simp (disch:=omega) only [push_cast,seval,hlt']);done)|((simp (disch:=omega) only [push_cast,seval,hlt']);rfl)) (by decide) (by simp only [unI_cons,unI_nil];exact ⟨_,_,_,List.mem_cons_self,by omega,rfl,rfl⟩) ?_;(iterate 5 (exact sd));rintro _ _ ⟨x,hx,hx0,rfl,rfl⟩))|((with_reducible refine callD_ids (f:=19) [160] true ?_);simp (disch:=omega) only [push_cast,seval,hlt'];(refine call1D (id:=160) (someShape_ok _ _ ?_ ?_) (by first|((simp (disch:=omega) only [push_cast,seval,hlt']);done)|((simp (disch:=omega) only [push_cast,seval,hlt']);rfl)) ?_;(iterate 2 (exact sd));rintro _ _ ⟨xs,q,⟨hxs,hxl⟩,hq,rfl,rfl⟩)))<;>(try simp (disch:=omega) only [push_cast,seval,hlt']))
 | ((first|refine callD_of false ?_|refine qcallD_of false ?_);simp (disch:=omega) only [push_cast,seval,hlt'])
 | ((first|((first|refine call0D (copyInts_ok _ _ ?_ ?_) ?_|refine qcall0D (copyInts_ok _ _ ?_ ?_) ⟨_,_,rfl,rfl⟩ ?_);(iterate 2 (exact sd));rintro _ _ ⟨rfl,rfl⟩)|((first|refine call0D (sinsertZ_ok _ _ _ ?_ ?_) ?_|refine qcall0D (sinsertZ_ok _ _ _ ?_ ?_) ⟨_,_,rfl,rfl⟩ ?_);(iterate 2 (exact sd));rintro _ _ ⟨rfl,rfl⟩))<;>(try simp (disch:=omega) only [push_cast,seval,hlt']))))
      all_goals first
        | (refine ⟨(xs,i + 1,p),⟨⟨hxl,by simp only;omega⟩,by simp only;omega,by simp only;omega⟩,by simp only;omega,SubW.of ?_⟩
           focus ((refine Sub.of_lists ?_ ?_ ?_ ?_ ?_<;>simp [Vw.mkS,Vw.lk,Vw.hk,AV.inn,innL,innL_ints,innL_append,innL_rep,-List.map_set,-List.getD_eq_getElem?_getD]);done))
        | (refine ⟨(xs,i + 1,p + 1),⟨⟨hxl,by simp only;omega⟩,by simp only;omega,by simp only;omega⟩,by simp only;omega,SubW.of ?_⟩
           focus ((refine Sub.of_lists ?_ ?_ ?_ ?_ ?_<;>simp [Vw.mkS,Vw.lk,Vw.hk,AV.inn,innL,innL_ints,innL_append,innL_rep,-List.map_set,-List.getD_eq_getElem?_getD]);done))
        | (refine ⟨(xs.set i x,i + 1,p + 1),⟨⟨by rw [List.length_set];exact hxl,by simp only;omega⟩,by simp only;omega,by simp only;omega⟩,by simp only;omega,SubW.of ?_⟩
           focus ((refine Sub.of_lists ?_ ?_ ?_ ?_ ?_<;>simp [Vw.mkS,Vw.lk,Vw.hk,AV.inn,innL,innL_ints,innL_append,innL_rep,-List.map_set,-List.getD_eq_getElem?_getD,IL_set]);done))
        | (refine ⟨(xs.set i x,i + 1,p + 1 + 1),⟨⟨by rw [List.length_set];exact hxl,by simp only;omega⟩,by simp only;omega,by simp only;omega⟩,by simp only;omega,SubW.of ?_⟩
           focus ((refine Sub.of_lists ?_ ?_ ?_ ?_ ?_<;>simp [Vw.mkS,Vw.lk,Vw.hk,AV.inn,innL,innL_ints,innL_append,innL_rep,-List.map_set,-List.getD_eq_getElem?_getD,IL_set]);done))
    · have hlt':¬ (i:Int) < xs.length:=by omega
      have hx4:xs.length ≤ 4:=by omega
      (repeat' (first
 | (first|refine awp_seq ?_|refine awp_block ?_)
 | ((first|refine awp_reg ?_|refine awp_condB ?_|refine awp_skip ?_|refine awp_exit ?_);simp (disch:=omega) only [push_cast,seval,l4r0,l4r1,l4r2,l4r3,l4r4,l4r5,l4r6,l4r7,l4r8,l4r9,l4r10,l4r11,l4r12,l4r13,l4r14,l4r15,hlt'])
 | ((first|refine condB_split (fun h=>?_) (fun h=>?_)|refine gIf_split (fun h=>?_) (fun h=>?_)|refine qIf_split (fun h=>?_) (fun h=>?_))<;>(try simp only [h])<;>(try simp only [bitvec_to_nat] at h)<;>(try simp only [h])<;>(first|(exfalso;omega)|(focus (exfalso;simp_all;done))|(simp (disch:=omega) only [push_cast,seval,hlt'])|skip))
 | ((first|((with_reducible refine callD_of (f:=13) true ?_);simp (disch:=omega) only [push_cast,seval,hlt'];(refine call0D (newReader_ok _ _ ?_ ?_) ?_;(iterate 2 (exact sd));rintro _ _ ⟨bs0,hbs0,rfl,rfl⟩))|((with_reducible refine callD_ids (f:=14) [160] true ?_);simp (disch:=omega) only [push_cast,seval,hlt'];(refine call1D (id:=160) (someView_ok _ _ ?_ ?_) (by first|((simp (disch:=omega) only [push_cast,seval,hlt']);done)|((simp (disch:=omega) only [push_cast,seval,hlt']);rfl)) ?_;(iterate 2 (exact sd));rintro _ _ ⟨b,sh,st,q,⟨hl1,hl9,hl2⟩,hq,rfl,rfl⟩))|((with_reducible refine callD_ids (f:=16) [160] true ?_);simp (disch:=omega) only [push_cast,seval,hlt'];(refine call1D (id:=160) (pick_ok _ _ _ ?_ ?_) (by first|((simp (disch:=omega) only [push_cast,seval,hlt']);done)|((simp (disch:=omega) only [push_cast,seval,hlt']);rfl)) ?_;(iterate 2 (exact sd));rintro _ _ ⟨x,hx0,hx1,rfl,rfl⟩))|((with_reducible refine qcallI_of (f:=16) [160] true ?_);simp (disch:=omega) only [push_cast,seval,hlt'];(refine qcall1D (id:=160) (pick_ok _ _ _ ?_ ?_) (by first|((simp (disch:=omega) only [push_cast,seval,hlt']);done)|((simp (disch:=omega) only [push_cast,seval,hlt']);rfl)) (by decide) ⟨_,_,0,by omega,Or.inr (Or.inr rfl),rfl,rfl⟩ ?_;(iterate 2 (exact sd));rintro _ _ ⟨x,hx0,hx1,rfl,rfl⟩))|((with_reducible refine callD_ids (f:=17) (args:=[Operand.tmp 34,Operand.tmp 35]) [160,560] true ?_);simp (disch:=omega) only [push_cast,seval,hlt'];(refine call2D (id:=160) (id':=560) (by decide) (one_ok _ _ _ _ ?_ ?_ ?_ ?_ ?_) (by first|((simp (disch:=omega) only [push_cast,seval,hlt']);done)|((simp (disch:=omega) only [push_cast,seval,hlt']);rfl)) (by first|((simp (disch:=omega) only [push_cast,seval,hlt']);done)|((simp (disch:=omega) only [push_cast,seval,hlt']);rfl)) ?_;(iterate 5 (exact sd));rintro _ _ ⟨x,hx,hx0,rfl,rfl⟩))|((with_reducible refine callD_ids (f:=17) (args:=[Operand.tmp 38,Operand.tmp 39]) [160,624] true ?_);simp (disch:=omega) only [push_cast,seval,hlt'];(refine call2D (id:=160) (id':=624) (by decide) (one_ok _ _ _ _ ?_ ?_ ?_ ?_ ?_) (by first|((simp (disch:=omega) only [push_cast,seval,hlt']);done)|((simp (disch:=omega) only [push_cast,seval,hlt']);rfl)) (by first|((simp (disch:=omega) only [push_cast,seval,hlt']);done)|((simp (disch:=omega) only [push_cast,seval,hlt']);rfl)) ?_;(iterate 5 (exact sd));rintro _ _ ⟨x,hx,hx0,rfl,rfl⟩))|((with_reducible refine callD_ids (f:=17) (args:=[Operand.tmp 46,Operand.tmp 47]) [160,752] true ?_);simp (disch:=omega) only [push_cast,seval,hlt'];(refine call2D (id:=160) (id':=752) (by decide) (one_ok _ _ _ _ ?_ ?_ ?_ ?_ ?_) (by first|((simp (disch:=omega) only [push_cast,seval,hlt']);done)|((simp (disch:=omega) only [push_cast,seval,hlt']);rfl)) (by first|((simp (disch:=omega) only [push_cast,seval,hlt']);done)|((simp (disch:=omega) only [push_cast,seval,hlt']);rfl)) ?_;(iterate 5 (exact sd));rintro _ _ ⟨x,hx,hx0,rfl,rfl⟩))|((with_reducible refine callD_ids (f:=17) [160] true ?_);simp (disch:=omega) only [push_cast,seval,hlt'];(refine call1D (id:=160) (oneR_ok _ _ _ _ ?_ ?_ ?_ ?_ ?_) (by first|((simp (disch:=omega) only [push_cast,seval,hlt']);done)|((simp (disch:=omega) only [push_cast,seval,hlt']);rfl)) ?_;(iterate 5 (exact sd));rintro _ _ ⟨x,hx,hx0,rfl,rfl⟩))|((with_reducible refine qcallI_of (f:=17) [160] true ?_);simp (disch:=omega) only [push_cast,seval,hlt'];(refine qcall1D (id:=160) (oneR_ok _ _ _ _ ?_ ?_ ?_ ?_ ?_) (by first|((simp (disch:=omega) only [push_cast,seval,hlt']);done)|((simp (disch:=omega) only [push_cast,seval,hlt']);rfl)) (by decide) (by simp only [unI_cons,unI_nil];exact ⟨_,_,_,List.mem_cons_self,by omega,rfl,rfl⟩) ?_;(iterate 5 (exact sd));rintro _ _ ⟨x,hx,hx0,rfl,rfl⟩))|((with_reducible refine callD_ids (f:=19) [160] true ?_);simp (disch:=omega) only [push_cast,seval,hlt'];(refine call1D (id:=160) (someShape_ok _ _ ?_ ?_) (by first|((simp (disch:=omega) only [push_cast,seval,hlt']);done)|((simp (disch:=omega) only [push_cast,seval,hlt']);rfl)) ?_;(iterate 2 (exact sd));rintro _ _ ⟨xs,q,⟨hxs,hxl⟩,hq,rfl,rfl⟩)))<;>(try simp (disch:=omega) only [push_cast,seval,hlt']))
 | ((first|refine callD_of false ?_|refine qcallD_of false ?_);simp (disch:=omega) only [push_cast,seval,hlt'])
 | ((first|((first|refine call0D (copyInts_ok _ _ ?_ ?_) ?_|refine qcall0D (copyInts_ok _ _ ?_ ?_) ⟨_,_,rfl,rfl⟩ ?_);(iterate 2 (exact sd));rintro _ _ ⟨rfl,rfl⟩)|((first|refine call0D (sinsertZ_ok _ _ _ ?_ ?_) ?_|refine qcall0D (sinsertZ_ok _ _ _ ?_ ?_) ⟨_,_,rfl,rfl⟩ ?_);(iterate 2 (exact sd));rintro _ _ ⟨rfl,rfl⟩))<;>(try simp (disch:=omega) only [push_cast,seval,hlt']))))
      have hn2:0 ≤ x ∧ x ≤ 2:=by
        simp only [unI_cons,unI_nil,List.mem_cons,List.not_mem_nil,or_false] at hx
        omega
      clear hx hx0
      refine awp_loopW (fun z:List Int × Int × Int=>mkS [(2,.ref 32 3 0),(4,.ref 160 2 0),(5,.ref 80 3 0),(6,.own 240 z.1.length 1),(8,.int .i64 z.2.1)] [(160,RD bs0 z.2.2),(32,[.int .i64 0,.val (.slice none 0 0),.val (.slice none 0 0)]),(80,[.int .i64 b,.own 192 sh.length 1,.own 193 st.length 1]),(192,IL sh),(193,IL st),(240,IL z.1)])
        (fun z=>((z.1.length:Int) + z.2.1 ≤ 6 ∧ 0 ≤ z.2.1) ∧ 0 ≤ z.2.2 ∧ z.2.2 + z.2.1 ≤ p + 3) (fun z=>z.2.1.toNat) (xs,x,p + 1) ⟨⟨by simp only;omega,by simp only;omega⟩,by simp only;omega⟩ ?_ ?_
      · refine SubW.of ?_
        (refine Sub.of_lists ?_ ?_ ?_ ?_ ?_<;>simp [Vw.mkS,Vw.lk,Vw.hk,AV.inn,innL,innL_ints,innL_append,innL_rep,-List.map_set,-List.getD_eq_getElem?_getD])
      · rintro ⟨ys,m,p2⟩ ⟨⟨hyl,hm0⟩,hp20,hp21⟩
        simp only at hyl hm0 hp20 hp21 ⊢
        by_cases hmt:m > 0
        · (repeat' (first
 | (first|refine awp_seq ?_|refine awp_block ?_)
 | ((first|refine awp_reg ?_|refine awp_condB ?_|refine awp_skip ?_|refine awp_exit ?_);simp (disch:=omega) only [push_cast,seval,l4r0,l4r1,l4r2,l4r3,l4r4,l4r5,l4r6,l4r7,l4r8,l4r9,l4r10,l4r11,l4r12,l4r13,l4r14,l4r15,hmt])
 | ((first|refine condB_split (fun h=>?_) (fun h=>?_)|refine gIf_split (fun h=>?_) (fun h=>?_)|refine qIf_split (fun h=>?_) (fun h=>?_))<;>(try simp only [h])<;>(try simp only [bitvec_to_nat] at h)<;>(try simp only [h])<;>(first|(exfalso;omega)|(focus (exfalso;simp_all;done))|(simp (disch:=omega) only [push_cast,seval,hmt])|skip))
 | ((first|((with_reducible refine callD_of (f:=13) true ?_);simp (disch:=omega) only [push_cast,seval,hmt];(refine call0D (newReader_ok _ _ ?_ ?_) ?_;(iterate 2 (exact sd));rintro _ _ ⟨bs0,hbs0,rfl,rfl⟩))|((with_reducible refine callD_ids (f:=14) [160] true ?_);simp (disch:=omega) only [push_cast,seval,hmt];(refine call1D (id:=160) (someView_ok _ _ ?_ ?_) (by first|((simp (disch:=omega) only [push_cast,seval,hmt]);done)|((simp (disch:=omega) only [push_cast,seval,hmt]);rfl)) ?_;(iterate 2 (exact sd));rintro _ _ ⟨b,sh,st,q,⟨hl1,hl9,hl2⟩,hq,rfl,rfl⟩))|((with_reducible refine callD_ids (f:=16) [160] true ?_);simp (disch:=omega) only [push_cast,seval,hmt];(refine call1D (id:=160) (pick_ok _ _ _ ?_ ?_) (by first|((simp (disch:=omega) only [push_cast,seval,hmt]);done)|((simp (disch:=omega) only [push_cast,seval,hmt]);rfl)) ?_;(iterate 2 (exact sd));rintro _ _ ⟨x,hx0,hx1,rfl,rfl⟩))|((with_reducible refine qcallI_of (f:=16) [160] true ?_);simp (disch:=omega) only [push_cast,seval,hmt];(refine qcall1D (id:=160) (pick_ok _ _ _ ?_ ?_) (by first|((simp (disch:=omega) only [push_cast,seval,hmt]);done)|((simp (disch:=omega) only [push_cast,seval,hmt]);rfl)) (by decide) ⟨_,_,0,by omega,Or.inr (Or.inr rfl),rfl,rfl⟩ ?_;(iterate 2 (exact sd));rintro _ _ ⟨x,hx0,hx1,rfl,rfl⟩))|((with_reducible refine callD_ids (f:=17) (args:=[Operand.tmp 34,Operand.tmp 35]) [160,560] true ?_);simp (disch:=omega) only [push_cast,seval,hmt];(refine call2D (id:=160) (id':=560) (by decide) (one_ok _ _ _ _ ?_ ?_ ?_ ?_ ?_) (by first|((simp (disch:=omega) only [push_cast,seval,hmt]);done)|((simp (disch:=omega) only [push_cast,seval,hmt]);rfl)) (by first|((simp (disch:=omega) only [push_cast,seval,hmt]);done)|((simp (disch:=omega) only [push_cast,seval,hmt]);rfl)) ?_;(iterate 5 (exact sd));rintro _ _ ⟨x,hx,hx0,rfl,rfl⟩))|((with_reducible refine callD_ids (f:=17) (args:=[Operand.tmp 38,Operand.tmp 39]) [160,624] true ?_);simp (disch:=omega) only [push_cast,seval,hmt];(refine call2D (id:=160) (id':=624) (by decide) (one_ok _ _ _ _ ?_ ?_ ?_ ?_ ?_) (by first|((simp (disch:=omega) only [push_cast,seval,hmt]);done)|((simp (disch:=omega) only [push_cast,seval,hmt]);rfl)) (by first|((simp (disch:=omega) only [push_cast,seval,hmt]);done)|((simp (disch:=omega) only [push_cast,seval,hmt]);rfl)) ?_;(iterate 5 (exact sd));rintro _ _ ⟨x,hx,hx0,rfl,rfl⟩))|((with_reducible refine callD_ids (f:=17) (args:=[Operand.tmp 46,Operand.tmp 47]) [160,752] true ?_);simp (disch:=omega) only [push_cast,seval,hmt];(refine call2D (id:=160) (id':=752) (by decide) (one_ok _ _ _ _ ?_ ?_ ?_ ?_ ?_) (by first|((simp (disch:=omega) only [push_cast,seval,hmt]);done)|((simp (disch:=omega) only [push_cast,seval,hmt]);rfl)) (by first|((simp (disch:=omega) only [push_cast,seval,hmt]);done)|((simp (disch:=omega) only [push_cast,seval,hmt]);rfl)) ?_;(iterate 5 (exact sd));rintro _ _ ⟨x,hx,hx0,rfl,rfl⟩))|((with_reducible refine callD_ids (f:=17) [160] true ?_);simp (disch:=omega) only [push_cast,seval,hmt];(refine call1D (id:=160) (oneR_ok _ _ _ _ ?_ ?_ ?_ ?_ ?_) (by first|((simp (disch:=omega) only [push_cast,seval,hmt]);done)|((simp (disch:=omega) only [push_cast,seval,hmt]);rfl)) ?_;(iterate 5 (exact sd));rintro _ _ ⟨x,hx,hx0,rfl,rfl⟩))|((with_reducible refine qcallI_of (f:=17) [160] true ?_);simp (disch:=omega) only [push_cast,seval,hmt];(refine qcall1D (id:=160) (oneR_ok _ _ _ _ ?_ ?_ ?_ ?_ ?_) (by first|((simp (disch:=omega) only [push_cast,seval,hmt]);done)|((simp (disch:=omega) only [push_cast,seval,hmt]);rfl)) (by decide) (by simp only [unI_cons,unI_nil];exact ⟨_,_,_,List.mem_cons_self,by omega,rfl,rfl⟩) ?_;(iterate 5 (exact sd));rintro _ _ ⟨x,hx,hx0,rfl,rfl⟩))|((with_reducible refine callD_ids (f:=19) [160] true ?_);simp (disch:=omega) only [push_cast,seval,hmt];(refine call1D (id:=160) (someShape_ok _ _ ?_ ?_) (by first|((simp (disch:=omega) only [push_cast,seval,hmt]);done)|((simp (disch:=omega) only [push_cast,seval,hmt]);rfl)) ?_;(iterate 2 (exact sd));rintro _ _ ⟨xs,q,⟨hxs,hxl⟩,hq,rfl,rfl⟩)))<;>(try simp (disch:=omega) only [push_cast,seval,hmt]))
 | ((first|refine callD_of false ?_|refine qcallD_of false ?_);simp (disch:=omega) only [push_cast,seval,hmt])
 | ((first | ((first | refine call0D (copyInts_ok _ _ ?_ ?_) ?_ | refine qcall0D (copyInts_ok _ _ ?_ ?_) ⟨_,_,rfl,rfl⟩ ?_); (iterate 2 (exact sd)); rintro _ _ ⟨rfl,rfl⟩) | ((first | refine call0D (sinsertZ_ok _ _ _ ?_ ?_) ?_ | refine qcall0D (sinsertZ_ok _ _ _ ?_ ?_) ⟨_,_,rfl,rfl⟩ ?_); (iterate 2 (exact sd)); rintro _ _ ⟨rfl,rfl⟩)) <;> (try simp (disch := omega) only [push_cast,seval,hmt]))))
          have hil:=ins_length (xs:=ys) (k:=0) x (by omega)
          refine ⟨(ins ys 0 x,m - 1,p2 + 1),⟨⟨by simp only [hil];omega,by simp only;omega⟩,by simp only;omega,by simp only;omega⟩,by simp only;omega,?_⟩
          generalize ins ys 0 x=O2 at *
          refine SubW.trans (s1:=mkS [(2,.ref 32 3 0),(4,.ref 160 2 0),(5,.ref 80 3 0),(6,.own 784 O2.length 1),(8,.int .i64 (m - 1))] [(160,RD bs0 (p2 + 1)),(32,[.int .i64 0,.val (.slice none 0 0),.val (.slice none 0 0)]),(80,[.int .i64 b,.own 192 sh.length 1,.own 193 st.length 1]),(192,IL sh),(193,IL st),(784,IL O2)]) (SubW.of (by (refine Sub.of_lists ?_ ?_ ?_ ?_ ?_<;>simp [Vw.mkS,Vw.lk,Vw.hk,AV.inn,innL,innL_ints,innL_append,innL_rep,-List.map_set,-List.getD_eq_getElem?_getD]))) ?_
          refine SubW.mk1 784 240 (by omega) (SubW.of ?_)
          simp only [List.map_cons,List.map_nil,AV.sw,swL,swL_ints,swp,↓reduceIte,Nat.reduceEqDiff]
          (refine Sub.of_lists ?_ ?_ ?_ ?_ ?_<;>simp [Vw.mkS,Vw.lk,Vw.hk,AV.inn,innL,innL_ints,innL_append,innL_rep,-List.map_set,-List.getD_eq_getElem?_getD])
        · (repeat' (first
 | (first|refine awp_seq ?_|refine awp_block ?_)
 | ((first|refine awp_reg ?_|refine awp_condB ?_|refine awp_skip ?_|refine awp_exit ?_);simp (disch:=omega) only [push_cast,seval,l4r0,l4r1,l4r2,l4r3,l4r4,l4r5,l4r6,l4r7,l4r8,l4r9,l4r10,l4r11,l4r12,l4r13,l4r14,l4r15,hmt])
 | ((first|refine condB_split (fun h=>?_) (fun h=>?_)|refine gIf_split (fun h=>?_) (fun h=>?_)|refine qIf_split (fun h=>?_) (fun h=>?_))<;>(try simp only [h])<;>(try simp only [bitvec_to_nat] at h)<;>(try simp only [h])<;>(first|(exfalso;omega)|(focus (exfalso;simp_all;done))|(simp (disch:=omega) only [push_cast,seval,hmt])|skip))
 | ((first|((with_reducible refine callD_of (f:=13) true ?_);simp (disch:=omega) only [push_cast,seval,hmt];(refine call0D (newReader_ok _ _ ?_ ?_) ?_;(iterate 2 (exact sd));rintro _ _ ⟨bs0,hbs0,rfl,rfl⟩))|((with_reducible refine callD_ids (f:=14) [160] true ?_);simp (disch:=omega) only [push_cast,seval,hmt];(refine call1D (id:=160) (someView_ok _ _ ?_ ?_) (by first|((simp (disch:=omega) only [push_cast,seval,hmt]);done)|((simp (disch:=omega) only [push_cast,seval,hmt]);rfl)) ?_;(iterate 2 (exact sd));rintro _ _ ⟨b,sh,st,q,⟨hl1,hl9,hl2⟩,hq,rfl,rfl⟩))|((with_reducible refine callD_ids (f:=16) [160] true ?_);simp (disch:=omega) only [push_cast,seval,hmt];(refine call1D (id:=160) (pick_ok _ _ _ ?_ ?_) (by first|((simp (disch:=omega) only [push_cast,seval,hmt]);done)|((simp (disch:=omega) only [push_cast,seval,hmt]);rfl)) ?_;(iterate 2 (exact sd));rintro _ _ ⟨x,hx0,hx1,rfl,rfl⟩))|((with_reducible refine qcallI_of (f:=16) [160] true ?_);simp (disch:=omega) only [push_cast,seval,hmt];(refine qcall1D (id:=160) (pick_ok _ _ _ ?_ ?_) (by first|((simp (disch:=omega) only [push_cast,seval,hmt]);done)|((simp (disch:=omega) only [push_cast,seval,hmt]);rfl)) (by decide) ⟨_,_,0,by omega,Or.inr (Or.inr rfl),rfl,rfl⟩ ?_;(iterate 2 (exact sd));rintro _ _ ⟨x,hx0,hx1,rfl,rfl⟩))|((with_reducible refine callD_ids (f:=17) (args:=[Operand.tmp 34,Operand.tmp 35]) [160,560] true ?_);simp (disch:=omega) only [push_cast,seval,hmt];(refine call2D (id:=160) (id':=560) (by decide) (one_ok _ _ _ _ ?_ ?_ ?_ ?_ ?_) (by first|((simp (disch:=omega) only [push_cast,seval,hmt]);done)|((simp (disch:=omega) only [push_cast,seval,hmt]);rfl)) (by first|((simp (disch:=omega) only [push_cast,seval,hmt]);done)|((simp (disch:=omega) only [push_cast,seval,hmt]);rfl)) ?_;(iterate 5 (exact sd));rintro _ _ ⟨x,hx,hx0,rfl,rfl⟩))|((with_reducible refine callD_ids (f:=17) (args:=[Operand.tmp 38,Operand.tmp 39]) [160,624] true ?_);simp (disch:=omega) only [push_cast,seval,hmt];(refine call2D (id:=160) (id':=624) (by decide) (one_ok _ _ _ _ ?_ ?_ ?_ ?_ ?_) (by first|((simp (disch:=omega) only [push_cast,seval,hmt]);done)|((simp (disch:=omega) only [push_cast,seval,hmt]);rfl)) (by first|((simp (disch:=omega) only [push_cast,seval,hmt]);done)|((simp (disch:=omega) only [push_cast,seval,hmt]);rfl)) ?_;(iterate 5 (exact sd));rintro _ _ ⟨x,hx,hx0,rfl,rfl⟩))|((with_reducible refine callD_ids (f:=17) (args:=[Operand.tmp 46,Operand.tmp 47]) [160,752] true ?_);simp (disch:=omega) only [push_cast,seval,hmt];(refine call2D (id:=160) (id':=752) (by decide) (one_ok _ _ _ _ ?_ ?_ ?_ ?_ ?_) (by first|((simp (disch:=omega) only [push_cast,seval,hmt]);done)|((simp (disch:=omega) only [push_cast,seval,hmt]);rfl)) (by first|((simp (disch:=omega) only [push_cast,seval,hmt]);done)|((simp (disch:=omega) only [push_cast,seval,hmt]);rfl)) ?_;(iterate 5 (exact sd));rintro _ _ ⟨x,hx,hx0,rfl,rfl⟩))|((with_reducible refine callD_ids (f:=17) [160] true ?_);simp (disch:=omega) only [push_cast,seval,hmt];(refine call1D (id:=160) (oneR_ok _ _ _ _ ?_ ?_ ?_ ?_ ?_) (by first|((simp (disch:=omega) only [push_cast,seval,hmt]);done)|((simp (disch:=omega) only [push_cast,seval,hmt]);rfl)) ?_;(iterate 5 (exact sd));rintro _ _ ⟨x,hx,hx0,rfl,rfl⟩))|((with_reducible refine qcallI_of (f:=17) [160] true ?_);simp (disch:=omega) only [push_cast,seval,hmt];(refine qcall1D (id:=160) (oneR_ok _ _ _ _ ?_ ?_ ?_ ?_ ?_) (by first|((simp (disch:=omega) only [push_cast,seval,hmt]);done)|((simp (disch:=omega) only [push_cast,seval,hmt]);rfl)) (by decide) (by simp only [unI_cons,unI_nil];exact ⟨_,_,_,List.mem_cons_self,by omega,rfl,rfl⟩) ?_;(iterate 5 (exact sd));rintro _ _ ⟨x,hx,hx0,rfl,rfl⟩))|((with_reducible refine callD_ids (f:=19) [160] true ?_);simp (disch:=omega) only [push_cast,seval,hmt];(refine call1D (id:=160) (someShape_ok _ _ ?_ ?_) (by first|((simp (disch:=omega) only [push_cast,seval,hmt]);done)|((simp (disch:=omega) only [push_cast,seval,hmt]);rfl)) ?_;(iterate 2 (exact sd));rintro _ _ ⟨xs,q,⟨hxs,hxl⟩,hq,rfl,rfl⟩)))<;>(try simp (disch:=omega) only [push_cast,seval,hmt]))
 | ((first|refine callD_of false ?_|refine qcallD_of false ?_);simp (disch:=omega) only [push_cast,seval,hmt])
 | ((first | ((first | refine call0D (copyInts_ok _ _ ?_ ?_) ?_ | refine qcall0D (copyInts_ok _ _ ?_ ?_) ⟨_,_,rfl,rfl⟩ ?_); (iterate 2 (exact sd)); rintro _ _ ⟨rfl,rfl⟩) | ((first | refine call0D (sinsertZ_ok _ _ _ ?_ ?_) ?_ | refine qcall0D (sinsertZ_ok _ _ _ ?_ ?_) ⟨_,_,rfl,rfl⟩ ?_); (iterate 2 (exact sd)); rintro _ _ ⟨rfl,rfl⟩)) <;> (try simp (disch := omega) only [push_cast,seval,hmt]))))
          · (refine awp_ret ⟨.inr rfl,[192,193,864],[],_,by decide,rfl,?_⟩;(try simp (disch:=omega) only [push_cast,seval,↓allMem_nil,↓allMem_cons,↓List.map_cons,↓List.map_nil]))
            refine ⟨b,sh,st,_,⟨hsb,by omega,?_⟩,rfl,rfl⟩
            omega
          · (refine awp_ret ⟨.inr rfl,[192,193,240],[],_,by decide,rfl,?_⟩;(try simp (disch:=omega) only [push_cast,seval,↓allMem_nil,↓allMem_cons,↓List.map_cons,↓List.map_nil]))
            refine ⟨b,sh,st,ys,⟨hsb,by omega,by omega⟩,rfl,rfl⟩
theorem drawSpr_ok (bs:List Int) (n:Nat) (hn:bs.length=n) (hb:n ≤ 1099511627776 ∧ ∀ x ∈ bs,0 ≤ x ∧ x ≤ 255):PCall Tryz.prog 4 [.rows false (UL bs) n] (fun r=>∃ (b:Int) (sh st T:List Int),sh.length ≤ 4 ∧ st.length ≤ 5 ∧ T.length ≤ 6 ∧ r=.tup [.agg [.int .i64 b,.rows true (IL sh) sh.length,.rows true (IL st) st.length],.rows true (IL T) T.length]):=by
  refine (BCall.plain (drawSprB_ok bs n hn hb)).mono ?_
  rintro r ⟨r0,H',⟨b,sh,st,T,⟨h1,h2,h3⟩,rfl,rfl⟩,rfl⟩
  refine ⟨b,sh,st,T,h1,h2,h3,?_⟩
  simp [AV.ren,nthH,List.map_map,Function.comp_def]


set_option maxHeartbeats 64000000 in
theorem fSpr_ok (bs:List Int) (hl:bs.length ≤ 9223372036854775807) (hb:∀ x ∈ bs,0 ≤ x ∧ x ≤ 255):PCall Tryz.prog 3 [.rows false (UL bs) bs.length] (fun r=>r=.bool true):=by
  refine pcall_of l3_eq rfl ?_
  by_cases h:bs.length ≤ 1048576
  · have q:bs.length ≤ 1099511627776 ∧ ∀ x ∈ bs,0 ≤ x ∧ x ≤ 255:=⟨by omega,hb⟩
    (repeat' (first
 | (refine awp_joinL (c1:=.reg l3r3) (fun x:Int × List Int × List Int × List Int=>mkS [(3,.ref 48 3 0),(4,.rows true (IL x.2.2.2) x.2.2.2.length)] [(48,[.int .i64 x.1,.rows true (IL x.2.1) x.2.1.length,.rows true (IL x.2.2.1) x.2.2.1.length])]) (fun x=>x.2.1.length ≤ 4 ∧ x.2.2.1.length ≤ 5 ∧ x.2.2.2.length ≤ 6) ?_ ?_)
 | (first|refine awp_seq ?_|refine awp_block ?_)
 | ((first|refine awp_reg ?_|refine awp_condB ?_|refine awp_skip ?_|refine awp_exit ?_);simp (disch:=omega) only [push_cast,seval,l3r0,l3r1,l3r2,l3r3,l3r4,l3r5,l3r6,l3r7,l3r8,l3r9,l3r10,l3r11,l3r12,l3r13,l3r14,l3r15,l3r16,l3r17,l3r18,l3r19,l3r20,l3r21,l3r22,l3r23])
 | ((first|refine condB_split (fun h=>?_) (fun h=>?_)|refine gIf_split (fun h=>?_) (fun h=>?_)|refine qIf_split (fun h=>?_) (fun h=>?_))<;>(try simp only [h])<;>(try simp only [bitvec_to_nat] at h)<;>(try simp only [h])<;>(first|(exfalso;omega)|(focus (exfalso;simp_all;done))|(simp (disch:=omega) only [push_cast,seval])|skip))
 | ((first|refine callD_of false ?_|refine qcallD_of false ?_);simp (disch:=omega) only [push_cast,seval])
 | ((first|(refine call0D (BCall.ofP (drawSpr_ok _ _ ?_ ?_)) ?_;(iterate 2 (exact sd));rintro _ _ ⟨⟨b,sh,st,T,hl1,hl2,hl3,rfl⟩,rfl⟩)|((first|refine call0D (iSpread_ok _ _ _ _ _ _ _ ?_ ?_ ?_ ?_) ?_|refine qcall0D (iSpread_ok _ _ _ _ _ _ _ ?_ ?_ ?_ ?_) ⟨_,_,rfl,rfl⟩ ?_);(iterate 4 (exact sd));rintro _ _ ⟨rfl,rfl⟩)|((first|refine call0D (sSpread_ok _ _ _ _ _ _ _ ?_ ?_ ?_ ?_) ?_|refine qcall0D (sSpread_ok _ _ _ _ _ _ _ ?_ ?_ ?_ ?_) ⟨_,_,rfl,rfl⟩ ?_);(iterate 4 (exact sd));rintro _ _ ⟨rfl,rfl⟩)|((first|refine call0D (BCall.ofP (equalViewL_ok _ _ _ _ _ _ _ _ _ _ ?_ ?_ ?_ ?_ ?_)) ?_|refine qcall0D (BCall.ofP (equalViewL_ok _ _ _ _ _ _ _ _ _ _ ?_ ?_ ?_ ?_ ?_)) ⟨_,_,rfl,rfl⟩ ?_);(iterate 5 (exact sd));rintro _ _ ⟨rfl,rfl⟩)|((first|refine call0D (BCall.ofP (iCountOf_ok _ _ ?_ ?_)) ?_|refine qcall0D (BCall.ofP (iCountOf_ok _ _ ?_ ?_)) ⟨_,_,rfl,rfl⟩ ?_);(iterate 2 (exact sd));rintro _ _ ⟨rfl,rfl⟩)|((first|refine call0D (iIndexAt_ok _ _ _ ?_ ?_) ?_|refine qcall0D (iIndexAt_ok _ _ _ ?_ ?_) ⟨_,_,rfl,rfl⟩ ?_);(iterate 2 (exact sd));rintro _ _ ⟨rfl,rfl⟩)|((first|refine call0D (BCall.ofP (iOffsetAt_ok _ _ _ _ _ _ _ ?_ ?_ ?_ ?_)) ?_|refine qcall0D (BCall.ofP (iOffsetAt_ok _ _ _ _ _ _ _ ?_ ?_ ?_ ?_)) ⟨_,_,rfl,rfl⟩ ?_);(iterate 4 (exact sd));rintro _ _ ⟨rfl,rfl⟩)|((first|refine call0D (BCall.ofP (equalInts_ok _ _ _ _ ?_ ?_ ?_)) ?_|refine qcall0D (BCall.ofP (equalInts_ok _ _ _ _ ?_ ?_ ?_)) ⟨_,_,rfl,rfl⟩ ?_);(iterate 3 (exact sd));rintro _ _ ⟨rfl,rfl⟩)|((first|refine call0D (BCall.ofP (iCo_ok _ _ _ _ _ _ _ _ _ _ ?_ ?_ ?_ ?_ ?_)) ?_|refine qcall0D (BCall.ofP (iCo_ok _ _ _ _ _ _ _ _ _ _ ?_ ?_ ?_ ?_ ?_)) ⟨_,_,rfl,rfl⟩ ?_);(iterate 5 (exact sd));rintro _ _ ⟨rfl,rfl⟩))<;>(try simp (disch:=omega) only [push_cast,seval]))
 | (refine awp_ret ⟨.inr rfl,_,rfl,?_⟩;(try simp (disch:=omega) only [push_cast,seval]))))
    · refine ⟨(b,sh,st,T),⟨hl1,hl2,hl3⟩,?_⟩
      (refine Sub.of_lists ?_ ?_ ?_ ?_ ?_<;>simp [Vw.mkS,Vw.lk,Vw.hk,AV.inn,innL,innL_ints,innL_append,innL_rep,-List.map_set,-List.getD_eq_getElem?_getD])
    · refine ⟨?_⟩
      rintro ⟨b,sh,st,T⟩ ⟨hl1,hl2,hl3⟩
      try simp only at hl1 hl2 hl3 ⊢
      have hq:(sh.length ≤ 1099511627776 ∧ st.length ≤ 1099511627776) ∧ T.length ≤ 1099511627776:=by omega
      cases hV:spOk b sh st T with
 | false =>
        have hAl:(MVL false T).length=0:=rfl
        have hCl:(MVL false (stE T (sprS sh st T))).length=0:=rfl
        generalize hA:MVL false T=A at *
        generalize hC:MVL false (stE T (sprS sh st T))=C at *
        generalize hB:MVB false (stB T b)=B at *
        have q1:(A.length ≤ 1099511627776 ∧ C.length ≤ 1099511627776) ∧ A.length ≤ 1099511627776 ∧ C.length ≤ 1099511627776:=by omega
        (repeat' (first
 | (first|refine awp_seq ?_|refine awp_block ?_)
 | ((first|refine awp_reg ?_|refine awp_condB ?_|refine awp_skip ?_|refine awp_exit ?_);simp (disch:=omega) only [push_cast,seval,l3r0,l3r1,l3r2,l3r3,l3r4,l3r5,l3r6,l3r7,l3r8,l3r9,l3r10,l3r11,l3r12,l3r13,l3r14,l3r15,l3r16,l3r17,l3r18,l3r19,l3r20,l3r21,l3r22,l3r23,hV,hA,hB,hC,decide_true,Bool.and_self])
 | ((first|refine condB_split (fun h=>?_) (fun h=>?_)|refine gIf_split (fun h=>?_) (fun h=>?_)|refine qIf_split (fun h=>?_) (fun h=>?_))<;>(try simp only [h])<;>(try simp only [bitvec_to_nat] at h)<;>(try simp only [h])<;>(first|(exfalso;omega)|(focus (exfalso;simp_all;done))|(simp (disch:=omega) only [push_cast,seval,hV,hA,hB,hC,decide_true,Bool.and_self])|skip))
 | ((first|refine callD_of false ?_|refine qcallD_of false ?_);simp (disch:=omega) only [push_cast,seval,hV,hA,hB,hC,decide_true,Bool.and_self])
 | ((first|(refine call0D (BCall.ofP (drawSpr_ok _ _ ?_ ?_)) ?_;(iterate 2 (exact sd));rintro _ _ ⟨⟨b,sh,st,T,hl1,hl2,hl3,rfl⟩,rfl⟩)|((first|refine call0D (iSpread_ok _ _ _ _ _ _ _ ?_ ?_ ?_ ?_) ?_|refine qcall0D (iSpread_ok _ _ _ _ _ _ _ ?_ ?_ ?_ ?_) ⟨_,_,rfl,rfl⟩ ?_);(iterate 4 (exact sd));rintro _ _ ⟨rfl,rfl⟩)|((first|refine call0D (sSpread_ok _ _ _ _ _ _ _ ?_ ?_ ?_ ?_) ?_|refine qcall0D (sSpread_ok _ _ _ _ _ _ _ ?_ ?_ ?_ ?_) ⟨_,_,rfl,rfl⟩ ?_);(iterate 4 (exact sd));rintro _ _ ⟨rfl,rfl⟩)|((first|refine call0D (BCall.ofP (equalViewL_ok _ _ _ _ _ _ _ _ _ _ ?_ ?_ ?_ ?_ ?_)) ?_|refine qcall0D (BCall.ofP (equalViewL_ok _ _ _ _ _ _ _ _ _ _ ?_ ?_ ?_ ?_ ?_)) ⟨_,_,rfl,rfl⟩ ?_);(iterate 5 (exact sd));rintro _ _ ⟨rfl,rfl⟩)|((first|refine call0D (BCall.ofP (iCountOf_ok _ _ ?_ ?_)) ?_|refine qcall0D (BCall.ofP (iCountOf_ok _ _ ?_ ?_)) ⟨_,_,rfl,rfl⟩ ?_);(iterate 2 (exact sd));rintro _ _ ⟨rfl,rfl⟩)|((first|refine call0D (iIndexAt_ok _ _ _ ?_ ?_) ?_|refine qcall0D (iIndexAt_ok _ _ _ ?_ ?_) ⟨_,_,rfl,rfl⟩ ?_);(iterate 2 (exact sd));rintro _ _ ⟨rfl,rfl⟩)|((first|refine call0D (BCall.ofP (iOffsetAt_ok _ _ _ _ _ _ _ ?_ ?_ ?_ ?_)) ?_|refine qcall0D (BCall.ofP (iOffsetAt_ok _ _ _ _ _ _ _ ?_ ?_ ?_ ?_)) ⟨_,_,rfl,rfl⟩ ?_);(iterate 4 (exact sd));rintro _ _ ⟨rfl,rfl⟩)|((first|refine call0D (BCall.ofP (equalInts_ok _ _ _ _ ?_ ?_ ?_)) ?_|refine qcall0D (BCall.ofP (equalInts_ok _ _ _ _ ?_ ?_ ?_)) ⟨_,_,rfl,rfl⟩ ?_);(iterate 3 (exact sd));rintro _ _ ⟨rfl,rfl⟩)|((first|refine call0D (BCall.ofP (iCo_ok _ _ _ _ _ _ _ _ _ _ ?_ ?_ ?_ ?_ ?_)) ?_|refine qcall0D (BCall.ofP (iCo_ok _ _ _ _ _ _ _ _ _ _ ?_ ?_ ?_ ?_ ?_)) ⟨_,_,rfl,rfl⟩ ?_);(iterate 5 (exact sd));rintro _ _ ⟨rfl,rfl⟩))<;>(try simp (disch:=omega) only [push_cast,seval,hV,hA,hB,hC,decide_true,Bool.and_self]))
 | (refine awp_ret ⟨.inr rfl,_,rfl,?_⟩;(try simp (disch:=omega) only [push_cast,seval,hV,hA,hB,hC,decide_true,Bool.and_self]))))
        all_goals (try simp)
 | true =>
        have hV':=hV
        simp only [spOk,Bool.and_eq_true,decide_eq_true_eq] at hV'
        obtain ⟨⟨hv,hT⟩,hA⟩:=hV'
        obtain ⟨hle,-⟩:=spA_at hA rfl
        obtain ⟨a,ha⟩:∃ a,T.length - sh.length=a:=⟨_,rfl⟩
        have hTl:T.length=a + sh.length:=by omega
        have hvs:=vV_spread hv hT hA
        have hgT:=(vSh_good hT).1
        have hpT:=pr_bound hgT
        have hMA:MVL true T=T:=rfl
        have hcn:(if vSh T=true then pr T else -1)=pr T:=if_pos hT
        have hsub:(T.length:Int) - sh.length=a:=by omega
        by_cases hz:pr T=0
        · have hB:MVB true (stB T b)=0:=by show stB T b=0;unfold stB;rw [if_pos hz]
          have hCl:(MVL true (stE T (sprS sh st T))).length=T.length:=by show (stE T _).length=_;unfold stE;rw [if_pos hz,List.length_replicate]
          have hB0:stB T b=0:=hB
          have hco:coB b sh st 0 T (stE T (sprS sh st T))=true:=by
            unfold coB ovB inclB
            rw [hv,← hB0,hvs]
            refine decide_eq_true fun x hx=>?_
            have:=List.length_pos_of_mem hx
            rw [offs_length,hz] at this
            exact absurd this (by decide)
          have hCe:MVL true (stE T (sprS sh st T))=stE T (sprS sh st T):=rfl
          rw [hCe] at hCl
          generalize hC:stE T (sprS sh st T)=C at *
          have q1:(T.length ≤ 1099511627776 ∧ C.length ≤ 1099511627776) ∧ T.length ≤ 1099511627776 ∧ C.length ≤ 1099511627776:=by omega
          have q2:(sh.length ≤ 1099511627776 ∧ st.length ≤ 1099511627776) ∧ T.length ≤ 1099511627776 ∧ C.length ≤ 1099511627776:=by omega
          (repeat' (first
 | (first|refine awp_seq ?_|refine awp_block ?_)
 | ((first|refine awp_reg ?_|refine awp_condB ?_|refine awp_skip ?_|refine awp_exit ?_);simp (disch:=omega) only [push_cast,seval,l3r0,l3r1,l3r2,l3r3,l3r4,l3r5,l3r6,l3r7,l3r8,l3r9,l3r10,l3r11,l3r12,l3r13,l3r14,l3r15,l3r16,l3r17,l3r18,l3r19,l3r20,l3r21,l3r22,l3r23,hV,hMA,hB,hCe,hC,hsub,decide_true,Bool.and_self])
 | ((first|refine condB_split (fun h=>?_) (fun h=>?_)|refine gIf_split (fun h=>?_) (fun h=>?_)|refine qIf_split (fun h=>?_) (fun h=>?_))<;>(try simp only [h])<;>(try simp only [bitvec_to_nat] at h)<;>(try simp only [h])<;>(first|(exfalso;omega)|(focus (exfalso;simp_all;done))|(simp (disch:=omega) only [push_cast,seval,hV,hMA,hB,hCe,hC,hsub,decide_true,Bool.and_self])|skip))
 | ((first|refine callD_of false ?_|refine qcallD_of false ?_);simp (disch:=omega) only [push_cast,seval,hV,hMA,hB,hCe,hC,hsub,decide_true,Bool.and_self])
 | ((first|(refine call0D (BCall.ofP (drawSpr_ok _ _ ?_ ?_)) ?_;(iterate 2 (exact sd));rintro _ _ ⟨⟨b,sh,st,T,hl1,hl2,hl3,rfl⟩,rfl⟩)|((first|refine call0D (iSpread_ok _ _ _ _ _ _ _ ?_ ?_ ?_ ?_) ?_|refine qcall0D (iSpread_ok _ _ _ _ _ _ _ ?_ ?_ ?_ ?_) ⟨_,_,rfl,rfl⟩ ?_);(iterate 4 (exact sd));rintro _ _ ⟨rfl,rfl⟩)|((first|refine call0D (sSpread_ok _ _ _ _ _ _ _ ?_ ?_ ?_ ?_) ?_|refine qcall0D (sSpread_ok _ _ _ _ _ _ _ ?_ ?_ ?_ ?_) ⟨_,_,rfl,rfl⟩ ?_);(iterate 4 (exact sd));rintro _ _ ⟨rfl,rfl⟩)|((first|refine call0D (BCall.ofP (equalViewL_ok _ _ _ _ _ _ _ _ _ _ ?_ ?_ ?_ ?_ ?_)) ?_|refine qcall0D (BCall.ofP (equalViewL_ok _ _ _ _ _ _ _ _ _ _ ?_ ?_ ?_ ?_ ?_)) ⟨_,_,rfl,rfl⟩ ?_);(iterate 5 (exact sd));rintro _ _ ⟨rfl,rfl⟩)|((first|refine call0D (BCall.ofP (iCountOf_ok _ _ ?_ ?_)) ?_|refine qcall0D (BCall.ofP (iCountOf_ok _ _ ?_ ?_)) ⟨_,_,rfl,rfl⟩ ?_);(iterate 2 (exact sd));rintro _ _ ⟨rfl,rfl⟩)|((first|refine call0D (iIndexAt_ok _ _ _ ?_ ?_) ?_|refine qcall0D (iIndexAt_ok _ _ _ ?_ ?_) ⟨_,_,rfl,rfl⟩ ?_);(iterate 2 (exact sd));rintro _ _ ⟨rfl,rfl⟩)|((first|refine call0D (BCall.ofP (iOffsetAt_ok _ _ _ _ _ _ _ ?_ ?_ ?_ ?_)) ?_|refine qcall0D (BCall.ofP (iOffsetAt_ok _ _ _ _ _ _ _ ?_ ?_ ?_ ?_)) ⟨_,_,rfl,rfl⟩ ?_);(iterate 4 (exact sd));rintro _ _ ⟨rfl,rfl⟩)|((first|refine call0D (BCall.ofP (equalInts_ok _ _ _ _ ?_ ?_ ?_)) ?_|refine qcall0D (BCall.ofP (equalInts_ok _ _ _ _ ?_ ?_ ?_)) ⟨_,_,rfl,rfl⟩ ?_);(iterate 3 (exact sd));rintro _ _ ⟨rfl,rfl⟩)|((first|refine call0D (BCall.ofP (iCo_ok _ _ _ _ _ _ _ _ _ _ ?_ ?_ ?_ ?_ ?_)) ?_|refine qcall0D (BCall.ofP (iCo_ok _ _ _ _ _ _ _ _ _ _ ?_ ?_ ?_ ?_ ?_)) ⟨_,_,rfl,rfl⟩ ?_);(iterate 5 (exact sd));rintro _ _ ⟨rfl,rfl⟩))<;>(try simp (disch:=omega) only [push_cast,seval,hV,hMA,hB,hCe,hC,hsub,decide_true,Bool.and_self]))
 | (refine awp_ret ⟨.inr rfl,_,rfl,?_⟩; (try simp (disch := omega) only [push_cast,seval,hV,hMA,hB,hCe,hC,hsub,decide_true,Bool.and_self]))))
          refine awp_loop (fun k:Nat=>mkS [(3,.ref 48 3 0),(4,.rows true (IL T) T.length),(5,.ref 80 3 0),(9,.int .i64 a),(10,.int .i64 k)] [(48,[.int .i64 b,.rows true (IL sh) sh.length,.rows true (IL st) st.length]),(80,[.int .i64 0,.own 448 T.length 1,.own 449 C.length 1]),(448,IL T),(449,IL C)]) (fun k=>k=0) (fun k=>0) 0 rfl ?_ ?_
          · (refine Sub.of_lists ?_ ?_ ?_ ?_ ?_<;>simp [Vw.mkS,Vw.lk,Vw.hk,AV.inn,innL,innL_ints,innL_append,innL_rep,-List.map_set,-List.getD_eq_getElem?_getD])
          · rintro k rfl
            (repeat' (first
 | (first|refine awp_seq ?_|refine awp_block ?_)
 | ((first|refine awp_reg ?_|refine awp_condB ?_|refine awp_skip ?_|refine awp_exit ?_);simp (disch:=omega) only [push_cast,seval,l3r0,l3r1,l3r2,l3r3,l3r4,l3r5,l3r6,l3r7,l3r8,l3r9,l3r10,l3r11,l3r12,l3r13,l3r14,l3r15,l3r16,l3r17,l3r18,l3r19,l3r20,l3r21,l3r22,l3r23,hcn,hz,hco,decide_true,Bool.and_self])
 | ((first|refine condB_split (fun h=>?_) (fun h=>?_)|refine gIf_split (fun h=>?_) (fun h=>?_)|refine qIf_split (fun h=>?_) (fun h=>?_))<;>(try simp only [h])<;>(try simp only [bitvec_to_nat] at h)<;>(try simp only [h])<;>(first|(exfalso;omega)|(focus (exfalso;simp_all;done))|(simp (disch:=omega) only [push_cast,seval,hcn,hz,hco,decide_true,Bool.and_self])|skip))
 | ((first|refine callD_of false ?_|refine qcallD_of false ?_);simp (disch:=omega) only [push_cast,seval,hcn,hz,hco,decide_true,Bool.and_self])
 | ((first|(refine call0D (BCall.ofP (drawSpr_ok _ _ ?_ ?_)) ?_;(iterate 2 (exact sd));rintro _ _ ⟨⟨b,sh,st,T,hl1,hl2,hl3,rfl⟩,rfl⟩)|((first|refine call0D (iSpread_ok _ _ _ _ _ _ _ ?_ ?_ ?_ ?_) ?_|refine qcall0D (iSpread_ok _ _ _ _ _ _ _ ?_ ?_ ?_ ?_) ⟨_,_,rfl,rfl⟩ ?_);(iterate 4 (exact sd));rintro _ _ ⟨rfl,rfl⟩)|((first|refine call0D (sSpread_ok _ _ _ _ _ _ _ ?_ ?_ ?_ ?_) ?_|refine qcall0D (sSpread_ok _ _ _ _ _ _ _ ?_ ?_ ?_ ?_) ⟨_,_,rfl,rfl⟩ ?_);(iterate 4 (exact sd));rintro _ _ ⟨rfl,rfl⟩)|((first|refine call0D (BCall.ofP (equalViewL_ok _ _ _ _ _ _ _ _ _ _ ?_ ?_ ?_ ?_ ?_)) ?_|refine qcall0D (BCall.ofP (equalViewL_ok _ _ _ _ _ _ _ _ _ _ ?_ ?_ ?_ ?_ ?_)) ⟨_,_,rfl,rfl⟩ ?_);(iterate 5 (exact sd));rintro _ _ ⟨rfl,rfl⟩)|((first|refine call0D (BCall.ofP (iCountOf_ok _ _ ?_ ?_)) ?_|refine qcall0D (BCall.ofP (iCountOf_ok _ _ ?_ ?_)) ⟨_,_,rfl,rfl⟩ ?_);(iterate 2 (exact sd));rintro _ _ ⟨rfl,rfl⟩)|((first|refine call0D (iIndexAt_ok _ _ _ ?_ ?_) ?_|refine qcall0D (iIndexAt_ok _ _ _ ?_ ?_) ⟨_,_,rfl,rfl⟩ ?_);(iterate 2 (exact sd));rintro _ _ ⟨rfl,rfl⟩)|((first|refine call0D (BCall.ofP (iOffsetAt_ok _ _ _ _ _ _ _ ?_ ?_ ?_ ?_)) ?_|refine qcall0D (BCall.ofP (iOffsetAt_ok _ _ _ _ _ _ _ ?_ ?_ ?_ ?_)) ⟨_,_,rfl,rfl⟩ ?_);(iterate 4 (exact sd));rintro _ _ ⟨rfl,rfl⟩)|((first|refine call0D (BCall.ofP (equalInts_ok _ _ _ _ ?_ ?_ ?_)) ?_|refine qcall0D (BCall.ofP (equalInts_ok _ _ _ _ ?_ ?_ ?_)) ⟨_,_,rfl,rfl⟩ ?_);(iterate 3 (exact sd));rintro _ _ ⟨rfl,rfl⟩)|((first|refine call0D (BCall.ofP (iCo_ok _ _ _ _ _ _ _ _ _ _ ?_ ?_ ?_ ?_ ?_)) ?_|refine qcall0D (BCall.ofP (iCo_ok _ _ _ _ _ _ _ _ _ _ ?_ ?_ ?_ ?_ ?_)) ⟨_,_,rfl,rfl⟩ ?_);(iterate 5 (exact sd));rintro _ _ ⟨rfl,rfl⟩))<;>(try simp (disch:=omega) only [push_cast,seval,hcn,hz,hco,decide_true,Bool.and_self]))
 | (refine awp_ret ⟨.inr rfl,_,rfl,?_⟩; (try simp (disch := omega) only [push_cast,seval,hcn,hz,hco,decide_true,Bool.and_self]))))
            all_goals (try simp)
        · have hB:MVB true (stB T b)=b:=by show stB T b=b;unfold stB;rw [if_neg hz]
          have hC:MVL true (stE T (sprS sh st T))=sprS sh st T:=by show stE T _=_;unfold stE;rw [if_neg hz]
          have hB0:stB T b=b:=hB
          have hC0:stE T (sprS sh st T)=sprS sh st T:=hC
          rw [hB0,hC0] at hvs
          have hco:=spr_covers hv hT hA ha hvs
          have hstep:=fun k=>@spr_step b sh st T a hv hT hA ha hvs k
          have hEl:=sprS_length sh st T
          have hRi:∀ k:Nat,(k:Int) < pr T → (if vSh T=true ∧ 0 ≤ (k:Int) ∧ (k:Int) < pr T then unr T k else [])=unr T k:=fun k hk=>if_pos ⟨hT,by omega,hk⟩
          generalize hE:sprS sh st T=E at *
          have q1:(T.length ≤ 1099511627776 ∧ E.length ≤ 1099511627776) ∧ T.length ≤ 1099511627776 ∧ E.length ≤ 1099511627776:=by omega
          have q2:(sh.length ≤ 1099511627776 ∧ st.length ≤ 1099511627776) ∧ T.length ≤ 1099511627776 ∧ E.length ≤ 1099511627776:=by omega
          clear hvs hA hB0 hC0
          (repeat' (first
 | (first|refine awp_seq ?_|refine awp_block ?_)
 | ((first|refine awp_reg ?_|refine awp_condB ?_|refine awp_skip ?_|refine awp_exit ?_);simp (disch:=omega) only [push_cast,seval,l3r0,l3r1,l3r2,l3r3,l3r4,l3r5,l3r6,l3r7,l3r8,l3r9,l3r10,l3r11,l3r12,l3r13,l3r14,l3r15,l3r16,l3r17,l3r18,l3r19,l3r20,l3r21,l3r22,l3r23,hV,hMA,hB,hE,hC,hsub,decide_true,Bool.and_self])
 | ((first|refine condB_split (fun h=>?_) (fun h=>?_)|refine gIf_split (fun h=>?_) (fun h=>?_)|refine qIf_split (fun h=>?_) (fun h=>?_))<;>(try simp only [h])<;>(try simp only [bitvec_to_nat] at h)<;>(try simp only [h])<;>(first|(exfalso;omega)|(focus (exfalso;simp_all;done))|(simp (disch:=omega) only [push_cast,seval,hV,hMA,hB,hE,hC,hsub,decide_true,Bool.and_self])|skip))
 | ((first|refine callD_of false ?_|refine qcallD_of false ?_);simp (disch:=omega) only [push_cast,seval,hV,hMA,hB,hE,hC,hsub,decide_true,Bool.and_self])
 | ((first|(refine call0D (BCall.ofP (drawSpr_ok _ _ ?_ ?_)) ?_;(iterate 2 (exact sd));rintro _ _ ⟨⟨b,sh,st,T,hl1,hl2,hl3,rfl⟩,rfl⟩)|((first|refine call0D (iSpread_ok _ _ _ _ _ _ _ ?_ ?_ ?_ ?_) ?_|refine qcall0D (iSpread_ok _ _ _ _ _ _ _ ?_ ?_ ?_ ?_) ⟨_,_,rfl,rfl⟩ ?_);(iterate 4 (exact sd));rintro _ _ ⟨rfl,rfl⟩)|((first|refine call0D (sSpread_ok _ _ _ _ _ _ _ ?_ ?_ ?_ ?_) ?_|refine qcall0D (sSpread_ok _ _ _ _ _ _ _ ?_ ?_ ?_ ?_) ⟨_,_,rfl,rfl⟩ ?_);(iterate 4 (exact sd));rintro _ _ ⟨rfl,rfl⟩)|((first|refine call0D (BCall.ofP (equalViewL_ok _ _ _ _ _ _ _ _ _ _ ?_ ?_ ?_ ?_ ?_)) ?_|refine qcall0D (BCall.ofP (equalViewL_ok _ _ _ _ _ _ _ _ _ _ ?_ ?_ ?_ ?_ ?_)) ⟨_,_,rfl,rfl⟩ ?_);(iterate 5 (exact sd));rintro _ _ ⟨rfl,rfl⟩)|((first|refine call0D (BCall.ofP (iCountOf_ok _ _ ?_ ?_)) ?_|refine qcall0D (BCall.ofP (iCountOf_ok _ _ ?_ ?_)) ⟨_,_,rfl,rfl⟩ ?_);(iterate 2 (exact sd));rintro _ _ ⟨rfl,rfl⟩)|((first|refine call0D (iIndexAt_ok _ _ _ ?_ ?_) ?_|refine qcall0D (iIndexAt_ok _ _ _ ?_ ?_) ⟨_,_,rfl,rfl⟩ ?_);(iterate 2 (exact sd));rintro _ _ ⟨rfl,rfl⟩)|((first|refine call0D (BCall.ofP (iOffsetAt_ok _ _ _ _ _ _ _ ?_ ?_ ?_ ?_)) ?_|refine qcall0D (BCall.ofP (iOffsetAt_ok _ _ _ _ _ _ _ ?_ ?_ ?_ ?_)) ⟨_,_,rfl,rfl⟩ ?_);(iterate 4 (exact sd));rintro _ _ ⟨rfl,rfl⟩)|((first|refine call0D (BCall.ofP (equalInts_ok _ _ _ _ ?_ ?_ ?_)) ?_|refine qcall0D (BCall.ofP (equalInts_ok _ _ _ _ ?_ ?_ ?_)) ⟨_,_,rfl,rfl⟩ ?_);(iterate 3 (exact sd));rintro _ _ ⟨rfl,rfl⟩)|((first|refine call0D (BCall.ofP (iCo_ok _ _ _ _ _ _ _ _ _ _ ?_ ?_ ?_ ?_ ?_)) ?_|refine qcall0D (BCall.ofP (iCo_ok _ _ _ _ _ _ _ _ _ _ ?_ ?_ ?_ ?_ ?_)) ⟨_,_,rfl,rfl⟩ ?_);(iterate 5 (exact sd));rintro _ _ ⟨rfl,rfl⟩))<;>(try simp (disch:=omega) only [push_cast,seval,hV,hMA,hB,hE,hC,hsub,decide_true,Bool.and_self]))
 | (refine awp_ret ⟨.inr rfl,_,rfl,?_⟩; (try simp (disch := omega) only [push_cast,seval,hV,hMA,hB,hE,hC,hsub,decide_true,Bool.and_self]))))
          refine awp_loop (fun k:Nat=>mkS [(3,.ref 48 3 0),(4,.rows true (IL T) T.length),(5,.ref 80 3 0),(9,.int .i64 a),(10,.int .i64 k)] [(48,[.int .i64 b,.rows true (IL sh) sh.length,.rows true (IL st) st.length]),(80,[.int .i64 b,.own 448 T.length 1,.own 449 E.length 1]),(448,IL T),(449,IL E)]) (fun k=>(k:Int) ≤ pr T) (fun k=>(pr T).toNat - k) 0 (by omega) ?_ ?_
          · (refine Sub.of_lists ?_ ?_ ?_ ?_ ?_<;>simp [Vw.mkS,Vw.lk,Vw.hk,AV.inn,innL,innL_ints,innL_append,innL_rep,-List.map_set,-List.getD_eq_getElem?_getD])
          · intro k hk
            by_cases hlt:(k:Int) < pr T
            · obtain ⟨z1,z2,z3,z4,z5⟩:=hstep k hlt
              have hri:=hRi k hlt
              clear hstep hRi
              generalize hU:unr T k=U at *
              have hri2:(if vSh T=true ∧ 0 ≤ (k:Int) then U else [])=U:=if_pos ⟨hT,by omega⟩
              have q3:(T.length ≤ 1099511627776 ∧ E.length ≤ 1099511627776) ∧ U.length ≤ 1099511627776:=by omega
              have hUa:U.length - a=sh.length:=by omega
              have hUi:(U.length:Int) - a=sh.length:=by omega
              have haU:a ≤ U.length:=by omega
              have hz0:zIx sh a U 0=U:=rfl
              obtain ⟨Z,hZ⟩:∃ Z:Nat → List Int,∀ i,Z i=zIx sh a U i:=⟨_,fun _=>rfl⟩
              have hZl:∀ i,(Z i).length=a + sh.length:=fun i=>by rw [hZ,zIx_length];exact z2
              have hZ0:Z 0=U:=by rw [hZ];rfl
              rw [← hZ] at z4 z5
              obtain ⟨X,hX⟩:∃ X,((Z sh.length).drop a).take sh.length=X:=⟨_,rfl⟩
              rw [hX] at z4 z5
              have hXl:X.length=sh.length:=by rw [← hX,List.length_take,List.length_drop,hZl];omega
              have hXt:List.take sh.length (List.drop a ((Z sh.length).map (AV.int .i64)))=X.map (AV.int .i64):=by rw [← List.map_drop,← List.map_take,hX]
              (repeat' (first
 | (first|refine awp_seq ?_|refine awp_block ?_)
 | ((first|refine awp_reg ?_|refine awp_condB ?_|refine awp_skip ?_|refine awp_exit ?_);simp (disch:=omega) only [push_cast,seval,l3r0,l3r1,l3r2,l3r3,l3r4,l3r5,l3r6,l3r7,l3r8,l3r9,l3r10,l3r11,l3r12,l3r13,l3r14,l3r15,l3r16,l3r17,l3r18,l3r19,l3r20,l3r21,l3r22,l3r23,hcn,hlt,hri,hU,hri2,z3,hUa,hUi,haU])
 | ((first|refine condB_split (fun h=>?_) (fun h=>?_)|refine gIf_split (fun h=>?_) (fun h=>?_)|refine qIf_split (fun h=>?_) (fun h=>?_))<;>(try simp only [h])<;>(try simp only [bitvec_to_nat] at h)<;>(try simp only [h])<;>(first|(exfalso;omega)|(focus (exfalso;simp_all;done))|(simp (disch:=omega) only [push_cast,seval,hcn,hlt,hri,hU,hri2,z3,hUa,hUi,haU])|skip))
 | ((first|refine callD_of false ?_|refine qcallD_of false ?_);simp (disch:=omega) only [push_cast,seval,hcn,hlt,hri,hU,hri2,z3,hUa,hUi,haU])
 | ((first|(refine call0D (BCall.ofP (drawSpr_ok _ _ ?_ ?_)) ?_;(iterate 2 (exact sd));rintro _ _ ⟨⟨b,sh,st,T,hl1,hl2,hl3,rfl⟩,rfl⟩)|((first|refine call0D (iSpread_ok _ _ _ _ _ _ _ ?_ ?_ ?_ ?_) ?_|refine qcall0D (iSpread_ok _ _ _ _ _ _ _ ?_ ?_ ?_ ?_) ⟨_,_,rfl,rfl⟩ ?_);(iterate 4 (exact sd));rintro _ _ ⟨rfl,rfl⟩)|((first|refine call0D (sSpread_ok _ _ _ _ _ _ _ ?_ ?_ ?_ ?_) ?_|refine qcall0D (sSpread_ok _ _ _ _ _ _ _ ?_ ?_ ?_ ?_) ⟨_,_,rfl,rfl⟩ ?_);(iterate 4 (exact sd));rintro _ _ ⟨rfl,rfl⟩)|((first|refine call0D (BCall.ofP (equalViewL_ok _ _ _ _ _ _ _ _ _ _ ?_ ?_ ?_ ?_ ?_)) ?_|refine qcall0D (BCall.ofP (equalViewL_ok _ _ _ _ _ _ _ _ _ _ ?_ ?_ ?_ ?_ ?_)) ⟨_,_,rfl,rfl⟩ ?_);(iterate 5 (exact sd));rintro _ _ ⟨rfl,rfl⟩)|((first|refine call0D (BCall.ofP (iCountOf_ok _ _ ?_ ?_)) ?_|refine qcall0D (BCall.ofP (iCountOf_ok _ _ ?_ ?_)) ⟨_,_,rfl,rfl⟩ ?_);(iterate 2 (exact sd));rintro _ _ ⟨rfl,rfl⟩)|((first|refine call0D (iIndexAt_ok _ _ _ ?_ ?_) ?_|refine qcall0D (iIndexAt_ok _ _ _ ?_ ?_) ⟨_,_,rfl,rfl⟩ ?_);(iterate 2 (exact sd));rintro _ _ ⟨rfl,rfl⟩)|((first|refine call0D (BCall.ofP (iOffsetAt_ok _ _ _ _ _ _ _ ?_ ?_ ?_ ?_)) ?_|refine qcall0D (BCall.ofP (iOffsetAt_ok _ _ _ _ _ _ _ ?_ ?_ ?_ ?_)) ⟨_,_,rfl,rfl⟩ ?_);(iterate 4 (exact sd));rintro _ _ ⟨rfl,rfl⟩)|((first|refine call0D (BCall.ofP (equalInts_ok _ _ _ _ ?_ ?_ ?_)) ?_|refine qcall0D (BCall.ofP (equalInts_ok _ _ _ _ ?_ ?_ ?_)) ⟨_,_,rfl,rfl⟩ ?_);(iterate 3 (exact sd));rintro _ _ ⟨rfl,rfl⟩)|((first|refine call0D (BCall.ofP (iCo_ok _ _ _ _ _ _ _ _ _ _ ?_ ?_ ?_ ?_ ?_)) ?_|refine qcall0D (BCall.ofP (iCo_ok _ _ _ _ _ _ _ _ _ _ ?_ ?_ ?_ ?_ ?_)) ⟨_,_,rfl,rfl⟩ ?_);(iterate 5 (exact sd));rintro _ _ ⟨rfl,rfl⟩))<;>(try simp (disch:=omega) only [push_cast,seval,hcn,hlt,hri,hU,hri2,z3,hUa,hUi,haU]))
 | (refine awp_ret ⟨.inr rfl,_,rfl,?_⟩; (try simp (disch := omega) only [push_cast,seval,hcn,hlt,hri,hU,hri2,z3,hUa,hUi,haU]))))
              refine awp_loop (fun i:Nat=>mkS [(3,.ref 48 3 0),(4,.rows true (IL T) T.length),(5,.ref 80 3 0),(9,.int .i64 a),(10,.int .i64 k),(11,.osl 1152 U.length a sh.length 1 sh.length),(12,.int .i64 (oaV b T E U)),(14,.int .i64 i)] [(1152,IL (Z i)),(48,[.int .i64 b,.rows true (IL sh) sh.length,.rows true (IL st) st.length]),(80,[.int .i64 b,.own 448 T.length 1,.own 449 E.length 1]),(448,IL T),(449,IL E)]) (fun i=>i ≤ sh.length) (fun i=>sh.length - i) 0 (Nat.zero_le _) ?_ ?_
              · (refine Sub.of_lists ?_ ?_ ?_ ?_ ?_<;>simp [Vw.mkS,Vw.lk,Vw.hk,AV.inn,innL,innL_ints,innL_append,innL_rep,-List.map_set,-List.getD_eq_getElem?_getD,hZ0])
              · intro i hi
                have hZi:=hZl i
                by_cases hin:i < sh.length
                · have hin':(i:Int) < sh.length:=by omega
                  by_cases h1:sh.getD i 0=1
                  · have e9:Z (i + 1)=(Z i).set (a + i) 0:=by rw [hZ,hZ];simp only [zIx];rw [if_pos h1]
                    clear hZ hX hXt hZl
                    (repeat' (first
 | (first|refine awp_seq ?_|refine awp_block ?_)
 | ((first|refine awp_reg ?_|refine awp_condB ?_|refine awp_skip ?_|refine awp_exit ?_);simp (disch:=omega) only [push_cast,seval,l3r0,l3r1,l3r2,l3r3,l3r4,l3r5,l3r6,l3r7,l3r8,l3r9,l3r10,l3r11,l3r12,l3r13,l3r14,l3r15,l3r16,l3r17,l3r18,l3r19,l3r20,l3r21,l3r22,l3r23,hin',h1,hZi,z2,List.length_map])
 | ((first|refine condB_split (fun h=>?_) (fun h=>?_)|refine gIf_split (fun h=>?_) (fun h=>?_)|refine qIf_split (fun h=>?_) (fun h=>?_))<;>(try simp only [h])<;>(try simp only [bitvec_to_nat] at h)<;>(try simp only [h])<;>(first|(exfalso;omega)|(focus (exfalso;simp_all;done))|(simp (disch:=omega) only [push_cast,seval,hin',h1,hZi,z2,List.length_map])|skip))
 | ((first|refine callD_of false ?_|refine qcallD_of false ?_);simp (disch:=omega) only [push_cast,seval,hin',h1,hZi,z2,List.length_map])
 | ((first|(refine call0D (BCall.ofP (drawSpr_ok _ _ ?_ ?_)) ?_;(iterate 2 (exact sd));rintro _ _ ⟨⟨b,sh,st,T,hl1,hl2,hl3,rfl⟩,rfl⟩)|((first|refine call0D (iSpread_ok _ _ _ _ _ _ _ ?_ ?_ ?_ ?_) ?_|refine qcall0D (iSpread_ok _ _ _ _ _ _ _ ?_ ?_ ?_ ?_) ⟨_,_,rfl,rfl⟩ ?_);(iterate 4 (exact sd));rintro _ _ ⟨rfl,rfl⟩)|((first|refine call0D (sSpread_ok _ _ _ _ _ _ _ ?_ ?_ ?_ ?_) ?_|refine qcall0D (sSpread_ok _ _ _ _ _ _ _ ?_ ?_ ?_ ?_) ⟨_,_,rfl,rfl⟩ ?_);(iterate 4 (exact sd));rintro _ _ ⟨rfl,rfl⟩)|((first|refine call0D (BCall.ofP (equalViewL_ok _ _ _ _ _ _ _ _ _ _ ?_ ?_ ?_ ?_ ?_)) ?_|refine qcall0D (BCall.ofP (equalViewL_ok _ _ _ _ _ _ _ _ _ _ ?_ ?_ ?_ ?_ ?_)) ⟨_,_,rfl,rfl⟩ ?_);(iterate 5 (exact sd));rintro _ _ ⟨rfl,rfl⟩)|((first|refine call0D (BCall.ofP (iCountOf_ok _ _ ?_ ?_)) ?_|refine qcall0D (BCall.ofP (iCountOf_ok _ _ ?_ ?_)) ⟨_,_,rfl,rfl⟩ ?_);(iterate 2 (exact sd));rintro _ _ ⟨rfl,rfl⟩)|((first|refine call0D (iIndexAt_ok _ _ _ ?_ ?_) ?_|refine qcall0D (iIndexAt_ok _ _ _ ?_ ?_) ⟨_,_,rfl,rfl⟩ ?_);(iterate 2 (exact sd));rintro _ _ ⟨rfl,rfl⟩)|((first|refine call0D (BCall.ofP (iOffsetAt_ok _ _ _ _ _ _ _ ?_ ?_ ?_ ?_)) ?_|refine qcall0D (BCall.ofP (iOffsetAt_ok _ _ _ _ _ _ _ ?_ ?_ ?_ ?_)) ⟨_,_,rfl,rfl⟩ ?_);(iterate 4 (exact sd));rintro _ _ ⟨rfl,rfl⟩)|((first|refine call0D (BCall.ofP (equalInts_ok _ _ _ _ ?_ ?_ ?_)) ?_|refine qcall0D (BCall.ofP (equalInts_ok _ _ _ _ ?_ ?_ ?_)) ⟨_,_,rfl,rfl⟩ ?_);(iterate 3 (exact sd));rintro _ _ ⟨rfl,rfl⟩)|((first|refine call0D (BCall.ofP (iCo_ok _ _ _ _ _ _ _ _ _ _ ?_ ?_ ?_ ?_ ?_)) ?_|refine qcall0D (BCall.ofP (iCo_ok _ _ _ _ _ _ _ _ _ _ ?_ ?_ ?_ ?_ ?_)) ⟨_,_,rfl,rfl⟩ ?_);(iterate 5 (exact sd));rintro _ _ ⟨rfl,rfl⟩))<;>(try simp (disch:=omega) only [push_cast,seval,hin',h1,hZi,z2,List.length_map]))
 | (refine awp_ret ⟨.inr rfl,_,rfl,?_⟩; (try simp (disch := omega) only [push_cast,seval,hin',h1,hZi,z2,List.length_map]))))
                    refine ⟨i + 1,by omega,by omega,?_⟩
                    (refine Sub.of_lists ?_ ?_ ?_ ?_ ?_<;>simp [Vw.mkS,Vw.lk,Vw.hk,AV.inn,innL,innL_ints,innL_append,innL_rep,-List.map_set,-List.getD_eq_getElem?_getD,IL_set,e9])
                  · have e9:Z (i + 1)=Z i:=by rw [hZ,hZ];simp only [zIx];rw [if_neg h1]
                    clear hZ hX hXt hZl
                    (repeat' (first
 | (first|refine awp_seq ?_|refine awp_block ?_)
 | ((first|refine awp_reg ?_|refine awp_condB ?_|refine awp_skip ?_|refine awp_exit ?_);simp (disch:=omega) only [push_cast,seval,l3r0,l3r1,l3r2,l3r3,l3r4,l3r5,l3r6,l3r7,l3r8,l3r9,l3r10,l3r11,l3r12,l3r13,l3r14,l3r15,l3r16,l3r17,l3r18,l3r19,l3r20,l3r21,l3r22,l3r23,hin',h1,hZi,z2,List.length_map])
 | ((first|refine condB_split (fun h=>?_) (fun h=>?_)|refine gIf_split (fun h=>?_) (fun h=>?_)|refine qIf_split (fun h=>?_) (fun h=>?_))<;>(try simp only [h])<;>(try simp only [bitvec_to_nat] at h)<;>(try simp only [h])<;>(first|(exfalso;omega)|(focus (exfalso;simp_all;done))|(simp (disch:=omega) only [push_cast,seval,hin',h1,hZi,z2,List.length_map])|skip))
 | ((first|refine callD_of false ?_|refine qcallD_of false ?_);simp (disch:=omega) only [push_cast,seval,hin',h1,hZi,z2,List.length_map])
 | ((first|(refine call0D (BCall.ofP (drawSpr_ok _ _ ?_ ?_)) ?_;(iterate 2 (exact sd));rintro _ _ ⟨⟨b,sh,st,T,hl1,hl2,hl3,rfl⟩,rfl⟩)|((first|refine call0D (iSpread_ok _ _ _ _ _ _ _ ?_ ?_ ?_ ?_) ?_|refine qcall0D (iSpread_ok _ _ _ _ _ _ _ ?_ ?_ ?_ ?_) ⟨_,_,rfl,rfl⟩ ?_);(iterate 4 (exact sd));rintro _ _ ⟨rfl,rfl⟩)|((first|refine call0D (sSpread_ok _ _ _ _ _ _ _ ?_ ?_ ?_ ?_) ?_|refine qcall0D (sSpread_ok _ _ _ _ _ _ _ ?_ ?_ ?_ ?_) ⟨_,_,rfl,rfl⟩ ?_);(iterate 4 (exact sd));rintro _ _ ⟨rfl,rfl⟩)|((first|refine call0D (BCall.ofP (equalViewL_ok _ _ _ _ _ _ _ _ _ _ ?_ ?_ ?_ ?_ ?_)) ?_|refine qcall0D (BCall.ofP (equalViewL_ok _ _ _ _ _ _ _ _ _ _ ?_ ?_ ?_ ?_ ?_)) ⟨_,_,rfl,rfl⟩ ?_);(iterate 5 (exact sd));rintro _ _ ⟨rfl,rfl⟩)|((first|refine call0D (BCall.ofP (iCountOf_ok _ _ ?_ ?_)) ?_|refine qcall0D (BCall.ofP (iCountOf_ok _ _ ?_ ?_)) ⟨_,_,rfl,rfl⟩ ?_);(iterate 2 (exact sd));rintro _ _ ⟨rfl,rfl⟩)|((first|refine call0D (iIndexAt_ok _ _ _ ?_ ?_) ?_|refine qcall0D (iIndexAt_ok _ _ _ ?_ ?_) ⟨_,_,rfl,rfl⟩ ?_);(iterate 2 (exact sd));rintro _ _ ⟨rfl,rfl⟩)|((first|refine call0D (BCall.ofP (iOffsetAt_ok _ _ _ _ _ _ _ ?_ ?_ ?_ ?_)) ?_|refine qcall0D (BCall.ofP (iOffsetAt_ok _ _ _ _ _ _ _ ?_ ?_ ?_ ?_)) ⟨_,_,rfl,rfl⟩ ?_);(iterate 4 (exact sd));rintro _ _ ⟨rfl,rfl⟩)|((first|refine call0D (BCall.ofP (equalInts_ok _ _ _ _ ?_ ?_ ?_)) ?_|refine qcall0D (BCall.ofP (equalInts_ok _ _ _ _ ?_ ?_ ?_)) ⟨_,_,rfl,rfl⟩ ?_);(iterate 3 (exact sd));rintro _ _ ⟨rfl,rfl⟩)|((first|refine call0D (BCall.ofP (iCo_ok _ _ _ _ _ _ _ _ _ _ ?_ ?_ ?_ ?_ ?_)) ?_|refine qcall0D (BCall.ofP (iCo_ok _ _ _ _ _ _ _ _ _ _ ?_ ?_ ?_ ?_ ?_)) ⟨_,_,rfl,rfl⟩ ?_);(iterate 5 (exact sd));rintro _ _ ⟨rfl,rfl⟩))<;>(try simp (disch:=omega) only [push_cast,seval,hin',h1,hZi,z2,List.length_map]))
 | (refine awp_ret ⟨.inr rfl,_,rfl,?_⟩; (try simp (disch := omega) only [push_cast,seval,hin',h1,hZi,z2,List.length_map]))))
                    refine ⟨i + 1,by omega,by omega,?_⟩
                    (refine Sub.of_lists ?_ ?_ ?_ ?_ ?_<;>simp [Vw.mkS,Vw.lk,Vw.hk,AV.inn,innL,innL_ints,innL_append,innL_rep,-List.map_set,-List.getD_eq_getElem?_getD,IL_set,e9])
                · have ei:i=sh.length:=by omega
                  subst ei
                  have hin':¬ (sh.length:Int) < sh.length:=by omega
                  clear hZ hZl hX
                  (repeat' (first
 | (first|refine awp_seq ?_|refine awp_block ?_)
 | ((first|refine awp_reg ?_|refine awp_condB ?_|refine awp_skip ?_|refine awp_exit ?_);simp (disch:=omega) only [push_cast,seval,l3r0,l3r1,l3r2,l3r3,l3r4,l3r5,l3r6,l3r7,l3r8,l3r9,l3r10,l3r11,l3r12,l3r13,l3r14,l3r15,l3r16,l3r17,l3r18,l3r19,l3r20,l3r21,l3r22,l3r23,hZi,z2,hXt,z4,z5,Nat.mul_one,List.length_map,decide_true,ne_eq,not_true_eq_false,decide_false])
 | ((first|refine condB_split (fun h=>?_) (fun h=>?_)|refine gIf_split (fun h=>?_) (fun h=>?_)|refine qIf_split (fun h=>?_) (fun h=>?_))<;>(try simp only [h])<;>(try simp only [bitvec_to_nat] at h)<;>(try simp only [h])<;>(first|(exfalso;omega)|(focus (exfalso;simp_all;done))|(simp (disch:=omega) only [push_cast,seval,hZi,z2,hXt,z4,z5,Nat.mul_one,List.length_map,decide_true,ne_eq,not_true_eq_false,decide_false])|skip))
 | ((first|refine callD_of false ?_|refine qcallD_of false ?_);simp (disch:=omega) only [push_cast,seval,hZi,z2,hXt,z4,z5,Nat.mul_one,List.length_map,decide_true,ne_eq,not_true_eq_false,decide_false])
 | ((first|(refine call0D (BCall.ofP (drawSpr_ok _ _ ?_ ?_)) ?_;(iterate 2 (exact sd));rintro _ _ ⟨⟨b,sh,st,T,hl1,hl2,hl3,rfl⟩,rfl⟩)|((first|refine call0D (iSpread_ok _ _ _ _ _ _ _ ?_ ?_ ?_ ?_) ?_|refine qcall0D (iSpread_ok _ _ _ _ _ _ _ ?_ ?_ ?_ ?_) ⟨_,_,rfl,rfl⟩ ?_);(iterate 4 (exact sd));rintro _ _ ⟨rfl,rfl⟩)|((first|refine call0D (sSpread_ok _ _ _ _ _ _ _ ?_ ?_ ?_ ?_) ?_|refine qcall0D (sSpread_ok _ _ _ _ _ _ _ ?_ ?_ ?_ ?_) ⟨_,_,rfl,rfl⟩ ?_);(iterate 4 (exact sd));rintro _ _ ⟨rfl,rfl⟩)|((first|refine call0D (BCall.ofP (equalViewL_ok _ _ _ _ _ _ _ _ _ _ ?_ ?_ ?_ ?_ ?_)) ?_|refine qcall0D (BCall.ofP (equalViewL_ok _ _ _ _ _ _ _ _ _ _ ?_ ?_ ?_ ?_ ?_)) ⟨_,_,rfl,rfl⟩ ?_);(iterate 5 (exact sd));rintro _ _ ⟨rfl,rfl⟩)|((first|refine call0D (BCall.ofP (iCountOf_ok _ _ ?_ ?_)) ?_|refine qcall0D (BCall.ofP (iCountOf_ok _ _ ?_ ?_)) ⟨_,_,rfl,rfl⟩ ?_);(iterate 2 (exact sd));rintro _ _ ⟨rfl,rfl⟩)|((first|refine call0D (iIndexAt_ok _ _ _ ?_ ?_) ?_|refine qcall0D (iIndexAt_ok _ _ _ ?_ ?_) ⟨_,_,rfl,rfl⟩ ?_);(iterate 2 (exact sd));rintro _ _ ⟨rfl,rfl⟩)|((first|refine call0D (BCall.ofP (iOffsetAt_ok _ _ _ _ _ _ _ ?_ ?_ ?_ ?_)) ?_|refine qcall0D (BCall.ofP (iOffsetAt_ok _ _ _ _ _ _ _ ?_ ?_ ?_ ?_)) ⟨_,_,rfl,rfl⟩ ?_);(iterate 4 (exact sd));rintro _ _ ⟨rfl,rfl⟩)|((first|refine call0D (BCall.ofP (equalInts_ok _ _ _ _ ?_ ?_ ?_)) ?_|refine qcall0D (BCall.ofP (equalInts_ok _ _ _ _ ?_ ?_ ?_)) ⟨_,_,rfl,rfl⟩ ?_);(iterate 3 (exact sd));rintro _ _ ⟨rfl,rfl⟩)|((first|refine call0D (BCall.ofP (iCo_ok _ _ _ _ _ _ _ _ _ _ ?_ ?_ ?_ ?_ ?_)) ?_|refine qcall0D (BCall.ofP (iCo_ok _ _ _ _ _ _ _ _ _ _ ?_ ?_ ?_ ?_ ?_)) ⟨_,_,rfl,rfl⟩ ?_);(iterate 5 (exact sd));rintro _ _ ⟨rfl,rfl⟩))<;>(try simp (disch:=omega) only [push_cast,seval,hZi,z2,hXt,z4,z5,Nat.mul_one,List.length_map,decide_true,ne_eq,not_true_eq_false,decide_false]))
 | (refine awp_ret ⟨.inr rfl,_,rfl,?_⟩; (try simp (disch := omega) only [push_cast,seval,hZi,z2,hXt,z4,z5,Nat.mul_one,List.length_map,decide_true,ne_eq,not_true_eq_false,decide_false]))))
                  all_goals first
                    | (refine ⟨k + 1,by omega,by omega,?_⟩
                       focus ((refine Sub.of_lists ?_ ?_ ?_ ?_ ?_<;>simp [Vw.mkS,Vw.lk,Vw.hk,AV.inn,innL,innL_ints,innL_append,innL_rep,-List.map_set,-List.getD_eq_getElem?_getD]);done))
                    | skip
            · have hlt':¬ (k:Int) < pr T:=hlt
              clear hstep hRi
              (repeat' (first
 | (first|refine awp_seq ?_|refine awp_block ?_)
 | ((first|refine awp_reg ?_|refine awp_condB ?_|refine awp_skip ?_|refine awp_exit ?_);simp (disch:=omega) only [push_cast,seval,l3r0,l3r1,l3r2,l3r3,l3r4,l3r5,l3r6,l3r7,l3r8,l3r9,l3r10,l3r11,l3r12,l3r13,l3r14,l3r15,l3r16,l3r17,l3r18,l3r19,l3r20,l3r21,l3r22,l3r23,hcn,hlt',hco,decide_true,Bool.and_self])
 | ((first|refine condB_split (fun h=>?_) (fun h=>?_)|refine gIf_split (fun h=>?_) (fun h=>?_)|refine qIf_split (fun h=>?_) (fun h=>?_))<;>(try simp only [h])<;>(try simp only [bitvec_to_nat] at h)<;>(try simp only [h])<;>(first|(exfalso;omega)|(focus (exfalso;simp_all;done))|(simp (disch:=omega) only [push_cast,seval,hcn,hlt',hco,decide_true,Bool.and_self])|skip))
 | ((first|refine callD_of false ?_|refine qcallD_of false ?_);simp (disch:=omega) only [push_cast,seval,hcn,hlt',hco,decide_true,Bool.and_self])
 | ((first|(refine call0D (BCall.ofP (drawSpr_ok _ _ ?_ ?_)) ?_;(iterate 2 (exact sd));rintro _ _ ⟨⟨b,sh,st,T,hl1,hl2,hl3,rfl⟩,rfl⟩)|((first|refine call0D (iSpread_ok _ _ _ _ _ _ _ ?_ ?_ ?_ ?_) ?_|refine qcall0D (iSpread_ok _ _ _ _ _ _ _ ?_ ?_ ?_ ?_) ⟨_,_,rfl,rfl⟩ ?_);(iterate 4 (exact sd));rintro _ _ ⟨rfl,rfl⟩)|((first|refine call0D (sSpread_ok _ _ _ _ _ _ _ ?_ ?_ ?_ ?_) ?_|refine qcall0D (sSpread_ok _ _ _ _ _ _ _ ?_ ?_ ?_ ?_) ⟨_,_,rfl,rfl⟩ ?_);(iterate 4 (exact sd));rintro _ _ ⟨rfl,rfl⟩)|((first|refine call0D (BCall.ofP (equalViewL_ok _ _ _ _ _ _ _ _ _ _ ?_ ?_ ?_ ?_ ?_)) ?_|refine qcall0D (BCall.ofP (equalViewL_ok _ _ _ _ _ _ _ _ _ _ ?_ ?_ ?_ ?_ ?_)) ⟨_,_,rfl,rfl⟩ ?_);(iterate 5 (exact sd));rintro _ _ ⟨rfl,rfl⟩)|((first|refine call0D (BCall.ofP (iCountOf_ok _ _ ?_ ?_)) ?_|refine qcall0D (BCall.ofP (iCountOf_ok _ _ ?_ ?_)) ⟨_,_,rfl,rfl⟩ ?_);(iterate 2 (exact sd));rintro _ _ ⟨rfl,rfl⟩)|((first|refine call0D (iIndexAt_ok _ _ _ ?_ ?_) ?_|refine qcall0D (iIndexAt_ok _ _ _ ?_ ?_) ⟨_,_,rfl,rfl⟩ ?_);(iterate 2 (exact sd));rintro _ _ ⟨rfl,rfl⟩)|((first|refine call0D (BCall.ofP (iOffsetAt_ok _ _ _ _ _ _ _ ?_ ?_ ?_ ?_)) ?_|refine qcall0D (BCall.ofP (iOffsetAt_ok _ _ _ _ _ _ _ ?_ ?_ ?_ ?_)) ⟨_,_,rfl,rfl⟩ ?_);(iterate 4 (exact sd));rintro _ _ ⟨rfl,rfl⟩)|((first|refine call0D (BCall.ofP (equalInts_ok _ _ _ _ ?_ ?_ ?_)) ?_|refine qcall0D (BCall.ofP (equalInts_ok _ _ _ _ ?_ ?_ ?_)) ⟨_,_,rfl,rfl⟩ ?_);(iterate 3 (exact sd));rintro _ _ ⟨rfl,rfl⟩)|((first|refine call0D (BCall.ofP (iCo_ok _ _ _ _ _ _ _ _ _ _ ?_ ?_ ?_ ?_ ?_)) ?_|refine qcall0D (BCall.ofP (iCo_ok _ _ _ _ _ _ _ _ _ _ ?_ ?_ ?_ ?_ ?_)) ⟨_,_,rfl,rfl⟩ ?_);(iterate 5 (exact sd));rintro _ _ ⟨rfl,rfl⟩))<;>(try simp (disch:=omega) only [push_cast,seval,hcn,hlt',hco,decide_true,Bool.and_self]))
 | (refine awp_ret ⟨.inr rfl,_,rfl,?_⟩; (try simp (disch := omega) only [push_cast,seval,hcn,hlt',hco,decide_true,Bool.and_self]))))
              all_goals (try simp)
  · (repeat' (first
 | (first|refine awp_seq ?_|refine awp_block ?_)
 | ((first|refine awp_reg ?_|refine awp_condB ?_|refine awp_skip ?_|refine awp_exit ?_);simp (disch:=omega) only [push_cast,seval,l3r0,l3r1,l3r2,l3r3,l3r4,l3r5,l3r6,l3r7,l3r8,l3r9,l3r10,l3r11,l3r12,l3r13,l3r14,l3r15,l3r16,l3r17,l3r18,l3r19,l3r20,l3r21,l3r22,l3r23])
 | ((first|refine condB_split (fun h=>?_) (fun h=>?_)|refine gIf_split (fun h=>?_) (fun h=>?_)|refine qIf_split (fun h=>?_) (fun h=>?_))<;>(try simp only [h])<;>(try simp only [bitvec_to_nat] at h)<;>(try simp only [h])<;>(first|(exfalso;omega)|(focus (exfalso;simp_all;done))|(simp (disch:=omega) only [push_cast,seval])|skip))
 | ((first|refine callD_of false ?_|refine qcallD_of false ?_);simp (disch:=omega) only [push_cast,seval])
 | ((first|(refine call0D (BCall.ofP (drawSpr_ok _ _ ?_ ?_)) ?_;(iterate 2 (exact sd));rintro _ _ ⟨⟨b,sh,st,T,hl1,hl2,hl3,rfl⟩,rfl⟩)|((first|refine call0D (iSpread_ok _ _ _ _ _ _ _ ?_ ?_ ?_ ?_) ?_|refine qcall0D (iSpread_ok _ _ _ _ _ _ _ ?_ ?_ ?_ ?_) ⟨_,_,rfl,rfl⟩ ?_);(iterate 4 (exact sd));rintro _ _ ⟨rfl,rfl⟩)|((first|refine call0D (sSpread_ok _ _ _ _ _ _ _ ?_ ?_ ?_ ?_) ?_|refine qcall0D (sSpread_ok _ _ _ _ _ _ _ ?_ ?_ ?_ ?_) ⟨_,_,rfl,rfl⟩ ?_);(iterate 4 (exact sd));rintro _ _ ⟨rfl,rfl⟩)|((first|refine call0D (BCall.ofP (equalViewL_ok _ _ _ _ _ _ _ _ _ _ ?_ ?_ ?_ ?_ ?_)) ?_|refine qcall0D (BCall.ofP (equalViewL_ok _ _ _ _ _ _ _ _ _ _ ?_ ?_ ?_ ?_ ?_)) ⟨_,_,rfl,rfl⟩ ?_);(iterate 5 (exact sd));rintro _ _ ⟨rfl,rfl⟩)|((first|refine call0D (BCall.ofP (iCountOf_ok _ _ ?_ ?_)) ?_|refine qcall0D (BCall.ofP (iCountOf_ok _ _ ?_ ?_)) ⟨_,_,rfl,rfl⟩ ?_);(iterate 2 (exact sd));rintro _ _ ⟨rfl,rfl⟩)|((first|refine call0D (iIndexAt_ok _ _ _ ?_ ?_) ?_|refine qcall0D (iIndexAt_ok _ _ _ ?_ ?_) ⟨_,_,rfl,rfl⟩ ?_);(iterate 2 (exact sd));rintro _ _ ⟨rfl,rfl⟩)|((first|refine call0D (BCall.ofP (iOffsetAt_ok _ _ _ _ _ _ _ ?_ ?_ ?_ ?_)) ?_|refine qcall0D (BCall.ofP (iOffsetAt_ok _ _ _ _ _ _ _ ?_ ?_ ?_ ?_)) ⟨_,_,rfl,rfl⟩ ?_);(iterate 4 (exact sd));rintro _ _ ⟨rfl,rfl⟩)|((first|refine call0D (BCall.ofP (equalInts_ok _ _ _ _ ?_ ?_ ?_)) ?_|refine qcall0D (BCall.ofP (equalInts_ok _ _ _ _ ?_ ?_ ?_)) ⟨_,_,rfl,rfl⟩ ?_);(iterate 3 (exact sd));rintro _ _ ⟨rfl,rfl⟩)|((first|refine call0D (BCall.ofP (iCo_ok _ _ _ _ _ _ _ _ _ _ ?_ ?_ ?_ ?_ ?_)) ?_|refine qcall0D (BCall.ofP (iCo_ok _ _ _ _ _ _ _ _ _ _ ?_ ?_ ?_ ?_ ?_)) ⟨_,_,rfl,rfl⟩ ?_);(iterate 5 (exact sd));rintro _ _ ⟨rfl,rfl⟩))<;>(try simp (disch:=omega) only [push_cast,seval]))
 | (refine awp_ret ⟨.inr rfl,_,rfl,?_⟩;(try simp (disch:=omega) only [push_cast,seval]))))

end Go.Proofs.YtejbfjmiidofcaaGreat
